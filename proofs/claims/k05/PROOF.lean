import PyProof.Rows.All
import Wide.All
import OpenK.AllK
import Wide.FinOn
import Lean
import PyProof.EqAt
import PyProof.EqKinds
import PyProof.TupleCall
import PyProof.P3Eq
import PyProof.NeKinds
import KE.KRevIter
import PyProof.EnumMake
import PyProof.EnumFor
import PyProof.Draws
import PyProof.ZipIter
import PyProof.ConsumeWalk
import PyProof.RaisesMany
import PyProof.ExcClass3
import PyProof.ExcBaseAll.ValueError
import PyProof.RulesAs
import PyProof.ExcAttrAll.ValueError
import PyProof.ReprStr
import PyProof.PassesOwn
import PyProof.ToksMono
import PyProof.DictItems
import PyProof.MeetsIn
import PyProof.StrCalls6
import PyProof.StrCalls2
import PyProof.StrBlock2
import PyProof.StrLawsWords
import PyProof.StrLawsTight
import PyProof.StrLawsChain
import PyProof.ListRange
import PyProof.NsDelKeeps
import PyProof.P3In
import PySem.Challenge.RW_evernever_k05_written
set_option Elab.async false
set_option linter.all false
set_option maxRecDepth 100000
set_option maxHeartbeats 4000000
set_option maxRecDepth 100000
namespace L2
open PySem PySem.Spec PyProof.Rows

/-- a key: an int or a str -/
abbrev Key := Sum Int Str
def keyIs : Key → Value → Bool
  | .inl k, v => Value.isInt k v
  | .inr x, v => Value.isStrOf x v
def keyH (w : World) : Key → Int
  | .inl k => hashInt k
  | .inr x => hashStr w x
theorem keyIs_shape : ∀ {k : Key} {v : Value}, keyIs k v = true → (∃ i t, k = Sum.inl i ∧ v = Value.int i t) ∨ (∃ x t, k = Sum.inr x ∧ v = Value.str x t)
  | .inl i, v, h => by
    obtain ⟨t, e⟩ := Value.isInt_shape (k := i) (v := v) h
    exact .inl ⟨i, t, rfl, e⟩
  | .inr x, v, h => by
    obtain ⟨t, e⟩ := Value.isStrOf_shape (x := x) (v := v) h
    exact .inr ⟨x, t, rfl, e⟩
theorem keyIs_int (i : Int) (t : Tok) : keyIs (.inl i) (.int i t) = true := by simp [keyIs, Value.isInt]
theorem keyIs_str (x : Str) (t : Tok) : keyIs (.inr x) (.str x t) = true := by simp [keyIs, Value.isStrOf]
theorem key_ll (a b : Int) : decide ((Sum.inl a : Key) = Sum.inl b) = (a == b) := by
  by_cases e : a = b
  · subst e; simp
  · have h : ¬ (Sum.inl a : Key) = Sum.inl b := fun q => e (Sum.inl.inj q)
    rw [decide_eq_false h]
    exact (beq_eq_false_iff_ne.mpr e).symm
theorem key_rr (a b : Str) : decide ((Sum.inr a : Key) = Sum.inr b) = decide (a = b) := by
  by_cases e : a = b
  · subst e; simp
  · have h : ¬ (Sum.inr a : Key) = Sum.inr b := fun q => e (Sum.inr.inj q)
    rw [decide_eq_false h, decide_eq_false e]
theorem key_lr (a : Int) (b : Str) : decide ((Sum.inl a : Key) = Sum.inr b) = false := decide_eq_false (fun q => nomatch q)
theorem key_rl (a : Str) (b : Int) : decide ((Sum.inr a : Key) = Sum.inl b) = false := decide_eq_false (fun q => nomatch q)

def mixKind (prog : Program) (w : World) : PySem.KeyKind prog w Key where
  is := keyIs
  hash := keyH w
  inj := fun v a b ha hb => by
    rcases keyIs_shape ha with ⟨i, t, rfl, rfl⟩ | ⟨x, t, rfl, rfl⟩
    · rcases keyIs_shape hb with ⟨j, u, rfl, e⟩ | ⟨y, u, rfl, e⟩
      · injection e with e1 _; rw [e1]
      · exact nomatch e
    · rcases keyIs_shape hb with ⟨j, u, rfl, e⟩ | ⟨y, u, rfl, e⟩
      · exact nomatch e
      · injection e with e1 _; rw [e1]
  byValue := fun k v h => by
    rcases keyIs_shape h with ⟨i, t, rfl, rfl⟩ | ⟨x, t, rfl, rfl⟩ <;> rfl
  pyHash := fun hv h => by
    rcases keyIs_shape hv with ⟨i, t, rfl, rfl⟩ | ⟨x, t, rfl, rfl⟩
    · exact wpAny_pyHash_int h
    · exact wpAny_pyHash_str h
  eqBool := fun hu hv h => by
    rcases keyIs_shape hu with ⟨i, t, rfl, rfl⟩ | ⟨x, t, rfl, rfl⟩
    · rcases keyIs_shape hv with ⟨j, u, rfl, rfl⟩ | ⟨y, u, rfl, rfl⟩
      · rw [key_ll] at h; exact wpAny_eqBool_int h
      · rw [key_lr] at h; exact SeqAt.EqAt.int_str i t y u _ _ _ _ h
    · rcases keyIs_shape hv with ⟨j, u, rfl, rfl⟩ | ⟨y, u, rfl, rfl⟩
      · rw [key_rl] at h; exact SeqAt.EqAt.str_int x t j u _ _ _ _ h
      · rw [key_rr] at h; exact wpAny_eqBool_str h
  «strs» := fun k x t v h => by
    rcases keyIs_shape h with ⟨i, u, rfl, e⟩ | ⟨y, u, rfl, e⟩
    · exact nomatch e
    · injection e with e1 _
      subst e1
      cases v <;> rfl

theorem mixKind_int (prog : Program) (w : World) (i : Int) (t : Tok) : (mixKind prog w).is (.inl i) (.int i t) = true := keyIs_int i t
theorem mixKind_str (prog : Program) (w : World) (x : Str) (t : Tok) : (mixKind prog w).is (.inr x) (.str x t) = true := keyIs_str x t
end L2

namespace L2
open PySem PySem.Spec PyProof.Rows

/-- a value, without the heap -/
inductive V where
  | non | bl (b : Bool) | int (i : Int) | str (x : Str) | byt (b : Array UInt8) | flt (b : UInt64) | ref (a : Addr) | ty (n : String)
  deriving DecidableEq

def RelV : V → Value → Prop
  | .non, u => u = Value.none
  | .bl b, u => u = Value.bool b
  | .int i, u => ∃ t, u = Value.int i t
  | .str x, u => ∃ t, u = Value.str x t
  | .byt b, u => ∃ t, u = Value.bytes b t
  | .flt b, u => ∃ t, u = Value.float b t
  | .ref a, u => u = Value.ref a
  | .ty n, u => u = Value.type n

abbrev Vals : List V → List Value → Prop := Paired RelV
theorem Vals.length {xs : List V} {us : List Value} (r : Vals xs us) : xs.length = us.length := Paired.length r
theorem Vals.get : ∀ {xs : List V} {us : List Value} {i : Nat} {x : V}, Vals xs us → xs[i]? = some x → ∃ u, us[i]? = some u ∧ RelV x u
  | _, _, _, _, .nil, e => by simp at e
  | _, _, 0, _, .cons r _, e => by simp at e; subst e; exact ⟨_, rfl, r⟩
  | _, _, i + 1, x, .cons _ t, e => by
    obtain ⟨u, h1, h2⟩ := Vals.get (i := i) (x := x) t (by simpa using e)
    exact ⟨u, by simpa using h1, h2⟩
theorem Vals.append : ∀ {xs ys : List V} {us ws : List Value}, Vals xs us → Vals ys ws → Vals (xs ++ ys) (us ++ ws)
  | _, _, _, _, .nil, s => s
  | _, _, _, _, .cons r t, s => .cons r (Vals.append t s)
theorem Vals.take : ∀ {xs : List V} {us : List Value} (n : Nat), Vals xs us → Vals (xs.take n) (us.take n)
  | _, _, 0, _ => .nil
  | _, _, _ + 1, .nil => .nil
  | _, _, n + 1, .cons r t => .cons r (Vals.take n t)
theorem Vals.drop : ∀ {xs : List V} {us : List Value} (n : Nat), Vals xs us → Vals (xs.drop n) (us.drop n)
  | _, _, 0, r => r
  | _, _, _ + 1, .nil => .nil
  | _, _, n + 1, .cons _ t => Vals.drop n t
def RelO : Option V → Option Value → Prop
  | some v, some u => RelV v u
  | none, none => True
  | _, _ => False
def KV {κ : Type} : List (κ × V) → List (κ × Value) → Prop := Paired fun (p : κ × V) (q : κ × Value) => p.1 = q.1 ∧ RelV p.2 q.2

/-- a key of a dict (00_mix): an int or a text -/
def kV : Key → V
  | .inl i => .int i
  | .inr x => .str x

/-- what stands at a tracked address -/
inductive HO where
  /-- a list -/
  | lst (xs : List V)
  /-- a tuple (never changes) -/
  | tup (xs : List V)
  /-- a dict whose keys are ints and texts; one whose keys are tuples of ints and texts (the empty one is both) -/
  | dK (kvs : List (Key × V)) | dT (kvs : List (List Key × V))
  /-- a set of ints: its members, its size -/
  | set (S : Int → Bool) (n : Nat)
  /-- an instance of the class at C, its dict at dx, its attributes -/
  | ins (C dx : Addr) (fs : List (Str × V))
  /-- the dict of the instance at x -/
  | own (x : Addr)
  /-- the dict of an exception -/
  | xd (fs : List (Str × V))
  /-- a bound method, f of x -/
  | met (f x : Addr)
  /-- a range object lo, lo + 1, .. below hi -/
  | rng (lo hi : Int)
  /-- a thing that is known to the object (the script; a dict while a loop walks it): read, never written while it is so -/
  | frz (o : Obj) (u : HO)
  /-- a code object's table -/
  | tbl (ps : Array Value)
  /-- any other thing, by what is true of its one object (a def of one's own: SetO a S n := HO.ext fun h => ..) -/
  | ext (φ : Heap → Prop)

abbrev Hp := Addr → Option HO
def upd (H : Hp) (a : Addr) (o : HO) : Hp := fun b => if b = a then some o else H b
theorem upd_same {H : Hp} {a : Addr} {o : HO} : upd H a o a = some o := by unfold upd; rw [if_pos rfl]
theorem upd_ne {H : Hp} {a b : Addr} {o : HO} (h : b ≠ a) : upd H a o b = H b := by unfold upd; rw [if_neg h]
theorem upd_upd {H : Hp} {a : Addr} {o u : HO} : upd (upd H a o) a u = upd H a u := by
  funext b; unfold upd; split <;> rfl
/-- two objects of different content stand apart -/
theorem ne_of {H : Hp} {a b : Addr} {o u : HO} (h : H a = some o) (h' : H b = some u) (d : o ≠ u) : a ≠ b := by
  intro e; subst e; rw [h] at h'; exact d (Option.some.inj h')
theorem ne_of_none {H : Hp} {a b : Addr} {o : HO} (h : H a = some o) (h' : H b = none) : a ≠ b := by
  intro e; subst e; rw [h] at h'; cases h'

section
variable (P : Program) (w : World)
def ObjOk (H : Hp) (h : Heap) (a : Addr) : HO → Prop
  | .lst xs => xs.length ≤ sizeLine ∧ ∃ (its : List Value) (n : Nat), Vals xs its ∧ h.get? a = some { cls := .type "list", data := .seq its.toArray n }
  | .tup xs => xs.length ≤ sizeLine ∧ ∃ its : List Value, Vals xs its ∧ IsTup h a its.toArray
  | .dK kvs => kvs.length ≤ sizeLine ∧ (a == sysModules) = false ∧ ∃ vs, KV kvs vs ∧ h.DictOf (mixKind P w) a vs
  | .dT kvs => kvs.length ≤ sizeLine ∧ (a == sysModules) = false ∧ ∃ xs : List (List Key × Addr × Value),
      Paired (fun (p : List Key × V) (q : List Key × Addr × Value) => p.1 = q.1 ∧ H q.2.1 = some (.tup (p.1.map kV)) ∧ RelV p.2 q.2.2) kvs xs ∧
      ∃ o es ep, h.get? a = some o ∧ o.ExactDict ∧ o.data = .dict es ep ∧ es.toList = xs.map (entryOfKey (tupleKind (mixKind P w))) ∧ (xs.map (·.1)).Nodup
  | .set S n => h.SetOf (intKind P w) a S n
  | .ins C dx fs => H dx = some (.own a) ∧ fs.length ≤ 1000 ∧ dx ≠ a ∧ h.get? a = some (PySem.W.instObj C dx) ∧
      ∃ mA, h.Ns1 dx mA ∧ (∀ f, RelO (fs.lookup f) (mA f)) ∧ PySem.Within mA (fs.map (·.1))
  | .own _ => ∃ o, h.get? a = some o
  | .xd fs => ∃ mA, h.Ns1 a mA ∧ ∀ f, RelO (fs.lookup f) (mA f)
  | .rng lo hi => ∃ t u v, h.get? a = some { cls := .type "range", data := .fields #[.int lo t, .int hi u, .int 1 v] }
  | .frz o u => h.get? a = some o ∧ ObjOk H h a u
  | .tbl ps => h.get? a = some { cls := .none, data := .fields ps }
  | .met f x => h.get? a = some (PySem.W.methodObj (.ref f) (.ref x))
  | .ext φ => φ h ∧ (∃ o, h.get? a = some o) ∧ ∀ h1 h2 : Heap, φ h1 → (∀ o, h1.get? a = some o → h2.get? a = some o) → φ h2
/-- the abstract heap is held -/
def HOk (H : Hp) (h : Heap) : Prop := ∀ a o, H a = some o → ObjOk P w H h a o
end

section
variable {P : Program} {w : World} {H H' : Hp} {h h' : Heap} {a : Addr} {o : HO}
theorem ObjOk.lt (x : ObjOk P w H h a o) : a < h.objs.size := by
  cases o with
  | lst xs => obtain ⟨_, _, _, _, e⟩ := x; exact Heap.lt_size e
  | tup xs => obtain ⟨_, _, _, p⟩ := x; exact p.lt
  | dK kvs => obtain ⟨_, _, _, _, o, _, _, e, _⟩ := x; exact Heap.lt_size e
  | dT kvs => obtain ⟨_, _, _, _, o, _, _, e, _⟩ := x; exact Heap.lt_size e
  | set S n => obtain ⟨o, _, _, _, e, _⟩ := x; exact Heap.lt_size e
  | ins C dx fs => obtain ⟨_, _, _, e, _⟩ := x; exact Heap.lt_size e
  | own y => obtain ⟨_, e⟩ := x; exact Heap.lt_size e
  | xd fs => obtain ⟨_, ⟨_, _, _, e, _⟩, _⟩ := x; exact Heap.lt_size e
  | rng lo hi => obtain ⟨_, _, _, e⟩ := x; exact Heap.lt_size e
  | frz ob u => obtain ⟨e, _⟩ := x; exact Heap.lt_size e
  | tbl ps => exact Heap.lt_size (show h.get? a = some _ from x)
  | met f y => exact Heap.lt_size (show h.get? a = some _ from x)
  | ext φ => obtain ⟨_, ⟨_, e⟩, _⟩ := x; exact Heap.lt_size e
theorem Paired.mapP {α β : Type} {F G : α → β → Prop} : ∀ {l₁ : List α} {l₂ : List β}, Paired F l₁ l₂ → (∀ a b, F a b → G a b) → Paired G l₁ l₂
  | _, _, .nil, _ => .nil
  | _, _, .cons r t, f => .cons (f _ _ r) (Paired.mapP t f)
/-- what an object's description leans on: its own object, its own dict, the tuples -/
theorem ObjOk.stay (x : ObjOk P w H h a o) (k : ∀ b u, (b = a ∨ H b = some (.own a)) → h.get? b = some u → h'.get? b = some u)
    (ho : ∀ b, H b = some (.own a) → H' b = some (.own a)) (ht : ∀ b xs, H b = some (.tup xs) → H' b = some (.tup xs)) : ObjOk P w H' h' a o := by
  induction o with
  | lst xs => obtain ⟨z, its, n, r, e⟩ := x; exact ⟨z, its, n, r, k _ _ (.inl rfl) e⟩
  | tup xs => obtain ⟨z, its, r, ob, e, c⟩ := x; exact ⟨z, its, r, ob, k _ _ (.inl rfl) e, c⟩
  | dK kvs => obtain ⟨z, y, vs, r, ob, es, ep, e, c⟩ := x; exact ⟨z, y, vs, r, ob, es, ep, k _ _ (.inl rfl) e, c⟩
  | dT kvs =>
    obtain ⟨z, y, xs, r, ob, es, ep, e, c⟩ := x
    exact ⟨z, y, xs, Paired.mapP r fun p q z => ⟨z.1, ht _ _ z.2.1, z.2.2⟩, ob, es, ep, k _ _ (.inl rfl) e, c⟩
  | set S n => obtain ⟨ob, es, ep, t, e, c⟩ := x; exact ⟨ob, es, ep, t, k _ _ (.inl rfl) e, c⟩
  | ins C dx fs =>
    obtain ⟨d, z, ne, e, mA, ⟨od, es, ep, e2, c⟩, r⟩ := x
    exact ⟨ho _ d, z, ne, k _ _ (.inl rfl) e, mA, ⟨od, es, ep, k _ _ (.inr d) e2, c⟩, r⟩
  | own y => obtain ⟨ob, e⟩ := x; exact ⟨ob, k _ _ (.inl rfl) e⟩
  | xd fs => obtain ⟨mA, ⟨od, es, ep, e, c⟩, r⟩ := x; exact ⟨mA, ⟨od, es, ep, k _ _ (.inl rfl) e, c⟩, r⟩
  | rng lo hi => obtain ⟨t, u, v, e⟩ := x; exact ⟨t, u, v, k _ _ (.inl rfl) e⟩
  | frz ob u ih => obtain ⟨e, q⟩ := x; exact ⟨k _ _ (.inl rfl) e, ih q⟩
  | tbl ps =>
    have e : h.get? a = some { cls := .none, data := .fields ps } := x
    show h'.get? a = some { cls := .none, data := .fields ps }
    exact k a _ (.inl rfl) e
  | met f y =>
    have e : h.get? a = some (PySem.W.methodObj (.ref f) (.ref y)) := x
    show h'.get? a = some (PySem.W.methodObj (.ref f) (.ref y))
    exact k a _ (.inl rfl) e
  | ext φ => obtain ⟨p, ⟨o, e⟩, st⟩ := x; exact ⟨st _ _ p fun o q => k _ _ (.inl rfl) q, ⟨o, k _ _ (.inl rfl) e⟩, st⟩
theorem HOk.lt (x : HOk P w H h) (e : H a = some o) : a < h.objs.size := (x a o e).lt
theorem HOk.fresh (x : HOk P w H h) (e : h.objs.size ≤ a) : H a = none := by
  cases q : H a with
  | none => rfl
  | some u => exact absurd (Nat.lt_of_lt_of_le (x.lt q) e) (Nat.lt_irrefl _)
/-- every object of the heap is kept -/
theorem HOk.kept (x : HOk P w H h) (k : ∀ b u, h.get? b = some u → h'.get? b = some u) : HOk P w H h' := fun a o e =>
  (x a o e).stay (fun b u _ q => k b u q) (fun _ q => q) fun _ _ q => q
/-- a new object is laid and tracked -/
theorem HOk.laid (x : HOk P w H h) (k : ∀ b u, h.get? b = some u → h'.get? b = some u) (hp : h.objs.size ≤ a) (new : ObjOk P w (upd H a o) h' a o) : HOk P w (upd H a o) h' := fun b u e => by
  have hn := x.fresh hp
  by_cases hb : b = a
  · subst hb; rw [upd_same] at e; cases e; exact new
  · rw [upd_ne hb] at e
    exact (x b u e).stay (fun c v _ q => k c v q) (fun c q => by rw [upd_ne (ne_of_none q hn)]; exact q) fun c xs q => by rw [upd_ne (ne_of_none q hn)]; exact q
end

/-- what may be read as u: it is u, or a known u -/
def Rd (H : Hp) (a : Addr) (u : HO) : Prop := H a = some u ∨ ∃ o, H a = some (.frz o u)
theorem Rd.ok {P : Program} {w : World} {H : Hp} {h : Heap} {a : Addr} {u : HO} (r : Rd H a u) (x : HOk P w H h) : ObjOk P w H h a u := by
  rcases r with r | ⟨o, r⟩
  · exact x a u r
  · obtain ⟨_, q⟩ := x a _ r
    exact q
/-- what may be written -/
def Mut : Option HO → Prop
  | some (.lst _) => True
  | some (.dK _) => True
  | some (.dT _) => True
  | some (.set _ _) => True
  | some (.ins _ _ _) => True
  | some (.ext _) => True
  | _ => False
section
variable {P : Program} {w : World} {H : Hp} {h h' : Heap} {x e : Addr} {o' : HO}
/-- the object at e is changed: x itself, or the dict of the instance x -/
theorem HOk.write (ok : HOk P w H h) (mu : Mut (H x)) (he : e = x ∨ H e = some (.own x)) (k : ∀ b u, b ≠ e → h.get? b = some u → h'.get? b = some u) (heo : ∃ u, h'.get? e = some u)
    (new : ObjOk P w (upd H x o') h' x o') : HOk P w (upd H x o') h' := fun b u q => by
  have nown : ∀ c y, H c = some (.own y) → c ≠ x := fun c y r z => by subst z; rw [r] at mu; exact mu
  have ntup : ∀ c xs, H c = some (.tup xs) → c ≠ x := fun c xs r z => by subst z; rw [r] at mu; exact mu
  by_cases hb : b = x
  · subst hb; rw [upd_same] at q; cases q; exact new
  · rw [upd_ne hb] at q
    by_cases hbe : b = e
    · have q' : H b = some (.own x) := by
        rcases he with z | z
        · exact absurd (hbe.trans z) hb
        · rw [hbe]; exact z
      rw [q] at q'; cases q'
      obtain ⟨v, hv⟩ := heo
      exact ⟨v, by rw [hbe]; exact hv⟩
    · refine (ok b u q).stay (fun c v hc r => k c v ?_ r) (fun c r => by rw [upd_ne (nown c b r)]; exact r) fun c xs r => by rw [upd_ne (ntup c xs r)]; exact r
      rcases hc with rfl | hc
      · exact hbe
      · rintro rfl
        rcases he with z | z
        · exact nown c b hc z
        · rw [hc] at z; cases z; exact hb rfl
end

structure Un (fs ex : List Addr) (H H' : Hp) (h h' : Heap) : Prop where
  keep : ∀ b o, h.get? b = some o → H b = none → b ∉ fs → b ∉ ex → h'.get? b = some o
  slot : ∀ b o, h.get? b = some o → H b = none → b ∈ fs → b ∉ ex → ∃ sl, h'.get? b = some { o with slots := sl }
  free : ∀ b o, h.get? b = some o → H b = none → b ∉ ex → H' b = none
  there : ∀ b o, h.get? b = some o → b ∉ ex → ∃ o', h'.get? b = some o'
  tups : ∀ b xs, H b = some (.tup xs) → H' b = some (.tup xs)
  frzs : ∀ b o u, H b = some (.frz o u) → H' b = some (.frz o u)
  tbls : ∀ b ps, H b = some (.tbl ps) → ∃ more, H' b = some (.tbl (ps ++ more))
section
variable {fs fs' ex ex' : List Addr} {H H1 H2 : Hp} {h h1 h2 h' : Heap} {a x e : Addr} {o : HO}
theorem Un.any (u : Un fs ex H H1 h h1) {b : Addr} {ob : Obj} (q : h.get? b = some ob) (n : H b = none) (hx : b ∉ ex) : ∃ sl, h1.get? b = some { ob with slots := sl } := by
  by_cases hb : b ∈ fs
  · exact u.slot b ob q n hb hx
  · exact ⟨ob.slots, u.keep b ob q n hb hx⟩
theorem Un.kept (k : ∀ b u, h.get? b = some u → h'.get? b = some u) : Un fs ex H H h h' :=
  ⟨fun b ob q _ _ _ => k b ob q, fun b ob q _ _ _ => ⟨ob.slots, k b ob q⟩, fun _ _ _ n _ => n, fun b ob q _ => ⟨ob, k b ob q⟩, fun _ _ q => q, fun _ _ _ q => q, fun _ ps q => ⟨#[], by rw [q]; simp⟩⟩
theorem Un.refl : Un fs ex H H h h := Un.kept fun _ _ q => q
theorem Un.laid (k : ∀ b u, h.get? b = some u → h'.get? b = some u) (hp : h.objs.size ≤ a) (hn : H a = none) : Un fs ex H (upd H a o) h h' where
  keep := fun b u q _ _ _ => k b u q
  slot := fun b u q _ _ _ => ⟨u.slots, k b u q⟩
  free := fun b u q n _ => by rw [upd_ne (Nat.ne_of_lt (Nat.lt_of_lt_of_le (Heap.lt_size q) hp))]; exact n
  there := fun b u q _ => ⟨u, k b u q⟩
  tups := fun b xs q => by rw [upd_ne (ne_of_none q hn)]; exact q
  frzs := fun b u xs q => by rw [upd_ne (ne_of_none q hn)]; exact q
  tbls := fun b ps q => ⟨#[], by rw [upd_ne (ne_of_none q hn), q]; simp⟩
theorem Un.write (mu : Mut (H x)) (he : e = x ∨ H e = some (.own x)) (k : ∀ b u, b ≠ e → h.get? b = some u → h'.get? b = some u) (heo : ∃ u, h'.get? e = some u) : Un fs ex H (upd H x o) h h' := by
  have hx : ∀ b, H b = none → b ≠ x := fun b n z => by subst z; rw [n] at mu; exact mu
  have hb : ∀ b, H b = none → b ≠ e := fun b n z => by
    subst z
    rcases he with r | r
    · exact hx b n r
    · rw [n] at r; cases r
  have hm : ∀ b u, H b = some u → ¬ Mut (some u) → b ≠ x := fun b u q nm z => by subst z; rw [q] at mu; exact nm mu
  refine ⟨fun b u q n _ _ => k b u (hb b n) q, fun b u q n _ _ => ⟨u.slots, k b u (hb b n) q⟩, fun b u q n _ => by rw [upd_ne (hx b n)]; exact n, fun b u q _ => ?_,
    fun b xs q => by rw [upd_ne (hm b _ q fun z => z)]; exact q, fun b u xs q => by rw [upd_ne (hm b _ q fun z => z)]; exact q, fun b ps q => ⟨#[], by rw [upd_ne (hm b _ q fun z => z), q]; simp⟩⟩
  by_cases hbe : b = e
  · subst hbe; exact heo
  · exact ⟨u, k b u hbe q⟩
end

def trk (h : Heap) (H : Hp) : List Addr := (List.range h.objs.size).filter fun a => (H a).isSome
def hidT (h : Heap) (H : Hp) : Heap := PySem.W.hideAll h (trk h H)
theorem hidT_size (h : Heap) (H : Hp) : (hidT h H).objs.size = h.objs.size := PySem.W.hideAll_size _ _
theorem hidT_get {h : Heap} {H : Hp} {b : Addr} {o : Obj} (e : h.get? b = some o) (n : H b = none) : (hidT h H).get? b = some o :=
  PySem.W.hideAll_get _ e fun hm => by
    have q : (H b).isSome = true := (List.mem_filter.mp hm).2
    rw [n] at q; simp at q
theorem of_hidT {h : Heap} {H : Hp} {b : Addr} {o : Obj} (e : (hidT h H).get? b = some o) : h.get? b = some o ∧ H b = none := by
  have e' : h.get? b = some o := PySem.W.of_hideAll (trk h H) e
  refine ⟨e', ?_⟩
  cases q : H b with
  | none => rfl
  | some x =>
    have hm : b ∈ trk h H := List.mem_filter.mpr ⟨List.mem_range.mpr (Heap.lt_size e'), by simp [q]⟩
    have z : (hidT h H).get? b = none := PySem.W.hideAll_none (trk h H) hm
    rw [z] at e; cases e

end L2

namespace L2
open PySem PySem.Spec PyProof.Rows

/-- the module's facts, over the base: the heap at the law's entry without what is tracked there -/
structure Mod (K : PySem.W.Frag) (mg : Str → Option Value) (base : Heap) : Prop where
  kin : K.In base
  glob : base.Ns mainGlobals mg
  blt : ∃ mb, base.Ns builtinsNs mb ∧ ∀ x : Str, x ≠ "__name__" → mb x = bootBuiltins x
  nolimit : base.NoLimit

/-- the context: a def's body (or a comprehension's block) running. base: fixed through the whole law; s₀, H₀: the entry; outer: the frames whose slots others may change (a def's callers); stack: all frames that run;
   ex: iterators that were made ahead of the entry and are walked here (a comprehension's); fn: the names whose cells were made at the entry (a def: all; a comprehension's block: its own); calm: not within an except suite; pn: pins that every state bears; xe: what is wanted of an exception that leaves the code -/
structure Cx where
  prog : Program
  w : World
  K : PySem.W.Frag
  mg : Str → Option Value
  base : Heap
  A : Around
  N : List Str
  s₀ : Shared
  H₀ : Hp
  env : Env
  outer : List Env
  stack : List Env
  ex : List Addr
  fn : Str → Bool
  calm : Bool
  pn : List (Addr × Obj)
  xe : Value → Shared → Prop
/-- the callers' frames -/
def frs (l : List Env) : List Addr := l.filterMap (·.frame)
abbrev Cx.fs (X : Cx) : List Addr := frs X.outer

def Vis (sc : Scope) (x : Str) : Prop := sc.names.lookup x = some .local ∨ sc.names.lookup x = some .cell ∨ sc.names.lookup x = some .free
def Loc (sc : Scope) (x : Str) : Prop := sc.names.lookup x = some .local ∨ sc.names.lookup x = some .cell
def Look (env : Env) (h : Heap) (m : Str → Option Value) (x : Str) (u : Value) : Prop :=
  (env.kindOf x = some .local ∧ m x = some u) ∨ ((env.kindOf x = some .cell ∨ env.kindOf x = some .free) ∧ ∃ c, env.cells.lookup x = some c ∧ h.IsCell c (some u))

structure Cx.Ok (X : Cx) : Prop where
  mod : Mod X.K X.mg X.base
  kind : X.env.scope.kind = .function
  glob : X.env.globals = mainGlobals
  blt : X.env.builtins = builtinsNs
  above : X.s₀.heap.objs.size ≤ X.env.locals
  inj : ∀ x y c, X.env.cells.lookup x = some c → X.env.cells.lookup y = some c → x = y
  has : ∀ x, (X.env.kindOf x = some .cell ∨ X.env.kindOf x = some .free) → ∃ c, X.env.cells.lookup x = some c
  cab : ∀ x c, X.fn x = true → X.env.cells.lookup x = some c → X.s₀.heap.objs.size ≤ c
  hd : X.calm = true → X.A.handled = none
  frames : X.A.frames = some X.stack
  stk : X.stack = X.outer ∨ (X.stack = X.env :: X.outer ∧ X.env.frame = some X.env.locals)
  exf : ∀ b ∈ X.ex, b ≠ X.env.locals ∧ ∀ x c, X.env.cells.lookup x = some c → c ≠ b
  bs : ∀ b o, X.base.get? b = some o → X.s₀.heap.get? b = some o ∧ X.H₀ b = none
  bsz : X.base.objs.size ≤ X.s₀.heap.objs.size
  noex : ∀ b o, X.base.get? b = some o → b ∉ X.ex
  exfs : ∀ b ∈ X.ex, b ∉ X.fs
  funs : X.s₀.heap.FunFrames X.base X.outer
  frf : ∀ b ∈ X.fs, X.H₀ b = none

structure Inv (X : Cx) (pins : List (Addr × Obj)) (σ : List (Option V)) (H : Hp) (s : Shared) : Prop where
  ok : X.Ok
  os : s.os = X.s₀.os
  bare : AllBare s.gens
  base : Un X.fs X.ex X.H₀ H X.s₀.heap s.heap
  loc : ∃ m, s.heap.Ns X.env.locals m ∧ ∀ (i : Nat) (x : Str) (v : V), X.N[i]? = some x → σ[i]? = some (some v) → Vis X.env.scope x → ∃ u, RelV v u ∧ Look X.env s.heap m x u
  cell : ∀ x c, X.env.cells.lookup x = some c → ∃ v, s.heap.IsCell c v
  free : H X.env.locals = none
  freeC : ∀ x c, X.env.cells.lookup x = some c → H c = none
  pin : ∀ p ∈ X.pn ++ pins, s.heap.get? p.1 = some p.2 ∧ H p.1 = none ∧ p.1 ≠ X.env.locals ∧ p.1 ∉ X.fs ∧ ∀ v, p.2.data ≠ .cell v
  hok : HOk X.prog X.w H s.heap
  len : σ.length = X.N.length

section
variable {X : Cx} {pins : List (Addr × Obj)} {σ : List (Option V)} {H H' : Hp} {s : Shared} {h' : Heap}

theorem Cx.Ok.nofr (ok : X.Ok) {b : Addr} {o : Obj} (e : X.base.get? b = some o) : b ∉ X.fs := fun hb => by
  have := (ok.funs.mem hb).1
  rw [e] at this; cases this
theorem Inv.bs (I : Inv X pins σ H s) : ∀ b o, X.base.get? b = some o → s.heap.get? b = some o ∧ H b = none := fun b o e =>
  ⟨I.base.keep b o (I.ok.bs b o e).1 (I.ok.bs b o e).2 (I.ok.nofr e) (I.ok.noex b o e), I.base.free b o (I.ok.bs b o e).1 (I.ok.bs b o e).2 (I.ok.noex b o e)⟩
theorem Inv.bk (I : Inv X pins σ H s) : ∀ b o, X.base.get? b = some o → s.heap.get? b = some o := fun b o e => (I.bs b o e).1
theorem Inv.mod (I : Inv X pins σ H s) : Mod X.K X.mg X.base := I.ok.mod
theorem Inv.kIn (I : Inv X pins σ H s) : X.K.In s.heap := I.ok.mod.kin.keeps I.bk
theorem Inv.lt (I : Inv X pins σ H s) : X.env.locals < s.heap.objs.size := let ⟨_, hn, _⟩ := I.loc; hn.lt
theorem Inv.sz (I : Inv X pins σ H s) : X.s₀.heap.objs.size ≤ s.heap.objs.size := Nat.le_trans I.ok.above (Nat.le_of_lt I.lt)
theorem Inv.nofs (I : Inv X pins σ H s) {a : Addr} (h : s.heap.objs.size ≤ a) : a ∉ X.fs := fun hb => by
  obtain ⟨_, o, ho, _⟩ := I.ok.funs.mem hb
  exact absurd (Nat.lt_of_lt_of_le (Heap.lt_size ho) (Nat.le_trans I.sz h)) (Nat.lt_irrefl _)
theorem Inv.cne (I : Inv X pins σ H s) : ∀ x c, X.env.cells.lookup x = some c → c ≠ X.env.locals := fun x c e z => by
  obtain ⟨v, o, ho, hd⟩ := I.cell x c e
  obtain ⟨m, ⟨o', es, ep, ho', hd', _⟩, _⟩ := I.loc
  rw [z, ho'] at ho; cases ho; rw [hd'] at hd; cases hd
theorem Inv.funs (I : Inv X pins σ H s) : s.heap.FunFrames X.base X.outer := by
  have all : ∀ (l : List Env), (∀ b ∈ frs l, b ∈ X.fs) → X.s₀.heap.FunFrames X.base l → s.heap.FunFrames X.base l := by
    intro l
    induction l with
    | nil => intro _ _; trivial
    | cons env r ih =>
      intro hs hl
      obtain ⟨hk, ⟨L, o, hf, hn, ho, hd⟩, hr⟩ := hl
      have hL : L ∈ X.fs := hs L (by unfold frs; rw [List.filterMap_cons, hf]; exact List.mem_cons_self)
      obtain ⟨sl, e⟩ := I.base.slot L o ho (I.ok.frf L hL) hL fun z => I.ok.exfs L z hL
      exact ⟨hk, ⟨L, _, hf, hn, e, hd⟩, ih (fun b hb => hs b (by unfold frs; rw [List.filterMap_cons, hf]; exact List.mem_cons_of_mem _ hb)) hr⟩
  exact all X.outer (fun _ hb => hb) I.ok.funs

/-- the frames that run, for a call -/
theorem Inv.stack (I : Inv X pins σ H s) : s.heap.FunFrames X.base X.stack := by
  rcases I.ok.stk with e | ⟨e, hf⟩
  · rw [e]; exact I.funs
  · rw [e]
    obtain ⟨m, hn, _⟩ := I.loc
    refine .cons (by rw [I.ok.kind]; decide) hf hn ?_ I.funs
    exact Heap.get?_none_of_le (Nat.le_trans I.ok.bsz I.ok.above)
theorem Inv.stkSub (I : Inv X pins σ H s) : ∀ b ∈ frs X.stack, b ∈ X.env.locals :: X.fs := fun b hb => by
  rcases I.ok.stk with e | ⟨e, hf⟩
  · rw [e] at hb; exact List.mem_cons_of_mem _ hb
  · rw [e] at hb
    unfold frs at hb
    rw [List.filterMap_cons, hf] at hb
    exact hb
theorem Inv.stkFree (I : Inv X pins σ H s) : ∀ b ∈ frs X.stack, H b = none := fun b hb => by
  rcases List.mem_cons.mp (I.stkSub b hb) with e | hb
  · rw [e]; exact I.free
  · obtain ⟨_, o, ho, _⟩ := I.ok.funs.mem hb
    exact I.base.free b o ho (I.ok.frf b hb) fun z => I.ok.exfs b z hb

/-- THE STEP: the untracked objects but the frame and the records at ch are kept (the callers' frames up to slots), the frame's map is kept, the new abstract heap is held -/
theorem Inv.step {g' : Array GenState} {t' : Nat} {d' : Drawn} {ch : List Addr} (I : Inv X pins σ H s)
    (hch : ∀ b ∈ ch, (b ∈ X.ex ∨ X.s₀.heap.objs.size ≤ b) ∧ b ≠ X.env.locals ∧ (∀ x c, X.env.cells.lookup x = some c → c ≠ b) ∧ ∀ p ∈ X.pn ++ pins, p.1 ≠ b)
    (keep : ∀ b o, b ≠ X.env.locals → b ∉ X.fs → b ∉ ch → s.heap.get? b = some o → H b = none → h'.get? b = some o)
    (slot : ∀ b o, b ≠ X.env.locals → b ∈ X.fs → b ∉ ch → s.heap.get? b = some o → H b = none → ∃ sl, h'.get? b = some { o with slots := sl }) (free : ∀ b o, b ∉ ch → s.heap.get? b = some o → H b = none → H' b = none)
    (there : ∀ b o, b ∉ ch → s.heap.get? b = some o → ∃ o', h'.get? b = some o')
    (tups : ∀ b xs, H b = some (.tup xs) → H' b = some (.tup xs)) (frzs : ∀ b o u, H b = some (.frz o u) → H' b = some (.frz o u)) (tbls : ∀ b ps, H b = some (.tbl ps) → ∃ more, H' b = some (.tbl (ps ++ more)))
    (ns : ∀ m, s.heap.Ns X.env.locals m → h'.Ns X.env.locals m) (hok : HOk X.prog X.w H' h') (hg : AllBare g') :
    Inv X pins σ H' { s with heap := h', gens := g', drawn := d', toks := t' } := by
  have neL : ∀ b o, X.s₀.heap.get? b = some o → b ≠ X.env.locals := fun b o e => Nat.ne_of_lt (Nat.lt_of_lt_of_le (Heap.lt_size e) I.ok.above)
  have neC : ∀ b o, X.s₀.heap.get? b = some o → b ∉ X.ex → b ∉ ch := fun b o e hx hb => by
    rcases (hch b hb).1 with z | z
    · exact hx z
    · exact absurd (Nat.lt_of_lt_of_le (Heap.lt_size e) z) (Nat.lt_irrefl _)
  have cellK : ∀ x c, X.env.cells.lookup x = some c → ∀ v, s.heap.IsCell c v → h'.IsCell c v := fun x c e v ⟨o, ho, hd⟩ => by
    have nch : c ∉ ch := fun z => (hch c z).2.2.1 x c e rfl
    by_cases hc : c ∈ X.fs
    · obtain ⟨sl, q⟩ := slot c o (I.cne x c e) hc nch ho (I.freeC x c e)
      exact ⟨_, q, hd⟩
    · exact ⟨o, keep c o (I.cne x c e) hc nch ho (I.freeC x c e), hd⟩
  refine ⟨I.ok, I.os, hg, ⟨fun b o e n hb hx => ?_, fun b o e n hb hx => ?_, fun b o e n hx => ?_, fun b o e hx => ?_, fun b xs e => tups b xs (I.base.tups b xs e), fun b o xs e => frzs b o xs (I.base.frzs b o xs e), fun b ps e => ?_⟩, ?_, fun x c e => ?_, ?_, fun x c e => ?_, fun p hp => ?_, hok, I.len⟩
  · exact keep b o (neL b o e) hb (neC b o e hx) (I.base.keep b o e n hb hx) (I.base.free b o e n hx)
  · obtain ⟨sl, e1⟩ := I.base.slot b o e n hb hx
    obtain ⟨sl', e2⟩ := slot b _ (neL b o e) hb (neC b o e hx) e1 (I.base.free b o e n hx)
    exact ⟨sl', e2⟩
  · obtain ⟨o', e1⟩ := I.base.there b o e hx
    exact free b o' (neC b o e hx) e1 (I.base.free b o e n hx)
  · obtain ⟨o', e1⟩ := I.base.there b o e hx
    exact there b o' (neC b o e hx) e1
  · obtain ⟨m1, e1⟩ := I.base.tbls b ps e
    obtain ⟨m2, e2⟩ := tbls b _ e1
    exact ⟨m1 ++ m2, by rw [e2, Array.append_assoc]⟩
  · obtain ⟨m, hn, hl⟩ := I.loc
    refine ⟨m, ns m hn, fun i x v e1 e2 e3 => ?_⟩
    obtain ⟨u, r, l⟩ := hl i x v e1 e2 e3
    refine ⟨u, r, ?_⟩
    rcases l with l | ⟨k, c, e, z⟩
    · exact .inl l
    · exact .inr ⟨k, c, e, cellK x c e _ z⟩
  · obtain ⟨v, z⟩ := I.cell x c e
    exact ⟨v, cellK x c e v z⟩
  · obtain ⟨m, ⟨o, _, _, ho, _⟩, _⟩ := I.loc
    exact free _ o (fun z => (hch _ z).2.1 rfl) ho I.free
  · obtain ⟨v, o, ho, hd⟩ := I.cell x c e
    exact free c o (fun z => (hch c z).2.2.1 x c e rfl) ho (I.freeC x c e)
  · obtain ⟨e, n, ne, nf, d⟩ := I.pin p hp
    have nch : p.1 ∉ ch := fun z => (hch p.1 z).2.2.2 p hp rfl
    exact ⟨keep p.1 p.2 ne nf nch e n, free p.1 p.2 nch e n, ne, nf, d⟩
/-- .. where the frame's own object is kept too -/
theorem Inv.un {t' : Nat} (I : Inv X pins σ H s) (u : Un X.fs [] H H' s.heap h') (hok : HOk X.prog X.w H' h') : Inv X pins σ H' { s with heap := h', toks := t' } := by
  obtain ⟨m, ⟨o, es, ep, ho, r⟩, _⟩ := id I.loc
  obtain ⟨sl, hL⟩ := u.any ho I.free (by simp)
  exact I.step (g' := s.gens) (d' := s.drawn) (ch := []) (fun _ z => nomatch z) (fun b o _ hb _ e n => u.keep b o e n hb (by simp)) (fun b o _ hb _ e n => u.slot b o e n hb (by simp)) (fun b o _ e n => u.free b o e n (by simp)) (fun b o _ e => u.there b o e (by simp)) u.tups u.frzs u.tbls (fun m' hm => by
    obtain ⟨o', es', ep', ho', r'⟩ := hm
    rw [ho] at ho'; cases ho'
    exact ⟨_, es', ep', hL, r'⟩) hok I.bare
/-- behind a call (or a comprehension's block): the slots of this frame may have changed too, the records at ch may have turned -/
theorem Inv.call {g' : Array GenState} {t' : Nat} {d' : Drawn} {ch : List Addr} (I : Inv X pins σ H s) (u : Un (frs X.stack) ch H H' s.heap h') (hok : HOk X.prog X.w H' h') (hg : AllBare g')
    (hch : ∀ b ∈ ch, (b ∈ X.ex ∨ X.s₀.heap.objs.size ≤ b) ∧ b ≠ X.env.locals ∧ (∀ x c, X.env.cells.lookup x = some c → c ≠ b) ∧ ∀ p ∈ X.pn ++ pins, p.1 ≠ b) :
    Inv X pins σ H' { s with heap := h', gens := g', drawn := d', toks := t' } := by
  obtain ⟨m, ⟨o, es, ep, ho, r⟩, _⟩ := id I.loc
  obtain ⟨sl, hL⟩ := u.any ho I.free fun z => (hch _ z).2.1 rfl
  exact I.step (ch := ch) hch (fun b o hL hb hc e n => u.keep b o e n (fun z => (List.mem_cons.mp (I.stkSub b z)).elim hL hb) hc) (fun b o _ _ hc e n => u.any e n hc) (fun b o hc e n => u.free b o e n hc) (fun b o hc e => u.there b o e hc) u.tups u.frzs u.tbls (fun m' hm => by
    obtain ⟨o', es', ep', ho', r'⟩ := hm
    rw [ho] at ho'; cases ho'
    exact ⟨_, es', ep', hL, r'⟩) hok hg
/-- an untracked record of ours (an iterator) has turned -/
theorem Inv.turned {t' : Nat} {it : Addr} (I : Inv X pins σ H s) (k : ∀ b o, b ≠ it → s.heap.get? b = some o → h'.get? b = some o) (hn : H it = none) (hL : it ≠ X.env.locals)
    (h1 : it ∈ X.ex ∨ X.s₀.heap.objs.size ≤ it) (h2 : ∀ x c, X.env.cells.lookup x = some c → c ≠ it) (h3 : ∀ p ∈ X.pn ++ pins, p.1 ≠ it) : Inv X pins σ H { s with heap := h', toks := t' } := by
  have nit : ∀ b u, H b = some u → b ≠ it := fun b u e z => by rw [z, hn] at e; cases e
  refine I.step (g' := s.gens) (d' := s.drawn) (ch := [it]) (fun b hb => ?_) (fun b o _ _ hc e _ => k b o (fun z => hc (by simp [z])) e) (fun b o _ _ hc e _ => ⟨o.slots, k b o (fun z => hc (by simp [z])) e⟩) (fun _ _ _ _ n => n)
    (fun b o hc e => ⟨o, k b o (fun z => hc (by simp [z])) e⟩) (fun _ _ e => e) (fun _ _ _ e => e) (fun b ps e => ⟨#[], by rw [e]; simp⟩) (fun m hm => ?_) (fun b u e => ?_) I.bare
  · have e : b = it := by simpa using hb
    subst e
    exact ⟨h1, hL, h2, h3⟩
  · obtain ⟨o, es, ep, ho, r⟩ := hm
    exact ⟨o, es, ep, k _ o (Ne.symm hL) ho, r⟩
  · refine (I.hok b u e).stay (fun c v hc q => k c v ?_ q) (fun _ q => q) fun _ _ q => q
    rcases hc with z | z
    · rw [z]; exact nit b u e
    · exact nit c _ z
theorem Inv.tok (I : Inv X pins σ H s) (t : Nat) : Inv X pins σ H { s with toks := t } := I.un (h' := s.heap) (t' := t) Un.refl I.hok
/-- all objects kept -/
theorem Inv.kept {t' : Nat} (I : Inv X pins σ H s) (k : ∀ b u, s.heap.get? b = some u → h'.get? b = some u) : Inv X pins σ H { s with heap := h', toks := t' } := I.un (Un.kept k) (I.hok.kept k)
/-- a new object laid and tracked -/
theorem Inv.laid {a : Addr} {o : HO} {t' : Nat} (I : Inv X pins σ H s) (k : ∀ b u, s.heap.get? b = some u → h'.get? b = some u) (hp : s.heap.objs.size ≤ a) (new : ObjOk X.prog X.w (upd H a o) h' a o) :
    Inv X pins σ (upd H a o) { s with heap := h', toks := t' } := I.un (Un.laid k hp (I.hok.fresh hp)) (I.hok.laid k hp new)
/-- an object written -/
theorem Inv.write {x e : Addr} {o : HO} {t' : Nat} (I : Inv X pins σ H s) (mu : Mut (H x)) (he : e = x ∨ H e = some (.own x)) (k : ∀ b u, b ≠ e → s.heap.get? b = some u → h'.get? b = some u) (heo : ∃ u, h'.get? e = some u)
    (new : ObjOk X.prog X.w (upd H x o) h' x o) : Inv X pins σ (upd H x o) { s with heap := h', toks := t' } := I.un (Un.write mu he k heo) (I.hok.write mu he k heo new)
theorem Inv.pins_of {pins' : List (Addr × Obj)} (I : Inv X pins σ H s) (h : ∀ p ∈ pins', s.heap.get? p.1 = some p.2 ∧ H p.1 = none ∧ p.1 ≠ X.env.locals ∧ p.1 ∉ X.fs ∧ ∀ v, p.2.data ≠ .cell v) : Inv X pins' σ H s :=
  ⟨I.ok, I.os, I.bare, I.base, I.loc, I.cell, I.free, I.freeC, fun p hp => (List.mem_append.mp hp).elim (fun z => I.pin p (List.mem_append_left _ z)) (h p), I.hok, I.len⟩

theorem nodup_ix {N : List Str} (hN : N.Nodup) {i j : Nat} {x : Str} (a : N[i]? = some x) (b : N[j]? = some x) : i = j := by
  obtain ⟨h1, e1⟩ := List.getElem?_eq_some_iff.mp a
  obtain ⟨h2, e2⟩ := List.getElem?_eq_some_iff.mp b
  exact (List.getElem_inj hN).mp (e1.trans e2.symm)

/-- a name is stored; what changed -/
theorem store_ok2 {M : Model} {A : Around} {E : Value → Shared → Prop} {i : Nat} {x : Str} {v : V} {u : Value} {Q : Unit → Shared → Prop} (I : Inv X pins σ H s) (hN : X.N.Nodup) (hi : X.N[i]? = some x) (hx : Loc X.env.scope x) (r : RelV v u)
    (h : ∀ s', Inv X pins (σ.set i (some v)) H s' → (∃ a, Heap.SameBut a s.heap s'.heap ∧ (a = X.env.locals ∨ X.env.cells.lookup x = some a)) → Q () s') (hf : X.fn x = true ∨ X.env.scope.names.lookup x = some .local := by first | exact .inl rfl | exact .inr rfl | assumption) : wpAny M A (storeName X.env x u) Q E s := by
  obtain ⟨m, hn, hl⟩ := id I.loc
  have hcls : (X.env.scope.kind == .class || (X.env.scope.kind == .module && X.env.locals != X.env.globals)) = false := by rw [I.ok.kind]; rfl
  have hiσ : i < σ.length := by rw [I.len]; exact (List.getElem?_eq_some_iff.mp hi).1
  have cne := I.cne
  have tracked : ∀ {a : Addr} {h' : Heap}, (∃ o, s.heap.get? a = some o ∧ H a = none) → Heap.SameBut a s.heap h' → HOk X.prog X.w H h' := fun {a h'} ha hs b ob e => by
    obtain ⟨_, _, hfree⟩ := ha
    refine (I.hok b ob e).stay (fun c w' hc q => (hs.2 c ?_).trans q) (fun _ q => q) fun _ _ q => q
    rintro rfl
    rcases hc with rfl | hc
    · rw [hfree] at e; cases e
    · rw [hfree] at hc; cases hc
  rcases hx with hk | hk
  · refine wpAny_storeName_local hk hn (fun h' hn' hs => ?_) hcls
    obtain ⟨oL, _, _, hoL, _⟩ := id hn
    refine h _ ⟨I.ok, I.os, I.bare, ⟨fun b o e n hb hx => ?_, fun b o e n hb hx => ?_, I.base.free, fun b o e hx => ?_, I.base.tups, I.base.frzs, I.base.tbls⟩, ⟨_, hn', fun j y v' e1 e2 e3 => ?_⟩, fun y c e => ?_, I.free, I.freeC, fun p hp => ?_, tracked ⟨oL, hoL, I.free⟩ hs, by simpa using I.len⟩ ⟨_, hs, .inl rfl⟩
    · exact (hs.2 b (Nat.ne_of_lt (Nat.lt_of_lt_of_le (Heap.lt_size e) I.ok.above))).trans (I.base.keep b o e n hb hx)
    · obtain ⟨sl, e1⟩ := I.base.slot b o e n hb hx
      exact ⟨sl, (hs.2 b (Nat.ne_of_lt (Nat.lt_of_lt_of_le (Heap.lt_size e) I.ok.above))).trans e1⟩
    · obtain ⟨o', e1⟩ := I.base.there b o e hx
      exact ⟨o', (hs.2 b (Nat.ne_of_lt (Nat.lt_of_lt_of_le (Heap.lt_size e) I.ok.above))).trans e1⟩
    · by_cases hj : j = i
      · subst hj
        rw [hi] at e1; cases e1
        rw [List.getElem?_set_self hiσ] at e2
        cases e2
        exact ⟨u, r, .inl ⟨hk, by simp⟩⟩
      · rw [List.getElem?_set_ne (Ne.symm hj)] at e2
        obtain ⟨u', r', q⟩ := hl j y v' e1 e2 e3
        refine ⟨u', r', ?_⟩
        rcases q with ⟨k, e⟩ | ⟨k, c, e, z⟩
        · refine .inl ⟨k, ?_⟩
          have : y ≠ x := fun e => hj (nodup_ix hN e1 (e ▸ hi))
          simp [this, e]
        · exact .inr ⟨k, c, e, z.sameBut hs (cne y c e)⟩
    · obtain ⟨w', z⟩ := I.cell y c e
      exact ⟨w', z.sameBut hs (cne y c e)⟩
    · obtain ⟨e, n, ne, nf, d⟩ := I.pin p hp
      exact ⟨(hs.2 p.1 ne).trans e, n, ne, nf, d⟩
  · have hfn : X.fn x = true := by
      rcases hf with z | z
      · exact z
      · rw [z] at hk; cases hk
    obtain ⟨c, hc⟩ := I.ok.has x (.inl hk)
    obtain ⟨w', z⟩ := I.cell x c hc
    refine wpAny_storeName_cell I.ok.kind hk hc z (fun h' hc' hs => ?_)
    obtain ⟨oc, hoc, hocd⟩ := id z
    refine h { s with heap := h' } ⟨I.ok, I.os, I.bare, ⟨fun b o e n hb hx => ?_, fun b o e n hb hx => ?_, I.base.free, fun b o e hx => ?_, I.base.tups, I.base.frzs, I.base.tbls⟩, ⟨m, hn.sameBut hs (Ne.symm (cne x c hc)), fun j y v' e1 e2 e3 => ?_⟩, fun y c' e => ?_, I.free, I.freeC, fun p hp => ?_, tracked ⟨oc, hoc, I.freeC x c hc⟩ hs, by simpa using I.len⟩ ⟨c, hs, .inr hc⟩
    · exact (hs.2 b (Nat.ne_of_lt (Nat.lt_of_lt_of_le (Heap.lt_size e) (I.ok.cab x c hfn hc)))).trans (I.base.keep b o e n hb hx)
    · obtain ⟨sl, e1⟩ := I.base.slot b o e n hb hx
      exact ⟨sl, (hs.2 b (Nat.ne_of_lt (Nat.lt_of_lt_of_le (Heap.lt_size e) (I.ok.cab x c hfn hc)))).trans e1⟩
    · obtain ⟨o', e1⟩ := I.base.there b o e hx
      exact ⟨o', (hs.2 b (Nat.ne_of_lt (Nat.lt_of_lt_of_le (Heap.lt_size e) (I.ok.cab x c hfn hc)))).trans e1⟩
    · by_cases hj : j = i
      · subst hj
        rw [hi] at e1; cases e1
        rw [List.getElem?_set_self hiσ] at e2
        cases e2
        exact ⟨u, r, .inr ⟨.inl hk, c, hc, hc'⟩⟩
      · rw [List.getElem?_set_ne (Ne.symm hj)] at e2
        obtain ⟨u', r', q⟩ := hl j y v' e1 e2 e3
        refine ⟨u', r', ?_⟩
        rcases q with q | ⟨k, c', e, z'⟩
        · exact .inl q
        · refine .inr ⟨k, c', e, z'.sameBut hs ?_⟩
          rintro rfl
          exact hj (nodup_ix hN e1 (I.ok.inj _ _ _ e hc ▸ hi))
    · by_cases hcc : c' = c
      · subst hcc; exact ⟨_, hc'⟩
      · obtain ⟨w2, z2⟩ := I.cell y c' e
        exact ⟨w2, z2.sameBut hs hcc⟩
    · obtain ⟨e, n, ne, nf, d⟩ := I.pin p hp
      refine ⟨(hs.2 p.1 ?_).trans e, n, ne, nf, d⟩
      intro q
      rw [q, hoc] at e
      have q' : oc = p.2 := Option.some.inj e
      exact d w' (by rw [← q']; exact hocd)
theorem store_ok {M : Model} {A : Around} {E : Value → Shared → Prop} {i : Nat} {x : Str} {v : V} {u : Value} {Q : Unit → Shared → Prop} (I : Inv X pins σ H s) (hN : X.N.Nodup) (hi : X.N[i]? = some x) (hx : Loc X.env.scope x) (r : RelV v u)
    (h : ∀ s', Inv X pins (σ.set i (some v)) H s' → Q () s') (hf : X.fn x = true ∨ X.env.scope.names.lookup x = some .local := by first | exact .inl rfl | exact .inr rfl | assumption) : wpAny M A (storeName X.env x u) Q E s :=
  store_ok2 I hN hi hx r (fun s' I' _ => h s' I') hf
end

/-- an exception: its class, its own dict's address (where it has one), the abstract heap behind it -/
abbrev XK := Value → Option Addr → Hp → Prop
abbrev St := List (Option V)
abbrev VK := V → Hp → Prop
/-- an expression's reading; a test's; an argument list's -/
abbrev TE := St → Hp → VK → Prop
abbrev TT := St → Hp → (Bool → Hp → Prop) → Prop
abbrev TA := St → Hp → (List V → Hp → Prop) → Prop
/-- what is wanted behind a statement -/
structure Ends where
  nx : St → Hp → Prop
  rt : VK
  bk : St → Hp → Prop := fun _ _ => False
  ct : St → Hp → Prop := fun _ _ => False
abbrev TS := Ends → St → Hp → Prop

def EP (X : Cx) (pins : List (Addr × Obj)) (σ : St) (Q : VK) (u : Value) (s' : Shared) : Prop := ∃ v H', Inv X pins σ H' s' ∧ RelV v u ∧ Q v H'
def TP (X : Cx) (pins : List (Addr × Obj)) (σ : St) (Q : Bool → Hp → Prop) (b : Bool) (s' : Shared) : Prop := ∃ H', Inv X pins σ H' s' ∧ Q b H'
def AP (X : Cx) (pins : List (Addr × Obj)) (σ : St) (Q : List V → Hp → Prop) (us : List Value) (s' : Shared) : Prop := ∃ vs H', Inv X pins σ H' s' ∧ Vals vs us ∧ Q vs H'
def SP (X : Cx) (pins : List (Addr × Obj)) (D : Ends) (f : Flow) (s' : Shared) : Prop :=
  match f with
  | .next => ∃ σ' H', Inv X pins σ' H' s' ∧ D.nx σ' H'
  | .brk => ∃ σ' H', Inv X pins σ' H' s' ∧ D.bk σ' H'
  | .cont => ∃ σ' H', Inv X pins σ' H' s' ∧ D.ct σ' H'
  | .ret u => ∃ v σ' H', Inv X pins σ' H' s' ∧ RelV v u ∧ D.rt v H'

def PE (X : Cx) (e : Expr) (t : TE) : Prop :=
  ∀ (pins : List (Addr × Obj)) (s : Shared) (σ : St) (H : Hp) (Q : VK), Inv X pins σ H s → t σ H Q → wpAny (model X.prog X.w) X.A (eval e X.env) (EP X pins σ Q) X.xe s
def PT (X : Cx) (e : Expr) (t : TT) : Prop :=
  ∀ (pins : List (Addr × Obj)) (s : Shared) (σ : St) (H : Hp) (Q : Bool → Hp → Prop), Inv X pins σ H s → t σ H Q → wpAny (model X.prog X.w) X.A (isTrue e X.env (eval e X.env)) (TP X pins σ Q) X.xe s
/-- a test whatever its 'whole' is (and, or) -/
def PW (X : Cx) (e : Expr) (t : TT) : Prop :=
  ∀ (whole : Sem Value) (pins : List (Addr × Obj)) (s : Shared) (σ : St) (H : Hp) (Q : Bool → Hp → Prop), Inv X pins σ H s → t σ H Q → wpAny (model X.prog X.w) X.A (isTrue e X.env whole) (TP X pins σ Q) X.xe s
theorem PW.pt {X : Cx} {e : Expr} {t : TT} (h : PW X e t) : PT X e t := h _
/-- an argument list (no star), from the left -/
def PA (X : Cx) (es : List Expr) (t : TA) : Prop :=
  ∀ (pos : Pos) (pins : List (Addr × Obj)) (s : Shared) (σ : St) (H : Hp) (Q : List V → Hp → Prop), Inv X pins σ H s → t σ H Q → wpAny (model X.prog X.w) X.A (spliced (backTo pos (starEach es X.env))) (AP X pins σ Q) X.xe s
def PS (X : Cx) (st : Stmt) (t : TS) : Prop :=
  ∀ (pins : List (Addr × Obj)) (s : Shared) (σ : St) (H : Hp) (D : Ends), Inv X pins σ H s → t D σ H → wpAny (model X.prog X.w) X.A (exec st X.env) (SP X pins D) X.xe s
def PSs (X : Cx) (st : List Stmt) (t : TS) : Prop :=
  ∀ (pins : List (Addr × Obj)) (s : Shared) (σ : St) (H : Hp) (D : Ends), Inv X pins σ H s → t D σ H → wpAny (model X.prog X.w) X.A (execs st X.env) (SP X pins D) X.xe s
/-- weaken the end -/
theorem thn {α : Type} {t : Sem α} {Q Q' : α → Shared → Prop} {M : Model} {A : Around} {E : Value → Shared → Prop} {s : Shared} (h : wpAny M A t Q E s) (hQ : ∀ a s, Q a s → Q' a s) : wpAny M A t Q' E s := wpAny_mono h hQ fun _ _ x => x
end L2

namespace L2
open PySem PySem.Spec PyProof.Rows
section
variable {X : Cx}

def tVar (i : Nat) : TE := fun σ H Q => ∃ v, σ[i]? = some (some v) ∧ Q v H
def tC (v : V) : TE := fun _ H Q => Q v H
theorem pe_var {i : Nat} {x : Str} {pos : Pos} (hN : X.N[i]? = some x) (hv : Vis X.env.scope x) (hd : (x == ("__debug__" : Str)) = false := by decide) (hcd : (x == ("__classdict__" : Str)) = false := by decide) : PE X (.Name x pos) (tVar i) := by
  intro pins s σ H Q I h
  obtain ⟨v, e, h⟩ := h
  obtain ⟨m, hn, hl⟩ := I.loc
  obtain ⟨u, r, l⟩ := hl i x v hN e hv
  have fin : EP X pins σ Q u s := ⟨v, H, I, r, h⟩
  rcases l with ⟨hk, hm⟩ | ⟨hk, c, hc, hcell⟩
  · exact wpAny_Name (wpAny_loadName_local I.ok.kind hk hn hm fin) hd
  · rcases hk with hk | hk
    · exact wpAny_Name (wpAny_loadName_cell I.ok.kind hk hc hcell fin) hd
    · exact wpAny_Name (wpAny_loadName_free I.ok.kind hk hc hcell fin hcd) hd
theorem pe_int {i j pos} : PE X (.Constant (.int i) j pos) (tC (.int i)) := fun _ _ _ H _ I h => wpAny_Constant_int ⟨.int i, H, I.tok _, ⟨_, rfl⟩, h⟩
theorem pe_bl {b j pos} : PE X (.Constant (.bool b) j pos) (tC (.bl b)) := fun _ _ _ H _ I h => Constant_bool ⟨.bl b, H, I, rfl, h⟩
theorem pe_str {x j pos} : PE X (.Constant (.str x) j pos) (tC (.str x)) := fun _ _ _ H _ I h => Calls.Constant_str ⟨.str x, H, I.tok _, ⟨_, rfl⟩, h⟩

/-- a global name of the def -/
def Gl (X : Cx) (x : Str) : Prop := X.env.kindOf x = some .globalImplicit
theorem ld_glob {E : Value → Shared → Prop} {pins : List (Addr × Obj)} {s : Shared} {σ : St} {H : Hp} {x : Str} {u : Value} {pos : Pos} {Q : Value → Shared → Prop} (I : Inv X pins σ H s) (hg : Gl X x) (hm : X.mg x = some u) (h : Q u s)
    (hd : (x == ("__debug__" : Str)) = false := by decide) : wpAny (model X.prog X.w) X.A (eval (.Name x pos) X.env) Q E s :=
  Calls.Name_function_global I.ok.kind hg (Calls.loadGlobal_global (by rw [I.ok.glob]; exact I.mod.glob.keeps I.bk) hm h) hd
theorem ld_blt {E : Value → Shared → Prop} {pins : List (Addr × Obj)} {s : Shared} {σ : St} {H : Hp} {x : Str} {u : Value} {pos : Pos} {Q : Value → Shared → Prop} (I : Inv X pins σ H s) (hg : Gl X x) (hm : X.mg x = none) (hv : bootBuiltins x = some u) (h : Q u s)
    (hn : x ≠ "__name__" := by decide) (hd : (x == ("__debug__" : Str)) = false := by decide) : wpAny (model X.prog X.w) X.A (eval (.Name x pos) X.env) Q E s := by
  obtain ⟨mb, h1, h2⟩ := I.mod.blt
  exact Calls.Name_function_global I.ok.kind hg (Calls.loadGlobal_builtin (by rw [I.ok.glob]; exact I.mod.glob.keeps I.bk) hm (by rw [I.ok.blt]; exact h1.keeps I.bk) ((h2 x hn).trans hv) h) hd
theorem pe_bltn {x : Str} {v : V} {u : Value} {pos : Pos} (hg : Gl X x) (hm : X.mg x = none) (hv : bootBuiltins x = some u) (r : RelV v u) (hn : x ≠ "__name__" := by decide) (hd : (x == ("__debug__" : Str)) = false := by decide) : PE X (.Name x pos) (tC v) :=
  fun _ _ _ H _ I h => ld_blt I hg hm hv ⟨v, H, I, r, h⟩ hn hd

variable {a b : Expr} {ta tb : TE} {pos : Pos}
variable {tA tB' : TT} {rest : List Expr}
def tAnd (t u : TT) : TT := fun σ H Q => t σ H fun c H1 => if c = true then u σ H1 Q else Q false H1
def tOr (t u : TT) : TT := fun σ H Q => t σ H fun c H1 => if c = true then Q true H1 else u σ H1 Q
def tNot (t : TT) : TT := fun σ H Q => t σ H fun c H1 => Q (!c) H1
theorem pw_and1 (ha : PT X a tA) : PW X (.BoolOp .And [a] pos) tA := by
  intro wh pins s σ H Q I h
  refine isTrue_and (thn (ha pins s σ H Q I h) fun c s1 e => ?_)
  cases c with
  | true => exact isTrue_and_nil e
  | false => exact e
theorem pw_or1 (ha : PT X a tA) : PW X (.BoolOp .Or [a] pos) tA := by
  intro wh pins s σ H Q I h
  refine isTrue_or (thn (ha pins s σ H Q I h) fun c s1 e => ?_)
  cases c with
  | false => exact isTrue_or_nil e
  | true => exact e
theorem pw_and (ha : PT X a tA) (hb : PW X (.BoolOp .And (b :: rest) pos) tB') : PW X (.BoolOp .And (a :: b :: rest) pos) (tAnd tA tB') := by
  intro wh pins s σ H Q I h
  refine isTrue_and (thn (ha pins s σ H _ I h) fun c s1 ⟨H1, I1, q1⟩ => ?_)
  cases c with
  | true => exact hb wh pins s1 σ H1 Q I1 q1
  | false => exact ⟨H1, I1, q1⟩
theorem pw_or (ha : PT X a tA) (hb : PW X (.BoolOp .Or (b :: rest) pos) tB') : PW X (.BoolOp .Or (a :: b :: rest) pos) (tOr tA tB') := by
  intro wh pins s σ H Q I h
  refine isTrue_or (thn (ha pins s σ H _ I h) fun c s1 ⟨H1, I1, q1⟩ => ?_)
  cases c with
  | true => exact ⟨H1, I1, q1⟩
  | false => exact hb wh pins s1 σ H1 Q I1 q1
theorem pt_not (ha : PT X a tA) : PT X (.UnaryOp .Not a pos) (tNot tA) := by
  intro pins s σ H Q I h
  exact isTrue_not (ha pins s σ H (fun c H1 => Q (!c) H1) I h)
/-- a if t else b -/
def tIf (t : TT) (ta tb : TE) : TE := fun σ H Q => t σ H fun c H1 => if c = true then ta σ H1 Q else tb σ H1 Q
theorem pe_ifExp {c : Expr} (hc : PT X c tA) (ha : PE X a ta) (hb : PE X b tb) : PE X (.IfExp c a b pos) (tIf tA ta tb) := by
  intro pins s σ H Q I h
  refine wpAny_IfExp (thn (hc pins s σ H _ I h) fun d s1 ⟨H1, I1, q1⟩ => ?_)
  cases d with
  | true => exact ha pins s1 σ H1 Q I1 q1
  | false => exact hb pins s1 σ H1 Q I1 q1
end
end L2

namespace L2
open PySem PySem.Spec PyProof.Rows

def SqL (K : PySem.W.Frag) (H : Hp) (a : Addr) (xs : List V) : Prop :=
  Rd H a (.lst xs) ∨
    ∃ (o : Obj) (its : Array Value) (n : Nat), K.lookup a = some o ∧ o.cls = .type "list" ∧ o.dict = none ∧ o.data = .seq its n ∧ its.size ≤ sizeLine ∧ Vals xs its.toList
def SqT (K : PySem.W.Frag) (H : Hp) (a : Addr) (xs : List V) : Prop :=
  Rd H a (.tup xs) ∨
    ∃ (o : Obj) (its : Array Value) (n : Nat), K.lookup a = some o ∧ o.cls = .type "tuple" ∧ o.data = .seq its n ∧ its.size ≤ sizeLine ∧ Vals xs its.toList
def absV : Value → Option V
  | .none => some .non
  | .bool b => some (.bl b)
  | .int i _ => some (.int i)
  | .str x _ => some (.str x)
  | .bytes b _ => some (.byt b)
  | .float b _ => some (.flt b)
  | .ref a => some (.ref a)
  | .type n => some (.ty n)
  | _ => none
theorem RelV.abs {x : V} {u : Value} (r : RelV x u) : absV u = some x := by
  cases x with
  | non => cases r; rfl
  | bl _ => cases r; rfl
  | int _ => obtain ⟨t, rfl⟩ := r; rfl
  | str _ => obtain ⟨t, rfl⟩ := r; rfl
  | byt _ => obtain ⟨t, rfl⟩ := r; rfl
  | flt _ => obtain ⟨t, rfl⟩ := r; rfl
  | ref _ => cases r; rfl
  | ty _ => cases r; rfl
theorem RelV.inj {x y : V} {u : Value} (r : RelV x u) (q : RelV y u) : x = y := Option.some.inj (r.abs.symm.trans q.abs)
theorem Vals.inj : ∀ {xs ys : List V} {us : List Value}, Vals xs us → Vals ys us → xs = ys
  | _, _, _, .nil, .nil => rfl
  | _, _, _, .cons r t, .cons r' t' => by rw [r.inj r', Vals.inj t t']
section
variable {X : Cx} {pins : List (Addr × Obj)} {σ : St} {H : Hp} {s : Shared} {a : Addr} {xs ys : List V}
theorem SqL.of {K : PySem.W.Frag} (h : H a = some (.lst xs)) : SqL K H a xs := .inl (.inl h)
theorem SqT.of {K : PySem.W.Frag} (h : H a = some (.tup xs)) : SqT K H a xs := .inl (.inl h)
theorem Inv.list (I : Inv X pins σ H s) (h : SqL X.K H a xs) : ∃ its : List Value, Vals xs its ∧ PlainL s.heap a its.toArray ∧ xs.length ≤ sizeLine := by
  rcases h with h | ⟨o, its, n, hk, hc, hd, hs, hz, r⟩
  · obtain ⟨z, its, n, r, e⟩ := h.ok I.hok
    exact ⟨its, r, ⟨_, n, e, rfl, rfl, rfl⟩, z⟩
  · refine ⟨its.toList, r, ⟨o, n, I.kIn a o hk, hc, hd, by simpa using hs⟩, ?_⟩
    have e := r.length
    simp only [Array.length_toList] at e
    omega
theorem Inv.tuple (I : Inv X pins σ H s) (h : SqT X.K H a xs) : ∃ its : List Value, Vals xs its ∧ IsTup s.heap a its.toArray ∧ xs.length ≤ sizeLine := by
  rcases h with h | ⟨o, its, n, hk, hc, hs, hz, r⟩
  · obtain ⟨z, its, r, p⟩ := h.ok I.hok
    exact ⟨its, r, p, z⟩
  · refine ⟨its.toList, r, ⟨o, I.kIn a o hk, hc, n, by simpa using hs⟩, ?_⟩
    have e := r.length
    simp only [Array.length_toList] at e
    omega
theorem Inv.list_inj (I : Inv X pins σ H s) (h : SqL X.K H a xs) (h' : SqL X.K H a ys) : xs = ys := by
  obtain ⟨its, r, ⟨o, n, e, _, _, d⟩, _⟩ := I.list h
  obtain ⟨its', r', ⟨o', n', e', _, _, d'⟩, _⟩ := I.list h'
  rw [e] at e'; cases e'
  rw [d] at d'
  injection d' with d1 _
  have : its = its' := by simpa using congrArg Array.toList d1
  subst this
  exact r.inj r'
theorem Inv.tuple_inj (I : Inv X pins σ H s) (h : SqT X.K H a xs) (h' : SqT X.K H a ys) : xs = ys := by
  obtain ⟨its, r, ⟨o, e, _, n, d⟩, _⟩ := I.tuple h
  obtain ⟨its', r', ⟨o', e', _, n', d'⟩, _⟩ := I.tuple h'
  rw [e] at e'; cases e'
  rw [d] at d'
  injection d' with d1 _
  have : its = its' := by simpa using congrArg Array.toList d1
  subst this
  exact r.inj r'
end

abbrev Cx.wish (X : Cx) (E : Value → Shared → Prop) : Cx := { X with xe := E }
/-- no exception leaves -/
abbrev Cx.nox (X : Cx) : Cx := X.wish fun _ _ => False
theorem Cx.Ok.wish {X : Cx} (ok : X.Ok) (E : Value → Shared → Prop) : (X.wish E).Ok :=
  ⟨ok.mod, ok.kind, ok.glob, ok.blt, ok.above, ok.inj, ok.has, ok.cab, ok.hd, ok.frames, ok.stk, ok.exf, ok.bs, ok.bsz, ok.noex, ok.exfs, ok.funs, ok.frf⟩
theorem Cx.Ok.unwish {X : Cx} {E : Value → Shared → Prop} (ok : (X.wish E).Ok) : X.Ok :=
  ⟨ok.mod, ok.kind, ok.glob, ok.blt, ok.above, ok.inj, ok.has, ok.cab, ok.hd, ok.frames, ok.stk, ok.exf, ok.bs, ok.bsz, ok.noex, ok.exfs, ok.funs, ok.frf⟩
section
variable {X : Cx} {pins : List (Addr × Obj)} {σ : St} {H : Hp} {s : Shared} {E : Value → Shared → Prop}
theorem Inv.wish (I : Inv X pins σ H s) (E : Value → Shared → Prop) : Inv (X.wish E) pins σ H s := ⟨I.ok.wish E, I.os, I.bare, I.base, I.loc, I.cell, I.free, I.freeC, I.pin, I.hok, I.len⟩
theorem Inv.unwish (I : Inv (X.wish E) pins σ H s) : Inv X pins σ H s := ⟨I.ok.unwish, I.os, I.bare, I.base, I.loc, I.cell, I.free, I.freeC, I.pin, I.hok, I.len⟩
theorem SP.unwish {D : Ends} {f : Flow} {s' : Shared} (h : SP (X.wish E) pins D f s') : SP X pins D f s' := by
  cases f with
  | next => obtain ⟨σ', H', I, q⟩ := h; exact ⟨σ', H', I.unwish, q⟩
  | brk => obtain ⟨σ', H', I, q⟩ := h; exact ⟨σ', H', I.unwish, q⟩
  | cont => obtain ⟨σ', H', I, q⟩ := h; exact ⟨σ', H', I.unwish, q⟩
  | ret u => obtain ⟨v, σ', H', I, r, q⟩ := h; exact ⟨v, σ', H', I.unwish, r, q⟩
theorem PSs.nox {st : List Stmt} {t : TS} (h : PSs X.nox st t) : PSs X st t := fun pins s σ H D I hw =>
  wpAny_mono (h pins s σ H D (I.wish _) hw) (fun _ _ q => q.unwish) fun _ _ z => False.elim z
end

section
variable {X : Cx} {st : Stmt} {rest : List Stmt} {t u : TS} {e : Expr} {te : TE} {pos : Pos}
def tNext : TS := fun D σ H => D.nx σ H
def tSeq (t u : TS) : TS := fun D σ H => t { D with nx := u D } σ H
theorem pss_nil : PSs X [] tNext := fun _ _ σ H _ I h => wpAny_execs_nil ⟨σ, H, I, h⟩
theorem pss_cons (h1 : PS X st t) (h2 : PSs X rest u) : PSs X (st :: rest) (tSeq t u) := by
  intro pins s σ H D I h
  refine wpAny_execs_cons (thn (h1 pins s σ H { D with nx := u D } I h) fun f s1 q => ?_)
  cases f with
  | next =>
    obtain ⟨σ', H', I', q⟩ := q
    exact h2 pins s1 σ' H' D I' q
  | ret v => exact q
  | brk => exact q
  | cont => exact q
theorem pss_one (h1 : PS X st t) : PSs X [st] t := by
  intro pins s σ H D I h
  refine wpAny_execs_cons (thn (h1 pins s σ H D I h) fun f s1 q => ?_)
  cases f with
  | next => exact wpAny_execs_nil q
  | ret v => exact q
  | brk => exact q
  | cont => exact q
/-- in a def's body nothing is shown -/
theorem Inv.quiet {pins : List (Addr × Obj)} {σ : St} {H : Hp} {s : Shared} (I : Inv X pins σ H s) : interactive X.env = false := by simp [interactive, I.ok.kind]
/-- an expression whose value is dropped -/
def tDrop (te : TE) : TS := fun D σ H => te σ H fun _ H1 => D.nx σ H1
theorem ps_expr (he : PE X e te) (hs : swapsWith e none pos.line X.env = pure false := by rfl) : PS X (.Expr e pos) (tDrop te) := by
  intro pins s σ H D I h
  exact wpAny_Expr_any (thn (he pins s σ H _ I h) fun v s1 ⟨x, H1, I1, r1, q1⟩ => ⟨σ, H1, I1, q1⟩) I.quiet hs
def tRet (te : TE) : TS := fun D σ H => te σ H D.rt
theorem ps_ret (he : PE X e te) : PS X (.Return (some e) pos) (tRet te) := by
  intro pins s σ H D I h
  exact wpAny_Return_some (thn (he pins s σ H _ I h) fun v s1 ⟨x, H1, I1, r1, q1⟩ => ⟨x, σ, H1, I1, r1, q1⟩)
def tIfS (c : TT) (t u : TS) : TS := fun D σ H => c σ H fun b H1 => if b = true then t D σ H1 else u D σ H1
theorem ps_if {c : Expr} {a b : List Stmt} {tc : TT} (hc : PT X c tc) (ha : PSs X a t) (hb : PSs X b u) : PS X (.If c a b pos) (tIfS tc t u) := by
  intro pins s σ H D I h
  refine wpAny_If (thn (hc pins s σ H _ I h) fun d s1 ⟨H1, I1, q1⟩ => ?_)
  cases d with
  | true => exact ha pins s1 σ H1 D I1 q1
  | false => exact hb pins s1 σ H1 D I1 q1
end

abbrev TG := V → St → Hp → (St → Hp → Prop) → Prop
def PG (X : Cx) (target : Expr) (t : TG) : Prop :=
  ∀ (pins : List (Addr × Obj)) (s : Shared) (σ : St) (H : Hp) (v : V) (u : Value) (Q : St → Hp → Prop), Inv X pins σ H s → RelV v u → t v σ H Q →
    wpAny (model X.prog X.w) X.A (assign target X.env u) (fun _ s' => ∃ σ' H', Inv X pins σ' H' s' ∧ Q σ' H') X.xe s
section
variable {X : Cx} {pos : Pos}
def gName (i : Nat) : TG := fun v σ H Q => Q (σ.set i (some v)) H
theorem pg_name {i : Nat} {x : Str} (hN : X.N.Nodup) (hi : X.N[i]? = some x) (hx : Loc X.env.scope x) (hf : X.fn x = true ∨ X.env.scope.names.lookup x = some .local := by first | exact .inl rfl | exact .inr rfl | assumption) : PG X (.Name x pos) (gName i) := by
  intro pins s σ H v u Q I r h
  exact wpAny_assign_Name (store_ok I hN hi hx r (fun s' I' => ⟨_, H, I', h⟩) hf)
/-- target = value -/
def tAsg (te : TE) (g : TG) : TS := fun D σ H => te σ H fun x H1 => g x σ H1 D.nx
/-- name = value -/
theorem ps_set {i : Nat} {x : Str} {e : Expr} {te : TE} {pos' : Pos} (hN : X.N.Nodup) (hi : X.N[i]? = some x) (hx : Loc X.env.scope x) (he : PE X e te) (hs : swapsWith e (some (.Name x pos')) pos.line X.env = pure false := by rfl) (hf : X.fn x = true ∨ X.env.scope.names.lookup x = some .local := by first | exact .inl rfl | exact .inr rfl | assumption) :
    PS X (.Assign [.Name x pos'] e pos) (tAsg te (gName i)) := by
  intro pins s σ H D I h
  refine wpAny_Assign_Name (thn (he pins s σ H _ I h) fun v s1 ⟨y, H1, I1, r1, q1⟩ => ?_) hs
  exact store_ok I1 hN hi hx r1 (fun s2 I2 => ⟨_, H1, I2, q1⟩) hf
end

section
variable {X : Cx} {pos : Pos}
/-- the invariant W with its measure -/
def tWhile (c : TT) (tb : TS) : TS := fun D σ H => ∃ W : Nat → St → Hp → Prop, (∃ m, W m σ H) ∧ ∀ m σ H, W m σ H →
  c σ H fun b H1 => if b = true then ∃ N : St → Hp → Prop, (∀ σ' H', N σ' H' → ∃ m', m' < m ∧ W m' σ' H') ∧ tb { D with nx := N, ct := N, bk := D.nx } σ H1 else D.nx σ H1
theorem ps_while {c : Expr} {body : List Stmt} {tc : TT} {tb : TS} (hp : PassesOwn (model X.prog X.w) X.A X.env X.xe) (hc : PT X c tc) (hb : PSs X body tb) : PS X (.While c body [] pos) (tWhile tc tb) := by
  intro pins s σ H D I h
  obtain ⟨W, ⟨m0, w0⟩, turn⟩ := h
  refine wpAny_While (codeAny_whileLoop (fun n s' => ∃ σ' H', Inv X pins σ' H' s' ∧ W n σ' H') ?_ m0 ⟨σ, H, I, w0⟩)
  rintro n s1 ⟨σ1, H1, I1, w1⟩
  refine wpAny_passesOwn hp (thn (hc pins s1 σ1 H1 _ I1 (turn n σ1 H1 w1)) fun b s2 ⟨H2, I2, q2⟩ => ?_)
  cases b with
  | true =>
    obtain ⟨N, hN, q2⟩ := q2
    rw [if_pos rfl]
    refine wpAny_passesOwn hp (thn (hb pins s2 σ1 H2 _ I2 q2) fun f s3 q3 => ?_)
    cases f with
    | next =>
      obtain ⟨σ3, H3, I3, n3⟩ := q3
      obtain ⟨m', hm, w3⟩ := hN σ3 H3 n3
      exact ⟨m', hm, σ3, H3, I3, w3⟩
    | cont =>
      obtain ⟨σ3, H3, I3, n3⟩ := q3
      obtain ⟨m', hm, w3⟩ := hN σ3 H3 n3
      exact ⟨m', hm, σ3, H3, I3, w3⟩
    | brk => exact q3
    | ret v => exact q3
  | false =>
    rw [if_neg Bool.false_ne_true]
    exact wpAny_execs_nil ⟨σ1, H2, I2, q2⟩
end

/-- at turn i: it yields x (the heap may grow), or it stops -/
structure It where
  go : Nat → Hp → Prop
  yld : Nat → Hp → V → Hp → Prop
  stop : Nat → Hp → Prop
/-- the iterator's own objects may turn: they are not the frame's, not pinned, younger than the entry (or a comprehension's own) -/
def FpOk (X : Cx) (pins : List (Addr × Obj)) (H : Hp) (b : Addr) : Prop :=
  H b = none ∧ b ≠ X.env.locals ∧ b ∉ X.fs ∧ (b ∈ X.ex ∨ X.s₀.heap.objs.size ≤ b) ∧ (∀ x c, X.env.cells.lookup x = some c → c ≠ b) ∧ ∀ p ∈ X.pn ++ pins, p.1 ≠ b
theorem Inv.fpOk {X : Cx} {pins : List (Addr × Obj)} {σ : St} {H H' : Hp} {s : Shared} {b : Addr} (I : Inv X pins σ H s) (hb : s.heap.objs.size ≤ b) (hn : H' b = none) : FpOk X pins H' b := by
  refine ⟨hn, Nat.ne_of_gt (Nat.lt_of_lt_of_le I.lt hb), I.nofs hb, .inr (Nat.le_trans I.sz hb), fun x c e z => ?_, fun p hp z => ?_⟩
  · obtain ⟨v, q⟩ := I.cell x c e
    exact absurd (Nat.lt_of_lt_of_le q.lt (by rw [z]; exact hb)) (Nat.lt_irrefl _)
  · exact absurd (Nat.lt_of_lt_of_le (Heap.lt_size (I.pin p hp).1) (by rw [z]; exact hb)) (Nat.lt_irrefl _)
structure Turn (P : Program) (w : World) (K : PySem.W.Frag) (tg : Expr) (J : It) (fp : List Addr) (it : Addr) (tn : Nat → Heap → Prop) : Prop where
  mem : it ∈ fp
  obj : ∀ i h, tn i h → ∀ b ∈ fp, ∃ o, h.get? b = some o ∧ ∀ v, o.data ≠ .cell v
  keep : ∀ i h h', tn i h → (∀ b ∈ fp, ∀ o, h.get? b = some o → h'.get? b = some o) → tn i h'
  item : ∀ (X : Cx), X.prog = P → X.w = w → X.K = K → X.calm = true → ∀ (i : Nat) (pins : List (Addr × Obj)) (s : Shared) (σ : St) (H : Hp) (E : Value → Shared → Prop), Inv X pins σ H s → (∀ b ∈ fp, FpOk X pins H b) → tn i s.heap → J.go i H →
    wpAny (model P w) X.A (pyNext (.ref it)) (fun r s1 => ∃ u, r = some u ∧
      wpAny (model P w) X.A (letOwnedTupleGo tg (.ref it) u) (fun _ s2 => ∃ x H', Inv X pins σ H' s2 ∧ RelV x u ∧ J.yld i H x H' ∧ tn (i + 1) s2.heap ∧ ∀ b ∈ fp, H' b = none) E s1) E s
  done : ∀ (X : Cx), X.prog = P → X.w = w → X.K = K → X.calm = true → ∀ (i : Nat) (pins : List (Addr × Obj)) (s : Shared) (σ : St) (H : Hp) (E : Value → Shared → Prop), Inv X pins σ H s → (∀ b ∈ fp, FpOk X pins H b) → tn i s.heap → J.stop i H →
    wpAny (model P w) X.A (pyNext (.ref it)) (fun r s1 => r = none ∧ Inv X pins σ H s1) E s
  self : ∀ (A : Around) (i : Nat) (s : Shared) (Q : Value → Shared → Prop) (E : Value → Shared → Prop), tn i s.heap → Q (.ref it) s → wpAny (model P w) A (pyIter (.ref it)) Q E s
abbrev TI := St → Hp → (It → Hp → Prop) → Prop
/-- an iterator has come -/
def PIE (X : Cx) (pins : List (Addr × Obj)) (σ : St) (tg : Expr) (R : It → Hp → Prop) (itv : Value) (s2 : Shared) : Prop :=
  ∃ (it : Addr) (fp : List Addr) (tn : Nat → Heap → Prop) (J : It) (H' : Hp), itv = .ref it ∧ Inv X pins σ H' s2 ∧ Turn X.prog X.w X.K tg J fp it tn ∧ tn 0 s2.heap ∧ (∀ b ∈ fp, FpOk X pins H' b) ∧ R J H'
def PI (X : Cx) (tg iter : Expr) (wi : TI) : Prop :=
  ∀ (pins : List (Addr × Obj)) (s : Shared) (σ : St) (H : Hp) (R : It → Hp → Prop), Inv X pins σ H s → wi σ H R →
    wpAny (model X.prog X.w) X.A (eval iter X.env) (fun v s1 => wpAny (model X.prog X.w) X.A (pyIter v) (PIE X pins σ tg R) X.xe s1) X.xe s

/-- the step ahead of the store is nothing for an iterator that keeps no tuple -/
theorem go_of {M : Model} {A : Around} {E : Value → Shared → Prop} {s : Shared} {tg : Expr} {it : Addr} {u : Value} {o : Obj} {n : String} {vs : Array Value} {Q : Unit → Shared → Prop} (ho : s.heap.get? it = some o) (hc : o.cls = .type n) (hd : o.data = .fields vs)
    (hn : ["enumerate", "zip", "dict_itemiterator", "dict_reverseitemiterator", "odict_iterator", "itertools.zip_longest", "itertools.pairwise"].contains n = false) (hQ : Q () s) : wpAny M A (letOwnedTupleGo tg (.ref it) u) Q E s := by
  unfold letOwnedTupleGo
  cases tg <;> first
    | exact wpAny_pure hQ
    | (cases u <;> first
        | exact wpAny_pure hQ
        | (refine wpAny_bind (wpAny_load ho ?_)
           rw [hc, hd]
           show wpAny M A (if (["enumerate", "zip", "dict_itemiterator", "dict_reverseitemiterator", "odict_iterator", "itertools.zip_longest", "itertools.pairwise"].contains n && vs[0]? == some (rawInt _)) = true then _ else _) Q E s
           rw [if_neg (by intro h; rw [hn, Bool.false_and] at h; cases h)]
           exact wpAny_pure hQ))

/-- the list at a, as it stands at each turn (a loop may append to it) -/
def Itl (K : PySem.W.Frag) (a : Addr) : It :=
  ⟨fun i H => ∃ xs x, SqL K H a xs ∧ xs[i]? = some x, fun i H x H' => H' = H ∧ ∀ xs, SqL K H a xs → xs[i]? = some x, fun i H => ∃ xs, SqL K H a xs ∧ xs.length ≤ i⟩
def Itt (K : PySem.W.Frag) (a : Addr) : It :=
  ⟨fun i H => ∃ xs x, SqT K H a xs ∧ xs[i]? = some x, fun i H x H' => H' = H ∧ ∀ xs, SqT K H a xs → xs[i]? = some x, fun i H => ∃ xs, SqT K H a xs ∧ xs.length ≤ i⟩
/-- lo, lo + 1, .. (n of them) -/
def Itr (lo : Int) (n : Nat) : It := ⟨fun i _ => i < n, fun i H x H' => H' = H ∧ x = .int (lo + i), fun i _ => n ≤ i⟩
theorem turn_list {P : Program} {w : World} {K : PySem.W.Frag} {tg : Expr} (a it : Addr) : Turn P w K tg (Itl K a) [it] it (fun i h => h.IsListIter it a i) where
  mem := by simp
  obj := fun i h st b hb => by
    have e : b = it := by simpa using hb
    subst e
    obtain ⟨o, e, c, d⟩ := st
    exact ⟨o, e, fun v z => by rw [d] at z; cases z⟩
  keep := fun i h h' st k => st.at fun o e => k it (by simp) o e
  item := by
    intro X hP hw hK hc i pins s σ H E I hf st hg
    subst hP hw hK
    obtain ⟨xs, x, hq, hx⟩ := hg
    obtain ⟨its, rv, p, hz⟩ := I.list hq
    obtain ⟨u, hu, ru⟩ := rv.get hx
    obtain ⟨f0, f1, f2, f3, f4, f5⟩ := hf it (by simp)
    refine wpAny_pyNext_list_item st p.isList (x := u) (by simpa using hu) fun h' st' sb => ?_
    have I1 : Inv X pins σ H { s with heap := h' } := I.turned (t' := s.toks) (fun b o hb e => (sb.2 b hb).trans e) f0 f1 f3 f4 f5
    obtain ⟨o, e, c, d⟩ := id st'
    exact ⟨u, rfl, go_of (s := { s with heap := h' }) e c d (by decide) ⟨x, H, I1, ru, ⟨rfl, fun ys hy => by rw [I.list_inj hy hq]; exact hx⟩, st', fun b hb => (hf b hb).1⟩⟩
  done := by
    intro X hP hw hK hc i pins s σ H E I hf st hg
    subst hP hw hK
    obtain ⟨xs, hq, hx⟩ := hg
    obtain ⟨its, rv, p, hz⟩ := I.list hq
    obtain ⟨f0, f1, f2, f3, f4, f5⟩ := hf it (by simp)
    have hl := rv.length
    exact wpAny_pyNext_list_end (I.ok.hd hc) st p.isList (by simp; omega) fun h' eb => ⟨rfl, I.turned (t' := s.toks) (fun b o hb e => eb b o hb e) f0 f1 f3 f4 f5⟩
  self := fun _ _ _ _ _ st h => wpAny_pyIter_listiter st h
theorem turn_tuple {P : Program} {w : World} {K : PySem.W.Frag} {tg : Expr} (a it : Addr) : Turn P w K tg (Itt K a) [it] it (fun i h => h.IsTupleIter it a i) where
  mem := by simp
  obj := fun i h st b hb => by
    have e : b = it := by simpa using hb
    subst e
    obtain ⟨o, e, c, d⟩ := st
    exact ⟨o, e, fun v z => by rw [d] at z; cases z⟩
  keep := fun i h h' st k => st.at fun o e => k it (by simp) o e
  item := by
    intro X hP hw hK hc i pins s σ H E I hf st hg
    subst hP hw hK
    obtain ⟨xs, x, hq, hx⟩ := hg
    obtain ⟨its, rv, p, hz⟩ := I.tuple hq
    obtain ⟨u, hu, ru⟩ := rv.get hx
    obtain ⟨f0, f1, f2, f3, f4, f5⟩ := hf it (by simp)
    refine wpAny_pyNext_tuple_item st (show s.heap.IsTuple a its.toArray from p) (x := u) (by simpa using hu) fun h' st' sb => ?_
    have I1 : Inv X pins σ H { s with heap := h' } := I.turned (t' := s.toks) (fun b o hb e => (sb.2 b hb).trans e) f0 f1 f3 f4 f5
    obtain ⟨o, e, c, d⟩ := id st'
    exact ⟨u, rfl, go_of (s := { s with heap := h' }) e c d (by decide) ⟨x, H, I1, ru, ⟨rfl, fun ys hy => by rw [I.tuple_inj hy hq]; exact hx⟩, st', fun b hb => (hf b hb).1⟩⟩
  done := by
    intro X hP hw hK hc i pins s σ H E I hf st hg
    subst hP hw hK
    obtain ⟨xs, hq, hx⟩ := hg
    obtain ⟨its, rv, p, hz⟩ := I.tuple hq
    obtain ⟨f0, f1, f2, f3, f4, f5⟩ := hf it (by simp)
    have hl := rv.length
    exact wpAny_pyNext_tuple_end (I.ok.hd hc) st (show s.heap.IsTuple a its.toArray from p) (by simp; omega) fun h' eb => ⟨rfl, I.turned (t' := s.toks) (fun b o hb e => eb b o hb e) f0 f1 f3 f4 f5⟩
  self := fun _ _ _ _ _ st h => wpAny_pyIter_tupleiter st h
theorem turn_range {P : Program} {w : World} {K : PySem.W.Frag} {tg : Expr} (it : Addr) (lo : Int) (n : Nat) : Turn P w K tg (Itr lo n) [it] it (fun i h => IsRangeIter h it (lo + (i : Nat) * 1) ((n : Int) - (i : Nat)) 1) where
  mem := by simp
  obj := fun i h st b hb => by
    have e : b = it := by simpa using hb
    subst e
    exact ⟨_, st, fun v z => by
      have z' : Data.fields _ = Data.cell v := z
      cases z'⟩
  keep := fun i h h' st k => k it (by simp) _ st
  item := by
    intro X hP hw hK hc i pins s σ H E I hf st hg
    subst hP hw hK
    obtain ⟨f0, f1, f2, f3, f4, f5⟩ := hf it (by simp)
    have W := Walks.range (prog := X.prog) (w := X.w) (I.ok.hd hc) it lo 1 n
    refine W.item i s _ _ hg st fun v h' tk hv st' kk => ?_
    obtain ⟨t, rfl⟩ := hv
    have I1 : Inv X pins σ H { s with heap := h', toks := tk } := I.turned (fun b o hb e => kk b o (by simpa using hb) e) f0 f1 f3 f4 f5
    refine ⟨_, rfl, go_of (s := { s with heap := h', toks := tk }) (n := "range_iterator") st' rfl rfl (by decide) ⟨.int (lo + i), H, I1, ⟨t, ?_⟩, ⟨rfl, rfl⟩, st', fun b hb => (hf b hb).1⟩⟩
    rw [Int.mul_one]
  done := by
    intro X hP hw hK hc i pins s σ H E I hf st hg
    subst hP hw hK
    obtain ⟨f0, f1, f2, f3, f4, f5⟩ := hf it (by simp)
    exact wpAny_pyNext_range_end (I.ok.hd hc) st (by have : n ≤ i := hg; omega) fun h' eb => ⟨rfl, I.turned (t' := s.toks) (fun b o hb e => eb b o hb e) f0 f1 f3 f4 f5⟩
  self := fun _ _ _ _ _ st h => wpAny_pyIter_rangeiter st h
end L2

namespace L2
open PySem PySem.Spec PyProof.Rows
section
variable {X : Cx} {tg : Expr}
/-- a range object just made, walked -/
theorem range_it {pins : List (Addr × Obj)} {σ : St} {H : Hp} {s : Shared} {R : It → Hp → Prop} {E : Value → Shared → Prop} {lo hi : Int} {t u v : Tok} {tk : Nat} (I : Inv X pins σ H s) (h1 : -(2 ^ 62) ≤ lo) (h2 : lo < 2 ^ 62) (h3 : -(2 ^ 62) ≤ hi) (h4 : hi < 2 ^ 62)
    (q : R (Itr lo (hi - lo).toNat) H) : wpAny (model X.prog X.w) X.A (pyIter (.ref s.heap.objs.size)) (PIE X pins σ tg R) E { s with heap := s.heap.push { cls := .type "range", data := .fields #[.int lo t, .int hi u, .int 1 v] }, toks := tk } := by
  refine wpAny_pyIter_range (IsRange.new ..) (small_one h1 h2 h3 h4) ?_
  have I1 : Inv X pins σ H { s with heap := s.heap.push { cls := .type "range", data := .fields #[.int lo t, .int hi u, .int 1 v] }, toks := tk } := I.kept fun b o e => Heap.get?_push_of_some _ e
  refine ⟨(s.heap.push { cls := .type "range", data := .fields #[.int lo t, .int hi u, .int 1 v] }).objs.size, [(s.heap.push { cls := .type "range", data := .fields #[.int lo t, .int hi u, .int 1 v] }).objs.size], _, _, H, rfl,
    I1.kept (t' := tk) fun b o e => Heap.get?_push_of_some _ e, turn_range _ lo (hi - lo).toNat, ?_, fun b hb => ?_, q⟩
  · have e1 : lo + ((0 : Nat) : Int) * 1 = lo := by simp
    have e2 : (((hi - lo).toNat : Nat) : Int) - ((0 : Nat) : Int) = Builtin.Range.rangeSize lo hi 1 := by rw [rangeSize_one]; split <;> omega
    show IsRangeIter _ _ (lo + ((0 : Nat) : Int) * 1) ((((hi - lo).toNat : Nat) : Int) - ((0 : Nat) : Int)) 1
    rw [e1, e2]
    exact Heap.get?_push_size _ rfl
  · have e : b = (s.heap.push { cls := .type "range", data := .fields #[.int lo t, .int hi u, .int 1 v] }).objs.size := by simpa using hb
    subst e
    exact I1.fpOk (Nat.le_refl _) (I1.hok.fresh (Nat.le_refl _))
def iRng1 (ta : TA) : TI := fun σ H R => ta σ H fun vs H1 => ∃ j : Int, vs = [.int j] ∧ -(2 ^ 62) ≤ j ∧ j < 2 ^ 62 ∧ R (Itr 0 j.toNat) H1
theorem pi_range1 {a : Expr} {ta : TA} {p pos : Pos} (hg : Gl X "range") (hm : X.mg "range" = none) (ha : PA X [a] ta) (hs : starEach [a] X.env = [(false, eval a X.env)] := by rfl) : PI X tg (.Call (.Name "range" p) [a] [] pos) (iRng1 ta) := by
  intro pins s σ H R I h
  refine Call_ (ld_blt I hg hm boot_range (PyProof.Rows.callWith_type1 (thn (ha pos pins s σ H _ I h) fun us s1 ⟨vs, H1, I1, r1, q1⟩ => ?_) hs rfl))
  obtain ⟨j, e, q1, q2, q⟩ := q1
  subst e
  cases r1 with
  | cons r rr =>
    cases rr
    obtain ⟨t, rfl⟩ := r
    exact call_range_1 (range_it I1 (by omega) (by omega) q1 q2 (by simpa using q))
/-- W: the invariant by the turn and a measure; N: what the body is to reach -/
def tFor (wi : TI) (g : TG) (tb : TS) : TS := fun D σ H => wi σ H fun J H1 => ∃ W : Nat → Nat → St → Hp → Prop, (∃ m, W 0 m σ H1) ∧ ∀ i m σ H, W i m σ H →
  (J.stop i H ∧ D.nx σ H) ∨ (J.go i H ∧ ∃ N : St → Hp → Prop, (∀ σ' H', N σ' H' → ∃ m', m' < m ∧ W (i + 1) m' σ' H') ∧ ∀ x H', J.yld i H x H' → g x σ H' fun σ2 H2 => tb { D with nx := N, ct := N, bk := D.nx } σ2 H2)
/-- the records at fp as they stand -/
def pinsAt (fp : List Addr) (h : Heap) : List (Addr × Obj) := fp.filterMap fun b => (h.get? b).map fun o => (b, o)
theorem mem_pinsAt {fp : List Addr} {h : Heap} {b : Addr} {o : Obj} (hb : b ∈ fp) (e : h.get? b = some o) : (b, o) ∈ pinsAt fp h := List.mem_filterMap.mpr ⟨b, hb, by rw [e]; rfl⟩
theorem of_pinsAt {fp : List Addr} {h : Heap} {p : Addr × Obj} (hp : p ∈ pinsAt fp h) : p.1 ∈ fp ∧ h.get? p.1 = some p.2 := by
  obtain ⟨b, hb, e⟩ := List.mem_filterMap.mp hp
  cases q : h.get? b with
  | none => rw [q] at e; cases e
  | some o =>
    rw [q] at e
    have e' : (b, o) = p := Option.some.inj e
    subst e'
    exact ⟨hb, q⟩
theorem Inv.pinned {pins : List (Addr × Obj)} {σ : St} {H : Hp} {s : Shared} {fp : List Addr} (I : Inv X pins σ H s) (hf : ∀ b ∈ fp, FpOk X pins H b) (ho : ∀ b ∈ fp, ∃ o, s.heap.get? b = some o ∧ ∀ v, o.data ≠ .cell v) : Inv X (pins ++ pinsAt fp s.heap) σ H s :=
  I.pins_of fun p hp => (List.mem_append.mp hp).elim (fun z => I.pin p (List.mem_append_right _ z)) fun z => by
    obtain ⟨hb, e⟩ := of_pinsAt z
    obtain ⟨f0, f1, f2, _⟩ := hf p.1 hb
    obtain ⟨o, e', d⟩ := ho p.1 hb
    rw [e] at e'; cases e'
    exact ⟨e, f0, f1, f2, d⟩
theorem Inv.unpinned {pins pl : List (Addr × Obj)} {σ : St} {H : Hp} {s : Shared} (I : Inv X (pins ++ pl) σ H s) : Inv X pins σ H s := I.pins_of fun p hp => I.pin p (List.mem_append_right _ (List.mem_append_left _ hp))
theorem ps_for {iter : Expr} {body : List Stmt} {wi : TI} {g : TG} {tb : TS} {pos : Pos} (hp : PassesOwn (model X.prog X.w) X.A X.env X.xe) (hc : X.calm = true) (hi : PI X tg iter wi) (hg : PG X tg g) (hb : PSs X body tb)
    (hs : ∀ x, foldedSetIterable iter X.env x = pure x := by intro _; rfl) : PS X (.For tg iter body [] pos) (tFor wi g tb) := by
  intro pins s σ H D I h
  refine wpAny_For (thn (hi pins s σ H _ I h) fun v s1 h1 => thn h1 fun itv s2 h2 => ?_) hs
  obtain ⟨it, fp, tn, J, H2, e, I2, T, st2, f2, W, ⟨m0, w0⟩, turn⟩ := h2
  subst e
  -- what stays true of the iterator's objects through the loop
  have stat : ∀ {H' : Hp}, (∀ b ∈ fp, H' b = none) → ∀ b ∈ fp, FpOk X pins H' b := fun hn b hb => ⟨hn b hb, (f2 b hb).2⟩
  refine codeAny_forLoop_any (fun n s' => ∃ i σ' H', Inv X pins σ' H' s' ∧ tn i s'.heap ∧ (∀ b ∈ fp, H' b = none) ∧ W i n σ' H') ?_ m0 ⟨0, σ, H2, I2, st2, fun b hb => (f2 b hb).1, w0⟩
  rintro n s3 ⟨i, σ3, H3, I3, st3, fr3, w3⟩
  rcases turn i n σ3 H3 w3 with ⟨stop, qn⟩ | ⟨go, N, hN, step⟩
  · refine wpAny_passesOwn hp (thn (T.done X rfl rfl rfl hc i pins s3 σ3 H3 X.xe I3 (stat fr3) st3 stop) fun r s4 ⟨hr, I4⟩ => ?_)
    subst hr
    exact wpAny_execs_nil ⟨σ3, H3, I4, qn⟩
  · refine wpAny_passesOwn hp (thn (T.item X rfl rfl rfl hc i pins s3 σ3 H3 X.xe I3 (stat fr3) st3 go) fun r s4 ⟨u, hr, h4⟩ => ?_)
    subst hr
    refine wpAny_passesOwn hp (thn h4 fun _ s5 ⟨x, H5, I5, r5, y5, st5, fr5⟩ => ?_)
    have I5' := I5.pinned (stat fr5) (T.obj _ _ st5)
    refine wpAny_passesOwn hp (thn (hg _ s5 σ3 H5 x u _ I5' r5 (step x H5 y5)) fun _ s6 ⟨σ6, H6, I6, q6⟩ => ?_)
    refine wpAny_passesOwn hp (thn (hb _ s6 σ6 H6 _ I6 q6) fun f s7 q7 => ?_)
    have again : ∀ {σ7 : St} {H7 : Hp}, Inv X (pins ++ pinsAt fp s5.heap) σ7 H7 s7 → N σ7 H7 → ∃ m, m < n ∧ ∃ i σ' H', Inv X pins σ' H' s7 ∧ tn i s7.heap ∧ (∀ b ∈ fp, H' b = none) ∧ W i m σ' H' := fun {σ7 H7} I7 n7 => by
      obtain ⟨m', hm, w7⟩ := hN σ7 H7 n7
      refine ⟨m', hm, i + 1, σ7, H7, I7.unpinned, T.keep _ _ _ st5 fun b hb o e => (I7.pin (b, o) (List.mem_append_right _ (List.mem_append_right _ (mem_pinsAt hb e)))).1, fun b hb => ?_, w7⟩
      obtain ⟨o, e, d⟩ := T.obj _ _ st5 b hb
      exact (I7.pin (b, o) (List.mem_append_right _ (List.mem_append_right _ (mem_pinsAt hb e)))).2.1
    cases f with
    | next => obtain ⟨σ7, H7, I7, n7⟩ := q7; exact again I7 n7
    | cont => obtain ⟨σ7, H7, I7, n7⟩ := q7; exact again I7 n7
    | brk => obtain ⟨σ7, H7, I7, q7⟩ := q7; exact ⟨σ7, H7, I7.unpinned, q7⟩
    | ret v => obtain ⟨x7, σ7, H7, I7, r7, q7⟩ := q7; exact ⟨x7, σ7, H7, I7.unpinned, r7, q7⟩
end

/-- over a list that the body leaves as it is -/
theorem for_list {K : PySem.W.Frag} {a : Addr} {xs : List V} {g : TG} {tb : TS} {D : Ends} {σ : St} {H : Hp} (Pv : Nat → St → Hp → Prop) (h0 : Pv 0 σ H) (hl : ∀ i σ H, i ≤ xs.length → Pv i σ H → SqL K H a xs)
    (hs : ∀ i x σ H, xs[i]? = some x → Pv i σ H → g x σ H fun σ2 H2 => tb { D with nx := Pv (i + 1), ct := Pv (i + 1), bk := D.nx } σ2 H2) (hd : ∀ σ H, Pv xs.length σ H → D.nx σ H) :
    ∃ W : Nat → Nat → St → Hp → Prop, (∃ m, W 0 m σ H) ∧ ∀ i m σ H, W i m σ H →
      ((Itl K a).stop i H ∧ D.nx σ H) ∨ ((Itl K a).go i H ∧ ∃ N : St → Hp → Prop, (∀ σ' H', N σ' H' → ∃ m', m' < m ∧ W (i + 1) m' σ' H') ∧ ∀ x H', (Itl K a).yld i H x H' → g x σ H' fun σ2 H2 => tb { D with nx := N, ct := N, bk := D.nx } σ2 H2) := by
  refine ⟨fun i m σ H => m = xs.length - i ∧ i ≤ xs.length ∧ Pv i σ H, ⟨xs.length, by simp, Nat.zero_le _, h0⟩, ?_⟩
  rintro i m σ H ⟨rfl, hi, p⟩
  have q := hl i σ H hi p
  by_cases hlt : i < xs.length
  · refine .inr ⟨⟨xs, xs[i], q, by simp [hlt]⟩, Pv (i + 1), fun σ' H' p' => ⟨xs.length - (i + 1), by omega, rfl, hlt, p'⟩, fun x H' y => ?_⟩
    obtain ⟨e, y⟩ := y
    subst e
    exact hs i x σ _ (y xs q) p
  · have e : i = xs.length := by omega
    subst e
    exact .inl ⟨⟨xs, q, Nat.le_refl _⟩, hd σ H p⟩
theorem for_tup {K : PySem.W.Frag} {a : Addr} {xs : List V} {g : TG} {tb : TS} {D : Ends} {σ : St} {H : Hp} (Pv : Nat → St → Hp → Prop) (h0 : Pv 0 σ H) (hl : ∀ i σ H, i ≤ xs.length → Pv i σ H → SqT K H a xs)
    (hs : ∀ i x σ H, xs[i]? = some x → Pv i σ H → g x σ H fun σ2 H2 => tb { D with nx := Pv (i + 1), ct := Pv (i + 1), bk := D.nx } σ2 H2) (hd : ∀ σ H, Pv xs.length σ H → D.nx σ H) :
    ∃ W : Nat → Nat → St → Hp → Prop, (∃ m, W 0 m σ H) ∧ ∀ i m σ H, W i m σ H →
      ((Itt K a).stop i H ∧ D.nx σ H) ∨ ((Itt K a).go i H ∧ ∃ N : St → Hp → Prop, (∀ σ' H', N σ' H' → ∃ m', m' < m ∧ W (i + 1) m' σ' H') ∧ ∀ x H', (Itt K a).yld i H x H' → g x σ H' fun σ2 H2 => tb { D with nx := N, ct := N, bk := D.nx } σ2 H2) := by
  refine ⟨fun i m σ H => m = xs.length - i ∧ i ≤ xs.length ∧ Pv i σ H, ⟨xs.length, by simp, Nat.zero_le _, h0⟩, ?_⟩
  rintro i m σ H ⟨rfl, hi, p⟩
  have q := hl i σ H hi p
  by_cases hlt : i < xs.length
  · refine .inr ⟨⟨xs, xs[i], q, by simp [hlt]⟩, Pv (i + 1), fun σ' H' p' => ⟨xs.length - (i + 1), by omega, rfl, hlt, p'⟩, fun x H' y => ?_⟩
    obtain ⟨e, y⟩ := y
    subst e
    exact hs i x σ _ (y xs q) p
  · have e : i = xs.length := by omega
    subst e
    exact .inl ⟨⟨xs, q, Nat.le_refl _⟩, hd σ H p⟩
theorem for_range {lo : Int} {n : Nat} {g : TG} {tb : TS} {D : Ends} {σ : St} {H : Hp} (Pv : Nat → St → Hp → Prop) (h0 : Pv 0 σ H)
    (hs : ∀ i σ H, i < n → Pv i σ H → g (.int (lo + i)) σ H fun σ2 H2 => tb { D with nx := Pv (i + 1), ct := Pv (i + 1), bk := D.nx } σ2 H2) (hd : ∀ σ H, Pv n σ H → D.nx σ H) :
    ∃ W : Nat → Nat → St → Hp → Prop, (∃ m, W 0 m σ H) ∧ ∀ i m σ H, W i m σ H →
      ((Itr lo n).stop i H ∧ D.nx σ H) ∨ ((Itr lo n).go i H ∧ ∃ N : St → Hp → Prop, (∀ σ' H', N σ' H' → ∃ m', m' < m ∧ W (i + 1) m' σ' H') ∧ ∀ x H', (Itr lo n).yld i H x H' → g x σ H' fun σ2 H2 => tb { D with nx := N, ct := N, bk := D.nx } σ2 H2) := by
  refine ⟨fun i m σ H => m = n - i ∧ i ≤ n ∧ Pv i σ H, ⟨n, by simp, Nat.zero_le _, h0⟩, ?_⟩
  rintro i m σ H ⟨rfl, hi, p⟩
  by_cases hlt : i < n
  · refine .inr ⟨hlt, Pv (i + 1), fun σ' H' p' => ⟨n - (i + 1), by omega, rfl, hlt, p'⟩, fun x H' y => ?_⟩
    obtain ⟨e, y⟩ := y
    subst e y
    exact hs i σ _ hlt p
  · have e : i = n := by omega
    subst e
    exact .inl ⟨Nat.le_refl _, hd σ H p⟩
end L2

namespace L2
open PySem PySem.Spec PyProof.Rows

abbrev R2 := V → V → Hp → VK → Prop
/-- a two-place operation on values: f is binaryOp op, inplaceOp op or compareOp op -/
def OpR (X : Cx) (f : Value → Value → Sem Value) (r : R2) : Prop :=
  ∀ (pins : List (Addr × Obj)) (s : Shared) (σ : St) (H : Hp) (x y : V) (v u : Value) (Q : VK), Inv X pins σ H s → RelV x v → RelV y u → r x y H Q →
    wpAny (model X.prog X.w) X.A (f v u) (EP X pins σ Q) X.xe s
/-- a one-place operation -/
def UnR (X : Cx) (f : Value → Sem Value) (r : V → Hp → VK → Prop) : Prop :=
  ∀ (pins : List (Addr × Obj)) (s : Shared) (σ : St) (H : Hp) (x : V) (v : Value) (Q : VK), Inv X pins σ H s → RelV x v → r x H Q →
    wpAny (model X.prog X.w) X.A (f v) (EP X pins σ Q) X.xe s
/-- a call of a value that is known (a builtin, a type) with values -/
def CallR (X : Cx) (f : Value) (r : List V → Hp → VK → Prop) : Prop :=
  ∀ (pins : List (Addr × Obj)) (s : Shared) (σ : St) (H : Hp) (xs : List V) (us : List Value) (Q : VK), Inv X pins σ H s → Vals xs us → r xs H Q →
    wpAny (model X.prog X.w) X.A (call f us) (EP X pins σ Q) X.xe s
/-- a value's truth -/
def TruR (X : Cx) (r : V → Hp → (Bool → Hp → Prop) → Prop) : Prop :=
  ∀ (pins : List (Addr × Obj)) (s : Shared) (σ : St) (H : Hp) (x : V) (v : Value) (Q : Bool → Hp → Prop), Inv X pins σ H s → RelV x v → r x H Q →
    wpAny (model X.prog X.w) X.A (truthy v) (TP X pins σ Q) X.xe s

def tOp (r : R2) (ta tb : TE) : TE := fun σ H Q => ta σ H fun x H1 => tb σ H1 fun y H2 => r x y H2 Q
def tUn (r : V → Hp → VK → Prop) (ta : TE) : TE := fun σ H Q => ta σ H fun x H1 => r x H1 Q
/-- ints in, under C, and a value out -/
def rI (C : Int → Int → Prop) (g : Int → Int → V) : R2 := fun x y H Q => ∃ i j, x = .int i ∧ y = .int j ∧ C i j ∧ Q (g i j) H
def rI0 (g : Int → Int → V) : R2 := fun x y H Q => ∃ i j, x = .int i ∧ y = .int j ∧ Q (g i j) H
def rU (g : Int → V) : V → Hp → VK → Prop := fun x H Q => ∃ i, x = .int i ∧ Q (g i) H

section
variable {X : Cx} {a b c : Expr} {ta tb tc : TE} {pos : Pos}

theorem binT (ha : PE X a ta) (hb : PE X b tb) {pins : List (Addr × Obj)} {s : Shared} {σ : St} {H : Hp} {R : V → V → Hp → Prop} (I : Inv X pins σ H s)
    (h : ta σ H fun x H1 => tb σ H1 fun y H2 => R x y H2) {Q : Value → Shared → Prop} {f : Value → Value → Sem Value}
    (hf : ∀ v u s2 x y H2, Inv X pins σ H2 s2 → RelV x v → RelV y u → R x y H2 → wpAny (model X.prog X.w) X.A (f v u) Q X.xe s2) :
    wpAny (model X.prog X.w) X.A (eval a X.env) (fun v s₁ => wpAny (model X.prog X.w) X.A (eval b X.env) (fun u s₂ => wpAny (model X.prog X.w) X.A (f v u) Q X.xe s₂) X.xe s₁) X.xe s := by
  refine thn (ha pins s σ H _ I h) fun v s1 ⟨x, H1, I1, r1, q1⟩ => ?_
  refine thn (hb pins s1 σ H1 _ I1 q1) fun u s2 ⟨y, H2, I2, r2, q2⟩ => ?_
  exact hf v u s2 x y H2 I2 r1 r2 q2

theorem pe_op {op : Operator} {r : R2} (ho : OpR X (binaryOp op) r) (ha : PE X a ta) (hb : PE X b tb) : PE X (.BinOp a op b pos) (tOp r ta tb) := by
  intro pins s σ H Q I h
  exact wpAny_BinOp (binT ha hb I h fun v u s2 x y H2 I2 rx ry q => ho pins s2 σ H2 x y v u Q I2 rx ry q)
theorem pe_un {op : UnaryOp} {r : V → Hp → VK → Prop} (ho : UnR X (unaryOp op) r) (ha : PE X a ta) : PE X (.UnaryOp op a pos) (tUn r ta) := by
  intro pins s σ H Q I h
  exact UnaryOp_ (thn (ha pins s σ H _ I h) fun v s1 ⟨x, H1, I1, r1, q1⟩ => ho pins s1 σ H1 x v Q I1 r1 q1)
theorem opI {f : Value → Value → Sem Value} {C : Int → Int → Prop} {g : Int → Int → Int}
    (rule : ∀ (i j : Int) (t u : Tok) (s : Shared) (Q : Value → Shared → Prop) (E : Value → Shared → Prop), C i j → Q (.int (g i j) s.toks) { s with toks := s.toks + 1 } → wpAny (model X.prog X.w) X.A (f (.int i t) (.int j u)) Q E s) :
    OpR X f (rI C fun i j => .int (g i j)) := by
  intro pins s σ H x y v u Q I rx ry h
  obtain ⟨i, j, rfl, rfl, hc, q⟩ := h
  obtain ⟨t, rfl⟩ := rx
  obtain ⟨t', rfl⟩ := ry
  exact rule i j t t' s _ _ hc ⟨.int (g i j), H, I.tok _, ⟨_, rfl⟩, q⟩
theorem opI0 {f : Value → Value → Sem Value} {g : Int → Int → Int}
    (rule : ∀ (i j : Int) (t u : Tok) (s : Shared) (Q : Value → Shared → Prop) (E : Value → Shared → Prop), Q (.int (g i j) s.toks) { s with toks := s.toks + 1 } → wpAny (model X.prog X.w) X.A (f (.int i t) (.int j u)) Q E s) :
    OpR X f (rI0 fun i j => .int (g i j)) := by
  intro pins s σ H x y v u Q I rx ry h
  obtain ⟨i, j, rfl, rfl, q⟩ := h
  obtain ⟨t, rfl⟩ := rx
  obtain ⟨t', rfl⟩ := ry
  exact rule i j t t' s _ _ ⟨.int (g i j), H, I.tok _, ⟨_, rfl⟩, q⟩
theorem opB0 {f : Value → Value → Sem Value} {g : Int → Int → Bool}
    (rule : ∀ (i j : Int) (t u : Tok) (s : Shared) (Q : Value → Shared → Prop) (E : Value → Shared → Prop), Q (.bool (g i j)) s → wpAny (model X.prog X.w) X.A (f (.int i t) (.int j u)) Q E s) :
    OpR X f (rI0 fun i j => .bl (g i j)) := by
  intro pins s σ H x y v u Q I rx ry h
  obtain ⟨i, j, rfl, rfl, q⟩ := h
  obtain ⟨t, rfl⟩ := rx
  obtain ⟨t', rfl⟩ := ry
  exact rule i j t t' s _ _ ⟨.bl (g i j), H, I, rfl, q⟩

def CMul (i j : Int) : Prop := (-(2 ^ 64) < i ∧ i < 2 ^ 64) ∨ (-(2 ^ 64) < j ∧ j < 2 ^ 64)
theorem CMul.ok {i j : Int} (h : CMul i j) : IntMulOk i j := by
  rcases h with ⟨h1, h2⟩ | ⟨h1, h2⟩
  · exact .of_left (intBits_le_64 h1 h2)
  · exact .of_right (intBits_le_64 h1 h2)
theorem op_add : OpR X (binaryOp .Add) (rI0 fun i j => .int (i + j)) := opI0 fun _ _ _ _ _ _ _ q => add_int q
theorem op_sub : OpR X (binaryOp .Sub) (rI0 fun i j => .int (i - j)) := opI0 fun _ _ _ _ _ _ _ q => sub_int q
theorem op_mul : OpR X (binaryOp .Mult) (rI CMul fun i j => .int (i * j)) := opI fun _ _ _ _ _ _ _ hc q => mul_int q hc.ok
/-- % by a positive divisor of any size -/
theorem op_mod : OpR X (binaryOp .Mod) (rI (fun _ j => 0 < j) fun i j => .int (i % j)) := opI fun i j _ _ _ _ _ hc q => by
  have h1 : (0 : Int) < j := hc
  exact mod_int' (by omega) (by rw [Int.fmod_eq_emod_of_nonneg i (by omega)]; exact q)
theorem unI {f : Value → Sem Value} {g : Int → Int}
    (rule : ∀ (i : Int) (t : Tok) (s : Shared) (Q : Value → Shared → Prop) (E : Value → Shared → Prop), Q (.int (g i) s.toks) { s with toks := s.toks + 1 } → wpAny (model X.prog X.w) X.A (f (.int i t)) Q E s) :
    UnR X f (rU fun i => .int (g i)) := by
  intro pins s σ H x v Q I rx h
  obtain ⟨i, rfl, q⟩ := h
  obtain ⟨t, rfl⟩ := rx
  exact rule i t s _ _ ⟨.int (g i), H, I.tok _, ⟨_, rfl⟩, q⟩
theorem un_neg : UnR X (unaryOp .USub) (rU fun i => .int (-i)) := unI fun _ _ _ _ _ q => neg_int q
end

/-- the scalars that == tells apart as data does -/
def scal : V → V → Bool
  | .non, .non => true | .non, .int _ => true | .int _, .non => true | .non, .bl _ => true | .bl _, .non => true | .non, .str _ => true | .str _, .non => true
  | .int _, .int _ => true | .bl _, .bl _ => true | .str _, .str _ => true | .byt _, .byt _ => true
  | .int _, .str _ => true | .str _, .int _ => true | .bl _, .str _ => true | .str _, .bl _ => true
  | _, _ => false
def rEq : R2 := fun x y H Q => scal x y = true ∧ Q (.bl (decide (x = y))) H
def rNe : R2 := fun x y H Q => scal x y = true ∧ Q (.bl (!decide (x = y))) H

theorem dec_int {i j : Int} : decide (V.int i = V.int j) = (i == j) := by
  rw [Bool.eq_iff_iff]
  simp
theorem dec_bl {i j : Bool} : decide (V.bl i = V.bl j) = (i == j) := by
  rw [Bool.eq_iff_iff]
  simp
theorem dec_str {i j : Str} : decide (V.str i = V.str j) = (i == j) := by
  rw [Bool.eq_iff_iff]
  simp
theorem dec_byt {i j : Array UInt8} : decide (V.byt i = V.byt j) = (i.toList == j.toList) := by
  rw [Bool.eq_iff_iff]
  cases i
  cases j
  simp

section
variable {X : Cx} {a b c : Expr} {ta tb tc : TE} {pos : Pos}
theorem fin_bl {pins : List (Addr × Obj)} {σ : St} {H : Hp} {s : Shared} {Q : VK} {k k' : Bool} (I : Inv X pins σ H s) (q : Q (.bl k) H) (e : k = k') : EP X pins σ Q (.bool k') s := by
  subst e
  exact ⟨.bl k, H, I, rfl, q⟩
theorem op_eq : OpR X (compareOp .Eq) rEq := by
  intro pins s σ H x y v u Q I rx ry h
  obtain ⟨hs, q⟩ := h
  cases x with
  | non =>
    cases rx
    cases y with
    | non => cases ry; exact PySem.EqNone.eq_none_none (fin_bl I q (by simp))
    | bl j => cases ry; exact PySem.EqNone.eq_none_bool (fin_bl I q (by simp))
    | int j => obtain ⟨t', rfl⟩ := ry; exact PySem.EqNone.eq_none_int (fin_bl I q (by simp))
    | str j => obtain ⟨t', rfl⟩ := ry; exact PySem.EqNone.eq_none_str (fin_bl I q (by simp))
    | _ => exact absurd (show false = true from hs) Bool.false_ne_true
  | bl i =>
    cases rx
    cases y with
    | non => cases ry; exact PySem.EqNone.eq_bool_none (fin_bl I q (by simp))
    | bl j => cases ry; exact eq_bool (fin_bl I q dec_bl)
    | str j => obtain ⟨t', rfl⟩ := ry; exact PySem.EqMixed.eq_bool_str (fin_bl I q (by simp))
    | _ => exact absurd (show false = true from hs) Bool.false_ne_true
  | int i =>
    obtain ⟨t, rfl⟩ := rx
    cases y with
    | non => cases ry; exact PySem.EqNone.eq_int_none (fin_bl I q (by simp))
    | int j => obtain ⟨t', rfl⟩ := ry; exact eq_int (fin_bl I q dec_int)
    | str j => obtain ⟨t', rfl⟩ := ry; exact PySem.EqMixed.eq_int_str (fin_bl I q (by simp))
    | _ => exact absurd (show false = true from hs) Bool.false_ne_true
  | str i =>
    obtain ⟨t, rfl⟩ := rx
    cases y with
    | non => cases ry; exact PySem.EqNone.eq_str_none (fin_bl I q (by simp))
    | bl j => cases ry; exact PySem.EqMixed.eq_str_bool (fin_bl I q (by simp))
    | int j => obtain ⟨t', rfl⟩ := ry; exact PySem.EqMixed.eq_str_int (fin_bl I q (by simp))
    | str j => obtain ⟨t', rfl⟩ := ry; exact eq_str (fin_bl I q dec_str)
    | _ => exact absurd (show false = true from hs) Bool.false_ne_true
  | byt i =>
    obtain ⟨t, rfl⟩ := rx
    cases y with
    | byt j => obtain ⟨t', rfl⟩ := ry; exact PySem.W.eq_bytes (fin_bl I q dec_byt)
    | _ => exact absurd (show false = true from hs) Bool.false_ne_true
  | _ => cases y <;> exact absurd (show false = true from hs) Bool.false_ne_true
theorem op_ne : OpR X (compareOp .NotEq) rNe := by
  intro pins s σ H x y v u Q I rx ry h
  obtain ⟨hs, q⟩ := h
  cases x with
  | non =>
    cases rx
    cases y with
    | non => cases ry; exact PySem.EqNone.ne_none_none (fin_bl I q (by simp))
    | bl j => cases ry; exact PySem.EqNone.ne_none_bool (fin_bl I q (by simp))
    | int j => obtain ⟨t', rfl⟩ := ry; exact PySem.EqNone.ne_none_int (fin_bl I q (by simp))
    | str j => obtain ⟨t', rfl⟩ := ry; exact PySem.EqNone.ne_none_str (fin_bl I q (by simp))
    | _ => exact absurd (show false = true from hs) Bool.false_ne_true
  | bl i =>
    cases rx
    cases y with
    | non => cases ry; exact PySem.EqNone.ne_bool_none (fin_bl I q (by simp))
    | bl j => cases ry; exact ne_bool (fin_bl I q (congrArg not dec_bl))
    | str j => obtain ⟨t', rfl⟩ := ry; exact PySem.EqMixed.ne_bool_str (fin_bl I q (by simp))
    | _ => exact absurd (show false = true from hs) Bool.false_ne_true
  | int i =>
    obtain ⟨t, rfl⟩ := rx
    cases y with
    | non => cases ry; exact PySem.EqNone.ne_int_none (fin_bl I q (by simp))
    | int j => obtain ⟨t', rfl⟩ := ry; exact ne_int (fin_bl I q (congrArg not dec_int))
    | str j => obtain ⟨t', rfl⟩ := ry; exact PySem.EqMixed.ne_int_str (fin_bl I q (by simp))
    | _ => exact absurd (show false = true from hs) Bool.false_ne_true
  | str i =>
    obtain ⟨t, rfl⟩ := rx
    cases y with
    | non => cases ry; exact PySem.EqNone.ne_str_none (fin_bl I q (by simp))
    | bl j => cases ry; exact PySem.EqMixed.ne_str_bool (fin_bl I q (by simp))
    | int j => obtain ⟨t', rfl⟩ := ry; exact PySem.EqMixed.ne_str_int (fin_bl I q (by simp))
    | str j => obtain ⟨t', rfl⟩ := ry; exact ne_str (fin_bl I q (congrArg not dec_str))
    | _ => exact absurd (show false = true from hs) Bool.false_ne_true
  | byt i =>
    obtain ⟨t, rfl⟩ := rx
    cases y with
    | byt j => obtain ⟨t', rfl⟩ := ry; exact PySem.W.ne_bytes (fin_bl I q (congrArg not dec_byt))
    | _ => exact absurd (show false = true from hs) Bool.false_ne_true
  | _ => cases y <;> exact absurd (show false = true from hs) Bool.false_ne_true

theorem op_lt : OpR X (compareOp .Lt) (rI0 fun i j => .bl (decide (i < j))) := opB0 fun _ _ _ _ _ _ _ q => lt_int q
theorem op_gt : OpR X (compareOp .Gt) (rI0 fun i j => .bl (decide (j < i))) := opB0 fun _ _ _ _ _ _ _ q => gt_int q
theorem op_ge : OpR X (compareOp .GtE) (rI0 fun i j => .bl (decide (j ≤ i))) := opB0 fun _ _ _ _ _ _ _ q => ge_int q
/-- the one string within the other -/
theorem op_in_str : OpR X (compareOp .In) (fun x y H Q => ∃ i j, x = .str i ∧ y = .str j ∧ Q (.bl (!(Builtin.Str.occurrences j i 0 j.length 1).isEmpty)) H) := by
  intro pins s σ H x y v u Q I rx ry h
  obtain ⟨i, j, rfl, rfl, q⟩ := h
  obtain ⟨t, rfl⟩ := rx
  obtain ⟨t', rfl⟩ := ry
  exact in_str (fin_bl I q rfl)

/-- two rules for one operation: by cases -/
theorem OpR.or {f : Value → Value → Sem Value} {r r' : R2} (h : OpR X f r) (h' : OpR X f r') : OpR X f (fun x y H Q => r x y H Q ∨ r' x y H Q) := by
  intro pins s σ H x y v u Q I rx ry q
  rcases q with q | q
  · exact h pins s σ H x y v u Q I rx ry q
  · exact h' pins s σ H x y v u Q I rx ry q

theorem nomark (b : Expr) {op : CmpOp} (h : op ≠ .In := by decide) (h2 : op ≠ .NotIn := by decide) : behindInMarks op b = false := by
  have e1 : (op == CmpOp.In) = false := by cases op <;> first | rfl | exact absurd rfl h
  have e2 : (op == CmpOp.NotIn) = false := by cases op <;> first | rfl | exact absurd rfl h2
  cases b <;> simp [behindInMarks, e1, e2]
/-- a comparison as a value; hm: nomark b, or (for in, not in) by with_unfolding_all rfl -/
theorem pe_cmpR {op : CmpOp} {r : R2} (ho : OpR X (compareOp op) r) (ha : PE X a ta) (hb : PE X b tb) (hm : behindInMarks op b = false) : PE X (.Compare a [op] [b] pos) (tOp r ta tb) := by
  intro pins s σ H Q I h
  exact wpAny_Compare1 (binT ha hb I h fun v u s2 x y H2 I2 rx ry q => ho pins s2 σ H2 x y v u Q I2 rx ry q) hm
/-- a reading of a value as a test -/
def tTest (t : TE) : TT := fun σ H Q => t σ H fun x H' => ∃ k, x = .bl k ∧ Q k H'
theorem pt_cmpR {op : CmpOp} {r : R2} (ho : OpR X (compareOp op) r) (ha : PE X a ta) (hb : PE X b tb) (hm : behindInMarks op b = false) : PT X (.Compare a [op] [b] pos) (tTest (tOp r ta tb)) := by
  intro pins s σ H Q I h
  refine wpAny_isTrue_Compare1 (thn (ha pins s σ H _ I h) fun v s1 ⟨x, H1, I1, r1, q1⟩ => thn (hb pins s1 σ H1 _ I1 q1) fun u s2 ⟨y, H2, I2, r2, q2⟩ =>
    thn (ho pins s2 σ H2 x y v u _ I2 r1 r2 q2) fun c s3 ⟨z, H3, I3, r3, k, e, q3⟩ => ?_) hm
  subst e
  cases r3
  exact wpAny_truthy_bool ⟨H3, I3, q3⟩
/-- a value's truth by the abstract heap -/
def TruV (K : PySem.W.Frag) (x : V) (H : Hp) (k : Bool) : Prop :=
  match x with
  | .non => k = false
  | .bl b => k = b
  | .int i => k = (i != 0)
  | .str y => y.length ≤ sizeLine ∧ k = ((y.length : Int) != 0)
  | .byt y => y.size ≤ sizeLine ∧ k = ((y.size : Int) != 0)
  | .ref p => (∃ xs, SqL K H p xs ∧ k = !xs.isEmpty) ∨ (∃ xs, SqT K H p xs ∧ k = !xs.isEmpty) ∨ ∃ kvs, H p = some (.dK kvs) ∧ k = !kvs.isEmpty
  | _ => False
theorem isEmpty_kv {κ : Type} {kvs : List (κ × V)} {vs : List (κ × Value)} (r : KV kvs vs) : (!vs.isEmpty) = !kvs.isEmpty := by
  cases r <;> rfl
theorem isEmpty_of {xs : List V} {its : List Value} (r : Vals xs its) : (!its.toArray.isEmpty) = !xs.isEmpty := by
  cases r <;> simp
theorem line63 : (sizeLine : Nat) < 2 ^ 63 := by rw [sizeLine_eq]; decide
theorem tru_ok : TruR X (fun x H Q => ∃ k, TruV X.K x H k ∧ Q k H) := by
  intro pins s σ H x v Q I rx h
  obtain ⟨k, e, q⟩ := h
  have hl := line63
  have hs : sizeLine = 16777216 := sizeLine_eq
  cases x with
  | non =>
    cases rx
    have e' : k = false := e
    subst e'
    exact truthy_none ⟨H, I, q⟩
  | bl b =>
    cases rx
    have e' : k = b := e
    subst e'
    exact wpAny_truthy_bool ⟨H, I, q⟩
  | int i =>
    obtain ⟨t, rfl⟩ := rx
    have e' : k = (i != 0) := e
    subst e'
    exact PySem.P.truthy_int ⟨H, I, q⟩
  | str y =>
    obtain ⟨t, rfl⟩ := rx
    obtain ⟨hy, e'⟩ : y.length ≤ sizeLine ∧ k = ((y.length : Int) != 0) := e
    subst e'
    exact PySem.P.truthy_str (by omega) ⟨H, I.tok _, q⟩
  | byt y =>
    obtain ⟨t, rfl⟩ := rx
    obtain ⟨hy, e'⟩ : y.size ≤ sizeLine ∧ k = ((y.size : Int) != 0) := e
    subst e'
    exact PySem.W.truthy_bytes (by omega) ⟨H, I.tok _, q⟩
  | ref p =>
    cases rx
    have e' : (∃ xs, SqL X.K H p xs ∧ k = !xs.isEmpty) ∨ (∃ xs, SqT X.K H p xs ∧ k = !xs.isEmpty) ∨ ∃ kvs, H p = some (.dK kvs) ∧ k = !kvs.isEmpty := e
    rcases e' with ⟨xs, hx, e'⟩ | ⟨xs, hx, e'⟩ | ⟨kvs, hx, e'⟩
    · subst e'
      obtain ⟨its, r, pl, hz⟩ := I.list hx
      have hlen := r.length
      exact wpAny_truthy_list pl.isList (by simp only [List.size_toArray]; omega) ⟨H, I.tok _, by rw [isEmpty_of r]; exact q⟩
    · subst e'
      obtain ⟨its, r, pl, hz⟩ := I.tuple hx
      have hlen := r.length
      exact truthy_tuple pl (by simp only [List.size_toArray]; omega) ⟨H, I.tok _, by rw [isEmpty_of r]; exact q⟩
    · subst e'
      obtain ⟨hz, hS, vs, r, m⟩ : kvs.length ≤ sizeLine ∧ (p == sysModules) = false ∧ ∃ vs, KV kvs vs ∧ s.heap.DictOf (mixKind X.prog X.w) p vs := I.hok p _ hx
      have hlen : kvs.length = vs.length := Paired.length r
      exact wpAny_truthy_dict hS m (by omega) ⟨H, I.tok _, by rw [isEmpty_kv r]; exact q⟩
  | _ => exact (show False from e).elim
/-- any expression whose test is its value's truth (a name, a call, a subscript, a field ..: he by fun _ => rfl) -/
theorem pt_truth (ha : PE X a ta) (he : ∀ whole, isTrue a X.env whole = (do let v ← whole; standAt a.pos; holding [v] (truthy v))) :
    PT X a (fun σ H Q => ta σ H fun x H' => ∃ k, TruV X.K x H' k ∧ Q k H') := by
  intro pins s σ H Q I h
  exact isTrue_plain (thn (ha pins s σ H _ I h) fun v s1 ⟨x, H1, I1, r1, q1⟩ => tru_ok pins s1 σ H1 x v Q I1 r1 q1) (he _)

theorem op_add_str : OpR X (binaryOp .Add) (fun x y H Q => ∃ i j, x = .str i ∧ y = .str j ∧ i.length + j.length ≤ sizeLine ∧ Q (.str (i ++ j)) H) := by
  intro pins s σ H x y v u Q I rx ry h
  obtain ⟨i, j, rfl, rfl, hz, q⟩ := h
  obtain ⟨t, rfl⟩ := rx
  obtain ⟨t', rfl⟩ := ry
  exact add_str (fun t' tk => ⟨.str (i ++ j), H, I.tok _, ⟨_, rfl⟩, q⟩) hz
theorem vals1 {x : V} {us : List Value} (r : Vals [x] us) : ∃ u, us = [u] ∧ RelV x u := by
  cases r with
  | cons r1 r2 => cases r2; exact ⟨_, rfl, r1⟩
theorem vals2 {x y : V} {us : List Value} (r : Vals [x, y] us) : ∃ u w', us = [u, w'] ∧ RelV x u ∧ RelV y w' := by
  cases r with
  | cons r1 r2 =>
    cases r2 with
    | cons r3 r4 => cases r4; exact ⟨_, _, rfl, r1, r3⟩
theorem call_max2 (hc : X.calm = true) : CallR X (.builtin "max") (fun xs H Q => ∃ i j, xs = [.int i, .int j] ∧ Q (.int (if j > i then j else i)) H) := by
  intro pins s σ H xs us Q I r h
  obtain ⟨i, j, rfl, q⟩ := h
  obtain ⟨u, w', rfl, ⟨t, rfl⟩, ⟨t', rfl⟩⟩ := vals2 r
  refine max_two_ints (I.ok.hd hc) fun h' tk k => ⟨_, H, I.kept k, ?_, q⟩
  by_cases hj : j > i
  · rw [if_pos hj, if_pos hj]; exact ⟨_, rfl⟩
  · rw [if_neg hj, if_neg hj]; exact ⟨_, rfl⟩
theorem call_min2 (hc : X.calm = true) : CallR X (.builtin "min") (fun xs H Q => ∃ i j, xs = [.int i, .int j] ∧ Q (.int (if j < i then j else i)) H) := by
  intro pins s σ H xs us Q I r h
  obtain ⟨i, j, rfl, q⟩ := h
  obtain ⟨u, w', rfl, ⟨t, rfl⟩, ⟨t', rfl⟩⟩ := vals2 r
  refine min_two_ints (I.ok.hd hc) fun h' tk k => ⟨_, H, I.kept k, ?_, q⟩
  by_cases hj : j < i
  · rw [if_pos hj, if_pos hj]; exact ⟨_, rfl⟩
  · rw [if_neg hj, if_neg hj]; exact ⟨_, rfl⟩
theorem call_int1 : CallR X (.type "int") (fun xs H Q => (∃ i, xs = [.int i] ∧ Q (.int i) H) ∨ ∃ k, xs = [.bl k] ∧ Q (.int (if k then 1 else 0)) H) := by
  intro pins s σ H xs us Q I r h
  rcases h with ⟨i, rfl, q⟩ | ⟨k, rfl, q⟩
  · obtain ⟨u, rfl, t, rfl⟩ := vals1 r
    exact call_int_int ⟨.int i, H, I, ⟨_, rfl⟩, q⟩
  · obtain ⟨u, rfl, r1⟩ := vals1 r
    cases r1
    exact call_int_bool ⟨.int (if k then 1 else 0), H, I.tok _, ⟨_, rfl⟩, q⟩
/-- len of a str, a bytes, a list, a tuple -/
def LenV (K : PySem.W.Frag) (x : V) (H : Hp) (n : Nat) : Prop :=
  match x with
  | .str y => y.length ≤ sizeLine ∧ n = y.length
  | .byt y => y.size ≤ sizeLine ∧ n = y.size
  | .ref p => (∃ xs, SqL K H p xs ∧ n = xs.length) ∨ ∃ xs, SqT K H p xs ∧ n = xs.length
  | _ => False
theorem call_len : CallR X (.builtin "len") (fun xs H Q => ∃ x n, xs = [x] ∧ LenV X.K x H n ∧ Q (.int n) H) := by
  intro pins s σ H xs us Q I r h
  obtain ⟨x, n, rfl, e, q⟩ := h
  obtain ⟨u, rfl, rx⟩ := vals1 r
  have hl := line63
  have hs : sizeLine = 16777216 := sizeLine_eq
  cases x with
  | str y =>
    obtain ⟨t, rfl⟩ := rx
    obtain ⟨hy, e'⟩ : y.length ≤ sizeLine ∧ n = y.length := e
    subst e'
    exact len_str (by omega) ⟨.int _, H, I.tok _, ⟨_, rfl⟩, q⟩
  | byt y =>
    obtain ⟨t, rfl⟩ := rx
    obtain ⟨hy, e'⟩ : y.size ≤ sizeLine ∧ n = y.size := e
    subst e'
    exact PySem.W.len_bytes (by omega) ⟨.int _, H, I.tok _, ⟨_, rfl⟩, q⟩
  | ref p =>
    cases rx
    have e' : (∃ xs, SqL X.K H p xs ∧ n = xs.length) ∨ ∃ xs, SqT X.K H p xs ∧ n = xs.length := e
    rcases e' with ⟨xs, hx, e'⟩ | ⟨xs, hx, e'⟩
    · subst e'
      obtain ⟨its, r', pl, hz⟩ := I.list hx
      have hlen := r'.length
      exact Calls.call_len_list pl.isList (by simp only [List.size_toArray]; omega) ⟨.int xs.length, H, I.tok _, ⟨_, by simp only [List.size_toArray]; rw [hlen]⟩, q⟩
    · subst e'
      obtain ⟨its, r', pl, hz⟩ := I.tuple hx
      have hlen := r'.length
      exact len_tuple pl (by simp only [List.size_toArray]; omega) ⟨.int xs.length, H, I.tok _, ⟨_, by simp only [List.size_toArray]; rw [hlen]⟩, q⟩
  | _ => exact (show False from e).elim
end
end L2

namespace L2
open PySem PySem.Spec PyProof.Rows

structure ObjM (h : Heap) (x dx C : Addr) (mA : Str → Option Value) : Prop where
  obj : h.get? x = some (PySem.W.instObj C dx)
  ns : h.Ns1 dx mA
  ne : dx ≠ x

theorem lookIn_ns {h : Heap} {dx : Addr} {mA : Str → Option Value} (n : h.Ns1 dx mA) : ∃ od, h.get? dx = some od ∧ ∀ name, PySem.W.lookIn name od = some (mA name) := by
  obtain ⟨o, es, ep, ho, hd, hk, _, hm⟩ := n
  refine ⟨o, ho, fun name => ?_⟩
  have e := hm name
  unfold nsFind findBy at e
  rw [← Array.find?_toList] at e
  unfold PySem.W.lookIn
  rw [hd]
  dsimp only
  split
  · rename_i y q
    rw [q] at e
    exact congrArg some e
  · rename_i q
    rw [q] at e
    have a : es.toList.any (·.refKey) = false := by
      rw [List.any_eq_false]
      intro y hy
      obtain ⟨z, t, hkey⟩ := hk y (Array.mem_toList_iff.mp hy)
      simp [DictEntry.refKey, hkey]
    have a' : ¬ es.toList.any (·.refKey) = true := by rw [a]; exact Bool.false_ne_true
    rw [if_neg a']
    exact congrArg some e

theorem ObjM.look {h : Heap} {x dx C : Addr} {mA : Str → Option Value} (I : ObjM h x dx C mA) : ∃ od, PySem.W.InstAt h x (PySem.W.instObj C dx) C (some od) ∧ ∀ name, PySem.W.lookIn name od = some (mA name) :=
  let ⟨od, ho, hl⟩ := lookIn_ns I.ns
  ⟨od, ⟨I.obj, rfl, rfl, ho⟩, hl⟩

section
variable {prog : Program} {w : World} {A : Around} {E : Value → Shared → Prop} {s : Shared} {K : PySem.W.Frag} {x dx C f : Addr} {mA : Str → Option Value} {name : Str} {v : Value}

theorem get_map {expr : Bool} {Q : Value → Shared → Prop} (X : K.In s.heap) (I : ObjM s.heap x dx C mA) (hg : PySem.W.plainGet K C name = true) (hh : PySem.W.hasDictIn K C = true)
    (ha : PySem.W.findIn K (.ref C) name = some none) (hv : mA name = some v) (hv' : PySem.W.handedIn v = true) (h : Q v { s with toks := s.toks + 1 }) :
    wpAny (model prog w) A (getAttr (.ref x) name expr) Q E s := by
  obtain ⟨od, J, hl⟩ := I.look
  exact PySem.W.get_value X J (PySem.W.plainGet_of hg).1 (PySem.W.findObj_own hh ha rfl (by rw [hl, hv])) hv' h

theorem get_meth {pl : Sem Bool} {Q : Value × List Value → Shared → Prop} (X : K.In s.heap) (I : ObjM s.heap x dx C mA) (hg : PySem.W.plainGet K C name = true)
    (hf : PySem.W.findIn K (.ref C) name = some (some (.ref f))) (ht : PySem.W.isFn K (.ref f) = true) (hv : mA name = none) (h : Q (.ref f, [.ref x]) s) :
    wpAny (model prog w) A (getMethod (.ref x) name pl) Q E s := by
  obtain ⟨od, J, hl⟩ := I.look
  exact PySem.W.method_fn X J (PySem.W.plainGet_of hg).1 (PySem.W.plainGet_of hg).2 hf (beq_iff_eq.mp ht) (by show (PySem.W.lookIn name od).map (·.isSome) = some false; rw [hl, hv]; rfl) h

theorem set_map {ns : List Str} {Q : Unit → Shared → Prop} (X : K.In s.heap) (I : ObjM s.heap x dx C mA)
    (hs : PySem.W.findIn K (.ref C) "__setattr__" = some (some (.builtin "object.__setattr__"))) (hp : PySem.W.plainOver K C = true) (ht : PySem.W.takerIn K C name = some none) (hh : PySem.W.hasDictIn K C = true)
    (hw : PySem.Within mA ns) (hsz : ns.length ≤ sizeLine)
    (h : ∀ h', ObjM h' x dx C (fun y => if y = name then some v else mA y) → Heap.SameBut dx s.heap h' → Q () { s with heap := h', toks := s.toks + 2 }) :
    wpAny (model prog w) A (setAttr (.ref x) name v) Q E s := by
  obtain ⟨od, J, hl⟩ := I.look
  refine PySem.W.set_plain X J hs (PySem.W.osa_open (s := { s with toks := s.toks + 1 }) (r := none) X J hp ht fun b => ?_)
  obtain ⟨cd, hc, hd'⟩ := PySem.W.any_some hh
  have hx : s.heap.get? x = some ⟨.ref C, some dx, .plain, #[]⟩ := I.obj
  refine wpAny_bind (wpAny_pure (wpAny_bind (wpAny_bind (wpAny_loadPart hx (wpAny_bind (PySem.W.Looks.here (s := { s with toks := s.toks + 1 }) (PySem.W.looks_clsIn X hc) ?_))))))
  rw [hd']
  refine wpAny_pure (a := some dx) (wpAny_bind (wpAny_pure (wpAny_bind ?_)))
  refine wpAny_nsSet1 (s := { s with toks := s.toks + 1 }) I.ns fun h' hn2 hs2 => ?_
  obtain ⟨oD, esD, epD, hoD, hdD, hcD⟩ := hn2.count (PySem.Within.cons name v hw)
  refine wpAny_bind (wpAny_lookBehind hoD (by rw [hdD]; exact pastItsLine_dict (Nat.le_trans hcD (by rw [List.length_cons]; omega))) ?_)
  exact wpAny_pure (h _ ⟨(hs2.2 _ (Ne.symm I.ne)).trans I.obj, hn2, I.ne⟩ hs2)

/-- C(..): the dict at the heap's end, the instance behind it; then its __init__ -/
theorem make_map {R : Result → Shared → Prop} {vs : List Value} {kw : List (Str × Value)} (X : K.In s.heap) (hm : PySem.W.makesIn K C = true)
    (hi : PySem.W.findIn K (.ref C) "__init__" = some (some (.ref f))) (hf : PySem.W.typeIn K (.ref f) = some (.type "function"))
    (h : codeAny (model prog w) (A.under (.builtin "type.__call__" ⟨.ref C :: vs, kw⟩)) (.call (.ref f) ⟨.ref (s.heap.objs.size + 1) :: vs, kw⟩) (PySem.W.InitBack (s.heap.objs.size + 1) R)
      { s with heap := (s.heap.push PySem.W.emptyDict).push (PySem.W.instObj C s.heap.objs.size) }) :
    codeAny (model prog w) A (.call (.ref C) ⟨vs, kw⟩) R s := by
  obtain ⟨hh, g, d, t, os⟩ := s
  exact PySem.W.make_core (PySem.W.makes_of X hm) (PySem.W.looks_findIn X hi) (fun self => PySem.W.bind_fn X self hf) (.inl rfl) h
end

def putF (f : Str) (v : V) : List (Str × V) → List (Str × V)
  | [] => [(f, v)]
  | (g, x) :: r => if g = f then (g, v) :: r else (g, x) :: putF f v r
theorem lookup_putF (f g : Str) (v : V) : ∀ fs : List (Str × V), (putF f v fs).lookup g = if g = f then some v else fs.lookup g
  | [] => by
    show List.lookup g [(f, v)] = _
    by_cases h : g = f
    · have hb : (g == f) = true := beq_iff_eq.mpr h
      simp only [List.lookup, hb, if_pos h]
    · have hb : (g == f) = false := beq_eq_false_iff_ne.mpr h
      simp only [List.lookup, hb, if_neg h]
  | (k, x) :: r => by
    have ih := lookup_putF f g v r
    rw [show putF f v ((k, x) :: r) = (if k = f then (k, v) :: r else (k, x) :: putF f v r) from rfl]
    by_cases hk : k = f
    · rw [if_pos hk]
      by_cases h : g = k
      · have hb : (g == k) = true := beq_iff_eq.mpr h
        simp only [List.lookup, hb, if_pos (h.trans hk)]
      · have hb : (g == k) = false := beq_eq_false_iff_ne.mpr h
        simp only [List.lookup, hb, if_neg (fun e : g = f => h (e.trans hk.symm))]
    · rw [if_neg hk]
      by_cases h : g = k
      · have hb : (g == k) = true := beq_iff_eq.mpr h
        simp only [List.lookup, hb, if_neg (fun e : g = f => hk (h.symm.trans e))]
      · have hb : (g == k) = false := beq_eq_false_iff_ne.mpr h
        simp only [List.lookup, hb]
        exact ih
theorem keys_putF (f : Str) (v : V) : ∀ fs : List (Str × V), f ∈ (putF f v fs).map (·.1) ∧ ∀ g, g ∈ fs.map (·.1) → g ∈ (putF f v fs).map (·.1)
  | [] => ⟨by simp [putF], fun g h => by simp at h⟩
  | (k, x) :: r => by
    obtain ⟨i1, i2⟩ := keys_putF f v r
    rw [show putF f v ((k, x) :: r) = (if k = f then (k, v) :: r else (k, x) :: putF f v r) from rfl]
    by_cases hk : k = f
    · rw [if_pos hk]
      subst hk
      exact ⟨by simp, fun g h => by simpa using h⟩
    · rw [if_neg hk]
      refine ⟨?_, fun g h => ?_⟩
      · rw [List.map_cons]
        exact List.mem_cons_of_mem _ i1
      · rw [List.map_cons] at h ⊢
        rcases List.mem_cons.mp h with e | e
        · exact List.mem_cons.mpr (.inl e)
        · exact List.mem_cons_of_mem _ (i2 g e)
theorem length_putF (f : Str) (v : V) : ∀ fs : List (Str × V), (putF f v fs).length ≤ fs.length + 1
  | [] => by simp [putF]
  | (k, x) :: r => by
    have ih := length_putF f v r
    rw [show putF f v ((k, x) :: r) = (if k = f then (k, v) :: r else (k, x) :: putF f v r) from rfl]
    by_cases hk : k = f
    · rw [if_pos hk, List.length_cons, List.length_cons]; omega
    · rw [if_neg hk, List.length_cons, List.length_cons]; omega

theorem RelO.some_of {v : V} {o : Option Value} (r : RelO (some v) o) : ∃ u, o = some u ∧ RelV v u := by
  cases o with
  | none => exact (show False from r).elim
  | some u => exact ⟨u, rfl, r⟩
theorem RelO.none_of {o : Option Value} (r : RelO none o) : o = none := by
  cases o with
  | none => rfl
  | some u => exact (show False from r).elim
theorem handed_of {v : V} {u : Value} (r : RelV v u) : PySem.W.handedIn u = true := by
  cases v with
  | non => cases (show u = Value.none from r); rfl
  | bl b => cases (show u = Value.bool b from r); rfl
  | int i => obtain ⟨t, e⟩ := (show ∃ t, u = Value.int i t from r); cases e; rfl
  | str x => obtain ⟨t, e⟩ := (show ∃ t, u = Value.str x t from r); cases e; rfl
  | byt b => obtain ⟨t, e⟩ := (show ∃ t, u = Value.bytes b t from r); cases e; rfl
  | flt b => obtain ⟨t, e⟩ := (show ∃ t, u = Value.float b t from r); cases e; rfl
  | ref a => cases (show u = Value.ref a from r); rfl
  | ty n => cases (show u = Value.type n from r); rfl

section
variable {P : Program} {w : World} {H H' : Hp} {h h' : Heap} {a C dx : Addr} {fs fs' : List (Str × V)}
theorem ins_get (hok : HOk P w H h) (e : H a = some (.ins C dx fs)) : ∃ mA, ObjM h a dx C mA ∧ (∀ f, RelO (fs.lookup f) (mA f)) ∧ PySem.Within mA (fs.map (·.1)) ∧ fs.length ≤ 1000 ∧ H dx = some (.own a) := by
  obtain ⟨d, z, ne, ob, mA, n, r, q⟩ := (show ObjOk P w H h a (.ins C dx fs) from hok a _ e)
  exact ⟨mA, ⟨ob, n, ne⟩, r, q, z, d⟩
end

structure Cls (K : PySem.W.Frag) (C : Addr) : Prop where
  pg : PySem.W.plainGet K C Str.empty = true
  hd : PySem.W.hasDictIn K C = true
  po : PySem.W.plainOver K C = true
  sa : PySem.W.findIn K (.ref C) "__setattr__" = some (some (.builtin "object.__setattr__"))
theorem Cls.get {K : PySem.W.Frag} {C : Addr} (c : Cls K C) (f : Str) : PySem.W.plainGet K C f = true := c.pg
/-- no class of it has the name -/
def NoAttr (K : PySem.W.Frag) (C : Addr) (f : Str) : Prop := PySem.W.findIn K (.ref C) f = some none
theorem NoAttr.taker {K : PySem.W.Frag} {C : Addr} {f : Str} (n : NoAttr K C f) : PySem.W.takerIn K C f = some none := by
  unfold PySem.W.takerIn
  rw [show PySem.W.findIn K (.ref C) f = some none from n]
  rfl
/-- a method: a plain def of the class or of one above it -/
structure Meth (K : PySem.W.Frag) (C : Addr) (m : Str) (f : Addr) : Prop where
  at_ : PySem.W.findIn K (.ref C) m = some (some (.ref f))
  fn : PySem.W.isFn K (.ref f) = true
  kp : PySem.W.keepIn K (.ref f) = true

section
variable {X : Cx} {pins : List (Addr × Obj)} {σ : St} {H : Hp} {s : Shared} {a C dx : Addr} {fs : List (Str × V)} {f : Str} {v : V} {A : Around} {E : Value → Shared → Prop}

theorem getattr_ok {b : Bool} {Q : Value → Shared → Prop} (I : Inv X pins σ H s) (e : H a = some (.ins C dx fs)) (c : Cls X.K C) (n : NoAttr X.K C f) (l : fs.lookup f = some v)
    (h : ∀ u s', Inv X pins σ H s' → RelV v u → Q u s') : wpAny (model X.prog X.w) A (getAttr (.ref a) f b) Q E s := by
  obtain ⟨mA, O, r, _, _, _⟩ := ins_get I.hok e
  obtain ⟨u, hu, ru⟩ := RelO.some_of (v := v) (o := mA f) (by rw [← l]; exact r f)
  exact get_map I.kIn O (c.get f) c.hd n hu (handed_of ru) (h u _ (I.tok _) ru)

theorem getmeth_ok {m : Str} {g : Addr} {pl : Sem Bool} {Q : Value × List Value → Shared → Prop} (I : Inv X pins σ H s) (e : H a = some (.ins C dx fs)) (c : Cls X.K C) (k : Meth X.K C m g) (l : fs.lookup m = none)
    (h : Q (.ref g, [.ref a]) s) : wpAny (model X.prog X.w) A (getMethod (.ref a) m pl) Q E s := by
  obtain ⟨mA, O, r, _, _, _⟩ := ins_get I.hok e
  have hn : mA m = none := RelO.none_of (by rw [← l]; exact r m)
  exact get_meth I.kIn O (c.get m) k.at_ k.fn hn h

theorem setattr_ok {y : V} {u : Value} {Q : Unit → Shared → Prop} (I : Inv X pins σ H s) (e : H a = some (.ins C dx fs)) (c : Cls X.K C) (n : NoAttr X.K C f) (hl : fs.length < 1000) (ry : RelV y u)
    (h : ∀ s', Inv X pins σ (upd H a (.ins C dx (putF f y fs))) s' → Q () s') : wpAny (model X.prog X.w) A (setAttr (.ref a) f u) Q E s := by
  obtain ⟨mA, O, r, wi, _, ho⟩ := ins_get I.hok e
  have hz : (fs.map (·.1)).length ≤ sizeLine := by rw [List.length_map, sizeLine_eq]; omega
  refine set_map I.kIn O c.sa c.po n.taker c.hd wi hz fun h' O' sb => h _ ?_
  have hd : ∃ o, h'.get? dx = some o := let ⟨o, _, _, e', _⟩ := O'.ns; ⟨o, e'⟩
  refine I.write (x := a) (e := dx) (by rw [e]; exact True.intro) (.inr ho) (fun b q hb z => (sb.2 b hb).trans z) hd ?_
  refine ⟨by rw [upd_ne O.ne]; exact ho, ?_, O.ne, O'.obj, _, O'.ns, fun g => ?_, fun g hg => ?_⟩
  · have := length_putF f y fs; omega
  · show RelO ((putF f y fs).lookup g) (if g = f then some u else mA g)
    rw [lookup_putF]
    by_cases q : g = f
    · rw [if_pos q, if_pos q]; exact ry
    · rw [if_neg q, if_neg q]; exact r g
  · by_cases q : g = f
    · rw [q]; exact (keys_putF f y fs).1
    · refine (keys_putF f y fs).2 g (wi g fun z => hg ?_)
      show (if g = f then some u else mA g) = none
      rw [if_neg q]; exact z

/-- a new instance, tracked, without attributes -/
theorem Inv.made (I : Inv X pins σ H s) : Inv X pins σ (upd (upd H s.heap.objs.size (.own (s.heap.objs.size + 1))) (s.heap.objs.size + 1) (.ins C s.heap.objs.size []))
    { s with heap := (s.heap.push PySem.W.emptyDict).push (PySem.W.instObj C s.heap.objs.size) } := by
  have e1 : (s.heap.push PySem.W.emptyDict).get? s.heap.objs.size = some PySem.W.emptyDict := Heap.get?_push_size s.heap rfl
  have e2 : ((s.heap.push PySem.W.emptyDict).push (PySem.W.instObj C s.heap.objs.size)).get? (s.heap.objs.size + 1) = some (PySem.W.instObj C s.heap.objs.size) := by
    have := Heap.get?_push_size (s.heap.push PySem.W.emptyDict) (o := PySem.W.instObj C s.heap.objs.size) rfl
    rwa [Heap.size_push] at this
  have e3 : (s.heap.push PySem.W.emptyDict).Ns s.heap.objs.size (fun _ => none) := ⟨PySem.W.emptyDict, #[], _, e1, rfl, (fun e he => absurd he (by simp)), fun _ => rfl⟩
  have I1 := I.laid (a := s.heap.objs.size) (o := .own (s.heap.objs.size + 1)) (h' := s.heap.push PySem.W.emptyDict) (t' := s.toks) (fun b u q => Heap.get?_push_of_some _ q) (Nat.le_refl _) ⟨_, e1⟩
  refine I1.laid (a := s.heap.objs.size + 1) (o := .ins C s.heap.objs.size []) (t' := s.toks) (fun b u q => Heap.get?_push_of_some _ q) (Nat.le_of_eq (Heap.size_push _ _)) ?_
  have ne : s.heap.objs.size ≠ s.heap.objs.size + 1 := Nat.ne_of_lt (Nat.lt_succ_self _)
  refine ⟨by rw [upd_ne ne, upd_same], Nat.zero_le _, ne, e2, fun _ => none, (Heap.Ns1.of_empty e3).at fun o q => Heap.get?_push_of_some _ q, fun _ => True.intro, fun y hy => absurd rfl hy⟩

/-- e.f where nothing but the object is asked: through attributeBase (super) and the last hold -/
theorem attr_of {prog : Program} {w : World} {env : Env} {e : Expr} {f : Str} {pos : Pos} {s : Shared} {Q : Value → Shared → Prop} (hb : attributeBase e f env (eval e env) = eval e env)
    (h : wpAny (model prog w) A (eval e env) (fun o s₁ => wpAny (model prog w) A (getAttr o f true) Q E s₁) E s) : wpAny (model prog w) A (eval (.Attribute e f pos) env) Q E s :=
  Attribute_any_ h (by rw [arm_eval_Attribute, hb])
end

/-- e.f, an attribute of the instance -/
def tFld (K : PySem.W.Frag) (ta : TE) (f : Str) : TE := fun σ H Q => ta σ H fun x H1 => ∃ a C dx fs v, x = .ref a ∧ H1 a = some (.ins C dx fs) ∧ Cls K C ∧ NoAttr K C f ∧ fs.lookup f = some v ∧ Q v H1
/-- e.f = value -/
def sFld (K : PySem.W.Frag) (ta tv : TE) (f : Str) : TS := fun D σ H => tv σ H fun y H1 => ta σ H1 fun x H2 => ∃ a C dx fs, x = .ref a ∧ H2 a = some (.ins C dx fs) ∧ Cls K C ∧ NoAttr K C f ∧ fs.length < 1000 ∧
  D.nx σ (upd H2 a (.ins C dx (putF f y fs)))
section
variable {X : Cx} {o e value : Expr} {f : Str} {pos pos' tpos : Pos} {ta tv : TE}
theorem pe_fld (he : PE X e ta) (hb : attributeBase e f X.env (eval e X.env) = eval e X.env) : PE X (.Attribute e f pos) (tFld X.K ta f) := by
  intro pins s σ H Q I h
  refine attr_of hb (thn (he pins s σ H _ I h) fun u s1 ⟨x, H1, I1, rx, a, C, dx, fs, v, ex, ea, c, n, l, q⟩ => ?_)
  subst ex
  obtain rfl : u = Value.ref a := rx
  exact getattr_ok I1 ea c n l fun u' s2 I2 ru => ⟨v, H1, I2, ru, q⟩
theorem ps_fld (ha : PE X o ta) (hv : PE X value tv) (hs : swapsWith value (some (.Attribute o f pos')) pos.line X.env = pure false) : PS X (.Assign [.Attribute o f pos'] value pos) (sFld X.K ta tv f) := by
  intro pins s σ H D I h
  refine plainObj_wpAny_Assign_Attribute (thn (hv pins s σ H _ I h) fun u s1 ⟨y, H1, I1, ry, q⟩ => thn (ha pins s1 σ H1 _ I1 q) fun ov s2 ⟨x, H2, I2, rx, a, C, dx, fs, ex, ea, c, n, l, q2⟩ => ?_) hs
  subst ex
  obtain rfl : ov = Value.ref a := rx
  exact setattr_ok I2 ea c n l ry fun s3 I3 => ⟨σ, _, I3, q2⟩
end

section
variable {X : Cx} {pins : List (Addr × Obj)} {σ : St} {H : Hp} {s : Shared} {A : Around} {E : Value → Shared → Prop} {Q : Value → Shared → Prop} {c : Value} {b : Bool}
/-- the type of a value, as the fragment's deciders take it; for an instance its class -/
inductive TyOf (K : PySem.W.Frag) (H : Hp) : V → Value → Prop where
  | non : TyOf K H .non (.type "NoneType")
  | bl (x : Bool) : TyOf K H (.bl x) (.type "bool")
  | int (i : Int) : TyOf K H (.int i) (.type "int")
  | str (x : Str) : TyOf K H (.str x) (.type "str")
  | flt (x : UInt64) : TyOf K H (.flt x) (.type "float")
  | lst {a : Addr} {xs : List V} (e : H a = some (.lst xs)) : TyOf K H (.ref a) (.type "list")
  | frz {a : Addr} {o : Obj} {xs : List V} (e : H a = some (.frz o (.lst xs))) : TyOf K H (.ref a) (.type "list")
  | tup {a : Addr} {xs : List V} (e : H a = some (.tup xs)) : TyOf K H (.ref a) (.type "tuple")
  | dK {a : Addr} {kvs : List (Key × V)} (e : H a = some (.dK kvs)) : TyOf K H (.ref a) (.type "dict")
  | dT {a : Addr} {kvs : List (List Key × V)} (e : H a = some (.dT kvs)) : TyOf K H (.ref a) (.type "dict")
  | ins {a C dx : Addr} {fs : List (Str × V)} (e : H a = some (.ins C dx fs)) (cl : Cls K C) (ha : PySem.W.findIn K (.ref C) "__class__" = some (some (.builtin "object.__class__")))
      (hn : PySem.W.specialIn K (.builtin "object.__class__") "__get__" = some (some (.builtin "getset_descriptor.__get__"))) (htk : PySem.W.takesIn K (.builtin "object.__class__") = some true)
      (hm : PySem.W.mroIn K C (.type "object") = some true) : TyOf K H (.ref a) (.ref C)
/-- isinstance(x, c) for one class c, a built-in or an own one: kitOne's answer -/
theorem isinst_ok {x : V} {u t : Value} (I : Inv X pins σ H s) (rx : RelV x u) (ty : TyOf X.K H x t) (e : PySem.W.kitOne X.K t c = some b) (h : ∀ tk, Q (.bool b) { s with toks := tk }) :
    wpAny (model X.prog X.w) A (call (.builtin "isinstance") [u, c]) Q E s := by
  cases ty with
  | non => cases (show u = Value.none from rx); exact PySem.W.kia_one PySem.W.kitx_none I.kIn True.intro e (fun z => nomatch z) h
  | bl y => cases (show u = Value.bool y from rx); exact PySem.W.kia_one PySem.W.kitx_bool I.kIn True.intro e (fun z => nomatch z) h
  | int i => obtain ⟨t, q⟩ := (show ∃ t, u = Value.int i t from rx); cases q; exact PySem.W.kia_one PySem.W.kitx_int I.kIn True.intro e (fun z => nomatch z) h
  | str y => obtain ⟨t, q⟩ := (show ∃ t, u = Value.str y t from rx); cases q; exact PySem.W.kia_one PySem.W.kitx_str I.kIn True.intro e (fun z => nomatch z) h
  | flt y => obtain ⟨t, q⟩ := (show ∃ t, u = Value.float y t from rx); cases q; exact PySem.W.kia_one PySem.W.kitx_float I.kIn True.intro e (fun z => nomatch z) h
  | @lst a xs ea =>
    cases (show u = Value.ref a from rx)
    obtain ⟨_, _, n, _, h1⟩ := (show ObjOk X.prog X.w H s.heap a (.lst xs) from I.hok a _ ea)
    exact PySem.W.kia_one PySem.W.kitx_list I.kIn ⟨_, h1, rfl⟩ e (fun z => nomatch z) h
  | @frz a ob xs ea =>
    cases (show u = Value.ref a from rx)
    obtain ⟨_, _, _, n, _, h1⟩ := (show ObjOk X.prog X.w H s.heap a (.frz ob (.lst xs)) from I.hok a _ ea)
    exact PySem.W.kia_one PySem.W.kitx_list I.kIn ⟨_, h1, rfl⟩ e (fun z => nomatch z) h
  | @tup a xs ea =>
    cases (show u = Value.ref a from rx)
    obtain ⟨_, _, _, p⟩ := (show ObjOk X.prog X.w H s.heap a (.tup xs) from I.hok a _ ea)
    obtain ⟨o, h1, h2, _⟩ := p
    exact PySem.W.kia_one PySem.W.kitx_tuple I.kIn ⟨o, h1, h2⟩ e (fun z => nomatch z) h
  | @dK a kvs ea =>
    cases (show u = Value.ref a from rx)
    obtain ⟨_, _, vs, _, p⟩ := (show ObjOk X.prog X.w H s.heap a (.dK kvs) from I.hok a _ ea)
    obtain ⟨o, es, ep, h1, h2, _⟩ := p
    exact PySem.W.kia_one PySem.W.kitx_dict I.kIn ⟨o, h1, h2.1⟩ e (fun z => nomatch z) h
  | @dT a kvs ea =>
    cases (show u = Value.ref a from rx)
    obtain ⟨_, _, xs, _, o, es, ep, h1, h2, _⟩ := (show ObjOk X.prog X.w H s.heap a (.dT kvs) from I.hok a _ ea)
    exact PySem.W.kia_one PySem.W.kitx_dict I.kIn ⟨o, h1, h2.1⟩ e (fun z => nomatch z) h
  | @ins a C dx fs ea cl ha hn htk hm =>
    cases (show u = Value.ref a from rx)
    obtain ⟨mA, O, _⟩ := ins_get I.hok ea
    obtain ⟨od, J, _⟩ := O.look
    exact PySem.W.kia_one (PySem.W.kitx_own (cl.get _) cl.hd ha hn htk hm) I.kIn J e (fun z => nomatch z) h
end
end L2

namespace L2
open PySem PySem.Spec PyProof.Rows

structure Room (k : Nat) (A : Around) : Prop where
  hd : A.handled = none
  dp : A.depth + 3 * k + 5 < recursionLimit
  un : A.units + 16 * k + 200 < cLine
theorem Room.mono {j k : Nat} {A : Around} (r : Room k A) (h : j ≤ k) : Room j A := ⟨r.hd, by have := r.dp; omega, by have := r.un; omega⟩
theorem Room.deeper {k : Nat} {A : Around} (r : Room (k + 1) A) (env : Env) : Room k (A.deeper env) :=
  ⟨r.hd, by have := r.dp; show A.depth + 1 + 3 * k + 5 < _; omega, by have := r.un; show A.units + 3 + 16 * k + 200 < _; omega⟩
theorem make_depth {A : Around} {C : Addr} {us : List Value} {kw : List (Str × Value)} : (A.under (.builtin "type.__call__" ⟨.ref C :: us, kw⟩)).depth = A.depth + 1 := by
  first | rfl | simp [Around.under, Code.weight, Code.isCreation, Code.isGuard, Code.isCaller, Code.frames, Code.isFrame, guardIds]
theorem make_units {A : Around} {C : Addr} {us : List Value} {kw : List (Str × Value)} : (A.under (.builtin "type.__call__" ⟨.ref C :: us, kw⟩)).units = A.units + 1 := by
  first | rfl | simp [Around.under, Code.cUnits, Code.frames, Code.isFrame]
theorem Room.make {k : Nat} {A : Around} (r : Room (k + 1) A) (C : Addr) (us : List Value) (kw : List (Str × Value)) : Room k (A.under (.builtin "type.__call__" ⟨.ref C :: us, kw⟩)) :=
  ⟨r.hd, by have := r.dp; rw [make_depth]; omega, by have := r.un; rw [make_units]; omega⟩
theorem Room.depth {k : Nat} {A : Around} (r : Room k A) : A.depth < recursionLimit := by have := r.dp; omega
theorem Room.units {k : Nat} {A : Around} (r : Room k A) : A.units + 64 < cLine := by have := r.un; omega
def tNil : TA := fun _ H Q => Q [] H
def tCons (ta : TE) (tr : TA) : TA := fun σ H Q => ta σ H fun x H1 => tr σ H1 fun xs H2 => Q (x :: xs) H2
section
variable {X : Cx} {e : Expr} {es : List Expr} {te : TE} {t : TA} {pos : Pos}
theorem pa_nil : PA X [] tNil := fun _ _ _ _ H Q I h => Calls.spliced_nil ⟨[], H, I, .nil, h⟩
theorem pa_cons (ha : PE X e te) (hr : PA X es t) (hs : starEach (e :: es) X.env = (false, eval e X.env) :: starEach es X.env := by rfl) : PA X (e :: es) (tCons te t) := by
  intro pos pins s σ H Q I h
  rw [hs]
  show wpAny _ _ (spliced ((false, eval e X.env) :: backTo pos (starEach es X.env))) _ _ s
  refine Calls.spliced_cons (thn (ha pins s σ H _ I h) fun u s1 ⟨x, H1, I1, r1, q1⟩ => ?_)
  exact thn (hr pos pins s1 σ H1 _ I1 q1) fun us s2 ⟨xs, H2, I2, r2, q2⟩ => ⟨x :: xs, H2, I2, .cons r1 r2, q2⟩

/-- a tuple, a list of written items -/
def tTup (t : TA) : TE := fun σ H Q => t σ H fun xs H1 => xs.length ≤ sizeLine ∧ ∀ p, H1 p = none → Q (.ref p) (upd H1 p (.tup xs))
def tLst (t : TA) : TE := fun σ H Q => t σ H fun xs H1 => xs.length ≤ sizeLine ∧ ∀ p, H1 p = none → Q (.ref p) (upd H1 p (.lst xs))
theorem pe_tup {x1} (h : PA X es t) : PE X (.Tuple es x1 pos) (tTup t) := by
  intro pins s σ H Q I hq
  refine wpAny_Tuple_spliced (thn (h pos pins s σ H _ I hq) fun us s1 ⟨xs, H1, I1, r, z, q⟩ => ⟨by rw [← r.length]; exact z, ?_⟩)
  have hf : H1 s1.heap.objs.size = none := I1.hok.fresh (Nat.le_refl _)
  refine ⟨.ref s1.heap.objs.size, upd H1 s1.heap.objs.size (.tup xs), I1.laid (t' := s1.toks) (fun b u e => Heap.get?_push_of_some _ e) (Nat.le_refl _) ?_, rfl, q _ hf⟩
  exact ⟨z, us, r, ⟨_, Heap.get?_push_size _ rfl, rfl, _, rfl⟩⟩
theorem pe_lst (h : PA X es t) : PE X (.List es pos) (tLst t) := by
  intro pins s σ H Q I hq
  refine wpAny_List_spliced (thn (h pos pins s σ H _ I hq) fun us s1 ⟨xs, H1, I1, r, z, q⟩ => ⟨by rw [← r.length]; exact z, ?_⟩)
  have hf : H1 s1.heap.objs.size = none := I1.hok.fresh (Nat.le_refl _)
  refine ⟨.ref s1.heap.objs.size, upd H1 s1.heap.objs.size (.lst xs), I1.laid (t' := s1.toks) (fun b u e => Heap.get?_push_of_some _ e) (Nat.le_refl _) ?_, rfl, q _ hf⟩
  exact ⟨z, us, 0, r, Heap.get?_push_size _ rfl⟩
end

/-- a def's promise: the bound arguments in the parameters' order, the heap, the wanted end, the wanted exception -/
abbrev Sp := List V → Hp → VK → XK → Prop
/-- how an exception lies behind a call (file 08 gives it): the callers' frames, abstract heap and state ahead of the call, the wish, the exception, the state -/
abbrev CXT := List Env → Hp → Shared → XK → Value → Shared → Prop

/-- the state at a call -/
structure Env0 (P : Program) (w : World) (K : PySem.W.Frag) (mg : Str → Option Value) (base : Heap) (A : Around) (outer : List Env) (s : Shared) (H : Hp) : Prop where
  frames : A.frames = some outer
  mod : Mod K mg base
  bs : ∀ b o, base.get? b = some o → s.heap.get? b = some o ∧ H b = none
  bsz : base.objs.size ≤ s.heap.objs.size
  funs : s.heap.FunFrames base outer
  frf : ∀ b ∈ frs outer, H b = none
  hok : HOk P w H s.heap
  bare : AllBare s.gens
/-- a call's end -/
def CE (outer : List Env) (P : Program) (w : World) (H : Hp) (s : Shared) (Q : VK) (u : Value) (s' : Shared) : Prop :=
  ∃ v H', s'.os = s.os ∧ AllBare s'.gens ∧ Un (frs outer) [] H H' s.heap s'.heap ∧ HOk P w H' s'.heap ∧ RelV v u ∧ Q v H'
def CR (CX : CXT) (outer : List Env) (P : Program) (w : World) (H : Hp) (s : Shared) (Q : VK) (E : XK) (r : Result) (s' : Shared) : Prop :=
  match r with
  | .ok (.ret u) => CE outer P w H s Q u s'
  | .ok _ => False
  | .error e => CX outer H s E e s'
structure FnOk (P : Program) (w : World) (K : PySem.W.Frag) (mg : Str → Option Value) (base : Heap) (CX : CXT) (k : Nat) (f : Addr) (fd : FuncData) (ps : List Str) (sp : Sp) : Prop where
  len : ∀ vs H Q E, sp vs H Q E → vs.length = ps.length
  run : ∀ (A : Around) (outer : List Env) (s : Shared) (H : Hp) (args : Args) (us : List Value) (vs : List V) (Q : VK) (E : XK), Room k A → Env0 P w K mg base A outer s H → BindsTo s fd args (ps.zip us) → Vals vs us → sp vs H Q E →
    codeAny (model P w) A (.call (.ref f) args) (CR CX outer P w H s Q E) s
theorem Env0.make {P : Program} {w : World} {K : PySem.W.Frag} {mg : Str → Option Value} {base : Heap} {A : Around} {outer : List Env} {s : Shared} {H : Hp} (e : Env0 P w K mg base A outer s H) (C : Addr) (us : List Value) (kw : List (Str × Value)) :
    Env0 P w K mg base (A.under (.builtin "type.__call__" ⟨.ref C :: us, kw⟩)) outer s H := ⟨by first | exact e.frames | (simpa [Around.under, Code.envs, Code.isFrame, pushEnvs] using e.frames), e.mod, e.bs, e.bsz, e.funs, e.frf, e.hok, e.bare⟩
section
variable {X : Cx} {pins : List (Addr × Obj)} {σ : St} {H : Hp} {s s' : Shared}
/-- from a body: what a callee wants -/
theorem Inv.env0 (I : Inv X pins σ H s) : Env0 X.prog X.w X.K X.mg X.base X.A X.stack s H :=
  ⟨I.ok.frames, I.ok.mod, I.bs, Nat.le_trans I.ok.bsz I.sz, I.stack, I.stkFree, I.hok, I.bare⟩
/-- behind a call -/
theorem Inv.after {Q : VK} {u : Value} (I : Inv X pins σ H s) (h : CE X.stack X.prog X.w H s Q u s') : EP X pins σ Q u s' := by
  obtain ⟨v, H', os, bare, un, hok, r, q⟩ := h
  obtain ⟨hh, g, d, t, os'⟩ := s'
  obtain rfl : os' = s.os := os
  exact ⟨v, H', I.call (h' := hh) (g' := g) (d' := d) (t' := t) (ch := []) un hok bare (fun b z => absurd z (by simp)), r, q⟩
end

/-- f(..): the written arguments, then the defaults dvs; E: what is wanted of an exception -/
def tCall (sp : Sp) (dvs : List V) (E : XK) (t : TA) : TE := fun σ H Q => t σ H fun vs H1 => sp (vs ++ dvs) H1 Q E
/-- C(..): a new instance and its dict, then __init__ -/
def tMake (C : Addr) (sp : Sp) (dvs : List V) (E : XK) (t : TA) : TE := fun σ H Q => t σ H fun vs H1 => ∀ x dx, H1 x = none → H1 dx = none → dx ≠ x →
  sp (.ref x :: (vs ++ dvs)) (upd (upd H1 dx (.own x)) x (.ins C dx [])) (fun v H2 => v = .non ∧ Q (.ref x) H2) E

/-- how the parameters are bound: us the positional arguments, kw the keywords' values by name, ds the defaults that fill up -/
def Binds (K : PySem.W.Frag) (fd : FuncData) (ps : List Str) (ds : List Value) : Prop :=
  ∀ (s : Shared) (us : List Value), K.In s.heap → (us ++ ds).length = ps.length → BindsTo s fd ⟨us, []⟩ (ps.zip (us ++ ds))
/-- every parameter is given -/
theorem Binds.all {K : PySem.W.Frag} {fd : FuncData} {ps : List Str} (h : ∀ us : List Value, us.length = ps.length → bindArgs fd ⟨us, []⟩ = pure (ps.zip us)) : Binds K fd ps [] := fun s us _ hl => by
  rw [List.append_nil] at hl ⊢
  exact .of_eq (h us hl)

/-- an exception of a callee reaches what this body wants of exceptions -/
def Passes (CX : CXT) (X : Cx) (E : XK) : Prop := ∀ (pins : List (Addr × Obj)) (σ : St) (H : Hp) (s : Shared) (e : Value) (s' : Shared), Inv X pins σ H s → CX X.stack H s E e s' → X.xe e s'

section
variable {X : Cx} {CX : CXT} {k : Nat} {f C : Addr} {fd : FuncData} {ps : List Str} {sp : Sp} {dvs : List V} {ds : List Value} {E : XK} {x m : Str} {p pos apos : Pos} {e o : Expr} {es : List Expr} {ta : TE} {t : TA}

/-- the callee runs -/
theorem run_fn {pins : List (Addr × Obj)} {σ : St} {H : Hp} {s : Shared} {Q : VK} {us : List Value} {vs : List V} (F : FnOk X.prog X.w X.K X.mg X.base CX k f fd ps sp) (hr : Room k X.A) (hb : Binds X.K fd ps ds) (hd : Vals dvs ds) (hx : Passes CX X E)
    (I : Inv X pins σ H s) (r : Vals vs us) (h : sp (vs ++ dvs) H Q E) : wpAny (model X.prog X.w) X.A (call (.ref f) us) (EP X pins σ Q) X.xe s := by
  have r2 : Vals (vs ++ dvs) (us ++ ds) := r.append hd
  have hl : (us ++ ds).length = ps.length := by rw [← r2.length]; exact F.len _ _ _ _ h
  refine wpAny_call (codeAny_mono (F.run X.A X.stack s H ⟨us, []⟩ (us ++ ds) (vs ++ dvs) Q E hr I.env0 (hb s us I.kIn hl) r2 h) fun r s' hq => ?_)
  cases r with
  | error e => exact hx pins σ H s e s' I hq
  | ok fl =>
    cases fl with
    | ret u => exact I.after hq
    | next => exact False.elim hq
    | brk => exact False.elim hq
    | cont => exact False.elim hq

theorem pe_call (F : FnOk X.prog X.w X.K X.mg X.base CX k f fd ps sp) (hr : Room k X.A) (hg : Gl X x) (hm : X.mg x = some (.ref f)) (hk : PySem.W.keepIn X.K (.ref f) = true) (hb : Binds X.K fd ps ds) (hd : Vals dvs ds) (hx : Passes CX X E)
    (ha : PA X (e :: es) t) (hdb : (x == ("__debug__" : Str)) = false := by decide) (he : starEach (e :: es) X.env = (false, eval e X.env) :: starEach es X.env := by rfl) (hpl : (backTo pos (starEach es X.env)).any (·.1) = false := by rfl) :
    PE X (.Call (.Name x p) (e :: es) [] pos) (tCall sp dvs E t) := by
  intro pins s σ H Q I h
  refine wpAny_Call_Name_kw (ld_glob I hg hm ?_ hdb)
  refine PySem.W.callWith_K (h₀ := X.base) I.ok.mod.kin hk (thn (ha pos pins s σ H _ I h) fun us s1 ⟨vs, H1, I1, r, q⟩ => ⟨I1.kIn, ?_⟩) he hpl
  exact run_fn F hr hb hd hx I1 r q
/-- what a class must have to be made -/
structure Mk (K : PySem.W.Frag) (C f : Addr) : Prop where
  makes : PySem.W.makesIn K C = true
  init : PySem.W.findIn K (.ref C) "__init__" = some (some (.ref f))
  fn : PySem.W.isFn K (.ref f) = true
  kp : PySem.W.keepIn K (.ref C) = true

theorem run_make {pins : List (Addr × Obj)} {σ : St} {H : Hp} {s : Shared} {Q : VK} {us : List Value} {vs : List V} (M : Mk X.K C f) (F : FnOk X.prog X.w X.K X.mg X.base CX k f fd ps sp) (hr : Room (k + 1) X.A) (hb : Binds X.K fd ps ds) (hd : Vals dvs ds)
    (hx : Passes CX X E) (I : Inv X pins σ H s) (r : Vals vs us)
    (h : ∀ x dx, H x = none → H dx = none → dx ≠ x → sp (.ref x :: (vs ++ dvs)) (upd (upd H dx (.own x)) x (.ins C dx [])) (fun v H2 => v = .non ∧ Q (.ref x) H2) E) :
    wpAny (model X.prog X.w) X.A (call (.ref C) us) (EP X pins σ Q) X.xe s := by
  have hq := h (s.heap.objs.size + 1) s.heap.objs.size (I.hok.fresh (Nat.le_succ _)) (I.hok.fresh (Nat.le_refl _)) (Nat.ne_of_lt (Nat.lt_succ_self _))
  have I2 := Inv.made (C := C) I
  have r2 : Vals (V.ref (s.heap.objs.size + 1) :: (vs ++ dvs)) (Value.ref (s.heap.objs.size + 1) :: (us ++ ds)) := .cons rfl (r.append hd)
  have hl : (Value.ref (s.heap.objs.size + 1) :: us ++ ds).length = ps.length := by
    have e := r2.length
    rw [F.len _ _ _ _ hq] at e
    exact e.symm
  refine wpAny_call (make_map (f := f) I.kIn M.makes M.init (beq_iff_eq.mp M.fn) (codeAny_mono (F.run _ X.stack _ _ ⟨Value.ref (s.heap.objs.size + 1) :: us, []⟩ (Value.ref (s.heap.objs.size + 1) :: (us ++ ds)) _ _ E (hr.make C us [])
    (I2.env0.make C us []) (hb _ (Value.ref (s.heap.objs.size + 1) :: us) I2.kIn hl) r2 hq) fun r s' hq' => ?_))
  cases r with
  | error e => exact hx pins σ _ _ e s' I2 hq'
  | ok fl =>
    cases fl with
    | ret u =>
      obtain ⟨v, H', I3, rv, ev, q3⟩ := I2.after hq'
      subst ev
      exact ⟨rv, ⟨V.ref (s.heap.objs.size + 1), H', I3, rfl, q3⟩⟩
    | next => exact False.elim hq'
    | brk => exact False.elim hq'
    | cont => exact False.elim hq'
theorem pe_make (M : Mk X.K C f) (F : FnOk X.prog X.w X.K X.mg X.base CX k f fd ps sp) (hr : Room (k + 1) X.A) (hg : Gl X x) (hm : X.mg x = some (.ref C)) (hb : Binds X.K fd ps ds) (hd : Vals dvs ds) (hx : Passes CX X E)
    (ha : PA X (e :: es) t) (hdb : (x == ("__debug__" : Str)) = false := by decide) (he : starEach (e :: es) X.env = (false, eval e X.env) :: starEach es X.env := by rfl) (hpl : (backTo pos (starEach es X.env)).any (·.1) = false := by rfl) :
    PE X (.Call (.Name x p) (e :: es) [] pos) (tMake C sp dvs E t) := by
  intro pins s σ H Q I h
  refine wpAny_Call_Name_kw (ld_glob I hg hm ?_ hdb)
  refine PySem.W.callWith_K (h₀ := X.base) I.ok.mod.kin M.kp (thn (ha pos pins s σ H _ I h) fun us s1 ⟨vs, H1, I1, r, q⟩ => ⟨I1.kIn, ?_⟩) he hpl
  exact run_make M F hr hb hd hx I1 r q
end

section
variable {X : Cx} {CX : CXT} {k : Nat} {f C : Addr} {fd : FuncData} {ps ks : List Str} {sp : Sp} {E : XK} {x m : Str} {p pos apos kpos : Pos} {e o : Expr} {es : List Expr} {kws : List Keyword} {te ta : TE} {t tk : TA} {nm : Option Str}
variable {g : List Value → List Value → List Value} {gV : List V → List V → List V}
end

/-- names: the parameters first -/
structure FnScope (N P : List Str) (sc : Scope) : Prop where
  kind : sc.kind = .function
  co : sc.isCoroutine = false
  gen : sc.isGenerator = false
  nd : N.Nodup
  pre : N.take P.length = P
  par : ∀ x ∈ P, sc.names.lookup x = some .local ∨ sc.names.lookup x = some .cell
  nofree : ∀ y ∈ sc.names, y.2 ≠ .free

theorem bindL_out {kindOf : Str → Option NameKind} {x : Str} : ∀ {binds : List (Str × Value)} {m : Str → Option Value}, (∀ v, (x, v) ∉ binds) → bindL kindOf binds m x = m x
  | [], _, _ => rfl
  | (n, v) :: r, m, h => by
    unfold bindL
    rw [bindL_out fun w hw => h w (List.mem_cons_of_mem _ hw)]
    split
    · have : x ≠ n := by rintro rfl; exact h v List.mem_cons_self
      simp [this]
    · rfl
theorem bindC_out {kindOf : Str → Option NameKind} {x : Str} : ∀ {binds : List (Str × Value)} {m : Str → Option Value}, (∀ v, (x, v) ∉ binds) → bindC kindOf binds m x = m x
  | [], _, _ => rfl
  | (n, v) :: r, m, h => by
    unfold bindC
    rw [bindC_out fun w hw => h w (List.mem_cons_of_mem _ hw)]
    split
    · rfl
    · have : x ≠ n := by rintro rfl; exact h v List.mem_cons_self
      simp [this]
theorem bindL_get {kindOf : Str → Option NameKind} {x : Str} {v : Value} : ∀ {P : List Str} {vs : List Value} {i : Nat} {m : Str → Option Value}, P.Nodup → P[i]? = some x → vs[i]? = some v → kindOf x = some .local →
    bindL kindOf (P.zip vs) m x = some v
  | [], _, _, _, _, h, _, _ => by simp at h
  | _ :: _, [], _, _, _, _, h, _ => by simp at h
  | p :: P, w :: vs, 0, m, nd, h1, h2, hk => by
    simp at h1 h2; subst h1; subst h2
    show bindL kindOf ((p, w) :: P.zip vs) m p = _
    unfold bindL
    rw [bindL_out fun v hv => (List.nodup_cons.mp nd).1 (List.of_mem_zip hv).1, if_pos hk]
    simp
  | p :: P, w :: vs, i + 1, m, nd, h1, h2, hk => by
    show bindL kindOf ((p, w) :: P.zip vs) m x = _
    unfold bindL
    exact bindL_get (i := i) (List.nodup_cons.mp nd).2 (by simpa using h1) (by simpa using h2) hk
theorem bindC_get {kindOf : Str → Option NameKind} {x : Str} {v : Value} : ∀ {P : List Str} {vs : List Value} {i : Nat} {m : Str → Option Value}, P.Nodup → P[i]? = some x → vs[i]? = some v → kindOf x ≠ some .local →
    bindC kindOf (P.zip vs) m x = some v
  | [], _, _, _, _, h, _, _ => by simp at h
  | _ :: _, [], _, _, _, _, h, _ => by simp at h
  | p :: P, w :: vs, 0, m, nd, h1, h2, hk => by
    simp at h1 h2; subst h1; subst h2
    show bindC kindOf ((p, w) :: P.zip vs) m p = _
    unfold bindC
    rw [bindC_out fun v hv => (List.nodup_cons.mp nd).1 (List.of_mem_zip hv).1, if_neg hk]
    simp
  | p :: P, w :: vs, i + 1, m, nd, h1, h2, hk => by
    show bindC kindOf ((p, w) :: P.zip vs) m x = _
    unfold bindC
    exact bindC_get (i := i) (List.nodup_cons.mp nd).2 (by simpa using h1) (by simpa using h2) hk

/-- the names' values at the entry -/
def start (N : List Str) (vs : List V) : St := vs.map some ++ List.replicate (N.length - vs.length) none

/-- the context of a def's body, at its entry; an exception leaves the frame, then lies as CX says -/
def cxOf (CX : CXT) (P : Program) (w : World) (K : PySem.W.Frag) (mg : Str → Option Value) (base : Heap) (N : List Str) (qual : Str) (scope : Scope) (f : Addr) (cd : Value) (A : Around) (outer : List Env) (s : Shared) (H : Hp) (E : XK) : Cx where
  prog := P
  w := w
  K := K
  mg := mg
  base := base
  A := A.deeper (envOfC qual scope s.heap.objs.size f cd)
  N := N
  s₀ := s
  H₀ := H
  env := envOfC qual scope s.heap.objs.size f cd
  outer := outer
  stack := envOfC qual scope s.heap.objs.size f cd :: outer
  ex := []
  calm := true
  fn := fun _ => true
  pn := []
  xe := fun e s' => wpAny (model P w) (A.deeper (envOfC qual scope s.heap.objs.size f cd)) (leaving (envOfC qual scope s.heap.objs.size f cd) e) (fun _ s'' => CX outer H s E e s'') (fun e' s'' => CX outer H s E e' s'') s'

theorem cell_has {sc : Scope} {n : Nat} {x : Str} (h : sc.names.lookup x = some .cell) : ∃ c, (cellsFrom n sc.names []).lookup x = some c := by
  have q := PySem.W.cellsFrom_some sc.names n [] (.inl h)
  exact Option.isSome_iff_exists.mp q

theorem inv_start {CX : CXT} {P : Program} {w : World} {K : PySem.W.Frag} {mg : Str → Option Value} {base : Heap} {N ps : List Str} {qual : Str} {scope : Scope} {f : Addr} {cd : Value} {A : Around} {outer : List Env} {s s1 : Shared} {H : Hp} {E : XK} {us : List Value} {vs : List V}
    (S : FnScope N ps scope) (hd : A.handled = none) (e0 : Env0 P w K mg base A outer s H) (hl : vs.length = ps.length) (r : Vals vs us)
    (x : InCallC s s.heap.objs.size (bindL (envOfC qual scope s.heap.objs.size f cd).kindOf (ps.zip us) fun _ => none) (cellsFrom (s.heap.objs.size + 1) scope.names []) (bindC (envOfC qual scope s.heap.objs.size f cd).kindOf (ps.zip us) fun _ => none) s1) :
    Inv (cxOf CX P w K mg base N qual scope f cd A outer s H E) [] (start N vs) H s1 := by
  have hpl : ps.length ≤ N.length := by have := congrArg List.length S.pre; rw [List.length_take] at this; omega
  obtain ⟨h1, tk, rfl, hk⟩ := x.done
  have noA : ∀ b : Addr, b ∉ (cxOf CX P w K mg base N qual scope f cd A outer s H E).ex := fun b z => absurd (show b ∈ ([] : List Addr) from z) (by simp)
  refine ⟨⟨e0.mod, S.kind, rfl, rfl, Nat.le_refl _, fun y z c h1 h2 => ?_, fun y hy => ?_, fun y c _ h => ?_, fun _ => hd, Around.frames_deeper e0.frames, .inr ⟨rfl, rfl⟩, fun b z => absurd z (noA b), e0.bs, e0.bsz, fun b _ _ => noA b, fun b z => absurd z (noA b), e0.funs, e0.frf⟩,
    rfl, e0.bare, Un.kept hk, ⟨_, x.toInCall.ns, fun i y v h1 h2 h3 => ?_⟩, fun y c h => ⟨_, x.cell y c h⟩, e0.hok.fresh (Nat.le_refl _), fun y c h => ?_, fun p hp => absurd (show p ∈ ([] : List (Addr × Obj)) from hp) (by simp), e0.hok.kept hk, ?_⟩
  · exact name_of_addr x.apart (PySem.mem_of_lookup h1) (PySem.mem_of_lookup h2)
  · have hy : scope.names.lookup y = some .cell ∨ scope.names.lookup y = some .free := hy
    rcases hy with hy | hy
    · exact cell_has hy
    · exact absurd rfl (S.nofree _ (PySem.mem_of_lookup hy))
  · exact Nat.le_of_lt (x.above y c (PySem.mem_of_lookup h))
  · have hi : i < vs.length := by
      unfold start at h2
      by_cases hi : i < vs.length
      · exact hi
      · rw [List.getElem?_append_right (by simpa using hi)] at h2
        rw [List.getElem?_replicate] at h2
        split at h2 <;> cases h2
    have ha : vs[i]? = some v := by
      unfold start at h2
      rw [List.getElem?_append_left (by simpa using hi), List.getElem?_map] at h2
      cases e : vs[i]? with
      | none => rw [e] at h2; cases h2
      | some a => rw [e] at h2; cases h2; rfl
    obtain ⟨u, hu, rv⟩ := r.get ha
    have hp : ps[i]? = some y := by
      rw [← S.pre, List.getElem?_take_of_lt (by omega)]; exact h1
    have ndP : ps.Nodup := by rw [← S.pre]; exact S.nd.sublist (List.take_sublist _ _)
    refine ⟨u, rv, ?_⟩
    rcases S.par y (List.mem_of_getElem? hp) with k | k
    · exact .inl ⟨k, bindL_get ndP hp hu k⟩
    · obtain ⟨c, e⟩ := cell_has (n := s.heap.objs.size + 1) k
      refine .inr ⟨.inl k, c, e, ?_⟩
      have q := x.cell y c e
      rw [bindC_get ndP hp hu (by show scope.names.lookup y ≠ _; rw [k]; decide)] at q
      exact q
  · exact e0.hok.fresh (Nat.le_of_lt (x.above y c (PySem.mem_of_lookup h)))
  · unfold start
    show _ = N.length
    rw [List.length_append, List.length_map, List.length_replicate]
    omega

/-- THE RULE: a def (or a method) of the text, by its body. The body's reading t is chosen for each entry; it is run at the parameters' values -/
theorem fn_of {CX : CXT} {P : Program} {w : World} {K : PySem.W.Frag} {mg : Str → Option Value} {base : Heap} {k : Nat} {f : Addr} {name qual : Str} {params : Arguments} {body : List Stmt} {scope : Scope} {dV kV doc pm cdv ct oc : Value} {an od : Option Addr}
    {osl : Array (Option Value)} {N ps : List Str} {sp : Sp} (lk : K.lookup f = some ⟨oc, od, .func (PySem.W.fnOf name qual params body scope dV kV doc pm an cdv ct), osl⟩) (hcd : PySem.W.codeIn K cdv qual = true) (S : FnScope N ps scope)
    (len : ∀ vs H Q E, sp vs H Q E → vs.length = ps.length)
    (hbody : ∀ (A : Around) (outer : List Env) (s : Shared) (H : Hp) (vs : List V) (Q : VK) (E : XK), Room k (A.deeper (envOfC qual scope s.heap.objs.size f cdv)) → sp vs H Q E →
      ∃ t, PSs (cxOf CX P w K mg base N qual scope f cdv A outer s H E) body t ∧ t { nx := fun _ H' => Q .non H', rt := Q } (start N vs) H) :
    FnOk P w K mg base CX (k + 1) f (PySem.W.fnOf name qual params body scope dV kV doc pm an cdv ct) ps sp := by
  refine ⟨len, fun A outer s H args us vs Q E hr e0 hb r hsp => ?_⟩
  have hl := len _ _ _ _ hsp
  have KX : K.In s.heap := e0.mod.kin.keeps fun b o e => (e0.bs b o e).1
  have lim : s.heap.NoLimit := e0.mod.nolimit.keeps fun b o e => (e0.bs b o e).1
  have hkind : ∀ y ∈ ps.zip us, scope.names.lookup y.1 = some .local ∨ (scope.names.lookup y.1 = some .cell ∧ ((cellsFrom (s.heap.objs.size + 1) scope.names []).lookup y.1).isSome = true) := fun ⟨n, v⟩ hy => by
    rcases S.par n (List.of_mem_zip hy).1 with q | q
    · exact .inl q
    · exact .inr ⟨q, PySem.W.cellsFrom_some _ _ _ (.inl q)⟩
  refine codeAny_call_function hr.depth (KX _ _ lk) rfl S.co S.gen rfl (PySem.W.codeRec_of KX hcd) (hb _ _ _ _ ?_)
  refine wpAny_newFunctionEnv_cells S.kind hkind fun env he s1 x => ?_
  subst he
  refine ⟨lim.keeps x.toInCall.keep, codeAny_func ?_⟩
  obtain ⟨t, ht, hq⟩ := hbody A outer s H vs Q E (hr.deeper _) hsp
  have I : Inv (cxOf CX P w K mg base N qual scope f cdv A outer s H E) [] (start N vs) H s1 := inv_start S hr.hd e0 hl r x
  refine wpAny_mono (ht [] s1 (start N vs) H _ I hq) (fun fl s' hs => ?_) fun e s' hs => hs
  have fin : ∀ {σ' : St} {H' : Hp} {v : V} {u : Value}, Inv (cxOf CX P w K mg base N qual scope f cdv A outer s H E) [] σ' H' s' → RelV v u → Q v H' → CE outer P w H s Q u s' :=
    fun {σ' H' v u} J rv q => ⟨v, H', J.os, J.bare, J.base, J.hok, rv, q⟩
  cases fl with
  | ret u =>
    obtain ⟨v, σ', H', J, rv, q⟩ := hs
    exact fin J rv q
  | next =>
    obtain ⟨σ', H', J, q⟩ := hs
    exact fin (v := V.non) (u := Value.none) J rfl q
  | brk =>
    obtain ⟨_, _, _, q⟩ := hs
    exact False.elim q
  | cont =>
    obtain ⟨_, _, _, q⟩ := hs
    exact False.elim q
end L2

namespace L2
open PySem PySem.Spec PyProof.Rows
section
variable {X : Cx} {x : Str} {p pos : Pos} {e : Expr} {es : List Expr} {t : TA} {id T : String} {r : List V → Hp → VK → Prop}

def tCB (r : List V → Hp → VK → Prop) (t : TA) : TE := fun σ H Q => t σ H fun vs H1 => r vs H1 Q
/-- f(e, ..), f a built-in function -/
theorem pe_callB (hc : CallR X (.builtin id) r) (hg : Gl X x) (hm : X.mg x = none) (hv : bootBuiltins x = some (.builtin id)) (ha : PA X (e :: es) t) (hn : x ≠ "__name__" := by decide) (hdb : (x == ("__debug__" : Str)) = false := by decide)
    (he : starEach (e :: es) X.env = (false, eval e X.env) :: starEach es X.env := by rfl) (hpl : (backTo pos (starEach es X.env)).any (·.1) = false := by rfl) : PE X (.Call (.Name x p) (e :: es) [] pos) (tCB r t) := by
  intro pins s σ H Q I h
  refine wpAny_Call_Name_kw (ld_blt I hg hm hv ?_ hn hdb)
  exact PyProof.Rows.callWith_builtin1 (thn (ha pos pins s σ H _ I h) fun us s1 ⟨vs, H1, I1, r1, q1⟩ => hc pins s1 σ H1 vs us Q I1 r1 q1) he hpl
/-- T(e, ..), T a built-in type -/
theorem pe_callTy (hc : CallR X (.type T) r) (hg : Gl X x) (hm : X.mg x = none) (hv : bootBuiltins x = some (.type T)) (ha : PA X (e :: es) t) (hn : x ≠ "__name__" := by decide) (hdb : (x == ("__debug__" : Str)) = false := by decide)
    (he : starEach (e :: es) X.env = (false, eval e X.env) :: starEach es X.env := by rfl) (hpl : (backTo pos (starEach es X.env)).any (·.1) = false := by rfl) : PE X (.Call (.Name x p) (e :: es) [] pos) (tCB r t) := by
  intro pins s σ H Q I h
  refine wpAny_Call_Name_kw (ld_blt I hg hm hv ?_ hn hdb)
  exact PyProof.Rows.callWith_type1 (thn (ha pos pins s σ H _ I h) fun us s1 ⟨vs, H1, I1, r1, q1⟩ => hc pins s1 σ H1 vs us Q I1 r1 q1) he hpl
end
end L2

namespace HT
open PySem PyProof.Rows

section
open PySem.SeqAt
open PySem.AutoSeq1 (wpAny_loadPart')
open PySem.MeetsSeq PySem.MeetsSeq2 PySem.MeetsSeq3

end

section
variable {prog : Program} {w : World} {A : Around} {E : Value → Shared → Prop} {s : Shared}

/-- a slice's bound as a place among n (d where it is left out) -/
def sIx (n d : Nat) : Option Int → Nat
  | none => d
  | some v => if v < 0 then (v + (n : Int)).toNat else min v.toNat n
theorem sIx_none (n d : Nat) : sIx n d none = d := rfl
theorem sIx_nat (n d k : Nat) : sIx n d (some (k : Int)) = min k n := by
  show (if (k : Int) < 0 then ((k : Int) + (n : Int)).toNat else min (k : Int).toNat n) = min k n
  rw [if_neg (by omega), Int.toNat_natCast]
theorem sIx_le (n d : Nat) (hd : d ≤ n) (o : Option Int) : sIx n d o ≤ n := by
  cases o with
  | none => exact hd
  | some v =>
    show (if v < 0 then (v + (n : Int)).toNat else min v.toNat n) ≤ n
    by_cases hv : v < 0
    · rw [if_pos hv]; omega
    · rw [if_neg hv]; exact Nat.min_le_right _ _
theorem clip_eq (v : Int) (n d : Nat) : (if v < 0 then max (v + (n : Int)) 0 else min v (n : Int)) = ((sIx n d (some v) : Nat) : Int) := by
  show (if v < 0 then max (v + (n : Int)) 0 else min v (n : Int)) = (((if v < 0 then (v + (n : Int)).toNat else min v.toNat n) : Nat) : Int)
  by_cases hv : v < 0
  · simp only [if_pos hv]; omega
  · simp only [if_neg hv]; omega
theorem adjust_gen (lo hi : Option Int) (n : Nat) : Builtin.Slice.sliceAdjust lo hi 1 (n : Int) = (((sIx n 0 lo : Nat) : Int), ((sIx n n hi : Nat) : Int)) := by
  have h1 : ¬ ((1 : Int) < 0) := by omega
  unfold Builtin.Slice.sliceAdjust
  simp only [h1, if_false]
  refine Prod.ext ?_ ?_
  · cases lo with
    | none => rfl
    | some v => exact clip_eq v n 0
  · cases hi with
    | none => rfl
    | some v => exact clip_eq v n n
theorem places_gen (i j : Nat) : Builtin.Slice.slicePlaces (i : Int) (j : Int) 1 = j - i := by
  unfold Builtin.Slice.slicePlaces
  have h1 : (1 : Int) > 0 := by omega
  simp only [h1, if_true, Int.ediv_one]
  split <;> omega
theorem slicePart_ {v : Value} {o : Option Int} {Q : Option Int → Shared → Prop} (p : IsPart v o) (h : Q o s) : wpAny (model prog w) A (Builtin.Slice.slicePartIndex v) Q E s := by
  cases p with
  | none => exact slicePart_none h
  | int i t => exact slicePart_int h
theorem sliceApplied_gen {sl : Addr} {vl vu : Value} {lo hi : Option Int} {n : Nat} {Q : Int × Int × Nat → Shared → Prop} (hs : s.heap.IsSliceOf sl vl vu .none) (pl : IsPart vl lo) (pu : IsPart vu hi)
    (h : Q (((sIx n 0 lo : Nat) : Int), 1, sIx n n hi - sIx n 0 lo) s) : wpAny (model prog w) A (Builtin.Slice.sliceApplied (.ref sl) (pure (n : Int))) Q E s := by
  obtain ⟨os, hos, hcs, hds⟩ := id hs
  unfold Builtin.Slice.sliceApplied Builtin.Slice.sliceFields
  refine wpAny_bind (wpAny_bind (wpAny_field hos hds (x := vl) rfl (wpAny_bind (wpAny_field hos hds (x := vu) rfl (wpAny_bind (wpAny_field hos hds (x := .none) rfl (wpAny_pure ?_)))))))
  refine wpAny_bind (slicePart_none ?_)
  show wpAny _ _ (if ((1 : Int) == 0) = true then _ else _) _ _ s
  rw [if_neg (by decide)]
  refine wpAny_bind (slicePart_ pl (wpAny_bind (slicePart_ pu (wpAny_bind (wpAny_pure ?_)))))
  show wpAny _ _ (match Builtin.Slice.sliceAdjust lo hi 1 (n : Int) with | (lo, hi) => pure (lo, (1 : Int), Builtin.Slice.slicePlaces lo hi 1)) _ _ s
  rw [adjust_gen lo hi n]
  show wpAny _ _ (pure (((sIx n 0 lo : Nat) : Int), (1 : Int), Builtin.Slice.slicePlaces ((sIx n 0 lo : Nat) : Int) ((sIx n n hi : Nat) : Int) 1)) _ _ s
  rw [places_gen]
  exact wpAny_pure h
theorem pick_gen (xs : Array Value) (i k : Nat) : ((List.range k).filterMap fun (m : Nat) => xs[((i : Int) + (m : Int) * 1).toNat]?).toArray = ((xs.toList.drop i).take k).toArray := by
  have e : (fun (m : Nat) => xs[((i : Int) + (m : Int) * 1).toNat]?) = fun m => xs[i + m]? := by
    funext m
    have : ((i : Int) + (m : Int) * 1).toNat = i + m := by omega
    rw [this]
  rw [e]
  have := pick_run xs i k
  rw [List.filterMap_map] at this
  have e2 : ((fun x => xs[x]?) ∘ fun x => i + x) = fun m => xs[i + m]? := rfl
  rw [e2] at this
  rw [this]

theorem getItem_tuple_cut {t sl : Addr} {items : Array Value} {vl vu : Value} {lo hi : Option Int} {Q : Value → Shared → Prop} (ht : IsTup s.heap t items) (hs : s.heap.IsSliceOf sl vl vu .none) (pl : IsPart vl lo) (pu : IsPart vu hi)
    (hw : ¬ (sIx items.size 0 lo = 0 ∧ sIx items.size items.size hi = items.size))
    (h : Q (.ref s.heap.objs.size) { s with heap := s.heap.push { cls := .type "tuple", data := .seq ((items.toList.drop (sIx items.size 0 lo)).take (sIx items.size items.size hi - sIx items.size 0 lo)).toArray } })
    (hsz : items.size ≤ sizeLine) : wpAny (model prog w) A (getItem (.ref t) (.ref sl)) Q E s := by
  have htake : sizeOk (.seq ((items.toList.drop (sIx items.size 0 lo)).take (sIx items.size items.size hi - sIx items.size 0 lo)).toArray) := by
    show ((items.toList.drop (sIx items.size 0 lo)).take (sIx items.size items.size hi - sIx items.size 0 lo)).toArray.size ≤ sizeLine
    rw [List.size_toArray, List.length_take, List.length_drop, Array.length_toList]
    omega
  have hj : sIx items.size items.size hi ≤ items.size := sIx_le _ _ (Nat.le_refl _) hi
  obtain ⟨os, hos, hcs, hds⟩ := id hs
  have hTs : s.TypeIs (.ref sl) "slice" := ⟨os, hos, hcs⟩
  unfold getItem
  try with_reducible refine wpAny_holding ?_
  first | refine wpAny_bind (wpAny_pure ?_) | skip
  refine wpAny_bind (wpAny_sequenceKey ht.typeIs (by decide) ?_)
  refine wpAny_bind (wpAny_callSpecial?_slot (name := Str.ofString "__getitem__") ht.typeIs PyProof.Rows.slot_tuple_getitem
    (wpAny_call_entry PyProof.Rows.slot_tuple_getitem ht.typeIs entry_tuple_getitem ?_ (args_tuple_getitem _ _)))
  show wpAny _ _ (Builtin.Tuple.tupleItemsOf (.ref t) >>= _) _ _ s
  refine wpAny_bind (tupleItemsOf_ ht ?_)
  refine wpAny_bind (wpAny_typeOf hTs ?_)
  rw [if_pos (by decide)]
  refine wpAny_bind (sliceApplied_gen hs pl pu ?_)
  have hno : ¬ ((((sIx items.size 0 lo : Nat) : Int) == 0 && (1 : Int) == 1 && (sIx items.size items.size hi - sIx items.size 0 lo) == items.size) = true) := by
    intro q
    rw [Bool.and_eq_true, Bool.and_eq_true] at q
    have q1 : ((sIx items.size 0 lo : Nat) : Int) = 0 := eq_of_beq q.1.1
    have q2 : sIx items.size items.size hi - sIx items.size 0 lo = items.size := eq_of_beq q.2
    exact hw ⟨by omega, by omega⟩
  show wpAny _ _ (if (((sIx items.size 0 lo : Nat) : Int) == 0 && (1 : Int) == 1 && (sIx items.size items.size hi - sIx items.size 0 lo) == items.size) = true then _ else _) _ _ s
  rw [if_neg hno, pick_gen]
  first
    | exact wpAny_bind (m := Builtin.Tuple.tupleExact _) (wpAny_newObj_type (wpAny_pure ⟨_, rfl, wpAny_pure h⟩) htake)
    | exact wpAny_bind (m := Builtin.Tuple.tupleExact _) (wpAny_newObj_type (wpAny_bind (wpAny_pure (wpAny_pure ⟨_, rfl, wpAny_pure h⟩))) htake)
    | exact wpAny_bind (wpAny_bind (m := Builtin.Tuple.tupleExact _) (wpAny_newObj_type (wpAny_pure (wpAny_pure ⟨_, rfl, wpAny_pure h⟩)) htake))
    | exact wpAny_bind (wpAny_bind (m := Builtin.Tuple.tupleExact _) (wpAny_newObj_type (wpAny_pure ⟨_, rfl, wpAny_pure h⟩) htake))
end
end HT

namespace L2
open PySem PySem.Spec PyProof.Rows

abbrev TO := St → Hp → (Option Int → Hp → Prop) → Prop
/-- a slice's part (left out, or an int) -/
def PO (X : Cx) (e : Option Expr) (t : TO) : Prop :=
  ∀ (pins : List (Addr × Obj)) (s : Shared) (σ : St) (H : Hp) (Q : Option Int → Hp → Prop), Inv X pins σ H s → t σ H Q →
    wpAny (model X.prog X.w) X.A (evalPart e X.env) (fun u s' => ∃ o H', Inv X pins σ H' s' ∧ IsPart u o ∧ Q o H') X.xe s
def tNoPart : TO := fun _ H Q => Q none H
def tPart (t : TE) : TO := fun σ H Q => t σ H fun x H1 => ∃ i, x = .int i ∧ Q (some i) H1

section
variable {X : Cx} {e : Expr} {te : TE} {lo hi : Option Expr} {tl th : TO} {pos p2 : Pos}

theorem po_none : PO X none tNoPart := by
  intro pins s σ H Q I h
  rw [evalPart_none]
  exact wpAny_pure ⟨none, H, I, .none, h⟩
theorem po_some (h : PE X e te) : PO X (some e) (tPart te) := by
  intro pins s σ H Q I hw
  rw [evalPart_some]
  refine thn (h pins s σ H _ I hw) fun u s1 ⟨x, H1, I1, r1, q1⟩ => ?_
  obtain ⟨i, rfl, q⟩ := q1
  obtain ⟨t, rfl⟩ := r1
  exact ⟨some i, H1, I1, .int i t, q⟩

/-- what a slice of a value is, by values: the slice object stands at sl -/
def SlR (X : Cx) (r : V → Option Int → Option Int → Hp → VK → Prop) : Prop :=
  ∀ (pins : List (Addr × Obj)) (s : Shared) (σ : St) (H : Hp) (x : V) (v vl vu : Value) (lo hi : Option Int) (sl : Addr) (Q : VK), Inv X pins σ H s → RelV x v → s.heap.IsSliceOf sl vl vu .none → IsPart vl lo → IsPart vu hi → r x lo hi H Q →
    ∃ T id, typeLookup (.type T) "__getitem__" = pure (some (.builtin id)) ∧ s.TypeIs v T ∧ wpAny (model X.prog X.w) X.A (getItem v (.ref sl)) (EP X pins σ Q) X.xe s
theorem SlR.or {r r' : V → Option Int → Option Int → Hp → VK → Prop} (h : SlR X r) (h' : SlR X r') : SlR X (fun x lo hi H Q => r x lo hi H Q ∨ r' x lo hi H Q) := by
  intro pins s σ H x v vl vu lo hi sl Q I rx hs pl pu q
  rcases q with q | q
  · exact h pins s σ H x v vl vu lo hi sl Q I rx hs pl pu q
  · exact h' pins s σ H x v vl vu lo hi sl Q I rx hs pl pu q
def tSl (r : V → Option Int → Option Int → Hp → VK → Prop) (te : TE) (tl th : TO) : TE := fun σ H Q => te σ H fun x H1 => tl σ H1 fun l H2 => th σ H2 fun u H3 => r x l u H3 Q
/-- a[lo:hi], any a -/
theorem pe_slice {r : V → Option Int → Option Int → Hp → VK → Prop} (hr : SlR X r) (he : PE X e te) (hl : PO X lo tl) (hu : PO X hi th) : PE X (.Subscript e (.Slice lo hi none p2) pos) (tSl r te tl th) := by
  intro pins s σ H Q I h
  refine Subscript_ (thn (he pins s σ H _ I h) fun v s1 ⟨x, H1, I1, r1, q1⟩ => ?_)
  refine wpAny_Slice (thn (hl pins s1 σ H1 _ I1 q1) fun vl s2 ⟨l, H2, I2, pl, q2⟩ => thn (hu pins s2 σ H2 _ I2 q2) fun vu s3 ⟨u, H3, I3, pu, q3⟩ => ?_)
  rw [evalPart_none]
  refine wpAny_pure ?_
  have I4 : Inv X pins σ H3 { s3 with heap := s3.heap.push { cls := .type "slice", data := .fields #[vl, vu, .none] } } := I3.kept (t' := s3.toks) fun b ob q => Heap.get?_push_of_some _ q
  obtain ⟨T, id, hT, ht, hg⟩ := hr pins { s3 with heap := s3.heap.push { cls := .type "slice", data := .fields #[vl, vu, .none] } } σ H3 x v vl vu l u s3.heap.objs.size Q I4 r1 (Heap.IsSliceOf.new ..) pl pu q3
  show wpAny (model X.prog X.w) X.A (subscriptTail e (.Slice lo hi none p2) v (.ref s3.heap.objs.size)) (EP X pins σ Q) X.xe { s3 with heap := s3.heap.push { cls := .type "slice", data := .fields #[vl, vu, .none] } }
  exact tail_any (ops := [.ref s3.heap.objs.size, v]) ht hT hg (by with_unfolding_all rfl)

/-- the items of xs[lo:hi] -/
def cutV (xs : List V) (lo hi : Option Int) : List V := (xs.drop (HT.sIx xs.length 0 lo)).take (HT.sIx xs.length xs.length hi - HT.sIx xs.length 0 lo)
theorem cutV_length (xs : List V) (lo hi : Option Int) : (cutV xs lo hi).length ≤ xs.length := by
  unfold cutV
  rw [List.length_take, List.length_drop]
  omega
/-- t[lo:hi], not the whole of it (the whole would be t itself) -/
def rSlT (K : PySem.W.Frag) : V → Option Int → Option Int → Hp → VK → Prop := fun x lo hi H Q => ∃ a xs, x = .ref a ∧ SqT K H a xs ∧
  ¬ (HT.sIx xs.length 0 lo = 0 ∧ HT.sIx xs.length xs.length hi = xs.length) ∧ ∀ p, H p = none → Q (.ref p) (upd H p (.tup (cutV xs lo hi)))
theorem sl_tup : SlR X (rSlT X.K) := by
  intro pins s σ H x v vl vu lo hi sl Q I rx hs pl pu h
  obtain ⟨a, xs, rfl, hx, hw, q⟩ := h
  cases rx
  obtain ⟨its, r, ht, hz⟩ := I.tuple hx
  have hlen : its.toArray.size = xs.length := by rw [List.size_toArray]; exact r.length.symm
  refine ⟨"tuple", _, PyProof.Rows.slot_tuple_getitem.lookup, ht.typeIs, ?_⟩
  refine HT.getItem_tuple_cut ht hs pl pu (by rw [hlen]; exact hw) ?_ (by rw [hlen]; exact hz)
  rw [hlen]
  refine ⟨.ref s.heap.objs.size, _, I.laid (t' := s.toks) (o := .tup (cutV xs lo hi)) (fun b ob q => Heap.get?_push_of_some _ q) (Nat.le_refl _) ?_, rfl, q _ (I.hok.fresh (Nat.le_refl _))⟩
  exact ⟨Nat.le_trans (cutV_length xs lo hi) hz, _, (r.drop (HT.sIx xs.length 0 lo)).take (HT.sIx xs.length xs.length hi - HT.sIx xs.length 0 lo), IsTup.new _ _⟩

end
end L2

namespace L2
open PySem PySem.Spec PyProof.Rows

/-- the place that an index of any sign means -/
def ixN (n : Nat) (i : Int) : Option Nat := if 0 ≤ i then (if i < n then some i.toNat else none) else if -(n : Int) ≤ i then some (i + n).toNat else none
def atI {α : Type} (xs : List α) (i : Int) : Option α := (ixN xs.length i).bind fun j => xs[j]?
theorem ixN_seq {n : Nat} {i : Int} {j : Nat} (h : ixN n i = some j) : seqIndex? i n = some j ∧ j < n ∧ -(n : Int) ≤ i ∧ i < n := by
  unfold ixN at h
  by_cases h0 : 0 ≤ i
  · rw [if_pos h0] at h
    by_cases h1 : i < n
    · rw [if_pos h1] at h
      have e : i.toNat = j := Option.some.inj h
      exact ⟨by rw [seqIndex_of h0 h1, e], by omega, by omega, h1⟩
    · rw [if_neg h1] at h; cases h
  · rw [if_neg h0] at h
    by_cases h1 : -(n : Int) ≤ i
    · rw [if_pos h1] at h
      have e : (i + n).toNat = j := Option.some.inj h
      exact ⟨by rw [seqIndex_neg (by omega) h1, e], by omega, h1, by omega⟩
    · rw [if_neg h1] at h; cases h
theorem atI_get {α : Type} {xs : List α} {i : Int} {v : α} (h : atI xs i = some v) : ∃ j, seqIndex? i xs.length = some j ∧ xs[j]? = some v ∧ j < xs.length ∧ -(xs.length : Int) ≤ i ∧ i < xs.length := by
  unfold atI at h
  cases e : ixN xs.length i with
  | none => rw [e] at h; cases h
  | some j =>
    rw [e] at h
    obtain ⟨h1, h2, h3, h4⟩ := ixN_seq e
    exact ⟨j, h1, h, h2, h3, h4⟩
theorem atI_nat {α : Type} {xs : List α} {j : Nat} {v : α} (h : xs[j]? = some v) : atI xs (j : Int) = some v := by
  have hj : j < xs.length := (List.getElem?_eq_some_iff.mp h).1
  have e : ixN xs.length (j : Int) = some j := by
    unfold ixN
    rw [if_pos (by omega), if_pos (by omega)]; simp
  unfold atI; rw [e]; exact h
/-- what stands as an index of a plain subscript -/
def PlainIx (b : Expr) : Prop := ∀ o i, subscripted b false o i = operate [o, i] (getItem o i)
/-- a subscript by values -/
def IxR (X : Cx) (r : R2) : Prop :=
  ∀ (value slice : Expr) (pins : List (Addr × Obj)) (s : Shared) (σ : St) (H : Hp) (x y : V) (v u : Value) (Q : VK), Inv X pins σ H s → RelV x v → RelV y u → r x y H Q →
    subscripted slice false v u = operate [v, u] (getItem v u) → wpAny (model X.prog X.w) X.A (subscriptTail value slice v u) (EP X pins σ Q) X.xe s
/-- a call of a builtin's method by values: the receiver, the arguments -/
def MtR (X : Cx) (id : String) (r : V → List V → Hp → VK → Prop) : Prop :=
  ∀ (pins : List (Addr × Obj)) (s : Shared) (σ : St) (H : Hp) (x : V) (xs : List V) (v : Value) (us : List Value) (Q : VK), Inv X pins σ H s → RelV x v → Vals xs us → r x xs H Q →
    wpAny (model X.prog X.w) X.A (call (.builtin id) (v :: us)) (EP X pins σ Q) X.xe s
section
variable {X : Cx} {a b : Expr} {ta tb : TE} {pos : Pos}
theorem IxR.or {r r' : R2} (h : IxR X r) (h' : IxR X r') : IxR X (fun x y H Q => r x y H Q ∨ r' x y H Q) := by
  intro value slice pins s σ H x y v u Q I rx ry q hs
  rcases q with q | q
  · exact h value slice pins s σ H x y v u Q I rx ry q hs
  · exact h' value slice pins s σ H x y v u Q I rx ry q hs
/-- a[b] -/
theorem pe_ix {r : R2} (hr : IxR X r) (ha : PE X a ta) (hb : PE X b tb) (hs : PlainIx b) : PE X (.Subscript a b pos) (tOp r ta tb) := by
  intro pins s σ H Q I h
  exact Subscript_ (binT ha hb I h fun v u s2 x y H2 I2 rx ry q => hr a b pins s2 σ H2 x y v u Q I2 rx ry q (hs _ _))

def rIxL (K : PySem.W.Frag) : R2 := fun x y H Q => ∃ p xs i v, x = .ref p ∧ y = .int i ∧ SqL K H p xs ∧ atI xs i = some v ∧ Q v H
def rIxT (K : PySem.W.Frag) : R2 := fun x y H Q => ∃ p xs i v, x = .ref p ∧ y = .int i ∧ SqT K H p xs ∧ atI xs i = some v ∧ Q v H
def rIxS : R2 := fun x y H Q => ∃ z i c, x = .str z ∧ y = .int i ∧ z.length ≤ sizeLine ∧ atI z.cps.toList i = some c ∧ Q (.str ⟨#[c]⟩) H
theorem ix_list : IxR X (rIxL X.K) := by
  intro value slice pins s σ H x y v u Q I rx ry h hs
  obtain ⟨p, xs, i, z, rfl, rfl, hq, he, q⟩ := h
  cases rx
  obtain ⟨t, rfl⟩ := ry
  obtain ⟨its, r, pl, hz⟩ := I.list hq
  obtain ⟨j, h1, h2, h3, h4, h5⟩ := atI_get he
  obtain ⟨w, ew, rw'⟩ := r.get h2
  have hl := r.length
  have hn := line63
  have fin : EP X pins σ Q w s := ⟨z, H, I, rw', q⟩
  by_cases h0 : 0 ≤ i
  · have hj : i.toNat = j := by
      rw [seqIndex_of h0 h5] at h1
      exact Option.some.inj h1
    exact item_listR pl.isList h0 (by omega) (by rw [hj]; simpa using ew) fin hs
  · have hj : (i + (its.toArray.size : Int)).toNat = j := by
      rw [seqIndex_neg (by omega) h4] at h1
      rw [List.size_toArray, ← hl]
      exact Option.some.inj h1
    exact subscriptTail_builtinR (x := w) pl.isList.typeIs slot_list_getitem.lookup
      (wpAny_getItem_list_neg (Q := fun r s' => r = w ∧ EP X pins σ Q r s') pl.isList (by omega) (by rw [List.size_toArray] <;> omega) (by omega) (by rw [hj]; simpa using ew) ⟨rfl, fin⟩) hs
theorem ix_tup : IxR X (rIxT X.K) := by
  intro value slice pins s σ H x y v u Q I rx ry h hs
  obtain ⟨p, xs, i, z, rfl, rfl, hq, he, q⟩ := h
  cases rx
  obtain ⟨t, rfl⟩ := ry
  obtain ⟨its, r, pl, hz⟩ := I.tuple hq
  obtain ⟨j, h1, h2, h3, h4, h5⟩ := atI_get he
  obtain ⟨w, ew, rw'⟩ := r.get h2
  have hl := r.length
  have hn := line63
  have fin : EP X pins σ Q w s := ⟨z, H, I, rw', q⟩
  exact subscriptTail_builtinR (x := w) pl.typeIs slot_tuple_getitem.lookup
    (getItem_tuple (j := j) (Q := fun r s' => r = w ∧ EP X pins σ Q r s') pl (by omega) (by omega) (by rw [List.size_toArray, ← hl]; exact h1) (by simpa using ew) ⟨rfl, fin⟩) hs
theorem ix_str : IxR X rIxS := by
  intro value slice pins s σ H x y v u Q I rx ry h hs
  obtain ⟨z, i, c, rfl, rfl, hz, he, q⟩ := h
  obtain ⟨t, rfl⟩ := rx
  obtain ⟨t', rfl⟩ := ry
  obtain ⟨j, h1, h2, h3, h4, h5⟩ := atI_get he
  have hl : z.cps.toList.length = z.length := by simp [Str.length]
  rw [hl] at h1 h4 h5
  have hn := line63
  exact tail_any (typeIs_str s z t) slot_str_getitem.lookup (getItem_str (c := c) (by
    have e1 : decide (i < -(2 ^ 63 : Int)) = false := decide_eq_false (by omega)
    have e2 : decide (i ≥ 2 ^ 63) = false := decide_eq_false (by omega)
    rw [e1, e2, Bool.or_false]) (by rw [h1]; simpa using h2) ⟨.str ⟨#[c]⟩, H, I.tok _, ⟨_, rfl⟩, q⟩) hs
/-- list, tuple or str -/
def rIx (K : PySem.W.Frag) : R2 := fun x y H Q => rIxL K x y H Q ∨ rIxT K x y H Q ∨ rIxS x y H Q
theorem ix_seq : IxR X (rIx X.K) := ix_list.or (ix_tup.or ix_str)

theorem slice_bounds (lo hi : Option Int) (n : Nat) : (sliceBounds lo hi none n).1 = ((HT.sIx n 0 lo : Nat) : Int) ∧ (sliceBounds lo hi none n).2.1 = ((HT.sIx n n hi : Nat) : Int) ∧ (sliceBounds lo hi none n).2.2 = 1 := by
  refine ⟨?_, ?_, rfl⟩
  · cases lo with
    | none => simp [sliceBounds, HT.sIx]
    | some i =>
      simp only [sliceBounds, HT.sIx, Option.getD_none, show (1 : Int) > 0 by decide, if_true]
      by_cases h : i < 0
      · simp only [h, if_true] <;> omega
      · simp only [h, if_false] <;> omega
  · cases hi with
    | none => simp [sliceBounds, HT.sIx]
    | some i =>
      simp only [sliceBounds, HT.sIx, Option.getD_none, show (1 : Int) > 0 by decide, if_true]
      by_cases h : i < 0
      · simp only [h, if_true] <;> omega
      · simp only [h, if_false] <;> omega
theorem slicePick_cut (its : List Value) (lo hi : Option Int) : slicePick its.toArray lo hi none = ((its.drop (HT.sIx its.length 0 lo)).take (HT.sIx its.length its.length hi - HT.sIx its.length 0 lo)).toArray := by
  obtain ⟨h1, h2, h3⟩ := slice_bounds lo hi its.toArray.size
  unfold slicePick
  rw [h1, h2, h3]
  simp only [sliceRange_one, pick_run, List.size_toArray] <;> rfl
/-- xs[lo:hi] of a list: a new list -/
def rSlL (K : PySem.W.Frag) : V → Option Int → Option Int → Hp → VK → Prop := fun x lo hi H Q => ∃ a xs, x = .ref a ∧ SqL K H a xs ∧ ∀ p, H p = none → Q (.ref p) (upd H p (.lst (cutV xs lo hi)))
theorem sl_list : SlR X (rSlL X.K) := by
  intro pins s σ H x v vl vu lo hi sl Q I rx hs pl pu h
  obtain ⟨a, xs, rfl, hx, q⟩ := h
  cases rx
  obtain ⟨its, r, ht, hz⟩ := I.list hx
  have hlen := r.length
  refine ⟨"list", _, slot_list_getitem.lookup, ht.isList.typeIs, ?_⟩
  refine wpAny_getItem_list_slice ht.isList hs pl pu .none (by simp) ?_ (by rw [List.size_toArray] <;> omega)
  rw [slicePick_cut, ← hlen]
  refine ⟨.ref s.heap.objs.size, _, I.laid (t' := s.toks) (o := .lst (cutV xs lo hi)) (fun b ob q => Heap.get?_push_of_some _ q) (Nat.le_refl _) ?_, rfl, q _ (I.hok.fresh (Nat.le_refl _))⟩
  exact ⟨Nat.le_trans (cutV_length xs lo hi) hz, _, 0, (r.drop (HT.sIx xs.length 0 lo)).take (HT.sIx xs.length xs.length hi - HT.sIx xs.length 0 lo), Heap.get?_push_size _ rfl⟩

def flatV : V → Bool
  | .non => true
  | .bl _ => true
  | .int _ => true
  | .str _ => true
  | _ => false
/-- == of flat values -/
def eqV : V → V → Bool
  | .non, .non => true
  | .bl a, .bl b => a == b
  | .bl a, .int b => (if a then 1 else 0) == b
  | .int a, .bl b => a == (if b then 1 else 0)
  | .int a, .int b => a == b
  | .str a, .str b => a == b
  | _, _ => false
theorem eqAt_V {A : Around} {s : Shared} {y x : V} {u v : Value} (ry : RelV y u) (rx : RelV x v) (fy : flatV y = true) (fx : flatV x = true) : SeqAt.EqAt A s u v (eqV y x) := by
  cases y with
  | non =>
    cases ry
    cases x with
    | non => cases rx; exact SeqAt.EqAt.same _
    | bl b => cases rx; exact SeqAt.EqAt.none_bool b
    | int b => obtain ⟨t, rfl⟩ := rx; exact SeqAt.EqAt.none_int b t
    | str b => obtain ⟨t, rfl⟩ := rx; exact SeqAt.EqAt.none_str b t
    | _ => exact absurd (show false = true from fx) Bool.false_ne_true
  | bl a =>
    cases ry
    cases x with
    | non => cases rx; exact SeqAt.EqAt.bool_none a
    | bl b => cases rx; exact SeqAt.EqAt.bool_bool a b
    | int b => obtain ⟨t, rfl⟩ := rx; exact SeqAt.EqAt.bool_int a b t
    | str b => obtain ⟨t, rfl⟩ := rx; exact SeqAt.EqAt.bool_str a b t
    | _ => exact absurd (show false = true from fx) Bool.false_ne_true
  | int a =>
    obtain ⟨t', rfl⟩ := ry
    cases x with
    | non => cases rx; exact SeqAt.EqAt.int_none a t'
    | bl b => cases rx; exact SeqAt.EqAt.int_bool a t' b
    | int b => obtain ⟨t, rfl⟩ := rx; exact SeqAt.EqAt.int_int a t' b t
    | str b => obtain ⟨t, rfl⟩ := rx; exact SeqAt.EqAt.int_str a t' b t
    | _ => exact absurd (show false = true from fx) Bool.false_ne_true
  | str a =>
    obtain ⟨t', rfl⟩ := ry
    cases x with
    | non => cases rx; exact SeqAt.EqAt.str_none a t'
    | bl b => cases rx; exact SeqAt.EqAt.str_bool a t' b
    | int b => obtain ⟨t, rfl⟩ := rx; exact SeqAt.EqAt.str_int a t' b t
    | str b => obtain ⟨t, rfl⟩ := rx; exact SeqAt.EqAt.str_str a t' b t
    | _ => exact absurd (show false = true from fx) Bool.false_ne_true
  | _ => exact absurd (show false = true from fy) Bool.false_ne_true
/-- the items' answers, read off the values (a value's own answer does not lean on its token) -/
def eqU (x : V) (u : Value) : Bool := match u with
  | .none => eqV .non x
  | .bool b => eqV (.bl b) x
  | .int i _ => eqV (.int i) x
  | .str z _ => eqV (.str z) x
  | _ => false
theorem eqU_of {x y : V} {u : Value} (r : RelV y u) (f : flatV y = true) : eqU x u = eqV y x := by
  cases y with
  | non => cases r; rfl
  | bl b => cases r; rfl
  | int i => obtain ⟨t, rfl⟩ := r; rfl
  | str z => obtain ⟨t, rfl⟩ := r; rfl
  | _ => exact absurd (show false = true from f) Bool.false_ne_true
theorem any_eqU {x : V} : ∀ {xs : List V} {us : List Value}, Vals xs us → xs.all flatV = true → us.any (eqU x) = xs.any fun y => eqV y x
  | _, _, .nil, _ => rfl
  | y :: xs, u :: us, .cons r t, f => by
    rw [List.all_cons, Bool.and_eq_true] at f
    rw [List.any_cons, List.any_cons, eqU_of r f.1, any_eqU t f.2]
theorem mem_eqAt {A : Around} {s : Shared} {x : V} {v : Value} (rx : RelV x v) (fx : flatV x = true) : ∀ {xs : List V} {us : List Value}, Vals xs us → xs.all flatV = true → ∀ u ∈ us, SeqAt.EqAt A s u v (eqU x u)
  | _, _, .nil, _ => fun u hu => by cases hu
  | y :: xs, u :: us, .cons r t, f => fun u' hu => by
    rw [List.all_cons, Bool.and_eq_true] at f
    rcases List.mem_cons.mp hu with rfl | hu
    · rw [eqU_of r f.1]; exact eqAt_V r rx f.1 fx
    · exact mem_eqAt rx fx t f.2 u' hu
def inV (x : V) (xs : List V) : Bool := xs.any fun y => eqV y x
/-- x in a list or tuple of flat items -/
def rIn (K : PySem.W.Frag) (neg : Bool) : R2 := fun x y H Q => ∃ p xs, y = .ref p ∧ (SqL K H p xs ∨ SqT K H p xs) ∧ flatV x = true ∧ xs.all flatV = true ∧ Q (.bl (if neg then !inV x xs else inV x xs)) H
theorem op_in_seq : OpR X (compareOp .In) (rIn X.K false) := by
  intro pins s σ H x y v u Q I rx ry h
  obtain ⟨p, xs, rfl, hq, fx, fs, q⟩ := h
  cases ry
  rcases hq with hq | hq
  · obtain ⟨its, r, pl, hz⟩ := I.list hq
    refine SeqAt.in_listAt (eqU x) pl.isList (fun w hw => mem_eqAt rx fx r fs w (by simpa using hw)) ⟨.bl _, H, I, rfl, ?_⟩
    rw [show its.toArray.any (eqU x) = its.any (eqU x) by simp, any_eqU r fs]
    exact q
  · obtain ⟨its, r, pl, hz⟩ := I.tuple hq
    refine SeqAt.in_tupleAt (eqU x) pl (fun w hw => mem_eqAt rx fx r fs w (by simpa using hw)) ⟨.bl _, H, I, rfl, ?_⟩
    rw [show its.toArray.any (eqU x) = its.any (eqU x) by simp, any_eqU r fs]
    exact q
theorem call_list_of : CallR X (.type "list") (fun xs H Q => ∃ p ys, xs = [.ref p] ∧ (SqL X.K H p ys ∨ SqT X.K H p ys) ∧ ∀ l, H l = none → Q (.ref l) (upd H l (.lst ys))) := by
  intro pins s σ H xs us Q I r h
  obtain ⟨p, ys, rfl, hq, q⟩ := h
  obtain ⟨u, rfl, rx⟩ := vals1 r
  cases rx
  have fin : ∀ (its : List Value), Vals ys its → ys.length ≤ sizeLine → ∀ (h' : Heap) (c' : Nat), (∀ b o', s.heap.get? b = some o' → h'.get? b = some o') →
      h'.get? s.heap.objs.size = some { cls := .type "list", dict := none, data := .seq its.toArray c', slots := #[] } → EP X pins σ Q (.ref s.heap.objs.size) { s with heap := h' } := fun its r' hz h' c' kp e =>
    ⟨.ref s.heap.objs.size, _, I.laid (t' := s.toks) kp (Nat.le_refl _) (show ObjOk X.prog X.w _ h' _ (.lst ys) from ⟨hz, its, c', r', e⟩), rfl, q _ (I.hok.fresh (Nat.le_refl _))⟩
  rcases hq with hq | hq
  · obtain ⟨its, r', pl, hz⟩ := I.list hq
    have hlen := r'.length
    obtain ⟨o, ho, hc, n, hd⟩ := pl.isList
    exact call_list_seq p (.inl rfl) ho hc hd (fun h' c' kp e => fin its r' hz h' c' kp e) (by simp only [List.size_toArray] <;> omega)
  · obtain ⟨its, r', pl, hz⟩ := I.tuple hq
    have hlen := r'.length
    obtain ⟨o, ho, hc, n, hd⟩ := pl
    exact call_list_seq p (.inr rfl) ho hc hd (fun h' c' kp e => fin its r' hz h' c' kp e) (by simp only [List.size_toArray] <;> omega)
theorem call_tuple_of : CallR X (.type "tuple") (fun xs H Q => ∃ p ys, xs = [.ref p] ∧ ((SqL X.K H p ys ∧ ∀ l, H l = none → Q (.ref l) (upd H l (.tup ys))) ∨ (SqT X.K H p ys ∧ Q (.ref p) H))) := by
  intro pins s σ H xs us Q I r h
  obtain ⟨p, ys, rfl, h⟩ := h
  obtain ⟨u, rfl, rx⟩ := vals1 r
  cases rx
  rcases h with ⟨hq, q⟩ | ⟨hq, q⟩
  · obtain ⟨its, r', pl, hz⟩ := I.list hq
    have hlen := r'.length
    refine call_tuple_list pl.isList (fun h' kp => ?_) (by simp only [List.size_toArray] <;> omega)
    have I1 : Inv X pins σ H { s with heap := h' } := I.kept (t' := s.toks) kp
    have I2 : Inv X pins σ (upd H h'.objs.size (.tup ys)) { s with heap := h'.push { cls := .type "tuple", data := .seq its.toArray } } :=
      I1.laid (t' := s.toks) (fun b o e => Heap.get?_push_of_some _ e) (Nat.le_refl _) (show ObjOk X.prog X.w _ _ _ (.tup ys) from ⟨hz, its, r', IsTup.new _ _⟩)
    exact ⟨.ref h'.objs.size, _, I2, rfl, q _ (I1.hok.fresh (Nat.le_refl _))⟩
  · obtain ⟨its, r', pl, hz⟩ := I.tuple hq
    exact call_tuple_same pl ⟨.ref p, H, I, rfl, q⟩

/-- the value is of that builtin type -/
def tyV (K : PySem.W.Frag) (T : String) (x : V) (H : Hp) : Prop := match x with
  | .str _ => T = "str"
  | .int _ => T = "int"
  | .ref p => (T = "list" ∧ ∃ xs, SqL K H p xs) ∨ (T = "tuple" ∧ ∃ o, K.lookup p = some o ∧ o.cls = .type "tuple" ∧ o.dict = none) ∨
      (T = "dict" ∧ ((∃ kvs, H p = some (.dK kvs)) ∨ ∃ kvs, H p = some (.dT kvs))) ∨ (T = "set" ∧ ∃ S n, H p = some (.set S n))
  | _ => False
theorem tyV_is {pins : List (Addr × Obj)} {σ : St} {H : Hp} {s : Shared} {T : String} {x : V} {v : Value} (I : Inv X pins σ H s) (r : RelV x v) (ty : tyV X.K T x H) :
    s.TypeIs v T ∧ ∀ a, v = .ref a → ∃ ob, s.heap.get? a = some ob ∧ ob.dict = none := by
  cases x with
  | str z =>
    obtain ⟨t, rfl⟩ := r
    cases (show T = "str" from ty)
    exact ⟨typeIs_str s z t, fun _ e => nomatch e⟩
  | int i =>
    obtain ⟨t, rfl⟩ := r
    cases (show T = "int" from ty)
    exact ⟨typeIs_int s i t, fun _ e => nomatch e⟩
  | ref p =>
    cases r
    rcases ty with ⟨rfl, xs, hq⟩ | ⟨rfl, o, hk, hc, hd⟩ | ⟨rfl, hk⟩ | ⟨rfl, S, n, hk⟩
    · obtain ⟨its, _, pl, _⟩ := I.list hq
      refine ⟨pl.isList.typeIs, fun a e => ?_⟩
      cases e
      obtain ⟨o, n, e, c, hd, _⟩ := pl
      exact ⟨o, e, hd⟩
    · refine ⟨⟨o, I.kIn p o hk, hc⟩, fun a e => ?_⟩
      cases e
      exact ⟨o, I.kIn _ o hk, hd⟩
    · have z : ∃ o, s.heap.get? p = some o ∧ o.ExactDict := by
        rcases hk with ⟨kvs, hk⟩ | ⟨kvs, hk⟩
        · obtain ⟨_, _, _, _, o, _, _, e, ex, _⟩ := I.hok p _ hk
          exact ⟨o, e, ex⟩
        · obtain ⟨_, _, _, _, o, _, _, e, ex, _⟩ := I.hok p _ hk
          exact ⟨o, e, ex⟩
      obtain ⟨o, e, ex⟩ := z
      refine ⟨⟨o, e, ex.1⟩, fun a e2 => ?_⟩
      cases e2
      exact ⟨o, e, ex.2.1⟩
    · obtain ⟨o, _, _, _, e, ex, _⟩ := I.hok p _ hk
      refine ⟨⟨o, e, ex.1⟩, fun a e2 => ?_⟩
      cases e2
      exact ⟨o, e, ex.2.1⟩
  | _ => exact False.elim ty
def tBM0 (K : PySem.W.Frag) (T : String) (r : V → List V → Hp → VK → Prop) (to : TE) : TE := fun σ H Q => to σ H fun x H1 => tyV K T x H1 ∧ r x [] H1 Q
def tBM (K : PySem.W.Frag) (T : String) (r : V → List V → Hp → VK → Prop) (to : TE) (t : TA) : TE := fun σ H Q => to σ H fun x H1 => tyV K T x H1 ∧ t σ H1 fun xs H2 => r x xs H2 Q
variable {o e : Expr} {es : List Expr} {to : TE} {t : TA} {name : Str} {apos cpos : Pos} {T id : String} {r : V → List V → Hp → VK → Prop}
theorem pe_bm0 (pa : PlainAttrs T) (slot : Slot T name id) (hty : typeOf (.builtin id) = pure (.type "method_descriptor")) (hm : MtR X id r) (ho : PE X o to)
    (hbase : attributeBase o name X.env (eval o X.env) = eval o X.env := by rfl) (hline : (apos.endLine == cpos.line) = true := by rfl) : PE X (.Call (.Attribute o name apos) [] [] cpos) (tBM0 X.K T r to) := by
  intro pins s σ H Q I h
  refine wpAny_Call_method0_late hbase hline (thn (ho pins s σ H _ I h) fun v s1 ⟨x, H1, I1, r1, ty, q1⟩ => ?_)
  obtain ⟨h1, h2⟩ := tyV_is I1 r1 ty
  exact ⟨T, id, pa, slot, hty, h1, h2, Calls.callWith_builtin rfl (PySem.evalArgs_none (hm pins s1 σ H1 x [] v [] Q I1 r1 .nil q1))⟩
theorem pe_bm (pa : PlainAttrs T) (slot : Slot T name id) (hty : typeOf (.builtin id) = pure (.type "method_descriptor")) (hm : MtR X id r) (ho : PE X o to) (ha : PA X (e :: es) t)
    (hbase : attributeBase o name X.env (eval o X.env) = eval o X.env := by rfl)
    (hfew : ((backTo cpos (starEach (e :: es) X.env)).all (fun x => !x.1) && (backToKw cpos (keywordEach [] X.env)).all (fun x => x.1.isSome)
      && decide ((e :: es).length + ([] : List Keyword).length + (if ([] : List Keyword).isEmpty then 0 else 1) < 30)) = true := by rfl)
    (hline : (apos.endLine == cpos.line) = true := by rfl) (hs : starEach (e :: es) X.env = (false, eval e X.env) :: starEach es X.env := by rfl) (hplain : (backTo cpos (starEach es X.env)).any (·.1) = false := by rfl) :
    PE X (.Call (.Attribute o name apos) (e :: es) [] cpos) (tBM X.K T r to t) := by
  intro pins s σ H Q I h
  refine wpAny_Call_method_late hbase hfew hline rfl (thn (ho pins s σ H _ I h) fun v s1 ⟨x, H1, I1, r1, ty, q1⟩ => ?_)
  obtain ⟨h1, h2⟩ := tyV_is I1 r1 ty
  refine ⟨T, id, pa, slot, hty, h1, h2, ?_⟩
  have hA := ha cpos pins s1 σ H1 _ I1 q1
  rw [hs] at hA ⊢
  refine Calls.callWith_builtin (by show (false || (backTo cpos (starEach es X.env)).any (·.1)) = false; rw [hplain] <;> rfl) (Calls.evalArgs_plain ?_)
  exact thn hA fun us s2 ⟨vs, H2, I2, r2, q2⟩ => hm pins s2 σ H2 x vs v us Q I2 r1 r2 q2
/- xs.append(e), list.index on a module's tuple .. are MtR facts of 06m -/
end
end L2

namespace L2
open PySem PySem.Spec PyProof.Rows

def MtM (X : Cx) (id : String) (r : V → List V → Hp → VK → Prop) : Prop :=
  ∀ (pins : List (Addr × Obj)) (s : Shared) (σ : St) (H : Hp) (x : V) (xs : List V) (v : Value) (us : List Value) (Q : VK), Inv X pins σ H s → RelV x v → Vals xs us → r x xs H Q →
    wpAny (model X.prog X.w) X.A (call (.builtin id) (v :: us)) (EP X pins σ Q) X.xe s

theorem Vals.one : ∀ {x : V} {us : List Value}, Vals [x] us → ∃ u, us = [u] ∧ RelV x u
  | _, _, .cons r .nil => ⟨_, rfl, r⟩
theorem Vals.zero : ∀ {us : List Value}, Vals [] us → us = []
  | _, .nil => rfl
theorem Vals.dropLast {xs : List V} {us : List Value} (h : Vals xs us) : Vals xs.dropLast us.dropLast := by
  induction h with
  | nil => exact .nil
  | cons r t ih =>
    cases t with
    | nil => exact .nil
    | cons q t' => exact .cons r ih
theorem erase_last {α : Type} (l : List α) : l.eraseIdx (l.length - 1) = l.dropLast := by
  induction l with
  | nil => rfl
  | cons a r ih =>
    cases r with
    | nil => rfl
    | cons b r =>
      have e : (a :: b :: r).length - 1 = ((b :: r).length - 1) + 1 := by
        have h1 : (a :: b :: r).length = r.length + 2 := rfl
        have h2 : (b :: r).length = r.length + 1 := rfl
        omega
      rw [e, List.eraseIdx_cons_succ, ih]
      all_goals rfl
section
variable {X : Cx} {pins : List (Addr × Obj)} {σ : St} {H : Hp} {s : Shared} {l b : Addr} {xs ys zs : List V}

theorem Inv.lset {its its' : List Value} {n : Nat} {f : Array Value → Array Value} {t' : Nat} (I : Inv X pins σ H s) (hH : H l = some (.lst xs))
    (e : s.heap.get? l = some { cls := .type "list", data := .seq its.toArray n }) (hf : f its.toArray = its'.toArray) (hv : Vals ys its') (hz : ys.length ≤ sizeLine) :
    Inv X pins σ (upd H l (.lst ys)) { s with heap := s.heap.update l (Obj.mapSeq f), toks := t' } := by
  have q := PySem.IsL.update e f
  rw [hf] at q
  refine I.write (x := l) (e := l) (by rw [hH]; exact trivial) (.inl rfl) (fun b' u hb hu => (Heap.get?_update_other s.heap (Obj.mapSeq f) (Ne.symm hb)).trans hu) ⟨_, q⟩ ?_
  exact ⟨hz, its', _, hv, q⟩
theorem Inv.lnew {its : List Value} {t' : Nat} (I : Inv X pins σ H s) (hv : Vals ys its) (hz : ys.length ≤ sizeLine) :
    Inv X pins σ (upd H s.heap.objs.size (.lst ys)) { s with heap := s.heap.push { cls := .type "list", data := .seq its.toArray }, toks := t' } :=
  I.laid (fun _ _ q => Heap.get?_push_of_some _ q) (Nat.le_refl _) ⟨hz, its, 0, hv, Heap.get?_push_size _ rfl⟩
theorem Inv.fresh (I : Inv X pins σ H s) : H s.heap.objs.size = none := I.hok.fresh (Nat.le_refl _)
theorem Inv.lstM (I : Inv X pins σ H s) (hH : H l = some (.lst xs)) : xs.length ≤ sizeLine ∧ ∃ (its : List Value) (n : Nat), Vals xs its ∧ xs.length = its.length ∧ s.heap.get? l = some { cls := .type "list", data := .seq its.toArray n } := by
  obtain ⟨z, its, n, r, e⟩ := I.hok l _ hH
  exact ⟨z, its, n, r, r.length, e⟩

end

section
variable {X : Cx}

def rAppend : V → List V → Hp → VK → Prop := fun x vs H Q => ∃ l xs y, x = .ref l ∧ vs = [y] ∧ H l = some (.lst xs) ∧ xs.length < sizeLine ∧ Q .non (upd H l (.lst (xs ++ [y])))
theorem mt_append : MtM X "list.append" rAppend := by
  intro pins s σ H x vs v us Q I rx rv h
  obtain ⟨l, xs, y, rfl, rfl, hH, hz, q⟩ := h
  cases rx
  obtain ⟨u, rfl, ru⟩ := rv.one
  obtain ⟨z, its, n, r, hl, e⟩ := I.lstM hH
  refine call_meets F.slot_list_append ⟨_, e, rfl⟩ F.entry_list_append (F.args_list_append_2 _ _) (PySem.list_append l its.toArray n u (by rw [List.size_toArray]; omega)) ⟨e, ?_⟩
  refine ⟨.non, _, I.lset (its' := its ++ [u]) hH e (by simp) (r.append (.cons ru .nil)) ?_, rfl, q⟩
  rw [List.length_append, List.length_singleton]
  omega

def rPop : V → List V → Hp → VK → Prop := fun x vs H Q => ∃ l xs y, x = .ref l ∧ vs = [] ∧ H l = some (.lst xs) ∧ xs[xs.length - 1]? = some y ∧ Q y (upd H l (.lst xs.dropLast))
theorem mt_pop : MtM X "list.pop" rPop := by
  intro pins s σ H x vs v us Q I rx rv h
  obtain ⟨l, xs, y, rfl, rfl, hH, hy, q⟩ := h
  cases rx
  have hus := rv.zero
  subst hus
  obtain ⟨z, its, n, r, hl, e⟩ := I.lstM hH
  obtain ⟨u, hu, ru⟩ := r.get hy
  have hy' : its.toArray[its.toArray.size - 1]? = some u := by
    show its.toArray[its.length - 1]? = some u
    rw [← Array.getElem?_toList, ← hl]
    exact hu
  refine call_meets F.slot_list_pop ⟨_, e, rfl⟩ F.entry_list_pop (F.args_list_pop_1 _) (MeetsSeq.list_pop_last l its.toArray n u hy' (by rw [List.size_toArray]; omega)) ⟨e, ?_⟩
  refine ⟨y, _, I.lset (its' := its.dropLast) hH e ?_ r.dropLast ?_, ru, q⟩
  · show its.toArray.eraseIdxIfInBounds (its.toArray.size - 1) = its.dropLast.toArray
    rw [List.size_toArray, List.eraseIdxIfInBounds_toArray, erase_last]
  · rw [List.length_dropLast]
    omega

def rClear : V → List V → Hp → VK → Prop := fun x vs H Q => ∃ l xs, x = .ref l ∧ vs = [] ∧ H l = some (.lst xs) ∧ Q .non (upd H l (.lst []))
theorem mt_clear : MtM X "list.clear" rClear := by
  intro pins s σ H x vs v us Q I rx rv h
  obtain ⟨l, xs, rfl, rfl, hH, q⟩ := h
  cases rx
  have hus := rv.zero
  subst hus
  obtain ⟨z, its, n, r, hl, e⟩ := I.lstM hH
  refine call_meets F.slot_list_clear ⟨_, e, rfl⟩ F.entry_list_clear (F.args_list_clear_1 _) (AutoSeq1.list_clear_list_0 l its.toArray n (by rw [List.size_toArray]; omega)) ⟨e, ?_⟩
  exact ⟨.non, _, I.lset (its' := []) (ys := []) hH e rfl .nil (Nat.zero_le _), rfl, q⟩

def rCat : R2 := fun x y H Q => ∃ l b xs zs, x = .ref l ∧ y = .ref b ∧ H l = some (.lst xs) ∧ H b = some (.lst zs) ∧ xs.length + zs.length ≤ sizeLine ∧ ∀ p, H p = none → Q (.ref p) (upd H p (.lst (xs ++ zs)))
theorem op_cat : OpR X (binaryOp .Add) rCat := by
  intro pins s σ H x y v u Q I rx ry h
  obtain ⟨l, b, xs, zs, rfl, rfl, hH, hB, hz, q⟩ := h
  cases rx
  cases ry
  obtain ⟨z, its, n, r, hl, e⟩ := I.lstM hH
  obtain ⟨z2, its2, n2, r2, hl2, e2⟩ := I.lstM hB
  refine PySem.P.add_list e e2 ?_ (by rw [List.size_toArray, List.size_toArray]; omega)
  have ea : its.toArray ++ its2.toArray = (its ++ its2).toArray := by simp
  rw [ea]
  exact ⟨.ref _, _, I.lnew (t' := s.toks) (r.append r2) (by rw [List.length_append]; omega), rfl, q _ I.fresh⟩
end

section
variable {prog : Program} {w : World} {A : Around} {E : Value → Shared → Prop} {s : Shared}
end

section
variable {X : Cx}
end
end L2

namespace L2
open PySem PySem.Spec PyProof.Rows

section
variable {κ : Type} [DecidableEq κ]
def valV (kvs : List (κ × V)) (k : κ) : Option V := (kvs.find? fun kv => decide (kv.1 = k)).map (·.2)
/-- in its place, or at the end -/
def putK (kvs : List (κ × V)) (k : κ) (v : V) : List (κ × V) :=
  if (kvs.any fun kv => decide (kv.1 = k)) = true then kvs.map (fun kv => if kv.1 = k then (kv.1, v) else kv) else kvs ++ [(k, v)]
theorem valV_pos {p : κ × V} {r : List (κ × V)} {k : κ} (e : p.1 = k) : valV (p :: r) k = some p.2 := by simp [valV, List.find?_cons, e]
theorem valV_neg {p : κ × V} {r : List (κ × V)} {k : κ} (e : ¬ p.1 = k) : valV (p :: r) k = valV r k := by simp [valV, List.find?_cons, e]
theorem length_putK (kvs : List (κ × V)) (k : κ) (v : V) : (putK kvs k v).length ≤ kvs.length + 1 := by
  unfold putK
  split
  · rw [List.length_map]; omega
  · rw [List.length_append, List.length_cons, List.length_nil]; omega
theorem RelO.getD {o : Option V} {u : Option Value} {d : V} {d' : Value} (r : RelO o u) (rd : RelV d d') : RelV (o.getD d) (u.getD d') := by
  cases o with
  | none => cases u with
    | none => exact rd
    | some _ => exact (show False from r).elim
  | some _ => cases u with
    | none => exact (show False from r).elim
    | some _ => exact r

/-- raw tables of the same keys -/
theorem KV.val {kvs : List (κ × V)} {vs : List (κ × Value)} (r : KV kvs vs) (k : κ) : RelO (valV kvs k) (valueAt vs k) := by
  unfold KV at r
  induction r with
  | nil => exact True.intro
  | @cons p q ps qs h t ih =>
    obtain ⟨h1, h2⟩ := h
    by_cases e : p.1 = k
    · have e' : q.1 = k := h1.symm.trans e
      have b : valueAt (q :: qs) k = some q.2 := by simp [valueAt, List.find?_cons, e']
      rw [valV_pos e, b]; exact h2
    · have e' : ¬ q.1 = k := fun z => e (h1.trans z)
      have b : valueAt (q :: qs) k = valueAt qs k := by simp [valueAt, List.find?_cons, e']
      rw [valV_neg e, b]; exact ih
theorem KV.any {kvs : List (κ × V)} {vs : List (κ × Value)} (r : KV kvs vs) (k : κ) : (kvs.any fun kv => decide (kv.1 = k)) = vs.any fun kv => decide (kv.1 = k) := by
  unfold KV at r
  induction r with
  | nil => rfl
  | cons h t ih => rw [List.any_cons, List.any_cons, ih, h.1]
theorem KV.repl {kvs : List (κ × V)} {vs : List (κ × Value)} (r : KV kvs vs) (k : κ) {y : V} {u : Value} (ry : RelV y u) :
    KV (kvs.map fun kv => if kv.1 = k then (kv.1, y) else kv) (vs.map fun kv => if kv.1 = k then (kv.1, u) else kv) := by
  unfold KV at r ⊢
  induction r with
  | nil => exact .nil
  | @cons p q ps qs h t ih =>
    rw [List.map_cons, List.map_cons]
    refine .cons ?_ ih
    obtain ⟨h1, h2⟩ := h
    by_cases e : p.1 = k
    · rw [if_pos e, if_pos (h1.symm.trans e)]; exact ⟨h1, ry⟩
    · rw [if_neg e, if_neg (fun z => e (h1.trans z))]; exact ⟨h1, h2⟩
theorem KV.put {kvs : List (κ × V)} {vs : List (κ × Value)} (r : KV kvs vs) (k : κ) {y : V} {u : Value} (ry : RelV y u) : KV (putK kvs k y) (stored vs k u) := by
  unfold putK stored
  rw [r.any k]
  by_cases e : (vs.any fun kv => decide (kv.1 = k)) = true
  · rw [if_pos e, if_pos e]; exact r.repl k ry
  · rw [if_neg e, if_neg e]; exact Paired.snoc r ⟨rfl, ry⟩
end


theorem kV_is {P : Program} {w : World} {k : Key} {u : Value} (r : RelV (kV k) u) : (mixKind P w).is k u = true := by
  cases k with
  | inl i => obtain ⟨t, e⟩ := (show ∃ t, u = Value.int i t from r); subst e; exact mixKind_int P w i t
  | inr x => obtain ⟨t, e⟩ := (show ∃ t, u = Value.str x t from r); subst e; exact mixKind_str P w x t
theorem items_are {P : Program} {w : World} : ∀ {ks : List Key} {us : List Value}, Vals (ks.map kV) us → ItemsAre (mixKind P w) ks us
  | [], _, r => by rw [List.map_nil] at r; cases r; exact .nil
  | k :: ks, _, r => by
    rw [List.map_cons] at r
    cases r with
    | cons h t => exact .cons (kV_is h) (items_are t)

/-- raw entries of a dict with tuple keys -/
abbrev KT (H : Hp) : List (List Key × V) → List (List Key × Addr × Value) → Prop := Paired fun p q => p.1 = q.1 ∧ H q.2.1 = some (.tup (p.1.map kV)) ∧ RelV p.2 q.2.2
theorem KT.val {H : Hp} {kvs : List (List Key × V)} {xs : List (List Key × Addr × Value)} (r : KT H kvs xs) (k : List Key) : RelO (valV kvs k) ((atKey xs k).map (·.2)) := by
  induction r with
  | nil => exact True.intro
  | @cons p q ps qs h t ih =>
    obtain ⟨h1, _, h2⟩ := h
    by_cases e : p.1 = k
    · have e' : q.1 = k := h1.symm.trans e
      have b : atKey (q :: qs) k = some q.2 := by simp [atKey, List.find?_cons, e']
      rw [valV_pos e, b]; exact h2
    · have e' : ¬ q.1 = k := fun z => e (h1.trans z)
      have b : atKey (q :: qs) k = atKey qs k := by simp [atKey, List.find?_cons, e']
      rw [valV_neg e, b]; exact ih
section
variable {P : Program} {w : World} {H : Hp} {h : Heap} {a : Addr}
theorem rd_of {u : HO} (ok : HOk P w H h) (e : Rd H a u) : ObjOk P w H h a u := e.ok ok
theorem dk_rd {kvs : List (Key × V)} (ok : HOk P w H h) (e : Rd H a (.dK kvs)) : kvs.length ≤ sizeLine ∧ (a == sysModules) = false ∧ ∃ vs, KV kvs vs ∧ h.DictOf (mixKind P w) a vs :=
  show ObjOk P w H h a (.dK kvs) from rd_of ok e
theorem dk_of {kvs : List (Key × V)} (ok : HOk P w H h) (e : H a = some (.dK kvs)) : kvs.length ≤ sizeLine ∧ (a == sysModules) = false ∧ ∃ vs, KV kvs vs ∧ h.DictOf (mixKind P w) a vs := dk_rd ok (.inl e)
/-- a tracked tuple of ints and texts is a key -/
theorem key_of {ks : List Key} (ok : HOk P w H h) (e : H a = some (.tup (ks.map kV))) : (tupleKind (mixKind P w)).is h ks a := by
  obtain ⟨_, its, r, o, h1, h2, n, h3⟩ := (show ObjOk P w H h a (.tup (ks.map kV)) from ok a _ e)
  exact ⟨o, its.toArray, n, h1, h2, h3, by simpa using items_are r⟩
theorem dt_rd {kvs : List (List Key × V)} (ok : HOk P w H h) (e : Rd H a (.dT kvs)) : kvs.length ≤ sizeLine ∧ (a == sysModules) = false ∧
    ∃ xs, KT H kvs xs ∧ h.DictOfH (tupleKind (mixKind P w)) a xs := by
  obtain ⟨z, y, xs, r, o, es, ep, h1, h2, h3, h4, h5⟩ := (show ObjOk P w H h a (.dT kvs) from rd_of ok e)
  refine ⟨z, y, xs, r, o, es, ep, h1, h2, h3, h4, fun x hx => ?_, h5⟩
  have all : ∀ {l : List (List Key × V)} {m : List (List Key × Addr × Value)}, KT H l m → ∀ x ∈ m, (tupleKind (mixKind P w)).is h x.1 x.2.1 := by
    intro l m q
    induction q with
    | nil => intro x hx; exact nomatch hx
    | @cons p q ps qs hq t ih =>
      intro x hx
      rcases List.mem_cons.mp hx with e | hx
      · subst e
        exact key_of ok (by rw [← hq.1]; exact hq.2.1)
      · exact ih x hx
  exact all r x hx
end

/-- what the dict at a holds at the key y -/
def DGet (H : Hp) (a : Addr) (y : V) (r : Option V) : Prop :=
  (∃ kvs k, Rd H a (.dK kvs) ∧ y = kV k ∧ r = valV kvs k) ∨ ∃ kvs k b, Rd H a (.dT kvs) ∧ y = .ref b ∧ H b = some (.tup (k.map kV)) ∧ r = valV kvs k
theorem DGet.k {H : Hp} {a : Addr} {kvs : List (Key × V)} {k : Key} (e : H a = some (.dK kvs)) : DGet H a (kV k) (valV kvs k) := .inl ⟨kvs, k, .inl e, rfl, rfl⟩
section
variable {X : Cx} {pins : List (Addr × Obj)} {σ : St} {H : Hp} {s : Shared} {a : Addr} {y v : V} {u r : Value} {o : Option V} {A : Around} {E : Value → Shared → Prop}

theorem Inv.big (I : Inv X pins σ H s) : sysModules < s.heap.objs.size := by
  have h : mainGlobals < s.heap.objs.size := (I.mod.glob.keeps I.bk).lt
  exact Nat.lt_trans (by decide) h

/-- a dict's object is replaced -/
theorem d_write {h' : Heap} {t' : Nat} {ob : HO} (I : Inv X pins σ H s) (mu : Mut (H a)) (hs : Heap.SameBut a s.heap h') (he : ∃ q, h'.get? a = some q) (new : ObjOk X.prog X.w (upd H a ob) h' a ob) :
    Inv X pins σ (upd H a ob) { s with heap := h', toks := t' } :=
  I.write (x := a) (e := a) mu (.inl rfl) (fun b q hb z => (hs.2 b hb).trans z) he new
theorem dk_new {P : Program} {w : World} {H' : Hp} {h' : Heap} {kvs : List (Key × V)} {vs : List (Key × Value)} (z : kvs.length ≤ sizeLine) (hd : (a == sysModules) = false) (rel : KV kvs vs) (dd : h'.DictOf (mixKind P w) a vs) :
    ObjOk P w H' h' a (.dK kvs) := ⟨z, hd, vs, rel, dd⟩
end

section
variable {X : Cx} {pins : List (Addr × Obj)} {σ : St} {H : Hp} {s : Shared} {a : Addr} {kvs : List (Key × V)} {k : Key} {u : Value} {A : Around} {E : Value → Shared → Prop}
end


section
variable {X : Cx} {o i e value : Expr} {pos pos' tpos : Pos} {td ty tv : TE}
end


theorem dk_empty {P : Program} {w : World} {H : Hp} (h : Heap) (hb : sysModules < h.objs.size) : ObjOk P w H (h.push { cls := .type "dict", data := .dict #[] }) h.objs.size (.dK []) :=
  ⟨Nat.zero_le _, beq_eq_false_iff_ne.mpr (Ne.symm (Nat.ne_of_lt hb)), [], .nil, Heap.DictOf.new h⟩
section
variable {X : Cx} {pos : Pos}
end

/-- the pairs of a display, from the left -/
def tPairs : List (TE × TE) → St → Hp → (List (V × V) → Hp → Prop) → Prop
  | [], _, H, Q => Q [] H
  | (tk, tv) :: r, σ, H, Q => tk σ H fun x H1 => tv σ H1 fun y H2 => tPairs r σ H2 fun ps H3 => Q ((x, y) :: ps) H3
abbrev VV : List (V × V) → List (Value × Value) → Prop := Paired fun p q => RelV p.1 q.1 ∧ RelV p.2 q.2
def PPs (X : Cx) (pos : Pos) (keys : List (Option Expr)) (values : List Expr) (trs : List (TE × TE)) : Prop :=
  ∀ (pins : List (Addr × Obj)) (s : Shared) (σ : St) (H : Hp) (Q : List (V × V) → Hp → Prop), Inv X pins σ H s → tPairs trs σ H Q →
    wpAny (model X.prog X.w) X.A (evalPairs (pairTrees keys values X.env pos)) (fun vs s' => ∃ ps H', Inv X pins σ H' s' ∧ VV ps vs ∧ Q ps H') X.xe s
theorem pps_nil {X : Cx} {pos : Pos} : PPs X pos [] [] [] := fun pins s σ H Q I h => pairTrees_nil_walk ⟨[], H, I, .nil, h⟩
theorem pps_cons {X : Cx} {pos : Pos} {k v : Expr} {ks : List (Option Expr)} {vs : List Expr} {tk tv : TE} {trs : List (TE × TE)} (hk : PE X k tk) (hv : PE X v tv) (hr : PPs X pos ks vs trs) :
    PPs X pos (some k :: ks) (v :: vs) ((tk, tv) :: trs) := fun pins s σ H Q I h =>
  pairTrees_cons_walk (thn (hk pins s σ H _ I h) fun u s1 ⟨x, H1, I1, rx, q1⟩ => thn (hv pins s1 σ H1 _ I1 q1) fun w2 s2 ⟨y, H2, I2, ry, q2⟩ =>
    thn (hr pins s2 σ H2 _ I2 q2) fun ws s3 ⟨ps, H3, I3, rel, q3⟩ => ⟨(x, y) :: ps, H3, I3, .cons ⟨rx, ry⟩ rel, q3⟩)

def mergeK (kvs more : List (Key × V)) : List (Key × V) := more.foldl (fun acc kv => putK acc kv.1 kv.2) kvs
theorem KV.merge : ∀ {more : List (Key × V)} {rs : List (Key × Value)} {kvs : List (Key × V)} {vs : List (Key × Value)}, KV more rs → KV kvs vs → KV (mergeK kvs more) (merged vs rs) := by
  intro more rs kvs vs r
  unfold KV at r
  induction r generalizing kvs vs with
  | nil => intro q; exact q
  | @cons p q ps qs h t ih =>
    intro r0
    have e : KV (putK kvs p.1 p.2) (stored vs q.1 q.2) := by
      have := r0.put p.1 h.2
      rw [← h.1]; exact this
    exact ih e
theorem length_mergeK : ∀ (more kvs : List (Key × V)), (mergeK kvs more).length ≤ kvs.length + more.length
  | [], kvs => by show kvs.length ≤ kvs.length + 0; omega
  | p :: r, kvs => by
    have h1 := length_mergeK r (putK kvs p.1 p.2)
    have h2 := length_putK kvs p.1 p.2
    show (mergeK (putK kvs p.1 p.2) r).length ≤ _
    rw [List.length_cons]; omega
theorem carries_of {P : Program} {w : World} : ∀ {kvs : List (Key × V)} {ws : List (Value × Value)}, VV (kvs.map fun kv => (kV kv.1, kv.2)) ws → ∃ rs, Carries (mixKind P w) ws rs ∧ KV kvs rs
  | [], _, r => by rw [List.map_nil] at r; cases r; exact ⟨[], True.intro, .nil⟩
  | p :: kvs, _, r => by
    rw [List.map_cons] at r
    cases r with
    | @cons a b as bs h t =>
      obtain ⟨rs, c, q⟩ := carries_of (P := P) (w := w) t
      obtain ⟨b1, b2⟩ := b
      exact ⟨(p.1, b2) :: rs, ⟨kV_is h.1, rfl, c⟩, .cons ⟨rfl, h.2⟩ q⟩
/-- {k: v, ..} with keys ints and texts; the new dict stands empty while the pairs are made -/
def tDisp (trs : List (TE × TE)) : TE := fun σ H Q => ∀ p, H p = none → tPairs trs σ (upd H p (.dK [])) fun ps H2 => H2 p = some (.dK []) ∧ ∃ kvs : List (Key × V), ps = kvs.map (fun kv => (kV kv.1, kv.2)) ∧ kvs.length ≤ 15 ∧ Q (.ref p) (upd H2 p (.dK (mergeK [] kvs)))
theorem pe_disp {X : Cx} {pos : Pos} {keys : List (Option Expr)} {values : List Expr} {trs : List (TE × TE)} (h : PPs X pos keys values trs) (hall : keys.all (·.isSome) = true) (hl : keys.length = values.length) (h0 : keys ≠ [])
    (h15 : keys.length ≤ 15) : PE X (.Dict keys values pos) (tDisp trs) := by
  intro pins s σ H Q I q
  have hn := I.hok.fresh (Nat.le_refl s.heap.objs.size)
  have I1 := I.laid (a := s.heap.objs.size) (o := .dK []) (h' := s.heap.push { cls := .type "dict", data := .dict #[] }) (t' := s.toks) (fun _ _ q => Heap.get?_push_of_some _ q) (Nat.le_refl _) (dk_empty s.heap I.big)
  refine wpAny_Dict_walk (knd := mixKind X.prog X.w) hall hl h0 h15 (thn (h pins _ σ _ _ I1 (q _ hn)) fun ws s2 ⟨ps, H2, I2, rel, e, kvs, ep, lk, q2⟩ => ?_)
  subst ep
  obtain ⟨rs, c, rk⟩ := carries_of (P := X.prog) (w := X.w) rel
  obtain ⟨z, hd, vs0, r0, dd⟩ := dk_of I2.hok e
  cases r0
  refine ⟨rs, c, dd, fun h' dd' hs => ⟨.ref s.heap.objs.size, _, ?_, rfl, q2⟩⟩
  have hz : (mergeK [] kvs).length ≤ sizeLine := by
    have h1 := length_mergeK kvs []
    rw [List.length_nil] at h1
    rw [sizeLine_eq]; omega
  have he : ∃ q, h'.get? s.heap.objs.size = some q := let ⟨q, _, _, hq, _⟩ := dd'; ⟨q, hq⟩
  exact d_write I2 (by rw [e]; exact True.intro) hs he (dk_new hz hd (rk.merge .nil) dd')


structure M2 (X : Cx) (o : Expr) (m : Str) (apos : Pos) (e f : Expr) (cpos : Pos) : Prop where
  base : attributeBase o m X.env (eval o X.env) = eval o X.env
  few : ((backTo cpos (starEach [e, f] X.env)).all (fun x => !x.1) && (backToKw cpos (keywordEach [] X.env)).all (fun x => x.1.isSome)
    && decide (([e, f] : List Expr).length + ([] : List Keyword).length + (if ([] : List Keyword).isEmpty then 0 else 1) < 30)) = true
  line : (apos.endLine == cpos.line) = true
  trees : backTo cpos (starEach [e, f] X.env) = [(false, eval e X.env), (false, eval f X.env)]

/-- a is a dict, whatever its keys -/
def IsD (H : Hp) (a : Addr) : Prop := (∃ kvs, Rd H a (.dK kvs)) ∨ ∃ kvs, Rd H a (.dT kvs)
theorem isD_at {X : Cx} {pins : List (Addr × Obj)} {σ : St} {H : Hp} {s : Shared} {a : Addr} (I : Inv X pins σ H s) (d : IsD H a) :
    s.TypeIs (.ref a) "dict" ∧ (∀ b, Value.ref a = .ref b → ∃ ob, s.heap.get? b = some ob ∧ ob.dict = none) ∧ (a == sysModules) = false := by
  rcases d with ⟨kvs, e⟩ | ⟨kvs, e⟩
  · obtain ⟨_, hd, vs, _, dd⟩ := dk_rd I.hok e
    refine ⟨dd.typeIs, fun b q => ?_, hd⟩
    cases q
    obtain ⟨ob, _, _, h1, h2, _⟩ := dd
    exact ⟨ob, h1, h2.2.1⟩
  · obtain ⟨_, hd, xs, _, dd⟩ := dt_rd I.hok e
    refine ⟨dd.typeIs, fun b q => ?_, hd⟩
    cases q
    obtain ⟨ob, _, _, h1, h2, _⟩ := dd
    exact ⟨ob, h1, h2.2.1⟩

section
variable {X : Cx} {pins : List (Addr × Obj)} {σ : St} {H : Hp} {s : Shared} {a : Addr} {y d : V} {u r : Value} {o : Option V} {A : Around} {E : Value → Shared → Prop}
/-- d.get(y, x) -/
theorem d_get2 {Q : Value → Shared → Prop} (hu : A.units + 1 < cLine) (I : Inv X pins σ H s) (g : DGet H a y o) (ry : RelV y u) (rd : RelV d r) (h : ∀ w' s', Inv X pins σ H s' → RelV (o.getD d) w' → Q w' s') :
    wpAny (model X.prog X.w) A (call (.builtin "dict.get") [.ref a, u, r]) Q E s := by
  rcases g with ⟨kvs, k, e, ey, l⟩ | ⟨kvs, k, b, e, ey, eb, l⟩
  · subst ey
    obtain ⟨z, hd, vs, rel, dd⟩ := dk_rd I.hok e
    refine call_meetsIn PySem.F.slot_dict_get dd.typeIs PySem.F.entry_dict_get (PySem.F.args_dict_get_3 _ _ _) (meets_dict_get_default (mixKind X.prog X.w) a (kV_is ry) hd r) ⟨_, dd.mapOf, h _ _ (I.tok _) ?_⟩
    rw [l]
    exact (rel.val k).getD rd
  · subst ey
    cases (show u = Value.ref b from ry)
    obtain ⟨z, hd, xs, rel, dd⟩ := dt_rd I.hok e
    refine call_meetsIn PySem.F.slot_dict_get dd.typeIs PySem.F.entry_dict_get (PySem.F.args_dict_get_3 _ _ _) (meetsH_dict_get_default (tupleKind (mixKind X.prog X.w)) a b hd r) ⟨tupleKind_room_in1 hu, k, xs, key_of I.hok eb, dd, h _ _ (I.tok _) ?_⟩
    rw [l]
    exact (rel.val k).getD rd
end

def tDGet2 (td ty tx : TE) : TE := fun σ H Q => td σ H fun x H1 => ∃ a, x = .ref a ∧ IsD H1 a ∧ ty σ H1 fun y H2 => tx σ H2 fun z H3 => ∃ o, DGet H3 a y o ∧ Q (o.getD z) H3
section
variable {X : Cx} {o e f : Expr} {apos cpos : Pos} {td ty tx : TE}
theorem pe_dget2 (hu : X.A.units + 1 < cLine) (ho : PE X o td) (he : PE X e ty) (hf : PE X f tx) (m : M2 X o "get" apos e f cpos) : PE X (.Call (.Attribute o "get" apos) [e, f] [] cpos) (tDGet2 td ty tx) := by
  intro pins s σ H Q I h
  refine wpAny_Call_method m.base m.few m.line PySem.F.plainAttrs_dict PySem.F.slot_dict_get PySem.F.type_dict_get (thn (ho pins s σ H _ I h) fun u s1 ⟨x, H1, I1, rx, a, ex, d, q1⟩ => ?_)
  subst ex
  obtain rfl : u = Value.ref a := rx
  obtain ⟨t1, t2, _⟩ := isD_at I1 d
  refine ⟨t1, t2, ?_⟩
  rw [m.trees]
  refine Calls.callWith_builtin rfl (Calls.evalArgs_plain (Calls.spliced_cons (thn (he pins s1 σ H1 _ I1 q1) fun iv s2 ⟨y, H2, I2, ry, q2⟩ =>
    Calls.spliced_cons (thn (hf pins s2 σ H2 _ I2 q2) fun fv s3 ⟨z, H3, I3, rz, ov, g, q3⟩ => Calls.spliced_nil ?_))))
  exact d_get2 hu I3 g ry rz fun w' s4 I4 rw' => ⟨_, H3, I4, rw', q3⟩
end

section
variable {X : Cx} {pins : List (Addr × Obj)} {σ : St} {H : Hp} {s : Shared} {a : Addr} {kvs : List (Key × V)} {A : Around} {E : Value → Shared → Prop}
end


section
variable {X : Cx} {pins : List (Addr × Obj)} {σ : St} {H : Hp} {s : Shared} {a : Addr} {y : V} {u : Value} {A : Around} {E : Value → Shared → Prop}
end
end L2

namespace Att
open PySem PySem.W PySem.Calls PyProof.Rows

theorem ints_of_wellAll {P : Params} {h : Heap} : ∀ (ns : List Int) (vs : List Value), WellAll P h vs (ns.map WData.int) → IntsAre vs ns := by
  intro ns
  induction ns with
  | nil =>
    intro vs w
    rw [List.map_nil] at w
    cases w
    exact .nil
  | cons n ns ih =>
    intro vs w
    rw [List.map_cons] at w
    cases w with
    | cons a b =>
      cases a
      exact .cons _ _ (ih _ b)

theorem script_of {l : OpenLaw} {n : Nat} (hn : l.most = some n) {P : Params} {h : Heap} {args : List WData} {vals : List Value}
    (hpre : l.row.toRowW.claim.pre args = true) (hwl : WellAll P h vals args) :
    ∃ a vs ns, vals = [Value.ref a] ∧ args = [WData.list (ns.map WData.int)] ∧ h.get? a = some { cls := .type "list", data := .seq vs.toArray } ∧ IntsAre vs ns ∧ ns.length ≤ n := by
  have hsh : WShape.hasAll [] args [.list .int] = true := (pre_splitW hpre).1
  have hc : l.pre.holds [] { args := args } = true := (pre_splitW hpre).2
  obtain ⟨d, r, rfl, h1, h2⟩ := hasAllW_cons hsh
  obtain rfl := hasAllW_nil h2
  obtain ⟨xs, rfl, h3⟩ := hasW_list h1
  obtain ⟨ns, rfl⟩ := items_int h3
  have hlen : ns.length ≤ n := by
    unfold OpenLaw.pre at hc
    have h4 : (WTm.not (.lt (.lit (.int (n : Int))) (.len (.arg 0)))).holds [] { args := [.list (ns.map .int)] } = true := by
      have h4 := (holds_andW hc).1
      rw [hn] at h4
      exact h4
    have h5 := condW_of h4 (w_not (w_lt w_lit (w_len_list (w_arg rfl))))
    rw [List.length_map] at h5
    refine Nat.le_of_not_lt fun q => ?_
    have q' : (n : Int) < ((ns.length : Nat) : Int) := by omega
    first
      | (rw [decide_eq_true q'] at h5; exact absurd h5 (by decide))
      | (simp at h5; omega)
  cases hwl with
  | cons w1 w2 =>
    cases w2
    cases w1 with
    | list ho hall => exact ⟨_, _, ns, rfl, rfl, ho, ints_of_wellAll ns _ hall, hlen⟩

theorem post_true (l : OpenLaw) (args : List WData) : l.row.toRowW.claim.post args (.bool true) args = true :=
  postW_of (r := l.row.toRowW) (X := (true == true))
    (show WShape.has [] (.bool true) .bool = true by first | rfl | decide | simp [WShape.has, WShape.arms, WShape.armsAll])
    (show (WTm.eq .res (.lit (.bool true))).value [] { args := args, res := some (.bool true), after := args } = some (.bool (true == true)) from w_eq_bool (w_res rfl) w_lit) rfl

/-- the same from a codeAny of the CALL (for a layer whose function contracts speak of calls) -/
theorem attach_call {l : OpenLaw} {n : Nat} {q : Program} {loose : List Str} {XP : (Str → Option Value) → Heap → Prop} {YP : World → Heap → Prop} {d : DefRec}
    (hn : l.most = some n) (hdf : d.params.defaults = [])
    (call : ∀ (w : World) (s₀ s₁ : Shared) (mg mb : Str → Option Value) (fa : Addr) (o : Obj) (pm cd doc : Value) (a : Addr) (vs : List Value) (ns : List Int),
      Ground q loose [] XP w s₀ mg mb s₁.heap → YP w s₁.heap →
      s₁.heap.get? fa = some o → o.data = .func (docDef d.name d.params d.body d.scope pm cd doc) → s₁.heap.CodeRec cd d.name → mg d.name = some (.ref fa) →
      s₁.heap.get? a = some { cls := .type "list", data := .seq vs.toArray } → IntsAre vs ns → ns.length ≤ n → s₁.gens = #[] →
      codeAny (model l.prog w) callerA (.call (.ref fa) ⟨[.ref a], []⟩) (fun r s' => r = .ok (.ret (.bool true)) ∧ OldK s₁.heap s'.heap ∧ s'.os = s₁.os ∧ AllBare s'.gens) s₁) :
    WalkO q loose XP YP l.row.toRowW d [] (fun f vs => PySem.call f vs) := by
  intro w s₀ s₁ mg mb G Y fa o pm cd doc dV kV ho hd hcd hD hmg hg args vals as hpre hlay hrd hwl hlo
  obtain rfl : dV = .none := Dflts.none hD hdf
  obtain rfl : kV = .none := Dflts.noKw hD
  obtain ⟨a, vs, ns, rfl, rfl, hobj, hints, hlen⟩ := script_of hn hpre hwl
  refine enter_call (codeAny_mono (call w s₀ s₁ mg mb fa o pm cd doc a vs ns G Y ho (fd_plain hd) hcd hmg hobj hints hlen hg) fun r s' hq => ?_)
  obtain ⟨rfl, h2, h3, h4⟩ := hq
  exact ⟨.inl ⟨.bool true, .bool true, [], rfl, fun _ => rfl, .bool true, post_true l _, fun _ => ⟨List.Pairwise.nil, fun _ hm => (nomatch hm)⟩⟩, h2, h3, h4⟩

section
variable {prog : Program} {w : World} {A : Around} {E : Value → Shared → Prop} {s : Shared} {K : Frag}

end
end Att

namespace L2
open PySem PySem.Spec PyProof.Rows

theorem vals_ints : ∀ {vs : List Value} {ns : List Int}, IntsAre vs ns → Vals (ns.map V.int) vs
  | _, _, .nil => .nil
  | _, _, .cons n t h => .cons ⟨t, rfl⟩ (vals_ints h)

/-- nothing is tracked but the script, known to the object (or it is an object of the module) -/
def Only (H : Hp) : Prop := ∀ b, H b = none ∨ ∃ o xs, H b = some (.frz o (.lst xs))

/-- THE HEAD: the law's promise, at the heap behind the top. F, the promise of the law's def, may use that base is part of the heap (so K.In base, base.Ns mainGlobals mg stand in Mod) -/
theorem law_call {P : Program} {w : World} {K : PySem.W.Frag} {mg mb : Str → Option Value} {CX : CXT} {k : Nat} {fa a : Addr} {fd : FuncData} {x : Str} {sp : Sp} {s₁ : Shared} {vs : List Value} {ns : List Int}
    (KX : K.In s₁.heap) (hns : s₁.heap.Ns mainGlobals mg) (hb : s₁.heap.Ns builtinsNs mb) (hbb : ∀ x : Str, x ≠ "__name__" → mb x = bootBuiltins x) (hlim : s₁.heap.NoLimit) (hg : s₁.gens = #[])
    (ha : s₁.heap.get? a = some { cls := .type "list", data := .seq vs.toArray }) (hi : IntsAre vs ns) (hl : ns.length ≤ sizeLine) (hr : Room k callerA)
    (F : ∀ base : Heap, K.In base → base.Ns mainGlobals mg → FnOk P w K mg base CX k fa fd [x] sp) (hbind : ∀ (s : Shared) (u : Value), BindsTo s fd ⟨[u], []⟩ [(x, u)])
    (hsp : ∀ H : Hp, Only H → SqL K H a (ns.map V.int) → sp [.ref a] H (fun v _ => v = .bl true) fun _ _ _ => False)
    (hCX : ∀ H e s', CX [] H s₁ (fun _ _ _ => False) e s' → False) :
    codeAny (model P w) callerA (.call (.ref fa) ⟨[.ref a], []⟩) (fun r s' => r = .ok (.ret (.bool true)) ∧ OldK s₁.heap s'.heap ∧ s'.os = s₁.os ∧ AllBare s'.gens) s₁ := by
  have rv := vals_ints hi
  have lenV := hi.length
  -- from an abstract heap in which nothing but the script may be tracked
  have core : ∀ H : Hp, Only H → SqL K H a (ns.map V.int) → HOk P w H s₁.heap → (∀ b, H b ≠ none → b = a) → (H a ≠ none → K.lookup a = none) →
      codeAny (model P w) callerA (.call (.ref fa) ⟨[.ref a], []⟩) (fun r s' => r = .ok (.ret (.bool true)) ∧ OldK s₁.heap s'.heap ∧ s'.os = s₁.os ∧ AllBare s'.gens) s₁ := by
    intro H hO hS hok hA hK
    have base_of : ∀ {b : Addr} {o : Obj}, s₁.heap.get? b = some o → H b = none → (hidT s₁.heap H).get? b = some o := fun e n => hidT_get e n
    have noA : ∀ {b : Addr} {o : Obj} {es : Array DictEntry} {ep : Nat}, s₁.heap.get? b = some o → o.data = .dict es ep → H b = none := fun {b o es ep} e d => by
      cases q : H b with
      | none => rfl
      | some u =>
        have e' : b = a := hA b (by rw [q]; simp)
        subst e'
        rw [ha] at e; cases e
        have d' : Data.seq vs.toArray _ = Data.dict es ep := d
        cases d'
    have nsK : ∀ {b : Addr} {m : Str → Option Value}, s₁.heap.Ns b m → (hidT s₁.heap H).Ns b m := fun {b m} ⟨o, es, ep, e, d, r⟩ => ⟨o, es, ep, base_of e (noA e d), d, r⟩
    have hKb : K.In (hidT s₁.heap H) := fun b o e => base_of (KX b o e) (by
      cases q : H b with
      | none => rfl
      | some u =>
        have e' : b = a := hA b (by rw [q]; simp)
        subst e'
        rw [hK (by rw [q]; simp)] at e; cases e)
    have hM : Mod K mg (hidT s₁.heap H) := ⟨hKb, nsK hns, ⟨mb, nsK hb, hbb⟩, let ⟨mc, h1, h2⟩ := hlim; ⟨mc, nsK h1, h2⟩⟩
    have e0 : Env0 P w K mg (hidT s₁.heap H) callerA [] s₁ H := ⟨rfl, hM, fun b o e => of_hidT e, Nat.le_of_eq (hidT_size _ _), trivial, fun b hb => absurd (show b ∈ ([] : List Addr) from hb) (by simp), hok, .of_eq hg⟩
    refine codeAny_mono ((F _ hKb (nsK hns)).run callerA [] s₁ H ⟨[.ref a], []⟩ [.ref a] [.ref a] _ _ hr e0 (hbind s₁ (.ref a)) (.cons rfl .nil) (hsp H hO hS)) fun r s' h => ?_
    cases r with
    | error e => exact (hCX H e s' h).elim
    | ok fl =>
      cases fl with
      | next => exact False.elim h
      | brk => exact False.elim h
      | cont => exact False.elim h
      | ret u =>
        obtain ⟨v, H', os, bare, un, hok', r', q⟩ := h
        have q' : v = .bl true := q
        subst q'
        obtain rfl : u = Value.bool true := r'
        refine ⟨rfl, OldK.of_keep fun b o e => ?_, os, bare⟩
        cases q : H b with
        | none => exact un.keep b o e q (by intro z; exact absurd (show b ∈ ([] : List Addr) from z) (by simp)) (by simp)
        | some u =>
          rcases hO b with z | ⟨ob, xs, z⟩
          · rw [q] at z; cases z
          · have z2 := un.frzs b ob _ z
            obtain ⟨e1, _⟩ := hok b _ z
            obtain ⟨e2, _⟩ := hok' b _ z2
            rw [e] at e1; cases e1
            exact e2
  cases hk : K.lookup a with
  | some o =>
    -- the script is one of the module's own objects
    have e := KX a o hk
    rw [ha] at e
    cases e
    refine core (fun _ => none) (fun _ => .inl rfl) (.inr ⟨_, vs.toArray, _, hk, rfl, rfl, rfl, by rw [List.size_toArray, lenV]; exact hl, by simpa using rv⟩) (fun b u z => by have z' : (none : Option HO) = some u := z; cases z') (fun b z => absurd rfl z) fun z => absurd rfl z
  | none =>
    refine core (fun b => if b = a then some (.frz { cls := .type "list", data := .seq vs.toArray } (.lst (ns.map V.int))) else none) (fun b => ?_) (.inl (.inr ⟨{ cls := .type "list", data := .seq vs.toArray }, if_pos rfl⟩)) (fun b u z => ?_) (fun b z => ?_) fun _ => hk
    · by_cases hb : b = a
      · exact .inr ⟨_, _, if_pos hb⟩
      · exact .inl (if_neg hb)
    · by_cases hb : b = a
      · have z' := (if_pos hb).symm.trans z
        cases z'
        subst hb
        exact ⟨ha, by rw [List.length_map]; exact hl, vs, _, rv, ha⟩
      · have z' := (if_neg hb).symm.trans z
        cases z'
    · by_cases hb : b = a
      · exact hb
      · exact absurd (if_neg hb) z
end L2

namespace L2
open PySem PySem.Spec PyProof.Rows

abbrev KOf {K : PySem.W.Frag} {h : Heap} (_ : K.In h) : PySem.W.Frag := K

/-- the goal that k_head leaves (case hc), from the law's promise. F gives the function object fd (K's own) once, then the promise over every base -/
theorem walk_of {l : PySem.W.OpenLaw} {n k : Nat} {q : Program} {loose : List Str} {XP : (Str → Option Value) → Heap → Prop} {YP : World → Heap → Prop} {d : DefRec} {K : Params → PySem.W.Frag} {CX : World → CXT} {sp : World → Sp} {x : Str}
    (hn : l.most = some n) (hn2 : n ≤ sizeLine) (hdf : d.params.defaults = []) (hr : Room k callerA)
    (hY : ∀ (w : World) (h : Heap), YP w h → (K w.params).In h)
    (F : ∀ (w : World) (mg : Str → Option Value) (fa : Addr) (h : Heap), (K w.params).In h → h.Ns mainGlobals mg → mg d.name = some (.ref fa) →
      ∃ fd : FuncData, (∀ (s : Shared) (u : Value), BindsTo s fd ⟨[u], []⟩ [(x, u)]) ∧
        ∀ base : Heap, (K w.params).In base → base.Ns mainGlobals mg → FnOk l.prog w (K w.params) mg base (CX w) k fa fd [x] (sp w))
    (hsp : ∀ (w : World) (H : Hp) (a : Addr) (ns : List Int), ns.length ≤ n → Only H → SqL (K w.params) H a (ns.map V.int) → sp w [.ref a] H (fun v _ => v = .bl true) fun _ _ _ => False)
    (hCX : ∀ (w : World) (H : Hp) (s : Shared) (e : Value) (s' : Shared), CX w [] H s (fun _ _ _ => False) e s' → False) :
    PySem.W.WalkO q loose XP YP l.row.toRowW d [] (fun f vs => PySem.call f vs) := by
  refine Att.attach_call hn hdf fun w s₀ s₁ mg mb fa o pm cd doc a vs ns G Y ho hd hcd hmg hobj hints hlen hg => ?_
  have KX := hY w _ Y
  obtain ⟨fd, hb, hF⟩ := F w mg fa _ KX G.T.g hmg
  exact law_call KX G.T.g G.T.b G.T.builtins G.T.nolimit hg hobj hints (Nat.le_trans hlen hn2) hr hF hb (fun H hO hS => hsp w H a ns hlen hO hS) fun H e s' => hCX w H s₁ e s'
/-- the same where the promise hangs on the written part alone: (sp := My.sp_law), no hole under a binder -/
theorem walk_ofK {l : PySem.W.OpenLaw} {n k : Nat} {q : Program} {loose : List Str} {XP : (Str → Option Value) → Heap → Prop} {YP : World → Heap → Prop} {d : DefRec} {K : Params → PySem.W.Frag} {CX : CXT} {sp : PySem.W.Frag → Sp} {x : Str}
    (hn : l.most = some n) (hn2 : n ≤ sizeLine) (hdf : d.params.defaults = []) (hr : Room k callerA)
    (hY : ∀ (w : World) (h : Heap), YP w h → (K w.params).In h)
    (F : ∀ (w : World) (mg : Str → Option Value) (fa : Addr) (h : Heap), (K w.params).In h → h.Ns mainGlobals mg → mg d.name = some (.ref fa) →
      ∃ fd : FuncData, (∀ (s : Shared) (u : Value), BindsTo s fd ⟨[u], []⟩ [(x, u)]) ∧
        ∀ base : Heap, (K w.params).In base → base.Ns mainGlobals mg → FnOk l.prog w (K w.params) mg base CX k fa fd [x] (sp (K w.params)))
    (hsp : ∀ (K : PySem.W.Frag) (H : Hp) (a : Addr) (ns : List Int), ns.length ≤ n → Only H → SqL K H a (ns.map V.int) → sp K [.ref a] H (fun v _ => v = .bl true) fun _ _ _ => False)
    (hCX : ∀ (H : Hp) (s : Shared) (e : Value) (s' : Shared), CX [] H s (fun _ _ _ => False) e s' → False) :
    PySem.W.WalkO q loose XP YP l.row.toRowW d [] (fun f vs => PySem.call f vs) :=
  walk_of (K := K) (CX := fun _ => CX) (sp := fun w => sp (K w.params)) hn hn2 hdf hr hY F (fun w H a ns h1 h2 h3 => hsp (K w.params) H a ns h1 h2 h3) fun _ H s e s' => hCX H s e s'
end L2

namespace L2
open PySem PySem.Spec PyProof.Rows

/-- the j-th statement of a class's body -/
def inClass (s : Stmt) (j : Nat) : Stmt := match s with
  | .ClassDef _ _ _ body _ _ _ _ _ _ _ => body.getD j (.Pass ⟨0, 0, 0, 0⟩)
  | _ => .Pass ⟨0, 0, 0, 0⟩
def defArgs (s : Stmt) : Arguments := match s with
  | .FunctionDef _ a _ _ _ _ _ _ _ _ => a
  | _ => { posonlyargs := [], args := [], vararg := none, kwonlyargs := [], kw_defaults := [], kwarg := none, defaults := [] }
def defBody (s : Stmt) : List Stmt := match s with
  | .FunctionDef _ _ b _ _ _ _ _ _ _ => b
  | _ => []
def defScope (s : Stmt) : Scope := match s with
  | .FunctionDef _ _ _ _ _ _ sc _ _ _ => sc
  | _ => { kind := .function, names := [], isGenerator := false, isCoroutine := false }

abbrev CX0 : CXT := fun _ _ _ _ _ _ => False
abbrev E0 : XK := fun _ _ _ => False
theorem pass0 {X : Cx} : Passes CX0 X E0 := fun _ _ _ _ _ _ _ h => h.elim

structure Fun (K : PySem.W.Frag) (x qual : Str) (st : Stmt) (f : Addr) (fd : FuncData) : Prop where
  ex : ∃ (oc : Value) (od : Option Addr) (kV doc pm : Value) (an : Option Addr) (cdv ct : Value) (osl : Array (Option Value)),
    fd = PySem.W.fnOf x qual (defArgs st) (defBody st) (defScope st) .none kV doc pm an cdv ct ∧ K.lookup f = some ⟨oc, od, .func fd, osl⟩ ∧ PySem.W.codeIn K cdv qual = true
  kp : PySem.W.keepIn K (.ref f) = true
section
variable {P : Program} {w : World} {K : PySem.W.Frag} {mg : Str → Option Value} {base : Heap}
/-- THE RULE for a def: its body as a term of rules, and the reading of that term -/
theorem Fun.ok {x qual : Str} {st : Stmt} {f : Addr} {fd : FuncData} {N ps : List Str} {k : Nat} {sp : Sp} (F : Fun K x qual st f fd) (S : FnScope N ps (defScope st)) (len : ∀ vs H Q E, sp vs H Q E → vs.length = ps.length)
    (hbody : ∀ (cdv : Value) (A : Around) (outer : List Env) (s : Shared) (H : Hp) (vs : List V) (Q : VK) (E : XK), Room k (A.deeper (envOfC qual (defScope st) s.heap.objs.size f cdv)) → sp vs H Q E →
      ∃ t, PSs (cxOf CX0 P w K mg base N qual (defScope st) f cdv A outer s H E).nox (defBody st) t ∧ t { nx := fun _ H' => Q .non H', rt := Q } (start N vs) H) : FnOk P w K mg base CX0 (k + 1) f fd ps sp := by
  obtain ⟨oc, od, kV, doc, pm, an, cdv, ct, osl, rfl, lk, hcd⟩ := F.ex
  refine fn_of lk hcd S len fun A outer s H vs Q E hr hsp => ?_
  obtain ⟨t, h, q⟩ := hbody cdv A outer s H vs Q E hr hsp
  exact ⟨t, h.nox, q⟩
/-- how its arguments bind (no defaults): h is «fun _ _ _ _ _ _ us hl => match us, hl with | [_, _], _ => rfl», one _ a parameter -/
theorem Fun.binds {x qual : Str} {st : Stmt} {f : Addr} {fd : FuncData} {ps : List Str} (F : Fun K x qual st f fd)
    (h : ∀ (kV doc pm : Value) (an : Option Addr) (cdv ct : Value) (us : List Value), us.length = ps.length → bindArgs (PySem.W.fnOf x qual (defArgs st) (defBody st) (defScope st) .none kV doc pm an cdv ct) ⟨us, []⟩ = pure (ps.zip us)) : Binds K fd ps [] := by
  obtain ⟨oc, od, kV, doc, pm, an, cdv, ct, osl, rfl, lk, hcd⟩ := F.ex
  exact .all (h kV doc pm an cdv ct)
theorem fun_mk {x qual : Str} {st : Stmt} {f : Addr} {oc : Value} {od an : Option Addr} {osl : Array (Option Value)} {kV doc pm cdv ct : Value} (l : K.lookup f = some ⟨oc, od, .func (PySem.W.fnOf x qual (defArgs st) (defBody st) (defScope st) .none kV doc pm an cdv ct), osl⟩)
    (c : PySem.W.codeIn K cdv qual = true) (k : PySem.W.keepIn K (.ref f) = true) : Fun K x qual st f (PySem.W.fnOf x qual (defArgs st) (defBody st) (defScope st) .none kV doc pm an cdv ct) := ⟨⟨oc, od, kV, doc, pm, an, cdv, ct, osl, rfl, l, c⟩, k⟩
end
section
variable {X : Cx}
theorem pv (i : Nat) {x : Str} {pos : Pos} (hN : X.N[i]? = some x := by rfl) (hv : Vis X.env.scope x := by first | exact Or.inl rfl | exact Or.inr (Or.inl rfl) | exact Or.inr (Or.inr rfl)) (hd : (x == ("__debug__" : Str)) = false := by decide)
    (hcd : (x == ("__classdict__" : Str)) = false := by decide) : PE X (.Name x pos) (tVar i) := pe_var hN hv hd hcd
end

/-- all that was tracked is as it was -/
abbrev Same (H H' : Hp) : Prop := ∀ b o, H b = some o → H' b = some o
theorem Same.refl (H : Hp) : Same H H := fun _ _ h => h
theorem Same.trans {H H1 H2 : Hp} (a : Same H H1) (b : Same H1 H2) : Same H H2 := fun c o h => b c o (a c o h)
theorem Same.free {H H' : Hp} (e : Same H H') {l : Addr} (h : H' l = Option.none) : H l = Option.none := by
  cases q : H l with
  | none => rfl
  | some o =>
    rw [e l o q] at h
    cases h
theorem Same.seq {K : PySem.W.Frag} {H H' : Hp} {a : Addr} {xs : List V} (e : Same H H') (h : SqL K H a xs) : SqL K H' a xs := by
  rcases h with (h | ⟨o, h⟩) | h
  · exact .inl (.inl (e _ _ h))
  · exact .inl (.inr ⟨o, e _ _ h⟩)
  · exact .inr h

section
variable {X : Cx}
end
section
variable {κ : Type} [DecidableEq κ]
end
end L2


namespace EM
end EM

namespace EM
/-- the words that join -/
inductive W3 where
  | a | e | o
  deriving DecidableEq
/-- a formula -/
inductive Fm where
  | lamp (k : Nat)
  | sure (b : Bool)
  | neg (f : Fm)
  | join (w : W3) (fs : List Fm)
mutual
/-- every lamp below m -/
def Fm.low (m : Nat) : Fm → Bool
  | .lamp k => decide (k < m)
  | .sure _ => true
  | .neg f => f.low m
  | .join _ fs => Fm.lowL m fs
def Fm.lowL (m : Nat) : List Fm → Bool
  | [] => true
  | f :: fs => f.low m && Fm.lowL m fs
end
theorem lowL_eq (m : Nat) : ∀ fs : List Fm, Fm.lowL m fs = fs.all (Fm.low m)
  | [] => by simp [Fm.lowL]
  | f :: fs => by simp [Fm.lowL, lowL_eq m fs]
theorem low_join (m : Nat) (w : W3) (fs : List Fm) : (Fm.join w fs).low m = fs.all (Fm.low m) := by
  simp [Fm.low, lowL_eq]
end EM

set_option maxRecDepth 100000
set_option maxHeartbeats 4000000
namespace L2
open PySem PySem.Spec PyProof.Rows

section
variable {σ : St} {H : Hp} {Q : VK} {D : Ends} {K : PySem.W.Frag} {BQ : Bool → Hp → Prop}
theorem i_var {i : Nat} {v : V} (h : σ[i]? = some (some v)) (k : Q v H) : tVar i σ H Q := ⟨v, h, k⟩
theorem i_c {v : V} (k : Q v H) : tC v σ H Q := k
theorem i_op {r : R2} {ta tb : TE} (h : ta σ H fun x H1 => tb σ H1 fun y H2 => r x y H2 Q) : tOp r ta tb σ H Q := h
theorem i_un {r : V → Hp → VK → Prop} {ta : TE} (h : ta σ H fun x H1 => r x H1 Q) : tUn r ta σ H Q := h
theorem i_rI0 {g : Int → Int → V} {i j : Int} (h : Q (g i j) H) : rI0 g (.int i) (.int j) H Q := ⟨i, j, rfl, rfl, h⟩
theorem i_rI {C : Int → Int → Prop} {g : Int → Int → V} {i j : Int} (c : C i j) (h : Q (g i j) H) : rI C g (.int i) (.int j) H Q := ⟨i, j, rfl, rfl, c, h⟩
theorem i_rU {g : Int → V} {i : Int} (h : Q (g i) H) : rU g (.int i) H Q := ⟨i, rfl, h⟩
theorem i_eqI {i j : Int} (h : Q (.bl (decide (i = j))) H) : rEq (.int i) (.int j) H Q := by
  refine ⟨rfl, ?_⟩
  have e : decide (V.int i = V.int j) = decide (i = j) := by simp
  rw [e]; exact h
theorem i_eqS {i j : Str} (h : Q (.bl (decide (i = j))) H) : rEq (.str i) (.str j) H Q := by
  refine ⟨rfl, ?_⟩
  have e : decide (V.str i = V.str j) = decide (i = j) := by simp
  rw [e]; exact h
theorem i_neS {i j : Str} (h : Q (.bl (!decide (i = j))) H) : rNe (.str i) (.str j) H Q := by
  refine ⟨rfl, ?_⟩
  have e : decide (V.str i = V.str j) = decide (i = j) := by simp
  rw [e]; exact h
theorem i_test {t : TE} (h : t σ H fun x H' => ∃ k, x = .bl k ∧ BQ k H') : tTest t σ H BQ := h
theorem i_exb {b : Bool} {R : Bool → Prop} (h : R b) : ∃ k, V.bl b = V.bl k ∧ R k := ⟨b, rfl, h⟩
theorem i_and {t u : TT} (h : t σ H fun c H1 => if c = true then u σ H1 BQ else BQ false H1) : tAnd t u σ H BQ := h
theorem i_or {t u : TT} (h : t σ H fun c H1 => if c = true then BQ true H1 else u σ H1 BQ) : tOr t u σ H BQ := h
theorem i_not {t : TT} (h : t σ H fun c H1 => BQ (!c) H1) : tNot t σ H BQ := h
theorem i_if {t : TT} {ta tb : TE} (h : t σ H fun c H1 => if c = true then ta σ H1 Q else tb σ H1 Q) : tIf t ta tb σ H Q := h
theorem i_seq {t u : TS} (h : t { D with nx := u D } σ H) : tSeq t u D σ H := h
theorem i_next (h : D.nx σ H) : tNext D σ H := h
theorem i_drop {te : TE} (h : te σ H fun _ H1 => D.nx σ H1) : tDrop te D σ H := h
theorem i_ret {te : TE} (h : te σ H D.rt) : tRet te D σ H := h
theorem i_ifs {c : TT} {t u : TS} (h : c σ H fun b H1 => if b = true then t D σ H1 else u D σ H1) : tIfS c t u D σ H := h
theorem i_asg {te : TE} {g : TG} (h : te σ H fun x H1 => g x σ H1 D.nx) : tAsg te g D σ H := h
theorem i_name {i : Nat} {v : V} {R : St → Hp → Prop} (h : R (σ.set i (some v)) H) : gName i v σ H R := h
theorem i_nil {R : List V → Hp → Prop} (h : R [] H) : tNil σ H R := h
theorem i_cons {ta : TE} {tr : TA} {R : List V → Hp → Prop} (h : ta σ H fun x H1 => tr σ H1 fun xs H2 => R (x :: xs) H2) : tCons ta tr σ H R := h
theorem i_cb {r : List V → Hp → VK → Prop} {t : TA} (h : t σ H fun vs H1 => r vs H1 Q) : tCB r t σ H Q := h
/-- a new list, a new tuple -/
abbrev NewL (xs : List V) (H : Hp) (Q : VK) : Prop := xs.length ≤ sizeLine ∧ ∀ p, H p = none → Q (.ref p) (upd H p (.lst xs))
abbrev NewT (xs : List V) (H : Hp) (Q : VK) : Prop := xs.length ≤ sizeLine ∧ ∀ p, H p = none → Q (.ref p) (upd H p (.tup xs))
theorem i_tup {t : TA} (h : t σ H fun xs H1 => NewT xs H1 Q) : tTup t σ H Q := h
theorem i_lst {t : TA} (h : t σ H fun xs H1 => NewL xs H1 Q) : tLst t σ H Q := h
theorem i_bm {T : String} {r : V → List V → Hp → VK → Prop} {to : TE} {t : TA} (h : to σ H fun x H1 => tyV K T x H1 ∧ t σ H1 fun xs H2 => r x xs H2 Q) : tBM K T r to t σ H Q := h
theorem i_bm0 {T : String} {r : V → List V → Hp → VK → Prop} {to : TE} (h : to σ H fun x H1 => tyV K T x H1 ∧ r x [] H1 Q) : tBM0 K T r to σ H Q := h
theorem i_fld {ta : TE} {f : Str} (h : ta σ H fun x H1 => ∃ a C dx fs v, x = .ref a ∧ H1 a = some (.ins C dx fs) ∧ Cls K C ∧ NoAttr K C f ∧ fs.lookup f = some v ∧ Q v H1) : tFld K ta f σ H Q := h
theorem i_sfld {ta tv : TE} {f : Str} (h : tv σ H fun y H1 => ta σ H1 fun x H2 => ∃ a C dx fs, x = .ref a ∧ H2 a = some (.ins C dx fs) ∧ Cls K C ∧ NoAttr K C f ∧ fs.length < 1000 ∧ D.nx σ (upd H2 a (.ins C dx (putF f y fs)))) : sFld K ta tv f D σ H := h
theorem i_sl {r : V → Option Int → Option Int → Hp → VK → Prop} {te : TE} {tl th : TO} (h : te σ H fun x H1 => tl σ H1 fun l H2 => th σ H2 fun u H3 => r x l u H3 Q) : tSl r te tl th σ H Q := h
theorem i_part {t : TE} {R : Option Int → Hp → Prop} (h : t σ H fun x H1 => ∃ i, x = .int i ∧ R (some i) H1) : tPart t σ H R := h
theorem i_exi {b : Int} {R : Int → Prop} (h : R b) : ∃ k, V.int b = V.int k ∧ R k := ⟨b, rfl, h⟩
theorem i_noPart {R : Option Int → Hp → Prop} (h : R none H) : tNoPart σ H R := h
/-- a test by a value's truth -/
theorem i_truB {b : Bool} {R : Bool → Prop} (h : R b) : ∃ k, TruV K (.bl b) H k ∧ R k := ⟨b, rfl, h⟩
/-- ifs -/
theorem i_ifd {c A B : Prop} [Decidable c] (h1 : c → A) (h2 : ¬ c → B) : if decide c = true then A else B := by
  by_cases h : c
  · rw [if_pos (decide_eq_true h)]; exact h1 h
  · rw [if_neg (by simp [h])]; exact h2 h
theorem i_ifn {c A B : Prop} [Decidable c] (h1 : ¬ c → A) (h2 : c → B) : if (!decide c) = true then A else B := by
  by_cases h : c
  · rw [if_neg (by simp [h])]; exact h2 h
  · rw [if_pos (by simp [h])]; exact h1 h
theorem i_ifb {b : Bool} {A B : Prop} (h1 : b = true → A) (h2 : b = false → B) : if b = true then A else B := by
  cases b
  · rw [if_neg Bool.false_ne_true]; exact h2 rfl
  · rw [if_pos rfl]; exact h1 rfl
theorem i_ifT {b : Bool} {A B : Prop} (h : b = true) (k : A) : if b = true then A else B := by rw [if_pos h]; exact k
theorem i_ifF {b : Bool} {A B : Prop} (h : b = false) (k : B) : if b = true then A else B := by rw [if_neg (by rw [h]; exact Bool.false_ne_true)]; exact k
end

def LoopR (lo : Int) (n : Nat) (g : TG) (tb : TS) (D : Ends) (σ : St) (H : Hp) : Prop :=
  ∃ W : Nat → Nat → St → Hp → Prop, (∃ m, W 0 m σ H) ∧ ∀ i m σ H, W i m σ H →
      ((Itr lo n).stop i H ∧ D.nx σ H) ∨ ((Itr lo n).go i H ∧ ∃ N : St → Hp → Prop, (∀ σ' H', N σ' H' → ∃ m', m' < m ∧ W (i + 1) m' σ' H') ∧ ∀ x H', (Itr lo n).yld i H x H' → g x σ H' fun σ2 H2 => tb { D with nx := N, ct := N, bk := D.nx } σ2 H2)
def LoopL (K : PySem.W.Frag) (a : Addr) (g : TG) (tb : TS) (D : Ends) (σ : St) (H : Hp) : Prop :=
  ∃ W : Nat → Nat → St → Hp → Prop, (∃ m, W 0 m σ H) ∧ ∀ i m σ H, W i m σ H →
      ((Itl K a).stop i H ∧ D.nx σ H) ∨ ((Itl K a).go i H ∧ ∃ N : St → Hp → Prop, (∀ σ' H', N σ' H' → ∃ m', m' < m ∧ W (i + 1) m' σ' H') ∧ ∀ x H', (Itl K a).yld i H x H' → g x σ H' fun σ2 H2 => tb { D with nx := N, ct := N, bk := D.nx } σ2 H2)
def LoopT (K : PySem.W.Frag) (a : Addr) (g : TG) (tb : TS) (D : Ends) (σ : St) (H : Hp) : Prop :=
  ∃ W : Nat → Nat → St → Hp → Prop, (∃ m, W 0 m σ H) ∧ ∀ i m σ H, W i m σ H →
      ((Itt K a).stop i H ∧ D.nx σ H) ∨ ((Itt K a).go i H ∧ ∃ N : St → Hp → Prop, (∀ σ' H', N σ' H' → ∃ m', m' < m ∧ W (i + 1) m' σ' H') ∧ ∀ x H', (Itt K a).yld i H x H' → g x σ H' fun σ2 H2 => tb { D with nx := N, ct := N, bk := D.nx } σ2 H2)
section
variable {σ : St} {H : Hp} {D : Ends} {K : PySem.W.Frag} {g : TG} {tb : TS}
theorem i_forR1 {ta : TA} (h : ta σ H fun vs H1 => ∃ j : Int, vs = [.int j] ∧ -(2 ^ 62) ≤ j ∧ j < 2 ^ 62 ∧ LoopR 0 j.toNat g tb D σ H1) : tFor (iRng1 ta) g tb D σ H := h
theorem loopR0 {n : Nat} (Pv : Nat → St → Hp → Prop) (h0 : Pv 0 σ H) (hs : ∀ (i : Nat) σ H, i < n → Pv i σ H → g (.int (i : Int)) σ H fun σ2 H2 => tb { D with nx := Pv (i + 1), ct := Pv (i + 1), bk := D.nx } σ2 H2) (hd : ∀ σ H, Pv n σ H → D.nx σ H) : LoopR 0 n g tb D σ H := for_range Pv h0 (fun i σ H hi p => by rw [Int.zero_add]; exact hs i σ H hi p) hd
theorem loopL {a : Addr} {xs : List V} (Pv : Nat → St → Hp → Prop) (h0 : Pv 0 σ H) (hl : ∀ i σ H, i ≤ xs.length → Pv i σ H → SqL K H a xs) (hs : ∀ i x σ H, xs[i]? = some x → Pv i σ H → g x σ H fun σ2 H2 => tb { D with nx := Pv (i + 1), ct := Pv (i + 1), bk := D.nx } σ2 H2) (hd : ∀ σ H, Pv xs.length σ H → D.nx σ H) : LoopL K a g tb D σ H := for_list Pv h0 hl hs hd
theorem loopT {a : Addr} {xs : List V} (Pv : Nat → St → Hp → Prop) (h0 : Pv 0 σ H) (hl : ∀ i σ H, i ≤ xs.length → Pv i σ H → SqT K H a xs) (hs : ∀ i x σ H, xs[i]? = some x → Pv i σ H → g x σ H fun σ2 H2 => tb { D with nx := Pv (i + 1), ct := Pv (i + 1), bk := D.nx } σ2 H2) (hd : ∀ σ H, Pv xs.length σ H → D.nx σ H) : LoopT K a g tb D σ H := for_tup Pv h0 hl hs hd
end

def Its (x : Str) : It := ⟨fun i _ => i < x.cps.size, fun i H v H' => H' = H ∧ ∃ c, x.cps[i]? = some c ∧ v = .str ⟨#[c]⟩, fun i _ => x.cps.size ≤ i⟩
theorem turn_strA {P : Program} {w : World} {K : PySem.W.Frag} {tg : Expr} (x : Str) (t : Tok) (it : Addr) : Turn P w K tg (Its x) [it] it (fun i h => h.IsStrIter it "str_ascii_iterator" x t i) where
  mem := by simp
  obj := fun i h st b hb => by
    have e : b = it := by simpa using hb
    subst e
    obtain ⟨o, e, c, d⟩ := st
    exact ⟨o, e, fun v z => by rw [d] at z; cases z⟩
  keep := fun i h h' st k => let ⟨o, ho, r⟩ := st; ⟨o, k it (by simp) o ho, r⟩
  item := by
    intro X hP hw hK hc i pins s σ H E I hf st hg
    subst hP hw hK
    obtain ⟨f0, f1, f2, f3, f4, f5⟩ := hf it (by simp)
    have hg : i < x.cps.size := hg
    refine wpAny_pyNext_ascii_item st (c := x.cps[i]) (by simp [hg]) fun h' st' sb => ?_
    have I1 : Inv X pins σ H { s with heap := h', toks := s.toks + 1 } := I.turned (fun b o hb e => (sb.2 b hb).trans e) f0 f1 f3 f4 f5
    obtain ⟨o, e, c, d⟩ := id st'
    exact ⟨_, rfl, go_of (s := { s with heap := h', toks := s.toks + 1 }) e c d (by decide) ⟨.str ⟨#[x.cps[i]]⟩, H, I1, ⟨_, rfl⟩, ⟨rfl, _, by simp [hg], rfl⟩, st', fun b hb => (hf b hb).1⟩⟩
  done := by
    intro X hP hw hK hc i pins s σ H E I hf st hg
    subst hP hw hK
    obtain ⟨f0, f1, f2, f3, f4, f5⟩ := hf it (by simp)
    have hg : x.cps.size ≤ i := hg
    exact wpAny_pyNext_ascii_end (I.ok.hd hc) st (by simp [hg]) fun h' eb => ⟨rfl, I.turned (t' := s.toks) (fun b o hb e => eb b o hb e) f0 f1 f3 f4 f5⟩
  self := fun _ _ _ _ _ st h => wpAny_pyIter_striter_ascii st h
theorem turn_strW {P : Program} {w : World} {K : PySem.W.Frag} {tg : Expr} (x : Str) (t : Tok) (it : Addr) : Turn P w K tg (Its x) [it] it (fun i h => h.IsStrIter it "str_iterator" x t i) where
  mem := by simp
  obj := fun i h st b hb => by
    have e : b = it := by simpa using hb
    subst e
    obtain ⟨o, e, c, d⟩ := st
    exact ⟨o, e, fun v z => by rw [d] at z; cases z⟩
  keep := fun i h h' st k => let ⟨o, ho, r⟩ := st; ⟨o, k it (by simp) o ho, r⟩
  item := by
    intro X hP hw hK hc i pins s σ H E I hf st hg
    subst hP hw hK
    obtain ⟨f0, f1, f2, f3, f4, f5⟩ := hf it (by simp)
    have hg : i < x.cps.size := hg
    refine wpAny_pyNext_wide_item st (c := x.cps[i]) (by simp [hg]) fun h' st' sb => ?_
    have I1 : Inv X pins σ H { s with heap := h', toks := s.toks + 1 } := I.turned (fun b o hb e => (sb.2 b hb).trans e) f0 f1 f3 f4 f5
    obtain ⟨o, e, c, d⟩ := id st'
    exact ⟨_, rfl, go_of (s := { s with heap := h', toks := s.toks + 1 }) e c d (by decide) ⟨.str ⟨#[x.cps[i]]⟩, H, I1, ⟨_, rfl⟩, ⟨rfl, _, by simp [hg], rfl⟩, st', fun b hb => (hf b hb).1⟩⟩
  done := by
    intro X hP hw hK hc i pins s σ H E I hf st hg
    subst hP hw hK
    obtain ⟨f0, f1, f2, f3, f4, f5⟩ := hf it (by simp)
    have hg : x.cps.size ≤ i := hg
    exact wpAny_pyNext_wide_end (I.ok.hd hc) st (by simp [hg]) fun h' eb => ⟨rfl, I.turned (t' := s.toks) (fun b o hb e => eb b o hb e) f0 f1 f3 f4 f5⟩
  self := fun _ _ _ _ _ st h => wpAny_pyIter_striter_wide st h
def iSeq (K : PySem.W.Frag) (tl : TE) : TI := fun σ H R => tl σ H fun x H1 => (∃ a xs, x = .ref a ∧ SqL K H1 a xs ∧ R (Itl K a) H1) ∨ (∃ a xs, x = .ref a ∧ SqT K H1 a xs ∧ R (Itt K a) H1) ∨ (∃ z, x = .str z ∧ R (Its z) H1)
theorem pi_seq {X : Cx} {tg : Expr} {l : Expr} {tl : TE} (hl : PE X l tl) : PI X tg l (iSeq X.K tl) := by
  intro pins s σ H R I h
  refine thn (hl pins s σ H _ I h) fun v s1 ⟨x, H1, I1, r1, q1⟩ => ?_
  have fp : ∀ b ∈ [s1.heap.objs.size], FpOk X pins H1 b := fun b hb => by
    have e : b = s1.heap.objs.size := by simpa using hb
    subst e
    exact I1.fpOk (Nat.le_refl _) (I1.hok.fresh (Nat.le_refl _))
  rcases q1 with ⟨a, xs, e, hq, q⟩ | ⟨a, xs, e, hq, q⟩ | ⟨z, e, q⟩
  · subst e
    cases r1
    obtain ⟨its, rv, p, hz⟩ := I1.list hq
    refine wpAny_pyIter_list p.isList ?_
    exact ⟨s1.heap.objs.size, [s1.heap.objs.size], _, _, H1, rfl, I1.kept (t' := s1.toks) fun b o e => Heap.get?_push_of_some _ e, turn_list a _, ⟨_, Heap.get?_push_size _ rfl, rfl, rfl⟩, fp, q⟩
  · subst e
    cases r1
    obtain ⟨its, rv, p, hz⟩ := I1.tuple hq
    refine wpAny_pyIter_tuple (show s1.heap.IsTuple a its.toArray from p) ?_
    exact ⟨s1.heap.objs.size, [s1.heap.objs.size], _, _, H1, rfl, I1.kept (t' := s1.toks) fun b o e => Heap.get?_push_of_some _ e, turn_tuple a _, ⟨_, Heap.get?_push_size _ rfl, rfl, rfl⟩, fp, q⟩
  · subst e
    obtain ⟨t, rfl⟩ := r1
    cases ha : z.cps.all (· < 128) with
    | false =>
      refine wpAny_pyIter_wide ha ?_
      exact ⟨s1.heap.objs.size, [s1.heap.objs.size], _, _, H1, rfl, I1.kept (t' := s1.toks) fun b o e => Heap.get?_push_of_some _ e, turn_strW z t _, ⟨_, Heap.get?_push_size _ rfl, rfl, rfl⟩, fp, q⟩
    | true =>
      refine wpAny_pyIter_ascii ha ?_
      exact ⟨s1.heap.objs.size, [s1.heap.objs.size], _, _, H1, rfl, I1.kept (t' := s1.toks) fun b o e => Heap.get?_push_of_some _ e, turn_strA z t _, ⟨_, Heap.get?_push_size _ rfl, rfl, rfl⟩, fp, q⟩
def LoopX (x : Str) (g : TG) (tb : TS) (D : Ends) (σ : St) (H : Hp) : Prop :=
  ∃ W : Nat → Nat → St → Hp → Prop, (∃ m, W 0 m σ H) ∧ ∀ i m σ H, W i m σ H →
      ((Its x).stop i H ∧ D.nx σ H) ∨ ((Its x).go i H ∧ ∃ N : St → Hp → Prop, (∀ σ' H', N σ' H' → ∃ m', m' < m ∧ W (i + 1) m' σ' H') ∧ ∀ x' H', (Its x).yld i H x' H' → g x' σ H' fun σ2 H2 => tb { D with nx := N, ct := N, bk := D.nx } σ2 H2)
def SeqW (K : PySem.W.Frag) (x : V) (g : TG) (tb : TS) (D : Ends) (σ : St) (H1 : Hp) : Prop :=
  (∃ a xs, x = .ref a ∧ SqL K H1 a xs ∧ LoopL K a g tb D σ H1) ∨ (∃ a xs, x = .ref a ∧ SqT K H1 a xs ∧ LoopT K a g tb D σ H1) ∨ (∃ z, x = .str z ∧ LoopX z g tb D σ H1)
section
variable {σ : St} {H : Hp} {D : Ends} {K : PySem.W.Frag} {g : TG} {tb : TS}
theorem i_forS {tl : TE} (h : tl σ H fun x H1 => SeqW K x g tb D σ H1) : tFor (iSeq K tl) g tb D σ H := h
theorem seqL {a : Addr} {xs : List V} (Pv : Nat → St → Hp → Prop) (h0 : Pv 0 σ H) (hl : ∀ i σ H, i ≤ xs.length → Pv i σ H → SqL K H a xs) (hs : ∀ i x σ H, xs[i]? = some x → Pv i σ H → g x σ H fun σ2 H2 => tb { D with nx := Pv (i + 1), ct := Pv (i + 1), bk := D.nx } σ2 H2) (hd : ∀ σ H, Pv xs.length σ H → D.nx σ H) : SeqW K (.ref a) g tb D σ H := .inl ⟨a, xs, rfl, hl 0 σ H (Nat.zero_le _) h0, loopL Pv h0 hl hs hd⟩
theorem seqT {a : Addr} {xs : List V} (Pv : Nat → St → Hp → Prop) (h0 : Pv 0 σ H) (hl : ∀ i σ H, i ≤ xs.length → Pv i σ H → SqT K H a xs) (hs : ∀ i x σ H, xs[i]? = some x → Pv i σ H → g x σ H fun σ2 H2 => tb { D with nx := Pv (i + 1), ct := Pv (i + 1), bk := D.nx } σ2 H2) (hd : ∀ σ H, Pv xs.length σ H → D.nx σ H) : SeqW K (.ref a) g tb D σ H := .inr (.inl ⟨a, xs, rfl, hl 0 σ H (Nat.zero_le _) h0, loopT Pv h0 hl hs hd⟩)
end

section
variable (P : Program) (w : World) (K : PySem.W.Frag) (mg : Str → Option Value) (base : Heap)
def FnS (k : Nat) (x : Str) (ps : List Str) (sp : Sp) : Prop := ∃ f fd, FnOk P w K mg base CX0 k f fd ps sp ∧ Binds K fd ps [] ∧ PySem.W.keepIn K (.ref f) = true ∧ mg x = some (.ref f)
def MeS (k : Nat) (C : Addr) (m : Str) (ps : List Str) (sp : Sp) : Prop := Cls K C ∧ ∃ f fd, FnOk P w K mg base CX0 k f fd ps sp ∧ Binds K fd ps [] ∧ Meth K C m f
def MkS (k : Nat) (x : Str) (C : Addr) (ps : List Str) (sp : Sp) : Prop := mg x = some (.ref C) ∧ ∃ f fd, Mk K C f ∧ FnOk P w K mg base CX0 k f fd ps sp ∧ Binds K fd ps []
end
def tFn (sp : Sp) (t : TA) : TE := fun σ H Q => t σ H fun vs H1 => sp vs H1 Q E0
def MkG (C : Addr) (sp : Sp) (vs : List V) (H1 : Hp) (Q : VK) : Prop := ∀ x dx, H1 x = none → H1 dx = none → dx ≠ x →
  sp (.ref x :: vs) (upd (upd H1 dx (.own x)) x (.ins C dx [])) (fun v H2 => v = .non ∧ Q (.ref x) H2) E0
def tMk (C : Addr) (sp : Sp) (t : TA) : TE := fun σ H Q => t σ H fun vs H1 => MkG C sp vs H1 Q
/-- o.m(..) of an instance of one of several classes: D tells which, each keeps sp for its own instances -/
def tDy (D : Addr → Prop) (m : Str) (sp : Sp) (ta : TE) (t : TA) : TE := fun σ H Q => ta σ H fun x H1 => ∃ a C dx fs, x = .ref a ∧ H1 a = some (.ins C dx fs) ∧ D C ∧ fs.lookup m = none ∧
  t σ H1 fun vs H2 => H2 a = some (.ins C dx fs) ∧ sp (x :: vs) H2 Q E0
/-- .. the promise of the class at C -/
def spAt (sp : Sp) (C : Addr) : Sp := fun vs H Q E => sp vs H Q E ∧ ∃ a dx fs r, vs = V.ref a :: r ∧ H a = some (.ins C dx fs)
theorem i_fn {sp : Sp} {t : TA} {σ : St} {H : Hp} {Q : VK} (h : t σ H fun vs H1 => sp vs H1 Q E0) : tFn sp t σ H Q := h
theorem i_mk {C : Addr} {sp : Sp} {t : TA} {σ : St} {H : Hp} {Q : VK} (h : t σ H fun vs H1 => MkG C sp vs H1 Q) : tMk C sp t σ H Q := h
theorem i_dy {D : Addr → Prop} {m : Str} {sp : Sp} {ta : TE} {t : TA} {σ : St} {H : Hp} {Q : VK} (h : ta σ H fun x H1 => ∃ a C dx fs, x = .ref a ∧ H1 a = some (.ins C dx fs) ∧ D C ∧ fs.lookup m = none ∧
  t σ H1 fun vs H2 => H2 a = some (.ins C dx fs) ∧ sp (x :: vs) H2 Q E0) : tDy D m sp ta t σ H Q := h
theorem tCall_nil (sp : Sp) (t : TA) : tCall sp [] E0 t = tFn sp t := by
  funext σ H Q
  unfold tCall tFn
  have e : (fun (vs : List V) (H1 : Hp) => sp (vs ++ []) H1 Q E0) = fun vs H1 => sp vs H1 Q E0 := by
    funext vs H1; rw [List.append_nil]
  rw [e]
theorem tMake_nil (C : Addr) (sp : Sp) (t : TA) : tMake C sp [] E0 t = tMk C sp t := by
  funext σ H Q
  unfold tMake tMk MkG
  congr 1
  funext vs H1
  rw [List.append_nil]
section
variable {X : Cx} {k k' : Nat} {x m : Str} {C : Addr} {ps : List Str} {sp : Sp} {e o : Expr} {es : List Expr} {ta : TE} {t : TA} {p pos apos : Pos}
theorem pe_fn (G : FnS X.prog X.w X.K X.mg X.base k x ps sp) (hr : Room k' X.A) (ha : PA X (e :: es) t) (hk : k ≤ k' := by omega) (hg : Gl X x := by rfl) (hdb : (x == ("__debug__" : Str)) = false := by decide)
    (he : starEach (e :: es) X.env = (false, eval e X.env) :: starEach es X.env := by rfl) (hpl : (backTo pos (starEach es X.env)).any (·.1) = false := by rfl) : PE X (.Call (.Name x p) (e :: es) [] pos) (tFn sp t) := by
  obtain ⟨f, fd, F, hb, kp, hm⟩ := G
  rw [← tCall_nil]
  exact pe_call F (hr.mono hk) hg hm kp hb .nil pass0 ha hdb he hpl
theorem pe_mk (G : MkS X.prog X.w X.K X.mg X.base k x C ps sp) (hr : Room k' X.A) (ha : PA X (e :: es) t) (hk : k + 1 ≤ k' := by omega) (hg : Gl X x := by rfl) (hdb : (x == ("__debug__" : Str)) = false := by decide)
    (he : starEach (e :: es) X.env = (false, eval e X.env) :: starEach es X.env := by rfl) (hpl : (backTo pos (starEach es X.env)).any (·.1) = false := by rfl) : PE X (.Call (.Name x p) (e :: es) [] pos) (tMk C sp t) := by
  obtain ⟨hm, f, fd, M, F, hb⟩ := G
  rw [← tMake_nil]
  exact pe_make M F (hr.mono hk) hg hm hb .nil pass0 ha hdb he hpl
theorem pe_dy {pl : Sem Bool} {D : Addr → Prop} (hD : ∀ C, D C → MeS X.prog X.w X.K X.mg X.base k C m ps (spAt sp C)) (hr : Room k' X.A) (ho : PE X o ta) (ha : PA X (e :: es) t) (hk : k ≤ k' := by omega)
    (hst : starEach (e :: es) X.env = (false, eval e X.env) :: starEach es X.env := by rfl) (hpl : (backTo pos (starEach es X.env)).any (·.1) = false := by rfl)
    (ht : eval (.Call (.Attribute o m apos) (e :: es) [] pos) X.env = (do
      let ov ← eval o X.env
      standAt apos.atName
      let (f, first) ← holding [ov] (getMethod ov m pl)
      callWith pos f first (backTo pos (starEach (e :: es) X.env)) (backToKw pos (keywordEach [] X.env))) := by rfl) :
    PE X (.Call (.Attribute o m apos) (e :: es) [] pos) (tDy D m sp ta t) := by
  intro pins s σ H Q I h
  refine PySem.W.methodCall_KW (pl := pl) (thn (ho pins s σ H _ I h) fun u s1 ⟨x, H1, I1, rx, a, C, dx, fs, ex, ea, hC, l, q⟩ => ?_) ht
  subst ex
  obtain rfl : u = Value.ref a := rx
  obtain ⟨c, f, fd, F, hb, hm⟩ := hD C hC
  refine getmeth_ok I1 ea c hm l ?_
  refine PySem.W.callWith_K (first := [.ref a]) (h₀ := X.base) I.ok.mod.kin hm.kp (thn (ha pos pins s1 σ H1 _ I1 q) fun us s2 ⟨vs, H2, I2, r, eb, q2⟩ => ⟨I2.kIn, ?_⟩) hst hpl
  exact run_fn (us := .ref a :: us) (vs := .ref a :: vs) (dvs := []) (E := E0) F (hr.mono hk) hb .nil pass0 I2 (.cons rfl r) (by rw [List.append_nil]; exact ⟨q2, a, dx, fs, vs, rfl, eb⟩)
theorem pe_dy0 {pl : Sem Bool} {D : Addr → Prop} (hD : ∀ C, D C → MeS X.prog X.w X.K X.mg X.base k C m ps (spAt sp C)) (hr : Room k' X.A) (ho : PE X o ta) (hk : k ≤ k' := by omega)
    (ht : eval (.Call (.Attribute o m apos) [] [] pos) X.env = (do
      let ov ← eval o X.env
      standAt apos.atName
      let (f, first) ← holding [ov] (getMethod ov m pl)
      callWith pos f first (backTo pos (starEach [] X.env)) (backToKw pos (keywordEach [] X.env))) := by rfl) :
    PE X (.Call (.Attribute o m apos) [] [] pos) (tDy D m sp ta tNil) := by
  intro pins s σ H Q I h
  refine PySem.W.methodCall_KW (pl := pl) (thn (ho pins s σ H _ I h) fun u s1 ⟨x, H1, I1, rx, a, C, dx, fs, ex, ea, hC, l, eb, q⟩ => ?_) ht
  subst ex
  obtain rfl : u = Value.ref a := rx
  obtain ⟨c, f, fd, F, hb, hm⟩ := hD C hC
  refine getmeth_ok I1 ea c hm l ?_
  exact PySem.W.callWith_K0 (first := [.ref a]) I1.kIn hm.kp (run_fn (us := [.ref a]) (vs := [.ref a]) (dvs := []) (E := E0) F (hr.mono hk) hb .nil pass0 I1 (.cons rfl .nil) (by rw [List.append_nil]; exact ⟨q, a, dx, fs, [], rfl, eb⟩))
/-- name = value, the slot i -/
theorem ss (i : Nat) {x : Str} {e : Expr} {te : TE} {pos pos' : Pos} (hN : X.N.Nodup) (he : PE X e te) (hi : X.N[i]? = some x := by rfl) (hx : Loc X.env.scope x := by first | exact Or.inl rfl | exact Or.inr rfl)
    (hs : swapsWith e (some (.Name x pos')) pos.line X.env = pure false := by rfl) (hf : X.fn x = true ∨ X.env.scope.names.lookup x = some .local := by first | exact .inl rfl | exact .inr rfl) : PS X (.Assign [.Name x pos'] e pos) (tAsg te (gName i)) :=
  ps_set hN hi hx he hs hf
theorem sg (i : Nat) {x : Str} {pos : Pos} (hN : X.N.Nodup) (hi : X.N[i]? = some x := by rfl) (hx : Loc X.env.scope x := by first | exact Or.inl rfl | exact Or.inr rfl) (hf : X.fn x = true ∨ X.env.scope.names.lookup x = some .local := by first | exact .inl rfl | exact .inr rfl) : PG X (.Name x pos) (gName i) := pg_name hN hi hx hf
def rIsi (K : PySem.W.Frag) : List V → Hp → VK → Prop := fun xs H Q => ∃ x t b, TyOf K H x t ∧ ((∃ n, xs = [x, .ty n] ∧ PySem.W.kitOne K t (.type n) = some b) ∨ (∃ c, xs = [x, .ref c] ∧ PySem.W.kitOne K t (.ref c) = some b)) ∧ Q (.bl b) H
theorem call_isi : CallR X (.builtin "isinstance") (rIsi X.K) := by
  intro pins s σ H xs us Q I r h
  obtain ⟨x, t, b, ty, h, q⟩ := h
  rcases h with ⟨n, rfl, e⟩ | ⟨c, rfl, e⟩
  · obtain ⟨u, v, rfl, ru, rv⟩ := vals2 r
    obtain rfl : v = Value.type n := rv
    exact isinst_ok I ru ty e fun tk => ⟨.bl b, H, I.tok tk, rfl, q⟩
  · obtain ⟨u, v, rfl, ru, rv⟩ := vals2 r
    obtain rfl : v = Value.ref c := rv
    exact isinst_ok I ru ty e fun tk => ⟨.bl b, H, I.tok tk, rfl, q⟩
theorem i_isiT {K : PySem.W.Frag} {x : V} {n : String} {t : Value} {b : Bool} {H : Hp} {Q : VK} (ty : TyOf K H x t) (e : PySem.W.kitOne K t (.type n) = some b) (h : Q (.bl b) H) : rIsi K [x, .ty n] H Q := ⟨x, t, b, ty, .inl ⟨n, rfl, e⟩, h⟩
def rAddG : R2 := fun x y H Q => rI0 (fun i j => V.int (i + j)) x y H Q ∨ (∃ i j, x = .str i ∧ y = .str j ∧ i.length + j.length ≤ sizeLine ∧ Q (.str (i ++ j)) H) ∨ rCat x y H Q
theorem op_addG : OpR X (binaryOp .Add) rAddG := OpR.or op_add (OpR.or op_add_str op_cat)
theorem i_addI {i j : Int} {H : Hp} {Q : VK} (h : Q (.int (i + j)) H) : rAddG (.int i) (.int j) H Q := .inl ⟨i, j, rfl, rfl, h⟩
theorem i_addS {i j : Str} {H : Hp} {Q : VK} (z : i.length + j.length ≤ sizeLine) (h : Q (.str (i ++ j)) H) : rAddG (.str i) (.str j) H Q := .inr (.inl ⟨i, j, rfl, rfl, z, h⟩)
theorem i_addL {l b : Addr} {xs zs : List V} {H : Hp} {Q : VK} (h1 : H l = some (.lst xs)) (h2 : H b = some (.lst zs)) (z : xs.length + zs.length ≤ sizeLine) (h : ∀ p, H p = none → Q (.ref p) (upd H p (.lst (xs ++ zs)))) : rAddG (.ref l) (.ref b) H Q := .inr (.inr ⟨l, b, xs, zs, rfl, rfl, h1, h2, z, h⟩)
end

section
variable {X : Cx} {K : PySem.W.Frag} {H : Hp} {Q : VK} {a : Expr} {ta : TE} {pos : Pos}
theorem bt_len : bootBuiltins "len" = some (.builtin "len") := by decide +kernel
theorem bt_isinstance : bootBuiltins "isinstance" = some (.builtin "isinstance") := by decide +kernel
theorem bt_max : bootBuiltins "max" = some (.builtin "max") := by decide +kernel
theorem bt_min : bootBuiltins "min" = some (.builtin "min") := by decide +kernel
theorem bt_int : bootBuiltins "int" = some (.type "int") := by decide +kernel
theorem bt_str : bootBuiltins "str" = some (.type "str") := by decide +kernel
theorem bt_list : bootBuiltins "list" = some (.type "list") := by decide +kernel
theorem bt_tuple : bootBuiltins "tuple" = some (.type "tuple") := by decide +kernel
theorem bt_reversed : bootBuiltins "reversed" = some (.type "reversed") := by decide +kernel
/-- len -/
def rLen (K : PySem.W.Frag) : List V → Hp → VK → Prop := fun xs H Q => ∃ x n, xs = [x] ∧ LenV K x H n ∧ Q (.int n) H
theorem call_lenG : CallR X (.builtin "len") (rLen X.K) := call_len
theorem i_lenS {p : Addr} {xs : List V} (h : SqL K H p xs) (k : Q (.int xs.length) H) : rLen K [.ref p] H Q := ⟨_, _, rfl, .inl ⟨xs, h, rfl⟩, k⟩
theorem i_lenL {p : Addr} {xs : List V} (h : H p = some (.lst xs)) (k : Q (.int xs.length) H) : rLen K [.ref p] H Q := ⟨_, _, rfl, .inl ⟨xs, SqL.of h, rfl⟩, k⟩
/-- max, min of two ints -/
def rMax2 : List V → Hp → VK → Prop := fun xs H Q => ∃ i j, xs = [.int i, .int j] ∧ Q (.int (if j > i then j else i)) H
def rMin2 : List V → Hp → VK → Prop := fun xs H Q => ∃ i j, xs = [.int i, .int j] ∧ Q (.int (if j < i then j else i)) H
theorem call_maxG (hc : X.calm = true) : CallR X (.builtin "max") rMax2 := call_max2 hc
theorem call_minG (hc : X.calm = true) : CallR X (.builtin "min") rMin2 := call_min2 hc
theorem i_max {i j : Int} (h : Q (.int (max i j)) H) : rMax2 [.int i, .int j] H Q := by
  refine ⟨i, j, rfl, ?_⟩
  have e : (if j > i then j else i) = max i j := by split <;> omega
  rw [e]; exact h
theorem i_min {i j : Int} (h : Q (.int (min i j)) H) : rMin2 [.int i, .int j] H Q := by
  refine ⟨i, j, rfl, ?_⟩
  have e : (if j < i then j else i) = min i j := by split <;> omega
  rw [e]; exact h
/-- int() -/
def rInt1 : List V → Hp → VK → Prop := fun xs H Q => (∃ i, xs = [.int i] ∧ Q (.int i) H) ∨ ∃ k, xs = [.bl k] ∧ Q (.int (if k then 1 else 0)) H
theorem call_intG : CallR X (.type "int") rInt1 := call_int1
theorem i_intB {b : Bool} (h : Q (.int (if b then 1 else 0)) H) : rInt1 [.bl b] H Q := .inr ⟨b, rfl, h⟩
/-- list(), tuple() -/
def rListOf (K : PySem.W.Frag) : List V → Hp → VK → Prop := fun xs H Q => ∃ p ys, xs = [.ref p] ∧ (SqL K H p ys ∨ SqT K H p ys) ∧ ∀ l, H l = none → Q (.ref l) (upd H l (.lst ys))
theorem call_listG : CallR X (.type "list") (rListOf X.K) := call_list_of
def rTupOf (K : PySem.W.Frag) : List V → Hp → VK → Prop := fun xs H Q => ∃ p ys, xs = [.ref p] ∧ ((SqL K H p ys ∧ ∀ l, H l = none → Q (.ref l) (upd H l (.tup ys))) ∨ (SqT K H p ys ∧ Q (.ref p) H))
theorem call_tupleG : CallR X (.type "tuple") (rTupOf X.K) := call_tuple_of
theorem i_tupL {p : Addr} {ys : List V} (h : H p = some (.lst ys)) (k : ∀ l, H l = none → Q (.ref l) (upd H l (.tup ys))) : rTupOf K [.ref p] H Q := ⟨p, ys, rfl, .inl ⟨SqL.of h, k⟩⟩
/-- index -/
theorem i_ixS {p : Addr} {xs : List V} {j : Nat} {v : V} (h : SqL K H p xs) (e : xs[j]? = some v) (k : Q v H) : rIx K (.ref p) (.int (j : Int)) H Q := .inl ⟨p, xs, j, v, rfl, rfl, h, atI_nat e, k⟩
theorem i_ixL {p : Addr} {xs : List V} {j : Nat} {v : V} (h : H p = some (.lst xs)) (e : xs[j]? = some v) (k : Q v H) : rIx K (.ref p) (.int (j : Int)) H Q := .inl ⟨p, xs, j, v, rfl, rfl, SqL.of h, atI_nat e, k⟩
theorem i_ixT {p : Addr} {xs : List V} {i : Int} {v : V} (h : H p = some (.tup xs)) (e : atI xs i = some v) (k : Q v H) : rIx K (.ref p) (.int i) H Q := .inr (.inl ⟨p, xs, i, v, rfl, rfl, SqT.of h, e, k⟩)
theorem i_ixX {x : Str} {i : Int} {c : Nat} (z : x.length ≤ sizeLine) (e : atI x.cps.toList i = some c) (k : Q (.str ⟨#[c]⟩) H) : rIx K (.str x) (.int i) H Q := .inr (.inr ⟨x, i, c, rfl, rfl, z, e, k⟩)
/-- slices of lists and tuples -/
def rSlG (K : PySem.W.Frag) : V → Option Int → Option Int → Hp → VK → Prop := fun x lo hi H Q => rSlL K x lo hi H Q ∨ rSlT K x lo hi H Q
theorem sl_seq : SlR X (rSlG X.K) := SlR.or sl_list sl_tup
theorem i_slS {p : Addr} {xs : List V} {lo hi : Option Int} (h : SqL K H p xs) (k : ∀ l, H l = none → Q (.ref l) (upd H l (.lst (cutV xs lo hi)))) : rSlG K (.ref p) lo hi H Q := .inl ⟨p, xs, rfl, h, k⟩
/-- a times b -/
def rMulG : R2 := rI CMul fun i j => V.int (i * j)
theorem op_mulG : OpR X (binaryOp .Mult) rMulG := op_mul
theorem i_mulI {i j : Int} (c : CMul i j) (h : Q (.int (i * j)) H) : rMulG (.int i) (.int j) H Q := ⟨i, j, rfl, rfl, c, h⟩
/-- in, not in -/
def rInG (K : PySem.W.Frag) : R2 := fun x y H Q => (∃ i j, x = .str i ∧ y = .str j ∧ Q (.bl (!(Builtin.Str.occurrences j i 0 j.length 1).isEmpty)) H) ∨ rIn K false x y H Q
theorem op_inG : OpR X (compareOp .In) (rInG X.K) := OpR.or op_in_str op_in_seq
/-- list methods -/
theorem i_append {l : Addr} {xs : List V} {y : V} (h : H l = some (.lst xs)) (z : xs.length < sizeLine) (k : Q .non (upd H l (.lst (xs ++ [y])))) : rAppend (.ref l) [y] H Q := ⟨l, xs, y, rfl, rfl, h, z, k⟩
theorem i_clear {l : Addr} {xs : List V} (h : H l = some (.lst xs)) (k : Q .non (upd H l (.lst []))) : rClear (.ref l) [] H Q := ⟨l, xs, rfl, rfl, h, k⟩
theorem i_pop {l : Addr} {xs : List V} {y : V} (h : H l = some (.lst (xs ++ [y]))) (k : Q y (upd H l (.lst xs))) : rPop (.ref l) [] H Q := ⟨l, xs ++ [y], y, rfl, rfl, h, by simp, by rw [List.dropLast_concat]; exact k⟩
theorem tyL {l : Addr} {xs : List V} (h : H l = some (.lst xs)) : tyV K "list" (.ref l) H := .inl ⟨rfl, xs, SqL.of h⟩
end
theorem small {n : Nat} (h : n ≤ 1000000) : n ≤ sizeLine := Nat.le_trans h (by decide)
theorem smallL {n : Nat} (h : n < 1000000) : n < sizeLine := Nat.lt_of_lt_of_le h (by decide)
theorem nd_ne {l : List Addr} (h : l.Nodup) {i j : Nat} {a b : Addr} (ha : l[i]? = some a) (hb : l[j]? = some b) (hij : i ≠ j) : a ≠ b := by
  intro e
  subst e
  obtain ⟨h1, e1⟩ := List.getElem?_eq_some_iff.mp ha
  obtain ⟨h2, e2⟩ := List.getElem?_eq_some_iff.mp hb
  exact hij ((List.getElem_inj h).mp (e1.trans e2.symm))
theorem kit_self (K : PySem.W.Frag) (n : String) : PySem.W.kitOne K (.type n) (.type n) = some true := by
  unfold PySem.W.kitOne
  rw [if_pos (by simp)]
theorem same_new {H : Hp} {p : Addr} (h : H p = none) (o : HO) : Same H (upd H p o) := fun b u q => by rw [upd_ne (ne_of_none q h)]; exact q
theorem same_new2 {H : Hp} {p q : Addr} (hp : H p = none) (hq : H q = none) (o u : HO) : Same H (upd (upd H q u) p o) := fun b v e => by rw [upd_ne (ne_of_none e hp), upd_ne (ne_of_none e hq)]; exact e
/-- an __init__ that stores its one argument -/
def spInit1 (C : Addr) (f : Str) : Sp := fun vs H Q _ => ∃ p dx v, vs = [.ref p, v] ∧ H p = some (.ins C dx []) ∧ Q .non (upd H p (.ins C dx [(f, v)]))
theorem i_init1 {C : Addr} {f : Str} {v : V} {H : Hp} {Q : VK} (h : ∀ (x dx : Addr) (H' : Hp), Same H H' → H x = none → H' x = some (.ins C dx [(f, v)]) → Q (.ref x) H') :
    MkG C (spInit1 C f) [v] H Q := by
  intro x dx hx hdx ne
  refine ⟨x, dx, v, rfl, upd_same, rfl, ?_⟩
  rw [upd_upd]
  exact h x dx _ (same_new2 hx hdx _ _) hx upd_same
theorem lk1 (f : Str) (v : V) : List.lookup f [(f, v)] = some v := by
  have h := lookup_putF f f v []
  rw [if_pos rfl] at h
  exact h
theorem lk0 {f g : Str} (v : V) (h : ¬ g = f) : List.lookup g [(f, v)] = none := by
  have e := lookup_putF f g v []
  rw [if_neg h] at e
  exact e
/-- the built-in names that the text does not bind -/
structure Bt (mg : Str → Option Value) : Prop where
  len : mg "len" = none
  range : mg "range" = none
  isinstance : mg "isinstance" = none
  int : mg "int" = none
  bool : mg "bool" = none
  str : mg "str" = none
  list : mg "list" = none
  tuple : mg "tuple" = none
  dict : mg "dict" = none
  set : mg "set" = none
  sorted : mg "sorted" = none
  max : mg "max" = none
  min : mg "min" = none
  sum : mg "sum" = none
  any : mg "any" = none
  all : mg "all" = none
  abs : mg "abs" = none
  reversed : mg "reversed" = none
  enumerate : mg "enumerate" = none
  zip : mg "zip" = none
/-- all but lists stay: what FmAt and its like lean on -/
def Ext (H H' : Hp) : Prop := ∀ b o, H b = some o → (∀ xs, o ≠ .lst xs) → H' b = some o
theorem Ext.of {H H' : Hp} (a : Same H H') : Ext H H' := fun b o h _ => a b o h
theorem cut_to {xs : List V} {k : Nat} (h : k ≤ xs.length) : cutV xs none (some (k : Int)) = xs.take k := by
  unfold cutV
  rw [HT.sIx_none, HT.sIx_nat, Nat.min_eq_left h]
  simp
theorem cut_from {xs : List V} {k : Nat} (h : k ≤ xs.length) : cutV xs (some (k : Int)) none = xs.drop k := by
  unfold cutV
  rw [HT.sIx_none, HT.sIx_nat, Nat.min_eq_left h]
  rw [List.take_of_length_le (by rw [List.length_drop]; omega)]
theorem cut_mid (xs : List V) (i j : Nat) : cutV xs (some (i : Int)) (some (j : Int)) = (xs.drop i).take (j - i) := by
  unfold cutV
  rw [HT.sIx_nat, HT.sIx_nat]
  by_cases hi : i ≤ xs.length
  · rw [Nat.min_eq_left hi]
    by_cases hj : j ≤ xs.length
    · rw [Nat.min_eq_left hj]
    · rw [Nat.min_eq_right (by omega), List.take_of_length_le (by rw [List.length_drop]; omega), List.take_of_length_le (by rw [List.length_drop]; omega)]
  · rw [Nat.min_eq_right (show xs.length ≤ i by omega), List.drop_eq_nil_of_le (Nat.le_refl _), List.drop_eq_nil_of_le (show xs.length ≤ i by omega)]
    simp
theorem map_int_mid (ns : List Int) (i j : Nat) : ((ns.map V.int).drop i).take j = ((ns.drop i).take j).map V.int := by
  rw [List.map_take, List.map_drop]
theorem get_int {ns : List Int} {i : Nat} {x : V} (h : (ns.map V.int)[i]? = some x) : ∃ n, x = V.int n ∧ ns[i]? = some n := by
  rw [List.getElem?_map] at h
  cases e : ns[i]? with
  | none => rw [e] at h; cases h
  | some n => rw [e] at h; exact ⟨n, (Option.some.inj h).symm, rfl⟩
theorem snoc_of {α : Type} {l : List α} (h : l ≠ []) : ∃ r x, l = r ++ [x] := ⟨l.dropLast, l.getLast h, (List.dropLast_concat_getLast h).symm⟩
section
variable {K : PySem.W.Frag} {H : Hp} {Q : VK}
theorem j_lst {xs : List V} (z : xs.length ≤ 1000000) (h : ∀ (p : Addr) (H' : Hp), Same H H' → H p = none → H' p = some (.lst xs) → Q (.ref p) H') : NewL xs H Q :=
  ⟨small z, fun p hp => h p _ (same_new hp _) hp upd_same⟩
theorem j_tup {xs : List V} (z : xs.length ≤ 1000000) (h : ∀ (p : Addr) (H' : Hp), Same H H' → H p = none → H' p = some (.tup xs) → Q (.ref p) H') : NewT xs H Q :=
  ⟨small z, fun p hp => h p _ (same_new hp _) hp upd_same⟩
theorem j_sl {p : Addr} {xs ys : List V} {lo hi : Option Int} (h : SqL K H p xs) (e : cutV xs lo hi = ys) (k : ∀ (l : Addr) (H' : Hp), Same H H' → H l = none → H' l = some (.lst ys) → Q (.ref l) H') : rSlG K (.ref p) lo hi H Q :=
  i_slS h fun l hl => by rw [e]; exact k l _ (same_new hl _) hl upd_same
theorem j_add {l b : Addr} {xs zs : List V} (h1 : H l = some (.lst xs)) (h2 : H b = some (.lst zs)) (z : xs.length + zs.length ≤ 1000000) (h : ∀ (p : Addr) (H' : Hp), Same H H' → H p = none → H' p = some (.lst (xs ++ zs)) → Q (.ref p) H') : rAddG (.ref l) (.ref b) H Q :=
  i_addL h1 h2 (small z) fun p hp => h p _ (same_new hp _) hp upd_same
theorem j_list {p : Addr} {ys : List V} (h : SqL K H p ys ∨ SqT K H p ys) (k : ∀ (l : Addr) (H' : Hp), Same H H' → H l = none → H' l = some (.lst ys) → Q (.ref l) H') : rListOf K [.ref p] H Q :=
  ⟨p, ys, rfl, h, fun l hl => k l _ (same_new hl _) hl upd_same⟩
/-- all but the list at l stays -/
def But (l : Addr) (H H' : Hp) : Prop := ∀ b o, b ≠ l → H b = some o → H' b = some o
theorem But.ext {l : Addr} {H H' : Hp} {xs : List V} (h : H l = some (.lst xs)) (s : But l H H') : Ext H H' := fun b o e n => s b o (ne_of e h (n xs)) e
theorem But.same {l : Addr} {H0 H H' : Hp} (s : But l H H') (h0 : H0 l = none) (s0 : Same H0 H) : Same H0 H' := fun b o e => s b o (ne_of_none e h0) (s0 b o e)
theorem but_upd {l : Addr} {H : Hp} {o : HO} : But l H (upd H l o) := fun b u n e => by rw [upd_ne n]; exact e
theorem j_append {l : Addr} {xs : List V} {y : V} (h : H l = some (.lst xs)) (z : xs.length < 1000000) (k : ∀ H' : Hp, But l H H' → H' l = some (.lst (xs ++ [y])) → Q .non H') : rAppend (.ref l) [y] H Q := i_append h (smallL z) (k _ but_upd upd_same)
theorem j_clear {l : Addr} {xs : List V} (h : H l = some (.lst xs)) (k : ∀ H' : Hp, But l H H' → H' l = some (.lst []) → Q .non H') : rClear (.ref l) [] H Q := i_clear h (k _ but_upd upd_same)
theorem j_pop {l : Addr} {xs : List V} {y : V} (h : H l = some (.lst (xs ++ [y]))) (k : ∀ H' : Hp, But l H H' → H' l = some (.lst xs) → Q y H') : rPop (.ref l) [] H Q := i_pop h (k _ but_upd upd_same)
end
end L2

set_option maxRecDepth 100000
set_option maxHeartbeats 4000000
namespace L2
open PySem PySem.Spec PyProof.Rows
section
variable {X : Cx} {pins : List (Addr × Obj)} {σ : St} {H : Hp} {s : Shared} {cl : List (Str × Addr)} {x : Str} {ns : List Str} {ix : List Nat} {sc scope : Scope} {N : List Str} {fp : List Addr}
end
section
variable {X : Cx} {pins : List (Addr × Obj)} {σ : St} {H : Hp} {s : Shared} {cl : List (Str × Addr)} {x : Str} {ns : List Str} {ix : List Nat} {sc scope : Scope} {N : List Str} {fp : List Addr} {elt iter : Expr} {px pos : Pos} {ifs : List Expr} {tc : TT} {te : TE} {wi : TI}
end
section
variable {wi : TI} {ix : List Nat} {tc : TT} {te : TE} {σ : St} {H : Hp} {Q : VK} {K : PySem.W.Frag}
end
section
variable {X : Cx} {K : PySem.W.Frag} {a o : Expr} {ta : TE} {pos : Pos}
end
end L2

set_option maxRecDepth 100000
set_option maxHeartbeats 4000000
namespace L2
open PySem PySem.Spec PyProof.Rows
section
variable {X : Cx} {K : PySem.W.Frag} {σ : St} {H : Hp} {Q : VK} {a : Expr} {ta : TE} {pos : Pos}
/-- a slice -/
def rSlX : V → Option Int → Option Int → Hp → VK → Prop := fun x lo hi H Q => ∃ z, x = .str z ∧ z.length ≤ sizeLine ∧ Q (.str (Txt.slice z lo hi)) H
theorem sl_str : SlR X rSlX := by
  intro pins s σ H x v vl vu lo hi sl Q I rx hs pl pu h
  obtain ⟨z, rfl, hz, q⟩ := h
  obtain ⟨t, rfl⟩ := rx
  refine ⟨"str", _, F.slot_str_getitem.lookup, typeIs_str _ _ _, ?_⟩
  obtain ⟨o, ho, hc, hd⟩ := hs
  have fin : ∀ (l u : Option (Int × Tok)), vl = partValue l → vu = partValue u → l.map (·.1) = lo → u.map (·.1) = hi → wpAny (model X.prog X.w) X.A (getItem (.str z t) (.ref sl)) (EP X pins σ Q) X.xe s := fun l u e1 e2 e3 e4 => by
    subst e1 e2 e3 e4
    exact wpAny_getItem_str_slice (l := l) (u := u) (st := none) ⟨o, ho, hc, hd⟩ rfl
      (post_val_or_str ⟨Nat.le_trans (Txt.slice_le z _ _) hz, fun t' k => ⟨.str _, H, I.tok k, ⟨t', rfl⟩, q⟩⟩)
  have pv : ∀ {v : Value} {o : Option Int}, IsPart v o → ∃ l : Option (Int × Tok), v = partValue l ∧ l.map (·.1) = o := fun {v o} h => by
    cases h <;> first | exact ⟨none, rfl, rfl⟩ | exact ⟨some (_, _), rfl, rfl⟩
  obtain ⟨l, e1, e3⟩ := pv pl
  obtain ⟨u, e2, e4⟩ := pv pu
  exact fin l u e1 e2 e3 e4
/-- slices of lists, tuples, texts -/
def rSlA (K : PySem.W.Frag) : V → Option Int → Option Int → Hp → VK → Prop := fun x lo hi H Q => rSlG K x lo hi H Q ∨ rSlX x lo hi H Q
theorem sl_any : SlR X (rSlA X.K) := SlR.or sl_seq sl_str
theorem i_slX {z : Str} {lo hi : Option Int} (hz : z.length ≤ 1000000) (k : Q (.str (Txt.slice z lo hi)) H) : rSlA K (.str z) lo hi H Q := .inr ⟨z, rfl, small hz, k⟩
theorem j_slA {p : Addr} {xs ys : List V} {lo hi : Option Int} (h : SqL K H p xs) (e : cutV xs lo hi = ys) (k : ∀ (l : Addr) (H' : Hp), Same H H' → H l = none → H' l = some (.lst ys) → Q (.ref l) H') : rSlA K (.ref p) lo hi H Q := .inl (j_sl h e k)
/-- find -/
def rFind : V → List V → Hp → VK → Prop := fun x vs H Q => ∃ z y, x = .str z ∧ vs = [.str y] ∧ Q (.int (Txt.find z y)) H
theorem ms_find : MtM X "str.find" rFind := by
  intro pins s σ H x vs v us Q I rx rv h
  obtain ⟨z, y, rfl, rfl, q⟩ := h
  obtain ⟨t, rfl⟩ := rx
  obtain ⟨u, rfl, t', rfl⟩ := rv.one
  exact SC.find ⟨.int _, H, I.tok _, ⟨_, rfl⟩, q⟩
/-- join of a list of texts -/
theorem vals_strs : ∀ {ts : List Str} {us : List Value}, Vals (ts.map V.str) us → ∃ l : List (Str × Tok), us = strValues l ∧ l.map (·.1) = ts
  | [], _, r => by cases r; exact ⟨[], rfl, rfl⟩
  | t :: ts, _, r => by
    cases r with
    | cons r1 r2 =>
      obtain ⟨k, rfl⟩ := r1
      obtain ⟨l, rfl, rfl⟩ := vals_strs r2
      exact ⟨(t, k) :: l, rfl, rfl⟩
def rJoin (K : PySem.W.Frag) : V → List V → Hp → VK → Prop := fun x vs H Q => ∃ z l ts, x = .str z ∧ vs = [.ref l] ∧ SqL K H l (ts.map V.str) ∧ JoinOk z ts = true ∧ Q (.str (Txt.join z ts)) H
theorem ms_join : MtM X "str.join" (rJoin X.K) := by
  intro pins s σ H x vs v us Q I rx rv h
  obtain ⟨z, l, ts, rfl, rfl, hq, hj, q⟩ := h
  obtain ⟨t, rfl⟩ := rx
  obtain ⟨u, rfl, ru⟩ := rv.one
  cases ru
  obtain ⟨its, r', pl, hz⟩ := I.list hq
  obtain ⟨ls, rfl, rfl⟩ := vals_strs r'
  exact SC.join pl.isList rfl hj fun t' k => ⟨.str _, H, I.tok k, ⟨t', rfl⟩, q⟩
theorem tyS {z : Str} : tyV K "str" (.str z) H := by
  unfold tyV
  first
    | exact .inr (.inl ⟨rfl, _, rfl⟩)
    | exact .inr (.inr (.inl ⟨rfl, _, rfl⟩))
    | exact .inr (.inr ⟨rfl, _, rfl⟩)
    | simp
abbrev TJ := St → Hp → Str → VK → Prop
def PJ (X : Cx) (es : List Expr) (t : TJ) : Prop :=
  ∀ (out : Str) (pins : List (Addr × Obj)) (s : Shared) (σ : St) (H : Hp) (Q : VK), Inv X pins σ H s → t σ H out Q → wpAny (model X.prog X.w) X.A (joinParts out (evalEach es X.env)) (EP X pins σ Q) X.xe s
def tJn : TJ := fun _ H out Q => out.length ≤ sizeLine ∧ Q (.str out) H
def tJc (te : TE) (tr : TJ) : TJ := fun σ H out Q => te σ H fun x H1 => ∃ y, x = .str y ∧ (out ++ y).length ≤ sizeLine ∧ tr σ H1 (out ++ y) Q
theorem pj_nil : PJ X [] tJn := fun out pins s σ H Q I h => joinParts_nil ⟨.str out, H, I.tok _, ⟨_, rfl⟩, h.2⟩ h.1
theorem pj_cons {e : Expr} {es : List Expr} {te : TE} {tr : TJ} (he : PE X e te) (hr : PJ X es tr) : PJ X (e :: es) (tJc te tr) := by
  intro out pins s σ H Q I h
  show wpAny _ _ (joinParts out (eval e X.env :: evalEach es X.env)) _ _ s
  refine joinParts_cons (thn (he pins s σ H _ I h) fun v s1 ⟨x, H1, I1, r1, y, ex, hz, q⟩ => ?_)
  subst ex
  obtain ⟨t, rfl⟩ := r1
  exact ⟨hz, hr _ pins s1 σ H1 Q I1 q⟩
def tFs (t : TJ) : TE := fun σ H Q => t σ H Str.empty Q
theorem pe_joined {e1 e2 : Expr} {es : List Expr} {t : TJ} (h : PJ X (e1 :: e2 :: es) t) : PE X (.JoinedStr (e1 :: e2 :: es) pos) (tFs t) := by
  intro pins s σ H Q I q
  exact JoinedStr_many (h Str.empty pins s σ H Q I q)
/-- {name} of a text -/
def tFmt (ta : TE) : TE := fun σ H Q => ta σ H fun x H1 => ∃ z, x = .str z ∧ z.length ≤ sizeLine ∧ Q (.str z) H1
theorem pe_fmt (ha : PE X a ta) : PE X (.FormattedValue a (-1) none pos) (tFmt ta) := by
  intro pins s σ H Q I h
  refine FormattedValue_plain (thn (ha pins s σ H _ I h) fun v s1 ⟨x, H1, I1, r1, z, ex, hz, q⟩ => ?_)
  subst ex
  obtain ⟨t, rfl⟩ := r1
  exact formatField_str (fun t' k => ⟨.str z, H1, I1.tok k, ⟨t', rfl⟩, q⟩) hz
theorem i_fs {t : TJ} (h : t σ H Str.empty Q) : tFs t σ H Q := h
theorem i_jn {out : Str} (z : out.length ≤ 1000000) (h : Q (.str out) H) : tJn σ H out Q := ⟨small z, h⟩
theorem i_jc {te : TE} {tr : TJ} {out : Str} (h : te σ H fun x H1 => ∃ y, x = .str y ∧ (out ++ y).length ≤ sizeLine ∧ tr σ H1 (out ++ y) Q) : tJc te tr σ H out Q := h
theorem i_fmt (h : ta σ H fun x H1 => ∃ z, x = .str z ∧ z.length ≤ sizeLine ∧ Q (.str z) H1) : tFmt ta σ H Q := h
end
end L2

set_option maxRecDepth 100000
set_option maxHeartbeats 4000000
namespace L2
open PySem PySem.Spec PyProof.Rows
mutual
def DV (H : Hp) : PyData → V → Prop
  | .none, v => v = .non
  | .bool b, v => v = .bl b
  | .int i, v => v = .int i
  | .str x, v => v = .str x
  | .list ds, v => ∃ p xs, v = .ref p ∧ H p = some (.lst xs) ∧ DVs H ds xs
  | .tuple ds, v => ∃ p xs, v = .ref p ∧ H p = some (.tup xs) ∧ DVs H ds xs
  | .dict _, _ => False
def DVs (H : Hp) : List PyData → List V → Prop
  | [], xs => xs = []
  | d :: ds, xs => ∃ v r, xs = v :: r ∧ DV H d v ∧ DVs H ds r
end
section
variable {X : Cx} {pins : List (Addr × Obj)} {σ : St} {H : Hp} {s : Shared}
mutual
theorem reads_of (I : Inv X pins σ H s) : ∀ (d : PyData) (v : V) (u : Value), DV H d v → RelV v u → ∃ as, Reads s.heap u d as
  | .none, v, u, h, r => by
    rw [DV] at h; subst h; cases r; exact ⟨_, .none⟩
  | .bool b, v, u, h, r => by
    rw [DV] at h; subst h; cases r; exact ⟨_, .bool b⟩
  | .int i, v, u, h, r => by
    rw [DV] at h; subst h; obtain ⟨t, rfl⟩ := r; exact ⟨_, .int i t⟩
  | .str x, v, u, h, r => by
    rw [DV] at h; subst h; obtain ⟨t, rfl⟩ := r; exact ⟨_, .str x t⟩
  | .list ds, v, u, h, r => by
    rw [DV] at h
    obtain ⟨p, xs, rfl, e, hs⟩ := h
    cases r
    obtain ⟨z, its, n, r', e'⟩ := I.hok p _ e
    obtain ⟨as, ra⟩ := reads_all I ds xs its hs r'
    exact ⟨_, .list e' rfl rfl (by simpa using ra)⟩
  | .tuple ds, v, u, h, r => by
    rw [DV] at h
    obtain ⟨p, xs, rfl, e, hs⟩ := h
    cases r
    obtain ⟨z, its, r', o, e', hc, n, hd⟩ := I.hok p _ e
    obtain ⟨as, ra⟩ := reads_all I ds xs its hs r'
    exact ⟨_, .tuple e' hc hd (by simpa using ra)⟩
  | .dict _, v, u, h, r => by rw [DV] at h; exact h.elim
theorem reads_all (I : Inv X pins σ H s) : ∀ (ds : List PyData) (xs : List V) (us : List Value), DVs H ds xs → Vals xs us → ∃ as, ReadsAll s.heap us ds as
  | [], xs, us, h, r => by
    rw [DVs] at h; subst h; cases r; exact ⟨_, .nil⟩
  | d :: ds, xs, us, h, r => by
    rw [DVs] at h
    obtain ⟨v, r0, rfl, h1, h2⟩ := h
    cases r with
    | cons r1 r2 =>
      obtain ⟨a1, q1⟩ := reads_of I d v _ h1 r1
      obtain ⟨a2, q2⟩ := reads_all I ds r0 _ h2 r2
      exact ⟨_, .cons q1 q2⟩
end
def rEqD : R2 := fun x y H Q => ∃ d1 d2, DV H d1 x ∧ DV H d2 y ∧ d1.canLay0 = true ∧ d2.canLay0 = true ∧ d1.depth ≤ 60 ∧ Q (.bl (PyData.eqv d1 d2)) H
theorem op_eqD (hu : X.A.units + 64 < cLine) : OpR X (compareOp .Eq) rEqD := by
  intro pins s σ H x y v u Q I rx ry h
  obtain ⟨d1, d2, h1, h2, c1, c2, hd, q⟩ := h
  obtain ⟨a1, q1⟩ := reads_of I d1 x v h1 rx
  obtain ⟨a2, q2⟩ := reads_of I d2 y u h2 ry
  exact SeqAt.compareEq_reads q1 q2 c1 c2 (Nat.lt_of_le_of_lt (Nat.add_le_add_left (Nat.le_trans (Nat.min_le_left _ _) hd) _) (by omega)) ⟨.bl _, H, I, rfl, q⟩
def rEqA : R2 := fun x y H Q => rEq x y H Q ∨ rEqD x y H Q
theorem op_eqA (hu : X.A.units + 64 < cLine) : OpR X (compareOp .Eq) rEqA := OpR.or op_eq (op_eqD hu)
/-- != of two lists -/
def rNeD : R2 := fun x y H Q => ∃ d1 d2, DV H (.list d1) x ∧ DV H (.list d2) y ∧ PyData.canLayAll0 d1 = true ∧ PyData.canLayAll0 d2 = true ∧ PyData.depthAll d1 ≤ 60 ∧ Q (.bl (!PyData.eqvAll d1 d2)) H
theorem op_neD (hu : X.A.units + 64 < cLine) : OpR X (compareOp .NotEq) rNeD := by
  intro pins s σ H x y v u Q I rx ry h
  obtain ⟨d1, d2, h1, h2, c1, c2, hd, q⟩ := h
  obtain ⟨a1, q1⟩ := reads_of I (.list d1) x v h1 rx
  obtain ⟨a2, q2⟩ := reads_of I (.list d2) y u h2 ry
  cases q1 with
  | @list b1 o vs n _ as1 g1 g2 g3 g4 =>
    cases q2 with
    | @list b2 o' vs' n' _ as2 k1 k2 k3 k4 =>
      have hl : s.heap.IsList _ vs := ⟨_, g1, g2, _, g3⟩
      have hl' : s.heap.IsList _ vs' := ⟨_, k1, k2, _, k3⟩
      have n1 : vs.size = d1.length := by simpa using SeqAt.ReadsAll.length _ _ _ g4
      have n2 : vs'.size = d2.length := by simpa using SeqAt.ReadsAll.length _ _ _ k4
      have fin : EP X pins σ Q (.bool (!PyData.eqvAll d1 d2)) s := ⟨.bl _, H, I, rfl, q⟩
      by_cases hz : vs.size = vs'.size
      · refine SeqAt.RcNeAt.lists hl hl' hz (by omega) (e := SeqAt.pairEq d1 d2) (fun j j1 j2 => ?_) _ _ _ _ ?_
        · have := SeqAt.eqAt_readsAll d1 d2 X.A.in1 s vs.toList vs'.toList _ _ g4 k4 c1 c2 (by
            have : X.A.in1.units = X.A.units + 1 ∨ X.A.in1.units = X.A.units := by first | exact .inl rfl | exact .inr rfl
            have h3 := Nat.min_le_left (PyData.depthAll d1) (PyData.depthAll d2)
            omega) j (by simpa using j1) (by simpa using j2)
          simpa using this
        · have e := SeqAt.eqvAll_eq d1 d2
          rw [← n1, ← n2, ← hz, Nat.min_self, beq_self_eq_true, Bool.and_true] at e
          rw [e]; exact fin
      · refine SeqAt.RcNeAt.lists_lengths hl hl' (by simpa using hz) (by omega) _ _ _ _ ?_
        have e := SeqAt.eqvAll_eq d1 d2
        have hb : (d1.length == d2.length) = false := by
          rw [← n1, ← n2]; simpa using hz
        rw [hb, Bool.and_false] at e
        rw [← e] at fin
        exact fin
/-- != of two tuples -/
def rNeT : R2 := fun x y H Q => ∃ d1 d2, DV H (.tuple d1) x ∧ DV H (.tuple d2) y ∧ PyData.canLayAll0 d1 = true ∧ PyData.canLayAll0 d2 = true ∧ PyData.depthAll d1 ≤ 60 ∧ Q (.bl (!PyData.eqvAll d1 d2)) H
theorem op_neT (hu : X.A.units + 64 < cLine) : OpR X (compareOp .NotEq) rNeT := by
  intro pins s σ H x y v u Q I rx ry h
  obtain ⟨d1, d2, h1, h2, c1, c2, hd, q⟩ := h
  obtain ⟨a1, q1⟩ := reads_of I (.tuple d1) x v h1 rx
  obtain ⟨a2, q2⟩ := reads_of I (.tuple d2) y u h2 ry
  cases q1 with
  | @tuple b1 o vs n _ as1 g1 g2 g3 g4 =>
    cases q2 with
    | @tuple b2 o' vs' n' _ as2 k1 k2 k3 k4 =>
      have hl : s.heap.IsTuple _ vs := ⟨_, g1, g2, _, g3⟩
      have hl' : s.heap.IsTuple _ vs' := ⟨_, k1, k2, _, k3⟩
      have n1 : vs.size = d1.length := by simpa using SeqAt.ReadsAll.length _ _ _ g4
      have n2 : vs'.size = d2.length := by simpa using SeqAt.ReadsAll.length _ _ _ k4
      refine SeqAt.RcNeAt.tuples hl hl' (by omega) (e := SeqAt.pairEq d1 d2) (fun j j1 j2 => ?_) _ _ _ _ ?_
      · have := SeqAt.eqAt_readsAll d1 d2 X.A.in1 s vs.toList vs'.toList _ _ g4 k4 c1 c2 (by
          have : X.A.in1.units = X.A.units + 1 ∨ X.A.in1.units = X.A.units := by first | exact .inl rfl | exact .inr rfl
          have h3 := Nat.min_le_left (PyData.depthAll d1) (PyData.depthAll d2)
          omega) j (by simpa using j1) (by simpa using j2)
        simpa using this
      · rw [n1, n2, SeqAt.eqvAll_eq d1 d2]
        exact ⟨.bl _, H, I, rfl, q⟩
def rNeA : R2 := fun x y H Q => rNe x y H Q ∨ rNeD x y H Q ∨ rNeT x y H Q
theorem op_neA (hu : X.A.units + 64 < cLine) : OpR X (compareOp .NotEq) rNeA := OpR.or op_ne (OpR.or (op_neD hu) (op_neT hu))
end
theorem eqvAll_strs : ∀ a b : List Str, PyData.eqvAll (a.map .str) (b.map .str) = decide (a = b)
  | [], [] => rfl
  | [], _ :: _ => by simp [PyData.eqvAll]
  | _ :: _, [] => by simp [PyData.eqvAll]
  | x :: a, y :: b => by
    simp only [List.map_cons, PyData.eqvAll, PyData.eqv, eqvAll_strs a b, List.cons.injEq]
    by_cases h : x = y
    · subst h; simp
    · simp [h]
theorem dep_strs : ∀ a : List Str, PyData.depthAll (a.map .str) ≤ 60
  | [] => by simp [PyData.depthAll]
  | _ :: a => by
    have := dep_strs a
    simp only [List.map_cons, PyData.depthAll, PyData.depth]; omega
theorem dvs_strs (H : Hp) : ∀ a : List Str, DVs H (a.map .str) (a.map V.str)
  | [] => by rw [List.map_nil, DVs]; rfl
  | x :: a => by
    rw [List.map_cons, DVs]
    exact ⟨.str x, a.map V.str, rfl, by rw [DV], dvs_strs H a⟩
section
variable {K : PySem.W.Frag} {H : Hp} {Q : VK}
theorem i_eqAI {i j : Int} (h : Q (.bl (decide (i = j))) H) : rEqA (.int i) (.int j) H Q := .inl (i_eqI h)
theorem i_eqAS {i j : Str} (h : Q (.bl (decide (i = j))) H) : rEqA (.str i) (.str j) H Q := .inl (i_eqS h)
theorem i_neAS {i j : Str} (h : Q (.bl (!decide (i = j))) H) : rNeA (.str i) (.str j) H Q := .inl (i_neS h)
end
end L2

namespace PySem
open Sem (wp)
set_option maxRecDepth 100000
theorem lri_nolen : typeLookup (.type "list_reverseiterator") "__len__" = pure none := by rw [typeLookup_type, builtinLookup_eq_fast]; kernel_rfl
theorem lri_hint : typeLookup (.type "list_reverseiterator") "__length_hint__" = pure (some (.builtin "list_reverseiterator.__length_hint__")) := by rw [typeLookup_type, builtinLookup_eq_fast]; kernel_rfl
section
variable {prog : Program} {w : World} {A : Around} {s : Shared} {R : Result → Shared → Prop}
variable {I : Addr} {fp wr : List Addr} {G : Array GenState → Array GenState → Prop} {n : Nat} {P : Nat → Value → Prop} {St : Nat → Shared → Prop}
theorem extend_lri (W : WalksS prog w A.in1 I fp wr G n P St) (hT : ∀ i s, St i s → s.TypeIs (.ref I) "list_reverseiterator") (S : Addr) (res : Value) (c₀ : Nat) (hst : St 0 s) (hSf : S ∉ fp) (hI : I ∈ fp)
    (hS : s.heap.get? S = some { cls := .type "list", data := .seq #[] c₀ })
    (hR : ∀ s' acc' c', Moved (S :: wr) G s s' → s'.heap.get? S = some { cls := .type "list", dict := none, data := .seq acc' c', slots := #[] } → ItemsOf P acc' n → R (.ok (.ret res)) s') (hn : n ≤ sizeLine) :
    wpAny (model prog w) A.in1 (Builtin.List.listExtendWith (.ref S) (.ref I) res)
      (fun fin s' => match fin with | .done f => R (.ok f) s' | .again c' => c'.quiet = true ∧ codeAny (model prog w) A c' R s') (fun e s' => R (.error e) s') s := by
  have hSI : S ≠ I := fun e => hSf (e ▸ hI)
  have h1 : Builtin.List.listSameRef (.ref S) (.ref I) = false := by simp [Builtin.List.listSameRef, hSI]
  unfold Builtin.List.listExtendWith
  refine wpAny_bind (wpAny_typeOf (hT 0 _ hst) ?_)
  rw [if_neg (by rw [h1]; decide)]
  refine wpAny_bind (W.self 0 _ _ _ hst ?_)
  refine wpAny_bind (wpAny_holding ?_)
  unfold Builtin.List.listLengthHint
  refine wpAny_bind (wpAny_specialOf (hT 0 _ hst) lri_nolen ?_)
  show wpAny _ A.in1 (specialOf (Value.ref I) (Str.ofString "__length_hint__") >>= _) _ _ _
  refine wpAny_bind (wpAny_specialOf (hT 0 _ hst) lri_hint ?_)
  (generalize hid : ("list_reverseiterator.__length_hint__" : String) = id0; (fail_if_success (clear hid id0)); wp_delta; rw [show splitId id0 = some ("list_reverseiterator", "__length_hint__") from by subst hid; decide +kernel]; subst hid)
  refine wpAny_bind (wpAny_isInstance (b := true) (hT 0 _ hst) (by rw [isSubtype_type]; kernel_rfl) ?_)
  refine wpAny_pure ?_
  rw [if_neg (by decide)]
  exact wpAny_pure ⟨plainId_quiet F.plain_extend_loop _, codeAny_extend_loopS W hn _ hSf _ n 0 _ _ _ rfl (Nat.zero_le _) hst hS (ItemsOf.nil P) fun s' acc' c' hm hS' hacc => hR s' acc' c' hm hS' hacc⟩
theorem init_lri (W : WalksS prog w A.in1 I fp wr G n P St) (hT : ∀ i s, St i s → s.TypeIs (.ref I) "list_reverseiterator") (S : Addr) (hst : St 0 s) (hSf : S ∉ fp) (hI : I ∈ fp)
    (hS : s.heap.get? S = some { cls := .type "list", data := .seq #[] })
    (hR : ∀ s' acc' c', Moved (S :: wr) G s s' → s'.heap.get? S = some { cls := .type "list", dict := none, data := .seq acc' c', slots := #[] } → ItemsOf P acc' n → R (.ok (.ret .none)) s') (hn : n ≤ sizeLine) :
    wpAny (model prog w) A.in1 (Builtin.«list.__init__» ⟨[.ref S, .ref I], []⟩)
      (fun fin s' => match fin with | .done f => R (.ok f) s' | .again c' => c'.quiet = true ∧ codeAny (model prog w) A c' R s') (fun e s' => R (.error e) s') s := by
  show wpAny _ A.in1 (do let old ← Builtin.List.listItems (.ref S); Builtin.List.listUpdate (.ref S) (fun _ => #[]); letGo old.toList.reverse; Builtin.List.listExtendWith (.ref S) (.ref I) .none) _ _ s
  refine wpAny_bind ?_
  unfold Builtin.List.listItems
  refine wpAny_bind (wpAny_seqItems hS rfl (wpAny_pure ?_))
  show wpAny _ A.in1 (updateSeq S (fun _ => #[]) >>= fun _ => letGo (#[] : Array Value).toList.reverse >>= fun _ => Builtin.List.listExtendWith (.ref S) (.ref I) .none) _ _ s
  refine wpAny_bind (wpAny_updateSeq hS rfl ?_)
  have hS₂ := Heap.get?_update_self (Obj.mapSeq (fun _ => (#[] : Array Value))) hS rfl
  have oth : ∀ b o, b ≠ S → s.heap.get? b = some o → (s.heap.update S (Obj.mapSeq (fun _ => (#[] : Array Value)))).get? b = some o :=
    fun b o hb e => (Heap.get?_update_other _ _ (Ne.symm hb)).trans e
  refine wpAny_bind (wpAny_letGo ?_)
  refine extend_lri (hn := hn) W hT S .none _ (W.frame 0 s _ s.toks hst (Nat.le_refl _) fun b hb o e => oth b o (fun h => hSf (h ▸ hb)) e) hSf hI hS₂ fun s' acc' c' hm hS' hacc => ?_
  exact hR s' acc' c' (Moved.trans W.gtrans ((Moved.refl W.grefl).then_heap (Nat.le_refl _) fun b o hb e => oth b o (fun h => hb (h ▸ List.mem_cons_self)) e) hm) hS' hacc
end
section
variable {prog : Program} {w : World} {A : Around} {E : Value → Shared → Prop} {s : Shared}
variable {I : Addr} {fp wr : List Addr} {G : Array GenState → Array GenState → Prop} {n : Nat} {P : Nat → Value → Prop} {St : Nat → Shared → Prop}
theorem call_list_lri {Q : Value → Shared → Prop} (W : WalksS prog w A.in1.in1 I fp wr G n P St) (hT : ∀ i s, St i s → s.TypeIs (.ref I) "list_reverseiterator") (hst : St 0 s) (hfp : ∀ b ∈ fp, b < s.heap.objs.size) (hI : I ∈ fp)
    (hQ : ∀ s' acc' c', Moved (s.heap.objs.size :: wr) G { s with heap := s.heap.push { cls := .type "list", data := .seq #[] } } s' →
      s'.heap.get? s.heap.objs.size = some { cls := .type "list", dict := none, data := .seq acc' c', slots := #[] } → ItemsOf P acc' n → Q (.ref s.heap.objs.size) s') (hn : n ≤ sizeLine) :
    wpAny (model prog w) A (call (.type "list") [.ref I]) Q E s := by
  have hSf : s.heap.objs.size ∉ fp := fun hm => Nat.lt_irrefl _ (hfp _ hm)
  refine callType_codes (Q₁ := fun obj s₁ => obj = .ref s.heap.objs.size ∧ s₁ = { s with heap := s.heap.push { cls := .type "list", data := .seq #[] } }) F.called_list (F.typeCall_list_1 _) F.entry_list_init
    (code_list_new _ ⟨rfl, rfl⟩) fun obj s₁ h₁ => ?_
  obtain ⟨rfl, rfl⟩ := h₁
  have hS : (s.heap.push { cls := .type "list", data := .seq #[] }).get? s.heap.objs.size = some { cls := .type "list", data := .seq #[] } := Heap.get?_push_size _ rfl
  refine ⟨⟨_, hS, rfl⟩, F.args_list_init_2 _ _, init_lri (hn := hn) W hT _ (W.frame 0 s _ s.toks hst (Nat.le_refl _) fun b _ o e => Heap.get?_push_of_some _ e) hSf hI hS fun s' acc' c' hm hS' hacc => ?_⟩
  exact ⟨rfl, hQ s' acc' c' hm hS' hacc⟩
end
end PySem
namespace L2
open PySem PySem.Spec PyProof.Rows
section
variable {X : Cx} {tg : Expr}
def tListRev (K : PySem.W.Frag) (te : TE) : TE := fun σ H Q => te σ H fun x H1 => ∃ p ys, x = .ref p ∧ SqL K H1 p ys ∧ ∀ l, H1 l = none → Q (.ref l) (upd H1 l (.lst ys.reverse))
theorem items_rev {its : List Value} {acc : Array Value} (h : ItemsOf (fun i v => its.toArray[its.toArray.size - 1 - i]? = some v) acc its.toArray.size) : acc.toList = its.reverse := by
  obtain ⟨h1, h2⟩ := h
  have h1 : acc.size = its.length := by rw [h1]; simp
  apply List.ext_getElem?
  intro i
  by_cases hi : i < its.length
  · have e : acc[i]? = some (acc[i]'(by omega)) := Array.getElem?_eq_getElem (by omega)
    have := h2 i _ e
    rw [List.size_toArray, List.getElem?_toArray] at this
    rw [Array.getElem?_toList, e, ← this, List.getElem?_reverse hi]
  · rw [Array.getElem?_toList, Array.getElem?_eq_none (by omega), List.getElem?_eq_none (by rw [List.length_reverse]; omega)]
theorem vals_append : ∀ {xs xs' : List V} {us us' : List Value}, Vals xs us → Vals xs' us' → Vals (xs ++ xs') (us ++ us')
  | _, _, _, _, .nil, r => r
  | _, _, _, _, .cons h r, r' => .cons h (vals_append r r')
theorem vals_reverse : ∀ {xs : List V} {us : List Value}, Vals xs us → Vals xs.reverse us.reverse
  | _, _, .nil => .nil
  | _, _, .cons h r => by
    rw [List.reverse_cons, List.reverse_cons]
    exact vals_append (vals_reverse r) (.cons h .nil)
theorem pe_listrev {e : Expr} {te : TE} {p p2 pos pos2 : Pos} (hc : X.calm = true) (hg : Gl X "list") (hm : X.mg "list" = none) (hg2 : Gl X "reversed") (hm2 : X.mg "reversed" = none) (ha : PE X e te)
    (he : starEach [e] X.env = (false, eval e X.env) :: starEach [] X.env := by rfl) :
    PE X (.Call (.Name "list" p) [.Call (.Name "reversed" p2) [e] [] pos2] [] pos) (tListRev X.K te) := by
  intro pins s σ H Q I h
  refine wpAny_Call_Name_kw (ld_blt I hg hm bt_list ?_)
  refine PyProof.Rows.callWith_type1 ?_ rfl rfl
  show wpAny _ _ (spliced ((false, eval (.Call (.Name "reversed" p2) [e] [] pos2) X.env) :: backTo pos (starEach [] X.env))) _ _ s
  refine Calls.spliced_cons ?_
  refine wpAny_Call_Name_kw (ld_blt I hg2 hm2 bt_reversed ?_)
  let R : List V → Hp → Prop := fun vs H1 => match vs with | [x] => (∃ p ys, x = V.ref p ∧ SqL X.K H1 p ys ∧ ∀ l, H1 l = none → Q (.ref l) (upd H1 l (.lst ys.reverse))) | _ => False
  have h' : tCons te tNil σ H R := h
  refine PyProof.Rows.callWith_type1 (thn (pa_cons ha pa_nil he pos2 pins s σ H R I h') fun us s1 ⟨vs, H1, I1, r1, q1⟩ => ?_) he rfl
  match vs, r1, q1 with
  | [x], r1, q1 =>
    obtain ⟨p, ys, rfl, hq, q⟩ := q1
    obtain ⟨u, rfl, rx⟩ := vals1 r1
    cases rx
    obtain ⟨its, rv, pl, hz⟩ := I1.list hq
    have hlen := rv.length
    have pl0 : s1.heap.IsList p its.toArray := pl.isList
    have hpl : p < s1.heap.objs.size := by obtain ⟨o, ho, _⟩ := id pl0; exact Heap.lt_size ho
    refine call_reversed_list pl0 ?_
    refine Calls.spliced_nil ?_
    have I2 : Inv X pins σ H1 { s1 with heap := s1.heap.push (revObj p ((its.toArray.size : Int) - 1)) } := I1.kept (t' := s1.toks) fun b o e => Heap.get?_push_of_some _ e
    have pl2 : (s1.heap.push (revObj p ((its.toArray.size : Int) - 1))).IsList p its.toArray := pl0.at fun o e => Heap.get?_push_of_some _ e
    have W := (Walks.listRev (prog := X.prog) (w := X.w) (A := X.A.in1.in1) (I.ok.hd hc) s1.heap.objs.size p (Nat.ne_of_lt hpl) its.toArray).toS
    refine call_list_lri (s := { s1 with heap := s1.heap.push (revObj p ((its.toArray.size : Int) - 1)) }) W (fun i s st => st.2.1.typeIs) ⟨Nat.zero_le _, ⟨_, Heap.get?_push_size _ rfl, rfl, by simp [revObj]⟩, pl2⟩ (fun b hb => ?_) (by simp) (fun s' acc c' hm hS hacc => ?_) (by simp only [List.size_toArray]; omega)
    · have hs : (s1.heap.push (revObj p ((its.toArray.size : Int) - 1))).objs.size = s1.heap.objs.size + 1 := by simp [Heap.push]
      show b < (s1.heap.push (revObj p ((its.toArray.size : Int) - 1))).objs.size
      rw [hs]
      simp at hb
      rcases hb with rfl | rfl
      · exact Nat.lt_succ_self _
      · exact Nat.lt_succ_of_lt hpl
    · rw [Moved.eq_with hm]
      have hf : H1 (s1.heap.push (revObj p ((its.toArray.size : Int) - 1))).objs.size = none := I2.hok.fresh (Nat.le_refl _)
      have ea := items_rev hacc
      have ea' : acc = its.reverse.toArray := by rw [← ea]
      have hz' : ys.reverse.length ≤ sizeLine := by rw [List.length_reverse]; exact hz
      have kp : ∀ b o, s1.heap.get? b = some o → s'.heap.get? b = some o := fun b o e => by
        have hb := Heap.lt_size e
        refine hm.heap b o (fun hmem => ?_) (Heap.get?_push_of_some _ (Heap.get?_push_of_some _ e))
        rcases List.mem_cons.mp hmem with e' | e'
        · have hs : (s1.heap.push (revObj p ((its.toArray.size : Int) - 1))).objs.size = s1.heap.objs.size + 1 := by simp [Heap.push]
          have e'' : b = (s1.heap.push (revObj p ((its.toArray.size : Int) - 1))).objs.size := e'
          rw [hs] at e''
          exact absurd hb (by rw [e'']; exact Nat.not_lt.mpr (Nat.le_succ _))
        · exact absurd hb (by rw [List.mem_singleton.mp e']; exact Nat.lt_irrefl _)
      refine ⟨.ref _, upd H1 _ (.lst ys.reverse), I1.laid (t' := s'.toks) kp ?_ (show ObjOk X.prog X.w _ s'.heap _ (.lst ys.reverse) from ⟨hz', its.reverse, c', vals_reverse rv, by rw [← ea']; exact hS⟩), rfl, q _ hf⟩
      simp [Heap.push]
end
section
variable {σ : St} {H : Hp} {Q : VK} {D : Ends} {K : PySem.W.Frag} {g : TG} {tb : TS} {ix : List Nat} {tc : TT} {te : TE}
def NewRev (K : PySem.W.Frag) (x : V) (H1 : Hp) (Q : VK) : Prop := ∃ p ys, x = .ref p ∧ SqL K H1 p ys ∧ ∀ l, H1 l = none → Q (.ref l) (upd H1 l (.lst ys.reverse))
theorem i_listrev (h : te σ H fun x H1 => NewRev K x H1 Q) : tListRev K te σ H Q := h
theorem j_listrev {p : Addr} {ys : List V} (h : SqL K H p ys) (k : ∀ (l : Addr) (H' : Hp), Same H H' → H l = none → H' l = some (.lst ys.reverse) → Q (.ref l) H') : NewRev K (.ref p) H Q :=
  ⟨p, ys, rfl, h, fun l hl => k l _ (same_new hl _) hl upd_same⟩
end
end L2

set_option maxRecDepth 100000
namespace L2
open PySem PySem.Spec PyProof.Rows
section
variable {X : Cx}
end
section
open PySem.SeqAt
open PySem.AutoSeq1 (wpAny_loadPart')
open PySem.MeetsSeq PySem.MeetsSeq2 PySem.MeetsSeq3
end
def CDivG (i j : Int) : Prop := 0 < j ∧ j ≤ 18446744073709551616
theorem op_fdivG {X : Cx} : OpR X (binaryOp .FloorDiv) (rI CDivG fun i j => .int (i / j)) := opI fun i j _ _ _ _ _ hc q => by
  have h1 : (0 : Int) < j := hc.1
  have h2 : j ≤ 18446744073709551616 := hc.2
  refine floordiv_int (by omega) (by rw [Int.fdiv_eq_ediv_of_nonneg i (by omega)]; exact q) (.inl (PyProof.noPylong_of_log2 ?_))
  have h3 : j.natAbs.log2 < 65 := (Nat.log2_lt (by omega)).mpr (by omega)
  omega
section
variable {σ : St} {H : Hp} {Q : VK} {D : Ends} {K : PySem.W.Frag} {g : TG} {tb : TS}
end
end L2

set_option maxRecDepth 100000
namespace L2
open PySem PySem.Spec PyProof.Rows
section
variable {X : Cx} {a : Expr} {ta : TE} {pos : Pos}
end
section
variable {σ : St} {H : Hp} {Q : VK} {D : Ends} {K : PySem.W.Frag} {g : TG} {tb : TS} {ta : TE}
end
theorem len_append (x y : Str) : (x ++ y).length = x.length + y.length := by
  show (x.cps ++ y.cps).size = _
  rw [Array.size_append]; rfl
end L2

set_option maxRecDepth 100000
set_option maxHeartbeats 4000000
namespace L2
open PySem PySem.Spec PyProof.Rows
section
variable {X : Cx}
end
section
variable {X : Cx} {e : Expr} {td : TE} {st : Stmt} {t : TS}
end
/-- four written texts among the items of a display: one step, for the elaboration's sake -/
theorem pa_s4 {X : Cx} {a b c d : Str} {i j k l : Nat} {p q r o : Pos} {es : List Expr} {t : TA} (h : PA X es t) : PA X (.Constant (.str a) i p :: .Constant (.str b) j q :: .Constant (.str c) k r :: .Constant (.str d) l o :: es) (tCons (tC (.str a)) (tCons (tC (.str b)) (tCons (tC (.str c)) (tCons (tC (.str d)) t)))) :=
  pa_cons pe_str (pa_cons pe_str (pa_cons pe_str (pa_cons pe_str h)))
end L2

open PySem L2
local macro_rules | `(tactic| walk_at "side") => `(tactic| first | omega | (show (_ : Int) < _; omega) | exact ⟨by omega, by omega⟩ | exact ⟨by omega, by omega, by decide⟩)
local macro_rules | `(tactic| walk_at "rd1") => `(tactic| first
  | (with_reducible first | refine i_seq ?_ | refine i_asg ?_ | refine i_op ?_ | refine i_c ?_ | refine i_cons ?_ | refine i_nil ?_ | refine i_ifs ?_ | refine i_ret ?_ | refine i_fn ?_ | refine i_cb ?_ | refine i_test ?_ | refine i_exb ?_ | refine i_exi ?_ | refine i_truB ?_ | refine i_dy ?_ | refine i_mk ?_ | refine i_fld ?_ | refine i_sfld ?_ | refine i_drop ?_ | refine i_next ?_ | refine i_retN ?_ | refine i_brk ?_ | refine i_cont ?_ | refine i_un ?_ | refine i_and ?_ | refine i_or ?_ | refine i_not ?_ | refine i_andV ?_ | refine i_orV ?_ | refine i_notG ?_ | refine i_if ?_ | refine i_tup ?_ | refine i_lst ?_ | refine i_bm ?_ | refine i_bm0 ?_ | refine i_sl ?_ | refine i_part ?_ | refine i_noPart ?_ | refine i_forR1 ?_ | refine i_forR2 ?_ | refine i_forR3 ?_ | refine i_compR3 ?_ | refine i_listrev ?_ | refine i_forS ?_ | refine i_forE ?_ | refine i_forEX ?_ | refine i_forRep ?_ | refine i_forD ?_ | refine i_compD ?_ | refine i_compS2 ?_ | refine i_frzE ?_ | refine i_thawR ?_ | refine i_fmtI ?_ | refine i_dyP ?_ | refine i_listrng ?_ | refine i_frz ?_ | refine i_addF ?_ | refine i_forZ ?_ | refine i_forV ?_ | refine i_bitlen ?_ | refine i_chain ?_ | refine i_truI ?_ | refine i_compR1 ?_ | refine i_compR2 ?_ | refine i_compS ?_ | refine i_noif ?_ | refine i_rI0 ?_ | refine i_addI ?_ | refine i_rU ?_ | refine i_eqAI ?_ | refine i_eqAS ?_ | refine i_eqAB ?_ | refine i_neAI ?_ | refine i_neAS ?_ | refine i_neAB ?_ | refine i_fs ?_ | refine i_gsub ?_ | refine i_jc ?_ | refine i_fmt ?_ | refine i_fmtR ?_ | refine i_eqI ?_ | refine i_eqS ?_ | refine i_eqB ?_ | refine i_neI ?_ | refine i_neS ?_ | refine i_neB ?_ | refine i_intI ?_ | refine i_intB ?_ | refine i_max ?_ | refine i_min ?_)
  | ((with_reducible refine i_name ?_); (try dsimp only [List.set_cons_succ, List.set_cons_zero]))
  | ((with_reducible refine' i_var ?hv ?_); (case hv => exact rfl))
  | ((with_reducible refine i_rI ?hc ?_); (case hc => walk_at "side"))
  | ((with_reducible refine' i_lenS ?hc ?_); (case hc => assumption))
  | ((with_reducible refine' i_lenL ?hc ?_); (case hc => assumption))
  | ((with_reducible refine' i_lenT ?hc ?_); (case hc => assumption))
  | ((with_reducible refine' i_isiT ?ht ?he ?_); (case ht => first | exact TyOf.bl _ | exact TyOf.int _ | exact TyOf.str _ | exact TyOf.non | exact TyOf.lst (by assumption) | exact TyOf.tup (by assumption)); (case he => first | exact kit_self _ _ | exact kit_int_bool _ | exact kit_bool_int _ | exact kit_str_bool _ | exact kit_str_int _ | exact kit_list_int _ | exact kit_list_bool _ | exact kit_none_int _ | exact kit_none_list _ | exact kit_none_str _ | exact kit_none_tuple _ | exact kit_list_tuple _ | exact kit_tuple_list _ | exact kit_str_list _ | exact kit_int_str _ | exact kit_int_list _ | exact kit_bool_str _ | exact kit_bool_list _ | exact kit_int_tuple _ | exact kit_str_tuple _ | exact kit_bool_tuple _ | exact kit_tuple_int _ | exact kit_tuple_bool _ | exact kit_tuple_str _ | exact kit_list_str _ | exact kit_none_bool _)))
local macro_rules | `(tactic| walk_at "rs1") => `(tactic| first
  | (with_reducible first | refine i_asg ?_ | refine i_op ?_ | refine i_c ?_ | refine i_cons ?_ | refine i_nil ?_ | refine i_ifs ?_ | refine i_ret ?_ | refine i_fn ?_ | refine i_cb ?_ | refine i_test ?_ | refine i_exb ?_ | refine i_exi ?_ | refine i_truB ?_ | refine i_dy ?_ | refine i_mk ?_ | refine i_fld ?_ | refine i_sfld ?_ | refine i_drop ?_ | refine i_next ?_ | refine i_retN ?_ | refine i_brk ?_ | refine i_cont ?_ | refine i_un ?_ | refine i_and ?_ | refine i_or ?_ | refine i_not ?_ | refine i_andV ?_ | refine i_orV ?_ | refine i_notG ?_ | refine i_if ?_ | refine i_tup ?_ | refine i_lst ?_ | refine i_bm ?_ | refine i_bm0 ?_ | refine i_sl ?_ | refine i_part ?_ | refine i_noPart ?_ | refine i_forR1 ?_ | refine i_forR2 ?_ | refine i_forR3 ?_ | refine i_compR3 ?_ | refine i_listrev ?_ | refine i_forS ?_ | refine i_forE ?_ | refine i_forEX ?_ | refine i_forRep ?_ | refine i_forD ?_ | refine i_compD ?_ | refine i_compS2 ?_ | refine i_frzE ?_ | refine i_thawR ?_ | refine i_fmtI ?_ | refine i_dyP ?_ | refine i_listrng ?_ | refine i_frz ?_ | refine i_addF ?_ | refine i_forZ ?_ | refine i_forV ?_ | refine i_bitlen ?_ | refine i_chain ?_ | refine i_truI ?_ | refine i_compR1 ?_ | refine i_compR2 ?_ | refine i_compS ?_ | refine i_noif ?_ | refine i_rI0 ?_ | refine i_addI ?_ | refine i_rU ?_ | refine i_eqAI ?_ | refine i_eqAS ?_ | refine i_eqAB ?_ | refine i_neAI ?_ | refine i_neAS ?_ | refine i_neAB ?_ | refine i_fs ?_ | refine i_gsub ?_ | refine i_jc ?_ | refine i_fmt ?_ | refine i_fmtR ?_ | refine i_eqI ?_ | refine i_eqS ?_ | refine i_eqB ?_ | refine i_neI ?_ | refine i_neS ?_ | refine i_neB ?_ | refine i_intI ?_ | refine i_intB ?_ | refine i_max ?_ | refine i_min ?_)
  | ((with_reducible refine i_name ?_); (try dsimp only [List.set_cons_succ, List.set_cons_zero]))
  | ((with_reducible refine' i_var ?hv ?_); (case hv => exact rfl))
  | ((with_reducible refine i_rI ?hc ?_); (case hc => walk_at "side"))
  | ((with_reducible refine' i_lenS ?hc ?_); (case hc => assumption))
  | ((with_reducible refine' i_lenL ?hc ?_); (case hc => assumption))
  | ((with_reducible refine' i_lenT ?hc ?_); (case hc => assumption))
  | ((with_reducible refine' i_isiT ?ht ?he ?_); (case ht => first | exact TyOf.bl _ | exact TyOf.int _ | exact TyOf.str _ | exact TyOf.non | exact TyOf.lst (by assumption) | exact TyOf.tup (by assumption)); (case he => first | exact kit_self _ _ | exact kit_int_bool _ | exact kit_bool_int _ | exact kit_str_bool _ | exact kit_str_int _ | exact kit_list_int _ | exact kit_list_bool _ | exact kit_none_int _ | exact kit_none_list _ | exact kit_none_str _ | exact kit_none_tuple _ | exact kit_list_tuple _ | exact kit_tuple_list _ | exact kit_str_list _ | exact kit_int_str _ | exact kit_int_list _ | exact kit_bool_str _ | exact kit_bool_list _ | exact kit_int_tuple _ | exact kit_str_tuple _ | exact kit_bool_tuple _ | exact kit_tuple_int _ | exact kit_tuple_bool _ | exact kit_tuple_str _ | exact kit_list_str _ | exact kit_none_bool _)))
local macro_rules | `(tactic| walk_at "rs") => `(tactic| repeat walk_at "rs1")
local macro_rules | `(tactic| walk_at "hp") => `(tactic| first | assumption | solve_by_elim (maxDepth := 16) only [*, ne_of_none])
local macro_rules | `(tactic| walk_at "rd0") => `(tactic| ((try dsimp only [cxOf]); (try simp only [L2.start, List.map_cons, List.map_nil, List.length_cons, List.length_nil, Nat.reduceAdd, Nat.reduceSub, List.replicate_zero, List.append_nil, List.cons_append, List.nil_append, List.replicate_succ]); (repeat walk_at "rd1")))
local macro_rules | `(tactic| walk_at "rd") => `(tactic| repeat walk_at "rd1")
local macro_rules | `(tactic| walk_at "tst") => `(tactic| repeat first | walk_at "rd1" | refine i_ifT (decide_eq_true (by omega)) ?_ | refine i_ifF (decide_eq_false (by omega)) ?_ | refine i_ifF rfl ?_ | refine i_ifT rfl ?_ | refine ⟨_, rfl, ?_⟩)

set_option maxRecDepth 100000
set_option maxHeartbeats 4000000
open PySem L2

namespace LW
open PySem L2 EM
def top (i : Nat) : Stmt := PySem.Challenge.pw_evernever_k05_written.main.body.getD i (.Pass ⟨0, 0, 0, 0⟩)
abbrev s_bracketed : Stmt := top 2
abbrev s__law_cell_at : Stmt := top 12
abbrev s__law_fresh : Stmt := top 13
abbrev s__law_letters : Stmt := top 14
abbrev s__law_name : Stmt := top 15
abbrev s__law_names : Stmt := top 16
abbrev s__law_tree : Stmt := top 17
abbrev s__law_made : Stmt := top 18
abbrev s__law_rank : Stmt := top 19
abbrev s__law_line : Stmt := top 20
abbrev s_law : Stmt := top 21
abbrev s_Formula_looseness : Stmt := inClass (top 3) 0
abbrev s_Lamp_init : Stmt := inClass (top 4) 0
abbrev s_Lamp_lamps : Stmt := inClass (top 4) 3
abbrev s_Lamp_shown : Stmt := inClass (top 4) 4
abbrev s_Sure_init : Stmt := inClass (top 5) 0
abbrev s_Sure_lamps : Stmt := inClass (top 5) 3
abbrev s_Sure_shown : Stmt := inClass (top 5) 4
abbrev s_Not_init : Stmt := inClass (top 6) 0
abbrev s_Not_lamps : Stmt := inClass (top 6) 3
abbrev s_Not_shown : Stmt := inClass (top 6) 4
abbrev s_Joined_init : Stmt := inClass (top 7) 0
abbrev s_Joined_lamps : Stmt := inClass (top 7) 1
abbrev s_Joined_shown : Stmt := inClass (top 7) 2
abbrev s_And_looseness : Stmt := inClass (top 8) 0
abbrev s_And_between : Stmt := inClass (top 8) 1
abbrev s_Either_looseness : Stmt := inClass (top 9) 0
abbrev s_Either_between : Stmt := inClass (top 9) 1
abbrev s_Or_looseness : Stmt := inClass (top 10) 0
abbrev s_Or_between : Stmt := inClass (top 10) 1
theorem sc_bracketed : FnScope ["part", "text", "bound"] ["part", "text", "bound"] (defScope s_bracketed) := ⟨rfl, rfl, rfl, by decide +kernel, rfl, by decide +kernel, by decide +kernel⟩
theorem sc__law_cell_at : FnScope ["_law_script", "_law_k"] ["_law_script", "_law_k"] (defScope s__law_cell_at) := ⟨rfl, rfl, rfl, by decide +kernel, rfl, by decide +kernel, by decide +kernel⟩
theorem sc__law_fresh : FnScope ["_law_name_here", "_law_names_here", "_law_some"] ["_law_name_here", "_law_names_here"] (defScope s__law_fresh) := ⟨rfl, rfl, rfl, by decide +kernel, rfl, by decide +kernel, by decide +kernel⟩
theorem sc__law_letters : FnScope ["_law_seed", "_law_size", "_law_some", "_law_name_here", "_law_state", "_law_k"] ["_law_seed", "_law_size"] (defScope s__law_letters) := ⟨rfl, rfl, rfl, by decide +kernel, rfl, by decide +kernel, by decide +kernel⟩
theorem sc__law_name : FnScope ["_law_k", "_law_cell", "_law_some", "_law_way", "_law_size", "_law_word", "_law_place", "_law_at"] ["_law_k", "_law_cell"] (defScope s__law_name) := ⟨rfl, rfl, rfl, by decide +kernel, rfl, by decide +kernel, by decide +kernel⟩
theorem sc__law_names : FnScope ["_law_many", "_law_cell", "_law_names_here", "_law_k"] ["_law_many", "_law_cell"] (defScope s__law_names) := ⟨rfl, rfl, rfl, by decide +kernel, rfl, by decide +kernel, by decide +kernel⟩
theorem sc__law_tree : FnScope ["_law_cells", "_law_many", "_law_last", "_law_pile", "_law_cell", "_law_kind", "_law_more", "_law_top", "_law_left", "_law_parts"] ["_law_cells", "_law_many", "_law_last"] (defScope s__law_tree) := ⟨rfl, rfl, rfl, by decide +kernel, rfl, by decide +kernel, by decide +kernel⟩
theorem sc__law_made : FnScope ["_law_tree_here", "_law_held", "_law_parts", "_law_part"] ["_law_tree_here", "_law_held"] (defScope s__law_made) := ⟨rfl, rfl, rfl, by decide +kernel, rfl, by decide +kernel, by decide +kernel⟩
theorem sc__law_rank : FnScope ["_law_kind"] ["_law_kind"] (defScope s__law_rank) := ⟨rfl, rfl, rfl, by decide +kernel, rfl, by decide +kernel, by decide +kernel⟩
theorem sc__law_line : FnScope ["_law_tree_here", "_law_names_here", "_law_kind", "_law_line_here", "_law_part", "_law_inner"] ["_law_tree_here", "_law_names_here"] (defScope s__law_line) := ⟨rfl, rfl, rfl, by decide +kernel, rfl, by decide +kernel, by decide +kernel⟩
theorem sc_law : FnScope ["_law_script", "_law_many", "_law_names_here", "_law_tree_here", "_law_held", "_law_found", "_law_parts", "_law_some", "_law_handed", "_law_line_here", "_law_other", "_law_twice"] ["_law_script"] (defScope s_law) := ⟨rfl, rfl, rfl, by decide +kernel, rfl, by decide +kernel, by decide +kernel⟩
theorem sc_Formula_looseness : FnScope ["self"] ["self"] (defScope s_Formula_looseness) := ⟨rfl, rfl, rfl, by decide +kernel, rfl, by decide +kernel, by decide +kernel⟩
theorem sc_Lamp_init : FnScope ["self", "at"] ["self", "at"] (defScope s_Lamp_init) := ⟨rfl, rfl, rfl, by decide +kernel, rfl, by decide +kernel, by decide +kernel⟩
theorem sc_Lamp_shown : FnScope ["self", "names"] ["self", "names"] (defScope s_Lamp_shown) := ⟨rfl, rfl, rfl, by decide +kernel, rfl, by decide +kernel, by decide +kernel⟩
theorem sc_Sure_init : FnScope ["self", "truth"] ["self", "truth"] (defScope s_Sure_init) := ⟨rfl, rfl, rfl, by decide +kernel, rfl, by decide +kernel, by decide +kernel⟩
theorem sc_Sure_shown : FnScope ["self", "names"] ["self", "names"] (defScope s_Sure_shown) := ⟨rfl, rfl, rfl, by decide +kernel, rfl, by decide +kernel, by decide +kernel⟩
theorem sc_Not_init : FnScope ["self", "part"] ["self", "part"] (defScope s_Not_init) := ⟨rfl, rfl, rfl, by decide +kernel, rfl, by decide +kernel, by decide +kernel⟩
theorem sc_Not_shown : FnScope ["self", "names", "text"] ["self", "names"] (defScope s_Not_shown) := ⟨rfl, rfl, rfl, by decide +kernel, rfl, by decide +kernel, by decide +kernel⟩
theorem sc_Joined_init : FnScope ["self", "parts"] ["self", "parts"] (defScope s_Joined_init) := ⟨rfl, rfl, rfl, by decide +kernel, rfl, by decide +kernel, by decide +kernel⟩
theorem sc_Joined_shown : FnScope ["self", "names", "texts", "part"] ["self", "names"] (defScope s_Joined_shown) := ⟨rfl, rfl, rfl, by decide +kernel, rfl, by decide +kernel, by decide +kernel⟩
theorem sc_And_looseness : FnScope ["self"] ["self"] (defScope s_And_looseness) := ⟨rfl, rfl, rfl, by decide +kernel, rfl, by decide +kernel, by decide +kernel⟩
theorem sc_And_between : FnScope ["self"] ["self"] (defScope s_And_between) := ⟨rfl, rfl, rfl, by decide +kernel, rfl, by decide +kernel, by decide +kernel⟩
theorem sc_Either_looseness : FnScope ["self"] ["self"] (defScope s_Either_looseness) := ⟨rfl, rfl, rfl, by decide +kernel, rfl, by decide +kernel, by decide +kernel⟩
theorem sc_Either_between : FnScope ["self"] ["self"] (defScope s_Either_between) := ⟨rfl, rfl, rfl, by decide +kernel, rfl, by decide +kernel, by decide +kernel⟩
theorem sc_Or_looseness : FnScope ["self"] ["self"] (defScope s_Or_looseness) := ⟨rfl, rfl, rfl, by decide +kernel, rfl, by decide +kernel, by decide +kernel⟩
theorem sc_Or_between : FnScope ["self"] ["self"] (defScope s_Or_between) := ⟨rfl, rfl, rfl, by decide +kernel, rfl, by decide +kernel, by decide +kernel⟩
/-- the addresses of what the top has made -/
structure Ad where
  f_bracketed : Addr
  d_bracketed : FuncData
  f__law_cell_at : Addr
  d__law_cell_at : FuncData
  f__law_fresh : Addr
  d__law_fresh : FuncData
  f__law_letters : Addr
  d__law_letters : FuncData
  f__law_name : Addr
  d__law_name : FuncData
  f__law_names : Addr
  d__law_names : FuncData
  f__law_tree : Addr
  d__law_tree : FuncData
  f__law_made : Addr
  d__law_made : FuncData
  f__law_rank : Addr
  d__law_rank : FuncData
  f__law_line : Addr
  d__law_line : FuncData
  f_law : Addr
  d_law : FuncData
  f_Formula_looseness : Addr
  d_Formula_looseness : FuncData
  f_Lamp_init : Addr
  d_Lamp_init : FuncData
  f_Lamp_lamps : Addr
  d_Lamp_lamps : FuncData
  f_Lamp_shown : Addr
  d_Lamp_shown : FuncData
  f_Sure_init : Addr
  d_Sure_init : FuncData
  f_Sure_lamps : Addr
  d_Sure_lamps : FuncData
  f_Sure_shown : Addr
  d_Sure_shown : FuncData
  f_Not_init : Addr
  d_Not_init : FuncData
  f_Not_lamps : Addr
  d_Not_lamps : FuncData
  f_Not_shown : Addr
  d_Not_shown : FuncData
  f_Joined_init : Addr
  d_Joined_init : FuncData
  f_Joined_lamps : Addr
  d_Joined_lamps : FuncData
  f_Joined_shown : Addr
  d_Joined_shown : FuncData
  f_And_looseness : Addr
  d_And_looseness : FuncData
  f_And_between : Addr
  d_And_between : FuncData
  f_Either_looseness : Addr
  d_Either_looseness : FuncData
  f_Either_between : Addr
  d_Either_between : FuncData
  f_Or_looseness : Addr
  d_Or_looseness : FuncData
  f_Or_between : Addr
  d_Or_between : FuncData
  C_Formula : Addr
  C_Lamp : Addr
  C_Sure : Addr
  C_Not : Addr
  C_Joined : Addr
  C_And : Addr
  C_Either : Addr
  C_Or : Addr
/-- what the top has written -/
structure Txt (K : PySem.W.Frag) (mg : Str → Option Value) (t : Ad) : Prop where
  F_bracketed : Fun K "bracketed" "bracketed" s_bracketed t.f_bracketed t.d_bracketed
  b_bracketed : Binds K t.d_bracketed ["part", "text", "bound"] []
  m_bracketed : mg "bracketed" = some (.ref t.f_bracketed)
  F__law_cell_at : Fun K "_law_cell_at" "_law_cell_at" s__law_cell_at t.f__law_cell_at t.d__law_cell_at
  b__law_cell_at : Binds K t.d__law_cell_at ["_law_script", "_law_k"] []
  m__law_cell_at : mg "_law_cell_at" = some (.ref t.f__law_cell_at)
  F__law_fresh : Fun K "_law_fresh" "_law_fresh" s__law_fresh t.f__law_fresh t.d__law_fresh
  b__law_fresh : Binds K t.d__law_fresh ["_law_name_here", "_law_names_here"] []
  m__law_fresh : mg "_law_fresh" = some (.ref t.f__law_fresh)
  F__law_letters : Fun K "_law_letters" "_law_letters" s__law_letters t.f__law_letters t.d__law_letters
  b__law_letters : Binds K t.d__law_letters ["_law_seed", "_law_size"] []
  m__law_letters : mg "_law_letters" = some (.ref t.f__law_letters)
  F__law_name : Fun K "_law_name" "_law_name" s__law_name t.f__law_name t.d__law_name
  b__law_name : Binds K t.d__law_name ["_law_k", "_law_cell"] []
  m__law_name : mg "_law_name" = some (.ref t.f__law_name)
  F__law_names : Fun K "_law_names" "_law_names" s__law_names t.f__law_names t.d__law_names
  b__law_names : Binds K t.d__law_names ["_law_many", "_law_cell"] []
  m__law_names : mg "_law_names" = some (.ref t.f__law_names)
  F__law_tree : Fun K "_law_tree" "_law_tree" s__law_tree t.f__law_tree t.d__law_tree
  b__law_tree : Binds K t.d__law_tree ["_law_cells", "_law_many", "_law_last"] []
  m__law_tree : mg "_law_tree" = some (.ref t.f__law_tree)
  F__law_made : Fun K "_law_made" "_law_made" s__law_made t.f__law_made t.d__law_made
  b__law_made : Binds K t.d__law_made ["_law_tree_here", "_law_held"] []
  m__law_made : mg "_law_made" = some (.ref t.f__law_made)
  F__law_rank : Fun K "_law_rank" "_law_rank" s__law_rank t.f__law_rank t.d__law_rank
  b__law_rank : Binds K t.d__law_rank ["_law_kind"] []
  m__law_rank : mg "_law_rank" = some (.ref t.f__law_rank)
  F__law_line : Fun K "_law_line" "_law_line" s__law_line t.f__law_line t.d__law_line
  b__law_line : Binds K t.d__law_line ["_law_tree_here", "_law_names_here"] []
  m__law_line : mg "_law_line" = some (.ref t.f__law_line)
  F_law : Fun K "law" "law" s_law t.f_law t.d_law
  b_law : Binds K t.d_law ["_law_script"] []
  m_law : mg "law" = some (.ref t.f_law)
  F_Formula_looseness : Fun K "looseness" "Formula.looseness" s_Formula_looseness t.f_Formula_looseness t.d_Formula_looseness
  b_Formula_looseness : Binds K t.d_Formula_looseness ["self"] []
  F_Lamp_init : Fun K "__init__" "Lamp.__init__" s_Lamp_init t.f_Lamp_init t.d_Lamp_init
  b_Lamp_init : Binds K t.d_Lamp_init ["self", "at"] []
  F_Lamp_lamps : Fun K "lamps" "Lamp.lamps" s_Lamp_lamps t.f_Lamp_lamps t.d_Lamp_lamps
  b_Lamp_lamps : Binds K t.d_Lamp_lamps ["self"] []
  F_Lamp_shown : Fun K "shown" "Lamp.shown" s_Lamp_shown t.f_Lamp_shown t.d_Lamp_shown
  b_Lamp_shown : Binds K t.d_Lamp_shown ["self", "names"] []
  F_Sure_init : Fun K "__init__" "Sure.__init__" s_Sure_init t.f_Sure_init t.d_Sure_init
  b_Sure_init : Binds K t.d_Sure_init ["self", "truth"] []
  F_Sure_lamps : Fun K "lamps" "Sure.lamps" s_Sure_lamps t.f_Sure_lamps t.d_Sure_lamps
  b_Sure_lamps : Binds K t.d_Sure_lamps ["self"] []
  F_Sure_shown : Fun K "shown" "Sure.shown" s_Sure_shown t.f_Sure_shown t.d_Sure_shown
  b_Sure_shown : Binds K t.d_Sure_shown ["self", "names"] []
  F_Not_init : Fun K "__init__" "Not.__init__" s_Not_init t.f_Not_init t.d_Not_init
  b_Not_init : Binds K t.d_Not_init ["self", "part"] []
  F_Not_lamps : Fun K "lamps" "Not.lamps" s_Not_lamps t.f_Not_lamps t.d_Not_lamps
  b_Not_lamps : Binds K t.d_Not_lamps ["self"] []
  F_Not_shown : Fun K "shown" "Not.shown" s_Not_shown t.f_Not_shown t.d_Not_shown
  b_Not_shown : Binds K t.d_Not_shown ["self", "names"] []
  F_Joined_init : Fun K "__init__" "Joined.__init__" s_Joined_init t.f_Joined_init t.d_Joined_init
  b_Joined_init : Binds K t.d_Joined_init ["self", "parts"] []
  F_Joined_lamps : Fun K "lamps" "Joined.lamps" s_Joined_lamps t.f_Joined_lamps t.d_Joined_lamps
  b_Joined_lamps : Binds K t.d_Joined_lamps ["self"] []
  F_Joined_shown : Fun K "shown" "Joined.shown" s_Joined_shown t.f_Joined_shown t.d_Joined_shown
  b_Joined_shown : Binds K t.d_Joined_shown ["self", "names"] []
  F_And_looseness : Fun K "looseness" "And.looseness" s_And_looseness t.f_And_looseness t.d_And_looseness
  b_And_looseness : Binds K t.d_And_looseness ["self"] []
  F_And_between : Fun K "between" "And.between" s_And_between t.f_And_between t.d_And_between
  b_And_between : Binds K t.d_And_between ["self"] []
  F_Either_looseness : Fun K "looseness" "Either.looseness" s_Either_looseness t.f_Either_looseness t.d_Either_looseness
  b_Either_looseness : Binds K t.d_Either_looseness ["self"] []
  F_Either_between : Fun K "between" "Either.between" s_Either_between t.f_Either_between t.d_Either_between
  b_Either_between : Binds K t.d_Either_between ["self"] []
  F_Or_looseness : Fun K "looseness" "Or.looseness" s_Or_looseness t.f_Or_looseness t.d_Or_looseness
  b_Or_looseness : Binds K t.d_Or_looseness ["self"] []
  F_Or_between : Fun K "between" "Or.between" s_Or_between t.f_Or_between t.d_Or_between
  b_Or_between : Binds K t.d_Or_between ["self"] []
  m_Formula : mg "Formula" = some (.ref t.C_Formula)
  c_Formula : Cls K t.C_Formula
  y_Formula : ∀ (H : Hp) (a dx : Addr) (fs : List (Str × V)), H a = some (.ins t.C_Formula dx fs) → TyOf K H (.ref a) (.ref t.C_Formula)
  n_Formula_at : NoAttr K t.C_Formula "at"
  n_Formula_truth : NoAttr K t.C_Formula "truth"
  n_Formula_part : NoAttr K t.C_Formula "part"
  n_Formula_parts : NoAttr K t.C_Formula "parts"
  h_Formula_looseness : Meth K t.C_Formula "looseness" t.f_Formula_looseness
  m_Lamp : mg "Lamp" = some (.ref t.C_Lamp)
  c_Lamp : Cls K t.C_Lamp
  y_Lamp : ∀ (H : Hp) (a dx : Addr) (fs : List (Str × V)), H a = some (.ins t.C_Lamp dx fs) → TyOf K H (.ref a) (.ref t.C_Lamp)
  k_Lamp : Mk K t.C_Lamp t.f_Lamp_init
  n_Lamp_at : NoAttr K t.C_Lamp "at"
  n_Lamp_truth : NoAttr K t.C_Lamp "truth"
  n_Lamp_part : NoAttr K t.C_Lamp "part"
  n_Lamp_parts : NoAttr K t.C_Lamp "parts"
  h_Lamp_lamps : Meth K t.C_Lamp "lamps" t.f_Lamp_lamps
  h_Lamp_shown : Meth K t.C_Lamp "shown" t.f_Lamp_shown
  h_Lamp_looseness : Meth K t.C_Lamp "looseness" t.f_Formula_looseness
  m_Sure : mg "Sure" = some (.ref t.C_Sure)
  c_Sure : Cls K t.C_Sure
  y_Sure : ∀ (H : Hp) (a dx : Addr) (fs : List (Str × V)), H a = some (.ins t.C_Sure dx fs) → TyOf K H (.ref a) (.ref t.C_Sure)
  k_Sure : Mk K t.C_Sure t.f_Sure_init
  n_Sure_at : NoAttr K t.C_Sure "at"
  n_Sure_truth : NoAttr K t.C_Sure "truth"
  n_Sure_part : NoAttr K t.C_Sure "part"
  n_Sure_parts : NoAttr K t.C_Sure "parts"
  h_Sure_lamps : Meth K t.C_Sure "lamps" t.f_Sure_lamps
  h_Sure_shown : Meth K t.C_Sure "shown" t.f_Sure_shown
  h_Sure_looseness : Meth K t.C_Sure "looseness" t.f_Formula_looseness
  m_Not : mg "Not" = some (.ref t.C_Not)
  c_Not : Cls K t.C_Not
  y_Not : ∀ (H : Hp) (a dx : Addr) (fs : List (Str × V)), H a = some (.ins t.C_Not dx fs) → TyOf K H (.ref a) (.ref t.C_Not)
  k_Not : Mk K t.C_Not t.f_Not_init
  n_Not_at : NoAttr K t.C_Not "at"
  n_Not_truth : NoAttr K t.C_Not "truth"
  n_Not_part : NoAttr K t.C_Not "part"
  n_Not_parts : NoAttr K t.C_Not "parts"
  h_Not_lamps : Meth K t.C_Not "lamps" t.f_Not_lamps
  h_Not_shown : Meth K t.C_Not "shown" t.f_Not_shown
  h_Not_looseness : Meth K t.C_Not "looseness" t.f_Formula_looseness
  m_Joined : mg "Joined" = some (.ref t.C_Joined)
  c_Joined : Cls K t.C_Joined
  y_Joined : ∀ (H : Hp) (a dx : Addr) (fs : List (Str × V)), H a = some (.ins t.C_Joined dx fs) → TyOf K H (.ref a) (.ref t.C_Joined)
  k_Joined : Mk K t.C_Joined t.f_Joined_init
  n_Joined_at : NoAttr K t.C_Joined "at"
  n_Joined_truth : NoAttr K t.C_Joined "truth"
  n_Joined_part : NoAttr K t.C_Joined "part"
  n_Joined_parts : NoAttr K t.C_Joined "parts"
  h_Joined_lamps : Meth K t.C_Joined "lamps" t.f_Joined_lamps
  h_Joined_shown : Meth K t.C_Joined "shown" t.f_Joined_shown
  h_Joined_looseness : Meth K t.C_Joined "looseness" t.f_Formula_looseness
  m_And : mg "And" = some (.ref t.C_And)
  c_And : Cls K t.C_And
  y_And : ∀ (H : Hp) (a dx : Addr) (fs : List (Str × V)), H a = some (.ins t.C_And dx fs) → TyOf K H (.ref a) (.ref t.C_And)
  k_And : Mk K t.C_And t.f_Joined_init
  n_And_at : NoAttr K t.C_And "at"
  n_And_truth : NoAttr K t.C_And "truth"
  n_And_part : NoAttr K t.C_And "part"
  n_And_parts : NoAttr K t.C_And "parts"
  h_And_looseness : Meth K t.C_And "looseness" t.f_And_looseness
  h_And_between : Meth K t.C_And "between" t.f_And_between
  h_And_lamps : Meth K t.C_And "lamps" t.f_Joined_lamps
  h_And_shown : Meth K t.C_And "shown" t.f_Joined_shown
  m_Either : mg "Either" = some (.ref t.C_Either)
  c_Either : Cls K t.C_Either
  y_Either : ∀ (H : Hp) (a dx : Addr) (fs : List (Str × V)), H a = some (.ins t.C_Either dx fs) → TyOf K H (.ref a) (.ref t.C_Either)
  k_Either : Mk K t.C_Either t.f_Joined_init
  n_Either_at : NoAttr K t.C_Either "at"
  n_Either_truth : NoAttr K t.C_Either "truth"
  n_Either_part : NoAttr K t.C_Either "part"
  n_Either_parts : NoAttr K t.C_Either "parts"
  h_Either_looseness : Meth K t.C_Either "looseness" t.f_Either_looseness
  h_Either_between : Meth K t.C_Either "between" t.f_Either_between
  h_Either_lamps : Meth K t.C_Either "lamps" t.f_Joined_lamps
  h_Either_shown : Meth K t.C_Either "shown" t.f_Joined_shown
  m_Or : mg "Or" = some (.ref t.C_Or)
  c_Or : Cls K t.C_Or
  y_Or : ∀ (H : Hp) (a dx : Addr) (fs : List (Str × V)), H a = some (.ins t.C_Or dx fs) → TyOf K H (.ref a) (.ref t.C_Or)
  k_Or : Mk K t.C_Or t.f_Joined_init
  n_Or_at : NoAttr K t.C_Or "at"
  n_Or_truth : NoAttr K t.C_Or "truth"
  n_Or_part : NoAttr K t.C_Or "part"
  n_Or_parts : NoAttr K t.C_Or "parts"
  h_Or_looseness : Meth K t.C_Or "looseness" t.f_Or_looseness
  h_Or_between : Meth K t.C_Or "between" t.f_Or_between
  h_Or_lamps : Meth K t.C_Or "lamps" t.f_Joined_lamps
  h_Or_shown : Meth K t.C_Or "shown" t.f_Joined_shown
  x_Formula_Lamp : t.C_Formula ≠ t.C_Lamp
  x_Formula_Sure : t.C_Formula ≠ t.C_Sure
  x_Formula_Not : t.C_Formula ≠ t.C_Not
  x_Formula_Joined : t.C_Formula ≠ t.C_Joined
  x_Formula_And : t.C_Formula ≠ t.C_And
  x_Formula_Either : t.C_Formula ≠ t.C_Either
  x_Formula_Or : t.C_Formula ≠ t.C_Or
  x_Lamp_Sure : t.C_Lamp ≠ t.C_Sure
  x_Lamp_Not : t.C_Lamp ≠ t.C_Not
  x_Lamp_Joined : t.C_Lamp ≠ t.C_Joined
  x_Lamp_And : t.C_Lamp ≠ t.C_And
  x_Lamp_Either : t.C_Lamp ≠ t.C_Either
  x_Lamp_Or : t.C_Lamp ≠ t.C_Or
  x_Sure_Not : t.C_Sure ≠ t.C_Not
  x_Sure_Joined : t.C_Sure ≠ t.C_Joined
  x_Sure_And : t.C_Sure ≠ t.C_And
  x_Sure_Either : t.C_Sure ≠ t.C_Either
  x_Sure_Or : t.C_Sure ≠ t.C_Or
  x_Not_Joined : t.C_Not ≠ t.C_Joined
  x_Not_And : t.C_Not ≠ t.C_And
  x_Not_Either : t.C_Not ≠ t.C_Either
  x_Not_Or : t.C_Not ≠ t.C_Or
  x_Joined_And : t.C_Joined ≠ t.C_And
  x_Joined_Either : t.C_Joined ≠ t.C_Either
  x_Joined_Or : t.C_Joined ≠ t.C_Or
  x_And_Either : t.C_And ≠ t.C_Either
  x_And_Or : t.C_And ≠ t.C_Or
  x_Either_Or : t.C_Either ≠ t.C_Or
  bl : ∀ (s : Shared) (u : Value), BindsTo s t.d_law ⟨[u], []⟩ [("_law_script", u)]
  B : Bt mg
theorem txt_mk {K : PySem.W.Frag} {h : Heap} {mg : Str → Option Value} (X : K.In h) (G : h.Ns mainGlobals mg)
    {f_bracketed : Addr} {od_bracketed an_bracketed : Option Addr} {sl_bracketed : Array (Option Value)} {oc_bracketed kV_bracketed dc_bracketed pm_bracketed cd_bracketed ct_bracketed : Value}
    {f__law_cell_at : Addr} {od__law_cell_at an__law_cell_at : Option Addr} {sl__law_cell_at : Array (Option Value)} {oc__law_cell_at kV__law_cell_at dc__law_cell_at pm__law_cell_at cd__law_cell_at ct__law_cell_at : Value}
    {f__law_fresh : Addr} {od__law_fresh an__law_fresh : Option Addr} {sl__law_fresh : Array (Option Value)} {oc__law_fresh kV__law_fresh dc__law_fresh pm__law_fresh cd__law_fresh ct__law_fresh : Value}
    {f__law_letters : Addr} {od__law_letters an__law_letters : Option Addr} {sl__law_letters : Array (Option Value)} {oc__law_letters kV__law_letters dc__law_letters pm__law_letters cd__law_letters ct__law_letters : Value}
    {f__law_name : Addr} {od__law_name an__law_name : Option Addr} {sl__law_name : Array (Option Value)} {oc__law_name kV__law_name dc__law_name pm__law_name cd__law_name ct__law_name : Value}
    {f__law_names : Addr} {od__law_names an__law_names : Option Addr} {sl__law_names : Array (Option Value)} {oc__law_names kV__law_names dc__law_names pm__law_names cd__law_names ct__law_names : Value}
    {f__law_tree : Addr} {od__law_tree an__law_tree : Option Addr} {sl__law_tree : Array (Option Value)} {oc__law_tree kV__law_tree dc__law_tree pm__law_tree cd__law_tree ct__law_tree : Value}
    {f__law_made : Addr} {od__law_made an__law_made : Option Addr} {sl__law_made : Array (Option Value)} {oc__law_made kV__law_made dc__law_made pm__law_made cd__law_made ct__law_made : Value}
    {f__law_rank : Addr} {od__law_rank an__law_rank : Option Addr} {sl__law_rank : Array (Option Value)} {oc__law_rank kV__law_rank dc__law_rank pm__law_rank cd__law_rank ct__law_rank : Value}
    {f__law_line : Addr} {od__law_line an__law_line : Option Addr} {sl__law_line : Array (Option Value)} {oc__law_line kV__law_line dc__law_line pm__law_line cd__law_line ct__law_line : Value}
    {f_law : Addr} {od_law an_law : Option Addr} {sl_law : Array (Option Value)} {oc_law kV_law dc_law pm_law cd_law ct_law : Value}
    {f_Formula_looseness : Addr} {od_Formula_looseness an_Formula_looseness : Option Addr} {sl_Formula_looseness : Array (Option Value)} {oc_Formula_looseness kV_Formula_looseness dc_Formula_looseness pm_Formula_looseness cd_Formula_looseness ct_Formula_looseness : Value}
    {f_Lamp_init : Addr} {od_Lamp_init an_Lamp_init : Option Addr} {sl_Lamp_init : Array (Option Value)} {oc_Lamp_init kV_Lamp_init dc_Lamp_init pm_Lamp_init cd_Lamp_init ct_Lamp_init : Value}
    {f_Lamp_lamps : Addr} {od_Lamp_lamps an_Lamp_lamps : Option Addr} {sl_Lamp_lamps : Array (Option Value)} {oc_Lamp_lamps kV_Lamp_lamps dc_Lamp_lamps pm_Lamp_lamps cd_Lamp_lamps ct_Lamp_lamps : Value}
    {f_Lamp_shown : Addr} {od_Lamp_shown an_Lamp_shown : Option Addr} {sl_Lamp_shown : Array (Option Value)} {oc_Lamp_shown kV_Lamp_shown dc_Lamp_shown pm_Lamp_shown cd_Lamp_shown ct_Lamp_shown : Value}
    {f_Sure_init : Addr} {od_Sure_init an_Sure_init : Option Addr} {sl_Sure_init : Array (Option Value)} {oc_Sure_init kV_Sure_init dc_Sure_init pm_Sure_init cd_Sure_init ct_Sure_init : Value}
    {f_Sure_lamps : Addr} {od_Sure_lamps an_Sure_lamps : Option Addr} {sl_Sure_lamps : Array (Option Value)} {oc_Sure_lamps kV_Sure_lamps dc_Sure_lamps pm_Sure_lamps cd_Sure_lamps ct_Sure_lamps : Value}
    {f_Sure_shown : Addr} {od_Sure_shown an_Sure_shown : Option Addr} {sl_Sure_shown : Array (Option Value)} {oc_Sure_shown kV_Sure_shown dc_Sure_shown pm_Sure_shown cd_Sure_shown ct_Sure_shown : Value}
    {f_Not_init : Addr} {od_Not_init an_Not_init : Option Addr} {sl_Not_init : Array (Option Value)} {oc_Not_init kV_Not_init dc_Not_init pm_Not_init cd_Not_init ct_Not_init : Value}
    {f_Not_lamps : Addr} {od_Not_lamps an_Not_lamps : Option Addr} {sl_Not_lamps : Array (Option Value)} {oc_Not_lamps kV_Not_lamps dc_Not_lamps pm_Not_lamps cd_Not_lamps ct_Not_lamps : Value}
    {f_Not_shown : Addr} {od_Not_shown an_Not_shown : Option Addr} {sl_Not_shown : Array (Option Value)} {oc_Not_shown kV_Not_shown dc_Not_shown pm_Not_shown cd_Not_shown ct_Not_shown : Value}
    {f_Joined_init : Addr} {od_Joined_init an_Joined_init : Option Addr} {sl_Joined_init : Array (Option Value)} {oc_Joined_init kV_Joined_init dc_Joined_init pm_Joined_init cd_Joined_init ct_Joined_init : Value}
    {f_Joined_lamps : Addr} {od_Joined_lamps an_Joined_lamps : Option Addr} {sl_Joined_lamps : Array (Option Value)} {oc_Joined_lamps kV_Joined_lamps dc_Joined_lamps pm_Joined_lamps cd_Joined_lamps ct_Joined_lamps : Value}
    {f_Joined_shown : Addr} {od_Joined_shown an_Joined_shown : Option Addr} {sl_Joined_shown : Array (Option Value)} {oc_Joined_shown kV_Joined_shown dc_Joined_shown pm_Joined_shown cd_Joined_shown ct_Joined_shown : Value}
    {f_And_looseness : Addr} {od_And_looseness an_And_looseness : Option Addr} {sl_And_looseness : Array (Option Value)} {oc_And_looseness kV_And_looseness dc_And_looseness pm_And_looseness cd_And_looseness ct_And_looseness : Value}
    {f_And_between : Addr} {od_And_between an_And_between : Option Addr} {sl_And_between : Array (Option Value)} {oc_And_between kV_And_between dc_And_between pm_And_between cd_And_between ct_And_between : Value}
    {f_Either_looseness : Addr} {od_Either_looseness an_Either_looseness : Option Addr} {sl_Either_looseness : Array (Option Value)} {oc_Either_looseness kV_Either_looseness dc_Either_looseness pm_Either_looseness cd_Either_looseness ct_Either_looseness : Value}
    {f_Either_between : Addr} {od_Either_between an_Either_between : Option Addr} {sl_Either_between : Array (Option Value)} {oc_Either_between kV_Either_between dc_Either_between pm_Either_between cd_Either_between ct_Either_between : Value}
    {f_Or_looseness : Addr} {od_Or_looseness an_Or_looseness : Option Addr} {sl_Or_looseness : Array (Option Value)} {oc_Or_looseness kV_Or_looseness dc_Or_looseness pm_Or_looseness cd_Or_looseness ct_Or_looseness : Value}
    {f_Or_between : Addr} {od_Or_between an_Or_between : Option Addr} {sl_Or_between : Array (Option Value)} {oc_Or_between kV_Or_between dc_Or_between pm_Or_between cd_Or_between ct_Or_between : Value}
    {C_Formula : Addr}
    {C_Lamp : Addr}
    {C_Sure : Addr}
    {C_Not : Addr}
    {C_Joined : Addr}
    {C_And : Addr}
    {C_Either : Addr}
    {C_Or : Addr}
    (a_bracketed : PySem.W.nsIn K mainGlobals "bracketed" = some (some (.ref f_bracketed)))
    (a__law_cell_at : PySem.W.nsIn K mainGlobals "_law_cell_at" = some (some (.ref f__law_cell_at)))
    (a__law_fresh : PySem.W.nsIn K mainGlobals "_law_fresh" = some (some (.ref f__law_fresh)))
    (a__law_letters : PySem.W.nsIn K mainGlobals "_law_letters" = some (some (.ref f__law_letters)))
    (a__law_name : PySem.W.nsIn K mainGlobals "_law_name" = some (some (.ref f__law_name)))
    (a__law_names : PySem.W.nsIn K mainGlobals "_law_names" = some (some (.ref f__law_names)))
    (a__law_tree : PySem.W.nsIn K mainGlobals "_law_tree" = some (some (.ref f__law_tree)))
    (a__law_made : PySem.W.nsIn K mainGlobals "_law_made" = some (some (.ref f__law_made)))
    (a__law_rank : PySem.W.nsIn K mainGlobals "_law_rank" = some (some (.ref f__law_rank)))
    (a__law_line : PySem.W.nsIn K mainGlobals "_law_line" = some (some (.ref f__law_line)))
    (a_law : PySem.W.nsIn K mainGlobals "law" = some (some (.ref f_law)))
    (a_Formula : PySem.W.nsIn K mainGlobals "Formula" = some (some (.ref C_Formula)))
    (a_Lamp : PySem.W.nsIn K mainGlobals "Lamp" = some (some (.ref C_Lamp)))
    (a_Sure : PySem.W.nsIn K mainGlobals "Sure" = some (some (.ref C_Sure)))
    (a_Not : PySem.W.nsIn K mainGlobals "Not" = some (some (.ref C_Not)))
    (a_Joined : PySem.W.nsIn K mainGlobals "Joined" = some (some (.ref C_Joined)))
    (a_And : PySem.W.nsIn K mainGlobals "And" = some (some (.ref C_And)))
    (a_Either : PySem.W.nsIn K mainGlobals "Either" = some (some (.ref C_Either)))
    (a_Or : PySem.W.nsIn K mainGlobals "Or" = some (some (.ref C_Or)))
    (e_Formula_looseness : PySem.W.findIn K (.ref C_Formula) "looseness" = some (some (.ref f_Formula_looseness)))
    (e_Lamp_init : PySem.W.findIn K (.ref C_Lamp) "__init__" = some (some (.ref f_Lamp_init)))
    (e_Lamp_lamps : PySem.W.findIn K (.ref C_Lamp) "lamps" = some (some (.ref f_Lamp_lamps)))
    (e_Lamp_shown : PySem.W.findIn K (.ref C_Lamp) "shown" = some (some (.ref f_Lamp_shown)))
    (e_Lamp_looseness : PySem.W.findIn K (.ref C_Lamp) "looseness" = some (some (.ref f_Formula_looseness)))
    (e_Sure_init : PySem.W.findIn K (.ref C_Sure) "__init__" = some (some (.ref f_Sure_init)))
    (e_Sure_lamps : PySem.W.findIn K (.ref C_Sure) "lamps" = some (some (.ref f_Sure_lamps)))
    (e_Sure_shown : PySem.W.findIn K (.ref C_Sure) "shown" = some (some (.ref f_Sure_shown)))
    (e_Sure_looseness : PySem.W.findIn K (.ref C_Sure) "looseness" = some (some (.ref f_Formula_looseness)))
    (e_Not_init : PySem.W.findIn K (.ref C_Not) "__init__" = some (some (.ref f_Not_init)))
    (e_Not_lamps : PySem.W.findIn K (.ref C_Not) "lamps" = some (some (.ref f_Not_lamps)))
    (e_Not_shown : PySem.W.findIn K (.ref C_Not) "shown" = some (some (.ref f_Not_shown)))
    (e_Not_looseness : PySem.W.findIn K (.ref C_Not) "looseness" = some (some (.ref f_Formula_looseness)))
    (e_Joined_init : PySem.W.findIn K (.ref C_Joined) "__init__" = some (some (.ref f_Joined_init)))
    (e_Joined_lamps : PySem.W.findIn K (.ref C_Joined) "lamps" = some (some (.ref f_Joined_lamps)))
    (e_Joined_shown : PySem.W.findIn K (.ref C_Joined) "shown" = some (some (.ref f_Joined_shown)))
    (e_Joined_looseness : PySem.W.findIn K (.ref C_Joined) "looseness" = some (some (.ref f_Formula_looseness)))
    (e_And_looseness : PySem.W.findIn K (.ref C_And) "looseness" = some (some (.ref f_And_looseness)))
    (e_And_between : PySem.W.findIn K (.ref C_And) "between" = some (some (.ref f_And_between)))
    (e_And_init : PySem.W.findIn K (.ref C_And) "__init__" = some (some (.ref f_Joined_init)))
    (e_And_lamps : PySem.W.findIn K (.ref C_And) "lamps" = some (some (.ref f_Joined_lamps)))
    (e_And_shown : PySem.W.findIn K (.ref C_And) "shown" = some (some (.ref f_Joined_shown)))
    (e_Either_looseness : PySem.W.findIn K (.ref C_Either) "looseness" = some (some (.ref f_Either_looseness)))
    (e_Either_between : PySem.W.findIn K (.ref C_Either) "between" = some (some (.ref f_Either_between)))
    (e_Either_init : PySem.W.findIn K (.ref C_Either) "__init__" = some (some (.ref f_Joined_init)))
    (e_Either_lamps : PySem.W.findIn K (.ref C_Either) "lamps" = some (some (.ref f_Joined_lamps)))
    (e_Either_shown : PySem.W.findIn K (.ref C_Either) "shown" = some (some (.ref f_Joined_shown)))
    (e_Or_looseness : PySem.W.findIn K (.ref C_Or) "looseness" = some (some (.ref f_Or_looseness)))
    (e_Or_between : PySem.W.findIn K (.ref C_Or) "between" = some (some (.ref f_Or_between)))
    (e_Or_init : PySem.W.findIn K (.ref C_Or) "__init__" = some (some (.ref f_Joined_init)))
    (e_Or_lamps : PySem.W.findIn K (.ref C_Or) "lamps" = some (some (.ref f_Joined_lamps)))
    (e_Or_shown : PySem.W.findIn K (.ref C_Or) "shown" = some (some (.ref f_Joined_shown)))
    (l_bracketed : K.lookup f_bracketed = some ⟨oc_bracketed, od_bracketed, .func (PySem.W.fnOf "bracketed" "bracketed" (defArgs s_bracketed) (defBody s_bracketed) (defScope s_bracketed) .none kV_bracketed dc_bracketed pm_bracketed an_bracketed cd_bracketed ct_bracketed), sl_bracketed⟩)
    (c_bracketed : PySem.W.codeIn K cd_bracketed "bracketed" = true)
    (k_bracketed : PySem.W.keepIn K (.ref f_bracketed) = true)
    (l__law_cell_at : K.lookup f__law_cell_at = some ⟨oc__law_cell_at, od__law_cell_at, .func (PySem.W.fnOf "_law_cell_at" "_law_cell_at" (defArgs s__law_cell_at) (defBody s__law_cell_at) (defScope s__law_cell_at) .none kV__law_cell_at dc__law_cell_at pm__law_cell_at an__law_cell_at cd__law_cell_at ct__law_cell_at), sl__law_cell_at⟩)
    (c__law_cell_at : PySem.W.codeIn K cd__law_cell_at "_law_cell_at" = true)
    (k__law_cell_at : PySem.W.keepIn K (.ref f__law_cell_at) = true)
    (l__law_fresh : K.lookup f__law_fresh = some ⟨oc__law_fresh, od__law_fresh, .func (PySem.W.fnOf "_law_fresh" "_law_fresh" (defArgs s__law_fresh) (defBody s__law_fresh) (defScope s__law_fresh) .none kV__law_fresh dc__law_fresh pm__law_fresh an__law_fresh cd__law_fresh ct__law_fresh), sl__law_fresh⟩)
    (c__law_fresh : PySem.W.codeIn K cd__law_fresh "_law_fresh" = true)
    (k__law_fresh : PySem.W.keepIn K (.ref f__law_fresh) = true)
    (l__law_letters : K.lookup f__law_letters = some ⟨oc__law_letters, od__law_letters, .func (PySem.W.fnOf "_law_letters" "_law_letters" (defArgs s__law_letters) (defBody s__law_letters) (defScope s__law_letters) .none kV__law_letters dc__law_letters pm__law_letters an__law_letters cd__law_letters ct__law_letters), sl__law_letters⟩)
    (c__law_letters : PySem.W.codeIn K cd__law_letters "_law_letters" = true)
    (k__law_letters : PySem.W.keepIn K (.ref f__law_letters) = true)
    (l__law_name : K.lookup f__law_name = some ⟨oc__law_name, od__law_name, .func (PySem.W.fnOf "_law_name" "_law_name" (defArgs s__law_name) (defBody s__law_name) (defScope s__law_name) .none kV__law_name dc__law_name pm__law_name an__law_name cd__law_name ct__law_name), sl__law_name⟩)
    (c__law_name : PySem.W.codeIn K cd__law_name "_law_name" = true)
    (k__law_name : PySem.W.keepIn K (.ref f__law_name) = true)
    (l__law_names : K.lookup f__law_names = some ⟨oc__law_names, od__law_names, .func (PySem.W.fnOf "_law_names" "_law_names" (defArgs s__law_names) (defBody s__law_names) (defScope s__law_names) .none kV__law_names dc__law_names pm__law_names an__law_names cd__law_names ct__law_names), sl__law_names⟩)
    (c__law_names : PySem.W.codeIn K cd__law_names "_law_names" = true)
    (k__law_names : PySem.W.keepIn K (.ref f__law_names) = true)
    (l__law_tree : K.lookup f__law_tree = some ⟨oc__law_tree, od__law_tree, .func (PySem.W.fnOf "_law_tree" "_law_tree" (defArgs s__law_tree) (defBody s__law_tree) (defScope s__law_tree) .none kV__law_tree dc__law_tree pm__law_tree an__law_tree cd__law_tree ct__law_tree), sl__law_tree⟩)
    (c__law_tree : PySem.W.codeIn K cd__law_tree "_law_tree" = true)
    (k__law_tree : PySem.W.keepIn K (.ref f__law_tree) = true)
    (l__law_made : K.lookup f__law_made = some ⟨oc__law_made, od__law_made, .func (PySem.W.fnOf "_law_made" "_law_made" (defArgs s__law_made) (defBody s__law_made) (defScope s__law_made) .none kV__law_made dc__law_made pm__law_made an__law_made cd__law_made ct__law_made), sl__law_made⟩)
    (c__law_made : PySem.W.codeIn K cd__law_made "_law_made" = true)
    (k__law_made : PySem.W.keepIn K (.ref f__law_made) = true)
    (l__law_rank : K.lookup f__law_rank = some ⟨oc__law_rank, od__law_rank, .func (PySem.W.fnOf "_law_rank" "_law_rank" (defArgs s__law_rank) (defBody s__law_rank) (defScope s__law_rank) .none kV__law_rank dc__law_rank pm__law_rank an__law_rank cd__law_rank ct__law_rank), sl__law_rank⟩)
    (c__law_rank : PySem.W.codeIn K cd__law_rank "_law_rank" = true)
    (k__law_rank : PySem.W.keepIn K (.ref f__law_rank) = true)
    (l__law_line : K.lookup f__law_line = some ⟨oc__law_line, od__law_line, .func (PySem.W.fnOf "_law_line" "_law_line" (defArgs s__law_line) (defBody s__law_line) (defScope s__law_line) .none kV__law_line dc__law_line pm__law_line an__law_line cd__law_line ct__law_line), sl__law_line⟩)
    (c__law_line : PySem.W.codeIn K cd__law_line "_law_line" = true)
    (k__law_line : PySem.W.keepIn K (.ref f__law_line) = true)
    (l_law : K.lookup f_law = some ⟨oc_law, od_law, .func (PySem.W.fnOf "law" "law" (defArgs s_law) (defBody s_law) (defScope s_law) .none kV_law dc_law pm_law an_law cd_law ct_law), sl_law⟩)
    (c_law : PySem.W.codeIn K cd_law "law" = true)
    (k_law : PySem.W.keepIn K (.ref f_law) = true)
    (l_Formula_looseness : K.lookup f_Formula_looseness = some ⟨oc_Formula_looseness, od_Formula_looseness, .func (PySem.W.fnOf "looseness" "Formula.looseness" (defArgs s_Formula_looseness) (defBody s_Formula_looseness) (defScope s_Formula_looseness) .none kV_Formula_looseness dc_Formula_looseness pm_Formula_looseness an_Formula_looseness cd_Formula_looseness ct_Formula_looseness), sl_Formula_looseness⟩)
    (c_Formula_looseness : PySem.W.codeIn K cd_Formula_looseness "Formula.looseness" = true)
    (k_Formula_looseness : PySem.W.keepIn K (.ref f_Formula_looseness) = true)
    (i_Formula_looseness : PySem.W.isFn K (.ref f_Formula_looseness) = true)
    (l_Lamp_init : K.lookup f_Lamp_init = some ⟨oc_Lamp_init, od_Lamp_init, .func (PySem.W.fnOf "__init__" "Lamp.__init__" (defArgs s_Lamp_init) (defBody s_Lamp_init) (defScope s_Lamp_init) .none kV_Lamp_init dc_Lamp_init pm_Lamp_init an_Lamp_init cd_Lamp_init ct_Lamp_init), sl_Lamp_init⟩)
    (c_Lamp_init : PySem.W.codeIn K cd_Lamp_init "Lamp.__init__" = true)
    (k_Lamp_init : PySem.W.keepIn K (.ref f_Lamp_init) = true)
    (i_Lamp_init : PySem.W.isFn K (.ref f_Lamp_init) = true)
    (l_Lamp_lamps : K.lookup f_Lamp_lamps = some ⟨oc_Lamp_lamps, od_Lamp_lamps, .func (PySem.W.fnOf "lamps" "Lamp.lamps" (defArgs s_Lamp_lamps) (defBody s_Lamp_lamps) (defScope s_Lamp_lamps) .none kV_Lamp_lamps dc_Lamp_lamps pm_Lamp_lamps an_Lamp_lamps cd_Lamp_lamps ct_Lamp_lamps), sl_Lamp_lamps⟩)
    (c_Lamp_lamps : PySem.W.codeIn K cd_Lamp_lamps "Lamp.lamps" = true)
    (k_Lamp_lamps : PySem.W.keepIn K (.ref f_Lamp_lamps) = true)
    (i_Lamp_lamps : PySem.W.isFn K (.ref f_Lamp_lamps) = true)
    (l_Lamp_shown : K.lookup f_Lamp_shown = some ⟨oc_Lamp_shown, od_Lamp_shown, .func (PySem.W.fnOf "shown" "Lamp.shown" (defArgs s_Lamp_shown) (defBody s_Lamp_shown) (defScope s_Lamp_shown) .none kV_Lamp_shown dc_Lamp_shown pm_Lamp_shown an_Lamp_shown cd_Lamp_shown ct_Lamp_shown), sl_Lamp_shown⟩)
    (c_Lamp_shown : PySem.W.codeIn K cd_Lamp_shown "Lamp.shown" = true)
    (k_Lamp_shown : PySem.W.keepIn K (.ref f_Lamp_shown) = true)
    (i_Lamp_shown : PySem.W.isFn K (.ref f_Lamp_shown) = true)
    (l_Sure_init : K.lookup f_Sure_init = some ⟨oc_Sure_init, od_Sure_init, .func (PySem.W.fnOf "__init__" "Sure.__init__" (defArgs s_Sure_init) (defBody s_Sure_init) (defScope s_Sure_init) .none kV_Sure_init dc_Sure_init pm_Sure_init an_Sure_init cd_Sure_init ct_Sure_init), sl_Sure_init⟩)
    (c_Sure_init : PySem.W.codeIn K cd_Sure_init "Sure.__init__" = true)
    (k_Sure_init : PySem.W.keepIn K (.ref f_Sure_init) = true)
    (i_Sure_init : PySem.W.isFn K (.ref f_Sure_init) = true)
    (l_Sure_lamps : K.lookup f_Sure_lamps = some ⟨oc_Sure_lamps, od_Sure_lamps, .func (PySem.W.fnOf "lamps" "Sure.lamps" (defArgs s_Sure_lamps) (defBody s_Sure_lamps) (defScope s_Sure_lamps) .none kV_Sure_lamps dc_Sure_lamps pm_Sure_lamps an_Sure_lamps cd_Sure_lamps ct_Sure_lamps), sl_Sure_lamps⟩)
    (c_Sure_lamps : PySem.W.codeIn K cd_Sure_lamps "Sure.lamps" = true)
    (k_Sure_lamps : PySem.W.keepIn K (.ref f_Sure_lamps) = true)
    (i_Sure_lamps : PySem.W.isFn K (.ref f_Sure_lamps) = true)
    (l_Sure_shown : K.lookup f_Sure_shown = some ⟨oc_Sure_shown, od_Sure_shown, .func (PySem.W.fnOf "shown" "Sure.shown" (defArgs s_Sure_shown) (defBody s_Sure_shown) (defScope s_Sure_shown) .none kV_Sure_shown dc_Sure_shown pm_Sure_shown an_Sure_shown cd_Sure_shown ct_Sure_shown), sl_Sure_shown⟩)
    (c_Sure_shown : PySem.W.codeIn K cd_Sure_shown "Sure.shown" = true)
    (k_Sure_shown : PySem.W.keepIn K (.ref f_Sure_shown) = true)
    (i_Sure_shown : PySem.W.isFn K (.ref f_Sure_shown) = true)
    (l_Not_init : K.lookup f_Not_init = some ⟨oc_Not_init, od_Not_init, .func (PySem.W.fnOf "__init__" "Not.__init__" (defArgs s_Not_init) (defBody s_Not_init) (defScope s_Not_init) .none kV_Not_init dc_Not_init pm_Not_init an_Not_init cd_Not_init ct_Not_init), sl_Not_init⟩)
    (c_Not_init : PySem.W.codeIn K cd_Not_init "Not.__init__" = true)
    (k_Not_init : PySem.W.keepIn K (.ref f_Not_init) = true)
    (i_Not_init : PySem.W.isFn K (.ref f_Not_init) = true)
    (l_Not_lamps : K.lookup f_Not_lamps = some ⟨oc_Not_lamps, od_Not_lamps, .func (PySem.W.fnOf "lamps" "Not.lamps" (defArgs s_Not_lamps) (defBody s_Not_lamps) (defScope s_Not_lamps) .none kV_Not_lamps dc_Not_lamps pm_Not_lamps an_Not_lamps cd_Not_lamps ct_Not_lamps), sl_Not_lamps⟩)
    (c_Not_lamps : PySem.W.codeIn K cd_Not_lamps "Not.lamps" = true)
    (k_Not_lamps : PySem.W.keepIn K (.ref f_Not_lamps) = true)
    (i_Not_lamps : PySem.W.isFn K (.ref f_Not_lamps) = true)
    (l_Not_shown : K.lookup f_Not_shown = some ⟨oc_Not_shown, od_Not_shown, .func (PySem.W.fnOf "shown" "Not.shown" (defArgs s_Not_shown) (defBody s_Not_shown) (defScope s_Not_shown) .none kV_Not_shown dc_Not_shown pm_Not_shown an_Not_shown cd_Not_shown ct_Not_shown), sl_Not_shown⟩)
    (c_Not_shown : PySem.W.codeIn K cd_Not_shown "Not.shown" = true)
    (k_Not_shown : PySem.W.keepIn K (.ref f_Not_shown) = true)
    (i_Not_shown : PySem.W.isFn K (.ref f_Not_shown) = true)
    (l_Joined_init : K.lookup f_Joined_init = some ⟨oc_Joined_init, od_Joined_init, .func (PySem.W.fnOf "__init__" "Joined.__init__" (defArgs s_Joined_init) (defBody s_Joined_init) (defScope s_Joined_init) .none kV_Joined_init dc_Joined_init pm_Joined_init an_Joined_init cd_Joined_init ct_Joined_init), sl_Joined_init⟩)
    (c_Joined_init : PySem.W.codeIn K cd_Joined_init "Joined.__init__" = true)
    (k_Joined_init : PySem.W.keepIn K (.ref f_Joined_init) = true)
    (i_Joined_init : PySem.W.isFn K (.ref f_Joined_init) = true)
    (l_Joined_lamps : K.lookup f_Joined_lamps = some ⟨oc_Joined_lamps, od_Joined_lamps, .func (PySem.W.fnOf "lamps" "Joined.lamps" (defArgs s_Joined_lamps) (defBody s_Joined_lamps) (defScope s_Joined_lamps) .none kV_Joined_lamps dc_Joined_lamps pm_Joined_lamps an_Joined_lamps cd_Joined_lamps ct_Joined_lamps), sl_Joined_lamps⟩)
    (c_Joined_lamps : PySem.W.codeIn K cd_Joined_lamps "Joined.lamps" = true)
    (k_Joined_lamps : PySem.W.keepIn K (.ref f_Joined_lamps) = true)
    (i_Joined_lamps : PySem.W.isFn K (.ref f_Joined_lamps) = true)
    (l_Joined_shown : K.lookup f_Joined_shown = some ⟨oc_Joined_shown, od_Joined_shown, .func (PySem.W.fnOf "shown" "Joined.shown" (defArgs s_Joined_shown) (defBody s_Joined_shown) (defScope s_Joined_shown) .none kV_Joined_shown dc_Joined_shown pm_Joined_shown an_Joined_shown cd_Joined_shown ct_Joined_shown), sl_Joined_shown⟩)
    (c_Joined_shown : PySem.W.codeIn K cd_Joined_shown "Joined.shown" = true)
    (k_Joined_shown : PySem.W.keepIn K (.ref f_Joined_shown) = true)
    (i_Joined_shown : PySem.W.isFn K (.ref f_Joined_shown) = true)
    (l_And_looseness : K.lookup f_And_looseness = some ⟨oc_And_looseness, od_And_looseness, .func (PySem.W.fnOf "looseness" "And.looseness" (defArgs s_And_looseness) (defBody s_And_looseness) (defScope s_And_looseness) .none kV_And_looseness dc_And_looseness pm_And_looseness an_And_looseness cd_And_looseness ct_And_looseness), sl_And_looseness⟩)
    (c_And_looseness : PySem.W.codeIn K cd_And_looseness "And.looseness" = true)
    (k_And_looseness : PySem.W.keepIn K (.ref f_And_looseness) = true)
    (i_And_looseness : PySem.W.isFn K (.ref f_And_looseness) = true)
    (l_And_between : K.lookup f_And_between = some ⟨oc_And_between, od_And_between, .func (PySem.W.fnOf "between" "And.between" (defArgs s_And_between) (defBody s_And_between) (defScope s_And_between) .none kV_And_between dc_And_between pm_And_between an_And_between cd_And_between ct_And_between), sl_And_between⟩)
    (c_And_between : PySem.W.codeIn K cd_And_between "And.between" = true)
    (k_And_between : PySem.W.keepIn K (.ref f_And_between) = true)
    (i_And_between : PySem.W.isFn K (.ref f_And_between) = true)
    (l_Either_looseness : K.lookup f_Either_looseness = some ⟨oc_Either_looseness, od_Either_looseness, .func (PySem.W.fnOf "looseness" "Either.looseness" (defArgs s_Either_looseness) (defBody s_Either_looseness) (defScope s_Either_looseness) .none kV_Either_looseness dc_Either_looseness pm_Either_looseness an_Either_looseness cd_Either_looseness ct_Either_looseness), sl_Either_looseness⟩)
    (c_Either_looseness : PySem.W.codeIn K cd_Either_looseness "Either.looseness" = true)
    (k_Either_looseness : PySem.W.keepIn K (.ref f_Either_looseness) = true)
    (i_Either_looseness : PySem.W.isFn K (.ref f_Either_looseness) = true)
    (l_Either_between : K.lookup f_Either_between = some ⟨oc_Either_between, od_Either_between, .func (PySem.W.fnOf "between" "Either.between" (defArgs s_Either_between) (defBody s_Either_between) (defScope s_Either_between) .none kV_Either_between dc_Either_between pm_Either_between an_Either_between cd_Either_between ct_Either_between), sl_Either_between⟩)
    (c_Either_between : PySem.W.codeIn K cd_Either_between "Either.between" = true)
    (k_Either_between : PySem.W.keepIn K (.ref f_Either_between) = true)
    (i_Either_between : PySem.W.isFn K (.ref f_Either_between) = true)
    (l_Or_looseness : K.lookup f_Or_looseness = some ⟨oc_Or_looseness, od_Or_looseness, .func (PySem.W.fnOf "looseness" "Or.looseness" (defArgs s_Or_looseness) (defBody s_Or_looseness) (defScope s_Or_looseness) .none kV_Or_looseness dc_Or_looseness pm_Or_looseness an_Or_looseness cd_Or_looseness ct_Or_looseness), sl_Or_looseness⟩)
    (c_Or_looseness : PySem.W.codeIn K cd_Or_looseness "Or.looseness" = true)
    (k_Or_looseness : PySem.W.keepIn K (.ref f_Or_looseness) = true)
    (i_Or_looseness : PySem.W.isFn K (.ref f_Or_looseness) = true)
    (l_Or_between : K.lookup f_Or_between = some ⟨oc_Or_between, od_Or_between, .func (PySem.W.fnOf "between" "Or.between" (defArgs s_Or_between) (defBody s_Or_between) (defScope s_Or_between) .none kV_Or_between dc_Or_between pm_Or_between an_Or_between cd_Or_between ct_Or_between), sl_Or_between⟩)
    (c_Or_between : PySem.W.codeIn K cd_Or_between "Or.between" = true)
    (k_Or_between : PySem.W.keepIn K (.ref f_Or_between) = true)
    (i_Or_between : PySem.W.isFn K (.ref f_Or_between) = true)
    (pg_Formula : PySem.W.plainGet K C_Formula Str.empty = true)
    (hd_Formula : PySem.W.hasDictIn K C_Formula = true)
    (po_Formula : PySem.W.plainOver K C_Formula = true)
    (sa_Formula : PySem.W.findIn K (.ref C_Formula) "__setattr__" = some (some (.builtin "object.__setattr__")))
    (kc_Formula : PySem.W.keepIn K (.ref C_Formula) = true)
    (ha_Formula : PySem.W.findIn K (.ref C_Formula) "__class__" = some (some (.builtin "object.__class__")))
    (hm_Formula : PySem.W.mroIn K C_Formula (.type "object") = some true)
    (n_Formula_at : PySem.W.findIn K (.ref C_Formula) "at" = some none)
    (n_Formula_truth : PySem.W.findIn K (.ref C_Formula) "truth" = some none)
    (n_Formula_part : PySem.W.findIn K (.ref C_Formula) "part" = some none)
    (n_Formula_parts : PySem.W.findIn K (.ref C_Formula) "parts" = some none)
    (pg_Lamp : PySem.W.plainGet K C_Lamp Str.empty = true)
    (hd_Lamp : PySem.W.hasDictIn K C_Lamp = true)
    (po_Lamp : PySem.W.plainOver K C_Lamp = true)
    (sa_Lamp : PySem.W.findIn K (.ref C_Lamp) "__setattr__" = some (some (.builtin "object.__setattr__")))
    (kc_Lamp : PySem.W.keepIn K (.ref C_Lamp) = true)
    (ha_Lamp : PySem.W.findIn K (.ref C_Lamp) "__class__" = some (some (.builtin "object.__class__")))
    (hm_Lamp : PySem.W.mroIn K C_Lamp (.type "object") = some true)
    (mk_Lamp : PySem.W.makesIn K C_Lamp = true)
    (n_Lamp_at : PySem.W.findIn K (.ref C_Lamp) "at" = some none)
    (n_Lamp_truth : PySem.W.findIn K (.ref C_Lamp) "truth" = some none)
    (n_Lamp_part : PySem.W.findIn K (.ref C_Lamp) "part" = some none)
    (n_Lamp_parts : PySem.W.findIn K (.ref C_Lamp) "parts" = some none)
    (pg_Sure : PySem.W.plainGet K C_Sure Str.empty = true)
    (hd_Sure : PySem.W.hasDictIn K C_Sure = true)
    (po_Sure : PySem.W.plainOver K C_Sure = true)
    (sa_Sure : PySem.W.findIn K (.ref C_Sure) "__setattr__" = some (some (.builtin "object.__setattr__")))
    (kc_Sure : PySem.W.keepIn K (.ref C_Sure) = true)
    (ha_Sure : PySem.W.findIn K (.ref C_Sure) "__class__" = some (some (.builtin "object.__class__")))
    (hm_Sure : PySem.W.mroIn K C_Sure (.type "object") = some true)
    (mk_Sure : PySem.W.makesIn K C_Sure = true)
    (n_Sure_at : PySem.W.findIn K (.ref C_Sure) "at" = some none)
    (n_Sure_truth : PySem.W.findIn K (.ref C_Sure) "truth" = some none)
    (n_Sure_part : PySem.W.findIn K (.ref C_Sure) "part" = some none)
    (n_Sure_parts : PySem.W.findIn K (.ref C_Sure) "parts" = some none)
    (pg_Not : PySem.W.plainGet K C_Not Str.empty = true)
    (hd_Not : PySem.W.hasDictIn K C_Not = true)
    (po_Not : PySem.W.plainOver K C_Not = true)
    (sa_Not : PySem.W.findIn K (.ref C_Not) "__setattr__" = some (some (.builtin "object.__setattr__")))
    (kc_Not : PySem.W.keepIn K (.ref C_Not) = true)
    (ha_Not : PySem.W.findIn K (.ref C_Not) "__class__" = some (some (.builtin "object.__class__")))
    (hm_Not : PySem.W.mroIn K C_Not (.type "object") = some true)
    (mk_Not : PySem.W.makesIn K C_Not = true)
    (n_Not_at : PySem.W.findIn K (.ref C_Not) "at" = some none)
    (n_Not_truth : PySem.W.findIn K (.ref C_Not) "truth" = some none)
    (n_Not_part : PySem.W.findIn K (.ref C_Not) "part" = some none)
    (n_Not_parts : PySem.W.findIn K (.ref C_Not) "parts" = some none)
    (pg_Joined : PySem.W.plainGet K C_Joined Str.empty = true)
    (hd_Joined : PySem.W.hasDictIn K C_Joined = true)
    (po_Joined : PySem.W.plainOver K C_Joined = true)
    (sa_Joined : PySem.W.findIn K (.ref C_Joined) "__setattr__" = some (some (.builtin "object.__setattr__")))
    (kc_Joined : PySem.W.keepIn K (.ref C_Joined) = true)
    (ha_Joined : PySem.W.findIn K (.ref C_Joined) "__class__" = some (some (.builtin "object.__class__")))
    (hm_Joined : PySem.W.mroIn K C_Joined (.type "object") = some true)
    (mk_Joined : PySem.W.makesIn K C_Joined = true)
    (n_Joined_at : PySem.W.findIn K (.ref C_Joined) "at" = some none)
    (n_Joined_truth : PySem.W.findIn K (.ref C_Joined) "truth" = some none)
    (n_Joined_part : PySem.W.findIn K (.ref C_Joined) "part" = some none)
    (n_Joined_parts : PySem.W.findIn K (.ref C_Joined) "parts" = some none)
    (pg_And : PySem.W.plainGet K C_And Str.empty = true)
    (hd_And : PySem.W.hasDictIn K C_And = true)
    (po_And : PySem.W.plainOver K C_And = true)
    (sa_And : PySem.W.findIn K (.ref C_And) "__setattr__" = some (some (.builtin "object.__setattr__")))
    (kc_And : PySem.W.keepIn K (.ref C_And) = true)
    (ha_And : PySem.W.findIn K (.ref C_And) "__class__" = some (some (.builtin "object.__class__")))
    (hm_And : PySem.W.mroIn K C_And (.type "object") = some true)
    (mk_And : PySem.W.makesIn K C_And = true)
    (n_And_at : PySem.W.findIn K (.ref C_And) "at" = some none)
    (n_And_truth : PySem.W.findIn K (.ref C_And) "truth" = some none)
    (n_And_part : PySem.W.findIn K (.ref C_And) "part" = some none)
    (n_And_parts : PySem.W.findIn K (.ref C_And) "parts" = some none)
    (pg_Either : PySem.W.plainGet K C_Either Str.empty = true)
    (hd_Either : PySem.W.hasDictIn K C_Either = true)
    (po_Either : PySem.W.plainOver K C_Either = true)
    (sa_Either : PySem.W.findIn K (.ref C_Either) "__setattr__" = some (some (.builtin "object.__setattr__")))
    (kc_Either : PySem.W.keepIn K (.ref C_Either) = true)
    (ha_Either : PySem.W.findIn K (.ref C_Either) "__class__" = some (some (.builtin "object.__class__")))
    (hm_Either : PySem.W.mroIn K C_Either (.type "object") = some true)
    (mk_Either : PySem.W.makesIn K C_Either = true)
    (n_Either_at : PySem.W.findIn K (.ref C_Either) "at" = some none)
    (n_Either_truth : PySem.W.findIn K (.ref C_Either) "truth" = some none)
    (n_Either_part : PySem.W.findIn K (.ref C_Either) "part" = some none)
    (n_Either_parts : PySem.W.findIn K (.ref C_Either) "parts" = some none)
    (pg_Or : PySem.W.plainGet K C_Or Str.empty = true)
    (hd_Or : PySem.W.hasDictIn K C_Or = true)
    (po_Or : PySem.W.plainOver K C_Or = true)
    (sa_Or : PySem.W.findIn K (.ref C_Or) "__setattr__" = some (some (.builtin "object.__setattr__")))
    (kc_Or : PySem.W.keepIn K (.ref C_Or) = true)
    (ha_Or : PySem.W.findIn K (.ref C_Or) "__class__" = some (some (.builtin "object.__class__")))
    (hm_Or : PySem.W.mroIn K C_Or (.type "object") = some true)
    (mk_Or : PySem.W.makesIn K C_Or = true)
    (n_Or_at : PySem.W.findIn K (.ref C_Or) "at" = some none)
    (n_Or_truth : PySem.W.findIn K (.ref C_Or) "truth" = some none)
    (n_Or_part : PySem.W.findIn K (.ref C_Or) "part" = some none)
    (n_Or_parts : PySem.W.findIn K (.ref C_Or) "parts" = some none)
    (nd_ : [C_Formula, C_Lamp, C_Sure, C_Not, C_Joined, C_And, C_Either, C_Or].Nodup)
    (hn_ : PySem.W.specialIn K (.builtin "object.__class__") "__get__" = some (some (.builtin "getset_descriptor.__get__")))
    (htk_ : PySem.W.takesIn K (.builtin "object.__class__") = some true)
    (b_len : PySem.W.nsIn K mainGlobals "len" = some none)
    (b_range : PySem.W.nsIn K mainGlobals "range" = some none)
    (b_isinstance : PySem.W.nsIn K mainGlobals "isinstance" = some none)
    (b_int : PySem.W.nsIn K mainGlobals "int" = some none)
    (b_bool : PySem.W.nsIn K mainGlobals "bool" = some none)
    (b_str : PySem.W.nsIn K mainGlobals "str" = some none)
    (b_list : PySem.W.nsIn K mainGlobals "list" = some none)
    (b_tuple : PySem.W.nsIn K mainGlobals "tuple" = some none)
    (b_dict : PySem.W.nsIn K mainGlobals "dict" = some none)
    (b_set : PySem.W.nsIn K mainGlobals "set" = some none)
    (b_sorted : PySem.W.nsIn K mainGlobals "sorted" = some none)
    (b_max : PySem.W.nsIn K mainGlobals "max" = some none)
    (b_min : PySem.W.nsIn K mainGlobals "min" = some none)
    (b_sum : PySem.W.nsIn K mainGlobals "sum" = some none)
    (b_any : PySem.W.nsIn K mainGlobals "any" = some none)
    (b_all : PySem.W.nsIn K mainGlobals "all" = some none)
    (b_abs : PySem.W.nsIn K mainGlobals "abs" = some none)
    (b_reversed : PySem.W.nsIn K mainGlobals "reversed" = some none)
    (b_enumerate : PySem.W.nsIn K mainGlobals "enumerate" = some none)
    (b_zip : PySem.W.nsIn K mainGlobals "zip" = some none)
    : ∃ t : Ad, Txt K mg t := by
  refine ⟨⟨f_bracketed, PySem.W.fnOf "bracketed" "bracketed" (defArgs s_bracketed) (defBody s_bracketed) (defScope s_bracketed) .none kV_bracketed dc_bracketed pm_bracketed an_bracketed cd_bracketed ct_bracketed, f__law_cell_at, PySem.W.fnOf "_law_cell_at" "_law_cell_at" (defArgs s__law_cell_at) (defBody s__law_cell_at) (defScope s__law_cell_at) .none kV__law_cell_at dc__law_cell_at pm__law_cell_at an__law_cell_at cd__law_cell_at ct__law_cell_at, f__law_fresh, PySem.W.fnOf "_law_fresh" "_law_fresh" (defArgs s__law_fresh) (defBody s__law_fresh) (defScope s__law_fresh) .none kV__law_fresh dc__law_fresh pm__law_fresh an__law_fresh cd__law_fresh ct__law_fresh, f__law_letters, PySem.W.fnOf "_law_letters" "_law_letters" (defArgs s__law_letters) (defBody s__law_letters) (defScope s__law_letters) .none kV__law_letters dc__law_letters pm__law_letters an__law_letters cd__law_letters ct__law_letters, f__law_name, PySem.W.fnOf "_law_name" "_law_name" (defArgs s__law_name) (defBody s__law_name) (defScope s__law_name) .none kV__law_name dc__law_name pm__law_name an__law_name cd__law_name ct__law_name, f__law_names, PySem.W.fnOf "_law_names" "_law_names" (defArgs s__law_names) (defBody s__law_names) (defScope s__law_names) .none kV__law_names dc__law_names pm__law_names an__law_names cd__law_names ct__law_names, f__law_tree, PySem.W.fnOf "_law_tree" "_law_tree" (defArgs s__law_tree) (defBody s__law_tree) (defScope s__law_tree) .none kV__law_tree dc__law_tree pm__law_tree an__law_tree cd__law_tree ct__law_tree, f__law_made, PySem.W.fnOf "_law_made" "_law_made" (defArgs s__law_made) (defBody s__law_made) (defScope s__law_made) .none kV__law_made dc__law_made pm__law_made an__law_made cd__law_made ct__law_made, f__law_rank, PySem.W.fnOf "_law_rank" "_law_rank" (defArgs s__law_rank) (defBody s__law_rank) (defScope s__law_rank) .none kV__law_rank dc__law_rank pm__law_rank an__law_rank cd__law_rank ct__law_rank, f__law_line, PySem.W.fnOf "_law_line" "_law_line" (defArgs s__law_line) (defBody s__law_line) (defScope s__law_line) .none kV__law_line dc__law_line pm__law_line an__law_line cd__law_line ct__law_line, f_law, PySem.W.fnOf "law" "law" (defArgs s_law) (defBody s_law) (defScope s_law) .none kV_law dc_law pm_law an_law cd_law ct_law, f_Formula_looseness, PySem.W.fnOf "looseness" "Formula.looseness" (defArgs s_Formula_looseness) (defBody s_Formula_looseness) (defScope s_Formula_looseness) .none kV_Formula_looseness dc_Formula_looseness pm_Formula_looseness an_Formula_looseness cd_Formula_looseness ct_Formula_looseness, f_Lamp_init, PySem.W.fnOf "__init__" "Lamp.__init__" (defArgs s_Lamp_init) (defBody s_Lamp_init) (defScope s_Lamp_init) .none kV_Lamp_init dc_Lamp_init pm_Lamp_init an_Lamp_init cd_Lamp_init ct_Lamp_init, f_Lamp_lamps, PySem.W.fnOf "lamps" "Lamp.lamps" (defArgs s_Lamp_lamps) (defBody s_Lamp_lamps) (defScope s_Lamp_lamps) .none kV_Lamp_lamps dc_Lamp_lamps pm_Lamp_lamps an_Lamp_lamps cd_Lamp_lamps ct_Lamp_lamps, f_Lamp_shown, PySem.W.fnOf "shown" "Lamp.shown" (defArgs s_Lamp_shown) (defBody s_Lamp_shown) (defScope s_Lamp_shown) .none kV_Lamp_shown dc_Lamp_shown pm_Lamp_shown an_Lamp_shown cd_Lamp_shown ct_Lamp_shown, f_Sure_init, PySem.W.fnOf "__init__" "Sure.__init__" (defArgs s_Sure_init) (defBody s_Sure_init) (defScope s_Sure_init) .none kV_Sure_init dc_Sure_init pm_Sure_init an_Sure_init cd_Sure_init ct_Sure_init, f_Sure_lamps, PySem.W.fnOf "lamps" "Sure.lamps" (defArgs s_Sure_lamps) (defBody s_Sure_lamps) (defScope s_Sure_lamps) .none kV_Sure_lamps dc_Sure_lamps pm_Sure_lamps an_Sure_lamps cd_Sure_lamps ct_Sure_lamps, f_Sure_shown, PySem.W.fnOf "shown" "Sure.shown" (defArgs s_Sure_shown) (defBody s_Sure_shown) (defScope s_Sure_shown) .none kV_Sure_shown dc_Sure_shown pm_Sure_shown an_Sure_shown cd_Sure_shown ct_Sure_shown, f_Not_init, PySem.W.fnOf "__init__" "Not.__init__" (defArgs s_Not_init) (defBody s_Not_init) (defScope s_Not_init) .none kV_Not_init dc_Not_init pm_Not_init an_Not_init cd_Not_init ct_Not_init, f_Not_lamps, PySem.W.fnOf "lamps" "Not.lamps" (defArgs s_Not_lamps) (defBody s_Not_lamps) (defScope s_Not_lamps) .none kV_Not_lamps dc_Not_lamps pm_Not_lamps an_Not_lamps cd_Not_lamps ct_Not_lamps, f_Not_shown, PySem.W.fnOf "shown" "Not.shown" (defArgs s_Not_shown) (defBody s_Not_shown) (defScope s_Not_shown) .none kV_Not_shown dc_Not_shown pm_Not_shown an_Not_shown cd_Not_shown ct_Not_shown, f_Joined_init, PySem.W.fnOf "__init__" "Joined.__init__" (defArgs s_Joined_init) (defBody s_Joined_init) (defScope s_Joined_init) .none kV_Joined_init dc_Joined_init pm_Joined_init an_Joined_init cd_Joined_init ct_Joined_init, f_Joined_lamps, PySem.W.fnOf "lamps" "Joined.lamps" (defArgs s_Joined_lamps) (defBody s_Joined_lamps) (defScope s_Joined_lamps) .none kV_Joined_lamps dc_Joined_lamps pm_Joined_lamps an_Joined_lamps cd_Joined_lamps ct_Joined_lamps, f_Joined_shown, PySem.W.fnOf "shown" "Joined.shown" (defArgs s_Joined_shown) (defBody s_Joined_shown) (defScope s_Joined_shown) .none kV_Joined_shown dc_Joined_shown pm_Joined_shown an_Joined_shown cd_Joined_shown ct_Joined_shown, f_And_looseness, PySem.W.fnOf "looseness" "And.looseness" (defArgs s_And_looseness) (defBody s_And_looseness) (defScope s_And_looseness) .none kV_And_looseness dc_And_looseness pm_And_looseness an_And_looseness cd_And_looseness ct_And_looseness, f_And_between, PySem.W.fnOf "between" "And.between" (defArgs s_And_between) (defBody s_And_between) (defScope s_And_between) .none kV_And_between dc_And_between pm_And_between an_And_between cd_And_between ct_And_between, f_Either_looseness, PySem.W.fnOf "looseness" "Either.looseness" (defArgs s_Either_looseness) (defBody s_Either_looseness) (defScope s_Either_looseness) .none kV_Either_looseness dc_Either_looseness pm_Either_looseness an_Either_looseness cd_Either_looseness ct_Either_looseness, f_Either_between, PySem.W.fnOf "between" "Either.between" (defArgs s_Either_between) (defBody s_Either_between) (defScope s_Either_between) .none kV_Either_between dc_Either_between pm_Either_between an_Either_between cd_Either_between ct_Either_between, f_Or_looseness, PySem.W.fnOf "looseness" "Or.looseness" (defArgs s_Or_looseness) (defBody s_Or_looseness) (defScope s_Or_looseness) .none kV_Or_looseness dc_Or_looseness pm_Or_looseness an_Or_looseness cd_Or_looseness ct_Or_looseness, f_Or_between, PySem.W.fnOf "between" "Or.between" (defArgs s_Or_between) (defBody s_Or_between) (defScope s_Or_between) .none kV_Or_between dc_Or_between pm_Or_between an_Or_between cd_Or_between ct_Or_between, C_Formula, C_Lamp, C_Sure, C_Not, C_Joined, C_And, C_Either, C_Or⟩, ?_⟩
  exact {
    F_bracketed := fun_mk (st := s_bracketed) l_bracketed c_bracketed k_bracketed,
    b_bracketed := (fun_mk (st := s_bracketed) l_bracketed c_bracketed k_bracketed).binds (ps := ["part", "text", "bound"]) fun _ _ _ _ _ _ us hl => match us, hl with | [_, _, _], _ => rfl,
    m_bracketed := PySem.W.mg_of X G a_bracketed,
    F__law_cell_at := fun_mk (st := s__law_cell_at) l__law_cell_at c__law_cell_at k__law_cell_at,
    b__law_cell_at := (fun_mk (st := s__law_cell_at) l__law_cell_at c__law_cell_at k__law_cell_at).binds (ps := ["_law_script", "_law_k"]) fun _ _ _ _ _ _ us hl => match us, hl with | [_, _], _ => rfl,
    m__law_cell_at := PySem.W.mg_of X G a__law_cell_at,
    F__law_fresh := fun_mk (st := s__law_fresh) l__law_fresh c__law_fresh k__law_fresh,
    b__law_fresh := (fun_mk (st := s__law_fresh) l__law_fresh c__law_fresh k__law_fresh).binds (ps := ["_law_name_here", "_law_names_here"]) fun _ _ _ _ _ _ us hl => match us, hl with | [_, _], _ => rfl,
    m__law_fresh := PySem.W.mg_of X G a__law_fresh,
    F__law_letters := fun_mk (st := s__law_letters) l__law_letters c__law_letters k__law_letters,
    b__law_letters := (fun_mk (st := s__law_letters) l__law_letters c__law_letters k__law_letters).binds (ps := ["_law_seed", "_law_size"]) fun _ _ _ _ _ _ us hl => match us, hl with | [_, _], _ => rfl,
    m__law_letters := PySem.W.mg_of X G a__law_letters,
    F__law_name := fun_mk (st := s__law_name) l__law_name c__law_name k__law_name,
    b__law_name := (fun_mk (st := s__law_name) l__law_name c__law_name k__law_name).binds (ps := ["_law_k", "_law_cell"]) fun _ _ _ _ _ _ us hl => match us, hl with | [_, _], _ => rfl,
    m__law_name := PySem.W.mg_of X G a__law_name,
    F__law_names := fun_mk (st := s__law_names) l__law_names c__law_names k__law_names,
    b__law_names := (fun_mk (st := s__law_names) l__law_names c__law_names k__law_names).binds (ps := ["_law_many", "_law_cell"]) fun _ _ _ _ _ _ us hl => match us, hl with | [_, _], _ => rfl,
    m__law_names := PySem.W.mg_of X G a__law_names,
    F__law_tree := fun_mk (st := s__law_tree) l__law_tree c__law_tree k__law_tree,
    b__law_tree := (fun_mk (st := s__law_tree) l__law_tree c__law_tree k__law_tree).binds (ps := ["_law_cells", "_law_many", "_law_last"]) fun _ _ _ _ _ _ us hl => match us, hl with | [_, _, _], _ => rfl,
    m__law_tree := PySem.W.mg_of X G a__law_tree,
    F__law_made := fun_mk (st := s__law_made) l__law_made c__law_made k__law_made,
    b__law_made := (fun_mk (st := s__law_made) l__law_made c__law_made k__law_made).binds (ps := ["_law_tree_here", "_law_held"]) fun _ _ _ _ _ _ us hl => match us, hl with | [_, _], _ => rfl,
    m__law_made := PySem.W.mg_of X G a__law_made,
    F__law_rank := fun_mk (st := s__law_rank) l__law_rank c__law_rank k__law_rank,
    b__law_rank := (fun_mk (st := s__law_rank) l__law_rank c__law_rank k__law_rank).binds (ps := ["_law_kind"]) fun _ _ _ _ _ _ us hl => match us, hl with | [_], _ => rfl,
    m__law_rank := PySem.W.mg_of X G a__law_rank,
    F__law_line := fun_mk (st := s__law_line) l__law_line c__law_line k__law_line,
    b__law_line := (fun_mk (st := s__law_line) l__law_line c__law_line k__law_line).binds (ps := ["_law_tree_here", "_law_names_here"]) fun _ _ _ _ _ _ us hl => match us, hl with | [_, _], _ => rfl,
    m__law_line := PySem.W.mg_of X G a__law_line,
    F_law := fun_mk (st := s_law) l_law c_law k_law,
    b_law := (fun_mk (st := s_law) l_law c_law k_law).binds (ps := ["_law_script"]) fun _ _ _ _ _ _ us hl => match us, hl with | [_], _ => rfl,
    m_law := PySem.W.mg_of X G a_law,
    F_Formula_looseness := fun_mk (st := s_Formula_looseness) l_Formula_looseness c_Formula_looseness k_Formula_looseness,
    b_Formula_looseness := (fun_mk (st := s_Formula_looseness) l_Formula_looseness c_Formula_looseness k_Formula_looseness).binds (ps := ["self"]) fun _ _ _ _ _ _ us hl => match us, hl with | [_], _ => rfl,
    F_Lamp_init := fun_mk (st := s_Lamp_init) l_Lamp_init c_Lamp_init k_Lamp_init,
    b_Lamp_init := (fun_mk (st := s_Lamp_init) l_Lamp_init c_Lamp_init k_Lamp_init).binds (ps := ["self", "at"]) fun _ _ _ _ _ _ us hl => match us, hl with | [_, _], _ => rfl,
    F_Lamp_lamps := fun_mk (st := s_Lamp_lamps) l_Lamp_lamps c_Lamp_lamps k_Lamp_lamps,
    b_Lamp_lamps := (fun_mk (st := s_Lamp_lamps) l_Lamp_lamps c_Lamp_lamps k_Lamp_lamps).binds (ps := ["self"]) fun _ _ _ _ _ _ us hl => match us, hl with | [_], _ => rfl,
    F_Lamp_shown := fun_mk (st := s_Lamp_shown) l_Lamp_shown c_Lamp_shown k_Lamp_shown,
    b_Lamp_shown := (fun_mk (st := s_Lamp_shown) l_Lamp_shown c_Lamp_shown k_Lamp_shown).binds (ps := ["self", "names"]) fun _ _ _ _ _ _ us hl => match us, hl with | [_, _], _ => rfl,
    F_Sure_init := fun_mk (st := s_Sure_init) l_Sure_init c_Sure_init k_Sure_init,
    b_Sure_init := (fun_mk (st := s_Sure_init) l_Sure_init c_Sure_init k_Sure_init).binds (ps := ["self", "truth"]) fun _ _ _ _ _ _ us hl => match us, hl with | [_, _], _ => rfl,
    F_Sure_lamps := fun_mk (st := s_Sure_lamps) l_Sure_lamps c_Sure_lamps k_Sure_lamps,
    b_Sure_lamps := (fun_mk (st := s_Sure_lamps) l_Sure_lamps c_Sure_lamps k_Sure_lamps).binds (ps := ["self"]) fun _ _ _ _ _ _ us hl => match us, hl with | [_], _ => rfl,
    F_Sure_shown := fun_mk (st := s_Sure_shown) l_Sure_shown c_Sure_shown k_Sure_shown,
    b_Sure_shown := (fun_mk (st := s_Sure_shown) l_Sure_shown c_Sure_shown k_Sure_shown).binds (ps := ["self", "names"]) fun _ _ _ _ _ _ us hl => match us, hl with | [_, _], _ => rfl,
    F_Not_init := fun_mk (st := s_Not_init) l_Not_init c_Not_init k_Not_init,
    b_Not_init := (fun_mk (st := s_Not_init) l_Not_init c_Not_init k_Not_init).binds (ps := ["self", "part"]) fun _ _ _ _ _ _ us hl => match us, hl with | [_, _], _ => rfl,
    F_Not_lamps := fun_mk (st := s_Not_lamps) l_Not_lamps c_Not_lamps k_Not_lamps,
    b_Not_lamps := (fun_mk (st := s_Not_lamps) l_Not_lamps c_Not_lamps k_Not_lamps).binds (ps := ["self"]) fun _ _ _ _ _ _ us hl => match us, hl with | [_], _ => rfl,
    F_Not_shown := fun_mk (st := s_Not_shown) l_Not_shown c_Not_shown k_Not_shown,
    b_Not_shown := (fun_mk (st := s_Not_shown) l_Not_shown c_Not_shown k_Not_shown).binds (ps := ["self", "names"]) fun _ _ _ _ _ _ us hl => match us, hl with | [_, _], _ => rfl,
    F_Joined_init := fun_mk (st := s_Joined_init) l_Joined_init c_Joined_init k_Joined_init,
    b_Joined_init := (fun_mk (st := s_Joined_init) l_Joined_init c_Joined_init k_Joined_init).binds (ps := ["self", "parts"]) fun _ _ _ _ _ _ us hl => match us, hl with | [_, _], _ => rfl,
    F_Joined_lamps := fun_mk (st := s_Joined_lamps) l_Joined_lamps c_Joined_lamps k_Joined_lamps,
    b_Joined_lamps := (fun_mk (st := s_Joined_lamps) l_Joined_lamps c_Joined_lamps k_Joined_lamps).binds (ps := ["self"]) fun _ _ _ _ _ _ us hl => match us, hl with | [_], _ => rfl,
    F_Joined_shown := fun_mk (st := s_Joined_shown) l_Joined_shown c_Joined_shown k_Joined_shown,
    b_Joined_shown := (fun_mk (st := s_Joined_shown) l_Joined_shown c_Joined_shown k_Joined_shown).binds (ps := ["self", "names"]) fun _ _ _ _ _ _ us hl => match us, hl with | [_, _], _ => rfl,
    F_And_looseness := fun_mk (st := s_And_looseness) l_And_looseness c_And_looseness k_And_looseness,
    b_And_looseness := (fun_mk (st := s_And_looseness) l_And_looseness c_And_looseness k_And_looseness).binds (ps := ["self"]) fun _ _ _ _ _ _ us hl => match us, hl with | [_], _ => rfl,
    F_And_between := fun_mk (st := s_And_between) l_And_between c_And_between k_And_between,
    b_And_between := (fun_mk (st := s_And_between) l_And_between c_And_between k_And_between).binds (ps := ["self"]) fun _ _ _ _ _ _ us hl => match us, hl with | [_], _ => rfl,
    F_Either_looseness := fun_mk (st := s_Either_looseness) l_Either_looseness c_Either_looseness k_Either_looseness,
    b_Either_looseness := (fun_mk (st := s_Either_looseness) l_Either_looseness c_Either_looseness k_Either_looseness).binds (ps := ["self"]) fun _ _ _ _ _ _ us hl => match us, hl with | [_], _ => rfl,
    F_Either_between := fun_mk (st := s_Either_between) l_Either_between c_Either_between k_Either_between,
    b_Either_between := (fun_mk (st := s_Either_between) l_Either_between c_Either_between k_Either_between).binds (ps := ["self"]) fun _ _ _ _ _ _ us hl => match us, hl with | [_], _ => rfl,
    F_Or_looseness := fun_mk (st := s_Or_looseness) l_Or_looseness c_Or_looseness k_Or_looseness,
    b_Or_looseness := (fun_mk (st := s_Or_looseness) l_Or_looseness c_Or_looseness k_Or_looseness).binds (ps := ["self"]) fun _ _ _ _ _ _ us hl => match us, hl with | [_], _ => rfl,
    F_Or_between := fun_mk (st := s_Or_between) l_Or_between c_Or_between k_Or_between,
    b_Or_between := (fun_mk (st := s_Or_between) l_Or_between c_Or_between k_Or_between).binds (ps := ["self"]) fun _ _ _ _ _ _ us hl => match us, hl with | [_], _ => rfl,
    m_Formula := PySem.W.mg_of X G a_Formula,
    c_Formula := ⟨pg_Formula, hd_Formula, po_Formula, sa_Formula⟩,
    y_Formula := fun H a dx fs e => TyOf.ins e ⟨pg_Formula, hd_Formula, po_Formula, sa_Formula⟩ ha_Formula hn_ htk_ hm_Formula,
    n_Formula_at := n_Formula_at,
    n_Formula_truth := n_Formula_truth,
    n_Formula_part := n_Formula_part,
    n_Formula_parts := n_Formula_parts,
    h_Formula_looseness := ⟨e_Formula_looseness, i_Formula_looseness, k_Formula_looseness⟩,
    m_Lamp := PySem.W.mg_of X G a_Lamp,
    c_Lamp := ⟨pg_Lamp, hd_Lamp, po_Lamp, sa_Lamp⟩,
    y_Lamp := fun H a dx fs e => TyOf.ins e ⟨pg_Lamp, hd_Lamp, po_Lamp, sa_Lamp⟩ ha_Lamp hn_ htk_ hm_Lamp,
    k_Lamp := ⟨mk_Lamp, e_Lamp_init, i_Lamp_init, kc_Lamp⟩,
    n_Lamp_at := n_Lamp_at,
    n_Lamp_truth := n_Lamp_truth,
    n_Lamp_part := n_Lamp_part,
    n_Lamp_parts := n_Lamp_parts,
    h_Lamp_lamps := ⟨e_Lamp_lamps, i_Lamp_lamps, k_Lamp_lamps⟩,
    h_Lamp_shown := ⟨e_Lamp_shown, i_Lamp_shown, k_Lamp_shown⟩,
    h_Lamp_looseness := ⟨e_Lamp_looseness, i_Formula_looseness, k_Formula_looseness⟩,
    m_Sure := PySem.W.mg_of X G a_Sure,
    c_Sure := ⟨pg_Sure, hd_Sure, po_Sure, sa_Sure⟩,
    y_Sure := fun H a dx fs e => TyOf.ins e ⟨pg_Sure, hd_Sure, po_Sure, sa_Sure⟩ ha_Sure hn_ htk_ hm_Sure,
    k_Sure := ⟨mk_Sure, e_Sure_init, i_Sure_init, kc_Sure⟩,
    n_Sure_at := n_Sure_at,
    n_Sure_truth := n_Sure_truth,
    n_Sure_part := n_Sure_part,
    n_Sure_parts := n_Sure_parts,
    h_Sure_lamps := ⟨e_Sure_lamps, i_Sure_lamps, k_Sure_lamps⟩,
    h_Sure_shown := ⟨e_Sure_shown, i_Sure_shown, k_Sure_shown⟩,
    h_Sure_looseness := ⟨e_Sure_looseness, i_Formula_looseness, k_Formula_looseness⟩,
    m_Not := PySem.W.mg_of X G a_Not,
    c_Not := ⟨pg_Not, hd_Not, po_Not, sa_Not⟩,
    y_Not := fun H a dx fs e => TyOf.ins e ⟨pg_Not, hd_Not, po_Not, sa_Not⟩ ha_Not hn_ htk_ hm_Not,
    k_Not := ⟨mk_Not, e_Not_init, i_Not_init, kc_Not⟩,
    n_Not_at := n_Not_at,
    n_Not_truth := n_Not_truth,
    n_Not_part := n_Not_part,
    n_Not_parts := n_Not_parts,
    h_Not_lamps := ⟨e_Not_lamps, i_Not_lamps, k_Not_lamps⟩,
    h_Not_shown := ⟨e_Not_shown, i_Not_shown, k_Not_shown⟩,
    h_Not_looseness := ⟨e_Not_looseness, i_Formula_looseness, k_Formula_looseness⟩,
    m_Joined := PySem.W.mg_of X G a_Joined,
    c_Joined := ⟨pg_Joined, hd_Joined, po_Joined, sa_Joined⟩,
    y_Joined := fun H a dx fs e => TyOf.ins e ⟨pg_Joined, hd_Joined, po_Joined, sa_Joined⟩ ha_Joined hn_ htk_ hm_Joined,
    k_Joined := ⟨mk_Joined, e_Joined_init, i_Joined_init, kc_Joined⟩,
    n_Joined_at := n_Joined_at,
    n_Joined_truth := n_Joined_truth,
    n_Joined_part := n_Joined_part,
    n_Joined_parts := n_Joined_parts,
    h_Joined_lamps := ⟨e_Joined_lamps, i_Joined_lamps, k_Joined_lamps⟩,
    h_Joined_shown := ⟨e_Joined_shown, i_Joined_shown, k_Joined_shown⟩,
    h_Joined_looseness := ⟨e_Joined_looseness, i_Formula_looseness, k_Formula_looseness⟩,
    m_And := PySem.W.mg_of X G a_And,
    c_And := ⟨pg_And, hd_And, po_And, sa_And⟩,
    y_And := fun H a dx fs e => TyOf.ins e ⟨pg_And, hd_And, po_And, sa_And⟩ ha_And hn_ htk_ hm_And,
    k_And := ⟨mk_And, e_And_init, i_Joined_init, kc_And⟩,
    n_And_at := n_And_at,
    n_And_truth := n_And_truth,
    n_And_part := n_And_part,
    n_And_parts := n_And_parts,
    h_And_looseness := ⟨e_And_looseness, i_And_looseness, k_And_looseness⟩,
    h_And_between := ⟨e_And_between, i_And_between, k_And_between⟩,
    h_And_lamps := ⟨e_And_lamps, i_Joined_lamps, k_Joined_lamps⟩,
    h_And_shown := ⟨e_And_shown, i_Joined_shown, k_Joined_shown⟩,
    m_Either := PySem.W.mg_of X G a_Either,
    c_Either := ⟨pg_Either, hd_Either, po_Either, sa_Either⟩,
    y_Either := fun H a dx fs e => TyOf.ins e ⟨pg_Either, hd_Either, po_Either, sa_Either⟩ ha_Either hn_ htk_ hm_Either,
    k_Either := ⟨mk_Either, e_Either_init, i_Joined_init, kc_Either⟩,
    n_Either_at := n_Either_at,
    n_Either_truth := n_Either_truth,
    n_Either_part := n_Either_part,
    n_Either_parts := n_Either_parts,
    h_Either_looseness := ⟨e_Either_looseness, i_Either_looseness, k_Either_looseness⟩,
    h_Either_between := ⟨e_Either_between, i_Either_between, k_Either_between⟩,
    h_Either_lamps := ⟨e_Either_lamps, i_Joined_lamps, k_Joined_lamps⟩,
    h_Either_shown := ⟨e_Either_shown, i_Joined_shown, k_Joined_shown⟩,
    m_Or := PySem.W.mg_of X G a_Or,
    c_Or := ⟨pg_Or, hd_Or, po_Or, sa_Or⟩,
    y_Or := fun H a dx fs e => TyOf.ins e ⟨pg_Or, hd_Or, po_Or, sa_Or⟩ ha_Or hn_ htk_ hm_Or,
    k_Or := ⟨mk_Or, e_Or_init, i_Joined_init, kc_Or⟩,
    n_Or_at := n_Or_at,
    n_Or_truth := n_Or_truth,
    n_Or_part := n_Or_part,
    n_Or_parts := n_Or_parts,
    h_Or_looseness := ⟨e_Or_looseness, i_Or_looseness, k_Or_looseness⟩,
    h_Or_between := ⟨e_Or_between, i_Or_between, k_Or_between⟩,
    h_Or_lamps := ⟨e_Or_lamps, i_Joined_lamps, k_Joined_lamps⟩,
    h_Or_shown := ⟨e_Or_shown, i_Joined_shown, k_Joined_shown⟩,
    x_Formula_Lamp := nd_ne nd_ (i := 0) (j := 1) rfl rfl (by decide),
    x_Formula_Sure := nd_ne nd_ (i := 0) (j := 2) rfl rfl (by decide),
    x_Formula_Not := nd_ne nd_ (i := 0) (j := 3) rfl rfl (by decide),
    x_Formula_Joined := nd_ne nd_ (i := 0) (j := 4) rfl rfl (by decide),
    x_Formula_And := nd_ne nd_ (i := 0) (j := 5) rfl rfl (by decide),
    x_Formula_Either := nd_ne nd_ (i := 0) (j := 6) rfl rfl (by decide),
    x_Formula_Or := nd_ne nd_ (i := 0) (j := 7) rfl rfl (by decide),
    x_Lamp_Sure := nd_ne nd_ (i := 1) (j := 2) rfl rfl (by decide),
    x_Lamp_Not := nd_ne nd_ (i := 1) (j := 3) rfl rfl (by decide),
    x_Lamp_Joined := nd_ne nd_ (i := 1) (j := 4) rfl rfl (by decide),
    x_Lamp_And := nd_ne nd_ (i := 1) (j := 5) rfl rfl (by decide),
    x_Lamp_Either := nd_ne nd_ (i := 1) (j := 6) rfl rfl (by decide),
    x_Lamp_Or := nd_ne nd_ (i := 1) (j := 7) rfl rfl (by decide),
    x_Sure_Not := nd_ne nd_ (i := 2) (j := 3) rfl rfl (by decide),
    x_Sure_Joined := nd_ne nd_ (i := 2) (j := 4) rfl rfl (by decide),
    x_Sure_And := nd_ne nd_ (i := 2) (j := 5) rfl rfl (by decide),
    x_Sure_Either := nd_ne nd_ (i := 2) (j := 6) rfl rfl (by decide),
    x_Sure_Or := nd_ne nd_ (i := 2) (j := 7) rfl rfl (by decide),
    x_Not_Joined := nd_ne nd_ (i := 3) (j := 4) rfl rfl (by decide),
    x_Not_And := nd_ne nd_ (i := 3) (j := 5) rfl rfl (by decide),
    x_Not_Either := nd_ne nd_ (i := 3) (j := 6) rfl rfl (by decide),
    x_Not_Or := nd_ne nd_ (i := 3) (j := 7) rfl rfl (by decide),
    x_Joined_And := nd_ne nd_ (i := 4) (j := 5) rfl rfl (by decide),
    x_Joined_Either := nd_ne nd_ (i := 4) (j := 6) rfl rfl (by decide),
    x_Joined_Or := nd_ne nd_ (i := 4) (j := 7) rfl rfl (by decide),
    x_And_Either := nd_ne nd_ (i := 5) (j := 6) rfl rfl (by decide),
    x_And_Or := nd_ne nd_ (i := 5) (j := 7) rfl rfl (by decide),
    x_Either_Or := nd_ne nd_ (i := 6) (j := 7) rfl rfl (by decide),
    bl := fun s u => .of_eq rfl,
    B := ⟨PySem.W.mg_none_of X G b_len, PySem.W.mg_none_of X G b_range, PySem.W.mg_none_of X G b_isinstance, PySem.W.mg_none_of X G b_int, PySem.W.mg_none_of X G b_bool, PySem.W.mg_none_of X G b_str, PySem.W.mg_none_of X G b_list, PySem.W.mg_none_of X G b_tuple, PySem.W.mg_none_of X G b_dict, PySem.W.mg_none_of X G b_set, PySem.W.mg_none_of X G b_sorted, PySem.W.mg_none_of X G b_max, PySem.W.mg_none_of X G b_min, PySem.W.mg_none_of X G b_sum, PySem.W.mg_none_of X G b_any, PySem.W.mg_none_of X G b_all, PySem.W.mg_none_of X G b_abs, PySem.W.mg_none_of X G b_reversed, PySem.W.mg_none_of X G b_enumerate, PySem.W.mg_none_of X G b_zip⟩ }
def cell (ns : List Int) (k : Nat) : Int := ns.getD k 0
def spLaw (K : PySem.W.Frag) : Sp := fun vs H Q _ => ∃ (a : Addr) (ns : List Int), vs = [.ref a] ∧ SqL K H a (ns.map V.int) ∧ ns.length ≤ 63 ∧ Only H ∧ ∀ H', Q (.bl true) H'
def spCell (K : PySem.W.Frag) : Sp := fun vs H Q _ => ∃ (a : Addr) (ns : List Int) (k : Nat), vs = [.ref a, .int (k : Int)] ∧ SqL K H a (ns.map V.int) ∧ Q (.int (cell ns k)) H
section
variable {P : Program} {w : World} {K : PySem.W.Frag} {mg : Str → Option Value} {base : Heap} {t : Ad}
theorem ok_cell_at (T : Txt K mg t) : FnS P w K mg base 1 "_law_cell_at" ["_law_script", "_law_k"] (spCell K) := by
  refine ⟨_, _, T.F__law_cell_at.ok sc__law_cell_at (fun vs H Q E h => ?_) (fun cdv A outer s H vs Q E hr h => ?_), T.b__law_cell_at, T.F__law_cell_at.kp, T.m__law_cell_at⟩
  · obtain ⟨a, ns, k, rfl, _⟩ := h
    rfl
  · obtain ⟨a, ns, k, rfl, hS, q⟩ := h
    refine ⟨_, (pss_cons (ps_if (pt_cmpR op_lt (pv 1) (pe_callB call_lenG rfl T.B.len bt_len (pa_cons (pv 0) pa_nil)) (nomark _))
      (pss_one (ps_ret (pe_ix ix_seq (pv 0) (pv 1) (fun _ _ => rfl))))
      pss_nil)
      (pss_one (ps_ret pe_int))), ?_⟩
    walk_at "rd0"
    refine i_ifd (fun h => ?_) (fun h => ?_)
    · rw [List.length_map] at h
      have hk : k < ns.length := by omega
      walk_at "rd"
      refine i_ixS (j := k) (v := .int (cell ns k)) hS ?_ q
      rw [List.getElem?_map, List.getElem?_eq_getElem hk]
      simp [cell, List.getD_eq_getElem?_getD, List.getElem?_eq_getElem hk]
    · rw [List.length_map] at h
      walk_at "rd"
      have e : cell ns k = 0 := by
        simp only [cell, List.getD_eq_getElem?_getD]
        rw [List.getElem?_eq_none (by omega)]
        rfl
      rw [e] at q
      exact q
end

def cw (t : Ad) : W3 → Addr
  | .a => t.C_And
  | .e => t.C_Either
  | .o => t.C_Or
def FmAt (t : Ad) (H : Hp) : Nat → Addr → Fm → Prop
  | 0, _, _ => False
  | n + 1, p, f => match f with
    | .lamp k => ∃ dx, H p = some (.ins t.C_Lamp dx [(("at" : Str), .int (k : Int))])
    | .sure b => ∃ dx, H p = some (.ins t.C_Sure dx [(("truth" : Str), .bl b)])
    | .neg g => ∃ dx q, H p = some (.ins t.C_Not dx [(("part" : Str), .ref q)]) ∧ FmAt t H n q g
    | .join w gs => ∃ dx tp ps, H p = some (.ins (cw t w) dx [(("parts" : Str), .ref tp)]) ∧ H tp = some (.tup (ps.map V.ref)) ∧ Paired (FmAt t H n) ps gs
def isFm (t : Ad) (C : Addr) : Prop := C = t.C_Lamp ∨ C = t.C_Sure ∨ C = t.C_Not ∨ C = t.C_And ∨ C = t.C_Either ∨ C = t.C_Or
theorem paired_imp {α β : Type} {F G : α → β → Prop} (h : ∀ a b, F a b → G a b) : ∀ {xs : List α} {ys : List β}, Paired F xs ys → Paired G xs ys
  | _, _, .nil => .nil
  | _, _, .cons r s => .cons (h _ _ r) (paired_imp h s)
theorem paired_get {α β : Type} {F : α → β → Prop} : ∀ {xs : List α} {ys : List β} {i : Nat} {x : α}, Paired F xs ys → xs[i]? = some x → ∃ y, ys[i]? = some y ∧ F x y
  | _, _, _, _, .nil, e => by simp at e
  | _, _, 0, _, .cons r _, e => by simp at e; subst e; exact ⟨_, rfl, r⟩
  | _, _, i + 1, x, .cons _ s, e => by
    obtain ⟨u, h1, h2⟩ := paired_get (i := i) (x := x) s (by simpa using e)
    exact ⟨u, by simpa using h1, h2⟩
theorem paired_append {α β : Type} {F : α → β → Prop} : ∀ {xs xs' : List α} {ys ys' : List β}, Paired F xs ys → Paired F xs' ys' → Paired F (xs ++ xs') (ys ++ ys')
  | _, _, _, _, .nil, s => s
  | _, _, _, _, .cons r q, s => .cons r (paired_append q s)
theorem paired_take {α β : Type} {F : α → β → Prop} : ∀ {xs : List α} {ys : List β} (n : Nat), Paired F xs ys → Paired F (xs.take n) (ys.take n)
  | _, _, 0, _ => by rw [List.take_zero, List.take_zero]; exact .nil
  | _, _, _ + 1, .nil => by rw [List.take_nil, List.take_nil]; exact .nil
  | _, _, n + 1, .cons r q => by rw [List.take_succ_cons, List.take_succ_cons]; exact .cons r (paired_take n q)
theorem paired_drop {α β : Type} {F : α → β → Prop} : ∀ {xs : List α} {ys : List β} (n : Nat), Paired F xs ys → Paired F (xs.drop n) (ys.drop n)
  | _, _, 0, q => q
  | _, _, _ + 1, .nil => by rw [List.drop_nil, List.drop_nil]; exact .nil
  | _, _, n + 1, .cons r q => by rw [List.drop_succ_cons, List.drop_succ_cons]; exact paired_drop n q
theorem paired_len {α β : Type} {F : α → β → Prop} {xs : List α} {ys : List β} (h : Paired F xs ys) : xs.length = ys.length := Paired.length h
theorem paired_snoc {α β : Type} {F : α → β → Prop} {xs : List α} {ys : List β} {x : α} {y : β} (h : Paired F (xs ++ [x]) (ys ++ [y])) : Paired F xs ys ∧ F x y := by
  have hl : xs.length = ys.length := by have := paired_len h; simpa using this
  have a := paired_take xs.length h
  have b := paired_drop xs.length h
  rw [List.take_left, hl, List.take_left] at a
  rw [List.drop_left, hl, List.drop_left] at b
  cases b with
  | cons r _ => exact ⟨a, r⟩
theorem get_ref {ps : List Addr} {i : Nat} {x : V} (h : (ps.map V.ref)[i]? = some x) : ∃ p, x = V.ref p ∧ ps[i]? = some p := by
  rw [List.getElem?_map] at h
  cases e : ps[i]? with
  | none => rw [e] at h; cases h
  | some p => rw [e] at h; exact ⟨p, (Option.some.inj h).symm, rfl⟩
theorem take_snoc {α : Type} {l : List α} {i : Nat} {x : α} (h : l[i]? = some x) : l.take (i + 1) = l.take i ++ [x] := by
  rw [List.take_add_one, h]; rfl
section
variable {P : Program} {w : World} {K : PySem.W.Frag} {mg : Str → Option Value} {base : Heap} {t : Ad} {H H' : Hp} {n : Nat} {p : Addr} {f : Fm}
theorem FmAt.mono (s : Ext H H') : ∀ {n : Nat} {p : Addr} {f : Fm}, FmAt t H n p f → FmAt t H' n p f
  | 0, _, _, h => h
  | n + 1, p, f, h => by
    cases f with
    | lamp k => obtain ⟨dx, e⟩ := h; exact ⟨dx, s _ _ e (fun _ z => nomatch z)⟩
    | sure b => obtain ⟨dx, e⟩ := h; exact ⟨dx, s _ _ e (fun _ z => nomatch z)⟩
    | neg g => obtain ⟨dx, q, e, h⟩ := h; exact ⟨dx, q, s _ _ e (fun _ z => nomatch z), FmAt.mono s h⟩
    | join w gs => obtain ⟨dx, tp, ps, e, e2, h⟩ := h; exact ⟨dx, tp, ps, s _ _ e (fun _ z => nomatch z), s _ _ e2 (fun _ z => nomatch z), paired_imp (fun a b h => FmAt.mono s h) h⟩
theorem FmAt.le : ∀ {n m : Nat} {p : Addr} {f : Fm}, n ≤ m → FmAt t H n p f → FmAt t H m p f
  | 0, _, _, _, _, h => h.elim
  | n + 1, 0, _, _, hm, _ => absurd hm (by omega)
  | n + 1, m + 1, p, f, hm, h => by
    have hm' : n ≤ m := by omega
    cases f with
    | lamp k => exact h
    | sure b => exact h
    | neg g => obtain ⟨dx, q, e, h⟩ := h; exact ⟨dx, q, e, FmAt.le hm' h⟩
    | join w gs => obtain ⟨dx, tp, ps, e, e2, h⟩ := h; exact ⟨dx, tp, ps, e, e2, paired_imp (fun a b h => FmAt.le hm' h) h⟩
theorem isFm_cw (t : Ad) (w : W3) : isFm t (cw t w) := by
  cases w
  · exact .inr (.inr (.inr (.inl rfl)))
  · exact .inr (.inr (.inr (.inr (.inl rfl))))
  · exact .inr (.inr (.inr (.inr (.inr rfl))))
theorem FmAt.ins (h : FmAt t H n p f) (m : Str) (h1 : ¬ m = "at") (h2 : ¬ m = "truth") (h3 : ¬ m = "part") (h4 : ¬ m = "parts") : ∃ C dx fs, H p = some (.ins C dx fs) ∧ isFm t C ∧ fs.lookup m = none := by
  cases n with
  | zero => exact h.elim
  | succ n =>
    cases f with
    | lamp k => obtain ⟨dx, e⟩ := h; exact ⟨_, dx, _, e, .inl rfl, lk0 _ h1⟩
    | sure b => obtain ⟨dx, e⟩ := h; exact ⟨_, dx, _, e, .inr (.inl rfl), lk0 _ h2⟩
    | neg g => obtain ⟨dx, q, e, h⟩ := h; exact ⟨_, dx, _, e, .inr (.inr (.inl rfl)), lk0 _ h3⟩
    | join w gs => obtain ⟨dx, tp, ps, e, e2, h⟩ := h; exact ⟨_, dx, _, e, isFm_cw t w, lk0 _ h4⟩
theorem FmAt.lamp {dx : Addr} {fs : List (Str × V)} (T : Txt K mg t) (h : FmAt t H (n + 1) p f) (e : H p = some (.ins t.C_Lamp dx fs)) : ∃ k : Nat, f = .lamp k ∧ fs = [(("at" : Str), .int (k : Int))] := by
  cases f with
  | lamp k => obtain ⟨dx', e'⟩ := h; rw [e] at e'; injection e' with e'; injection e' with _ _ e'; exact ⟨k, rfl, e'⟩
  | sure b => obtain ⟨dx', e'⟩ := h; rw [e] at e'; injection e' with e'; injection e' with e' _ _; exact absurd e' T.x_Lamp_Sure
  | neg g => obtain ⟨dx', q, e', _⟩ := h; rw [e] at e'; injection e' with e'; injection e' with e' _ _; exact absurd e' T.x_Lamp_Not
  | join w gs => obtain ⟨dx', tp, ps, e', _⟩ := h; rw [e] at e'; injection e' with e'; injection e' with e' _ _; cases w; exact absurd e' T.x_Lamp_And; exact absurd e' T.x_Lamp_Either; exact absurd e' T.x_Lamp_Or
theorem FmAt.sure {dx : Addr} {fs : List (Str × V)} (T : Txt K mg t) (h : FmAt t H (n + 1) p f) (e : H p = some (.ins t.C_Sure dx fs)) : ∃ b : Bool, f = .sure b ∧ fs = [(("truth" : Str), .bl b)] := by
  cases f with
  | lamp k => obtain ⟨dx', e'⟩ := h; rw [e] at e'; injection e' with e'; injection e' with e' _ _; exact absurd e'.symm T.x_Lamp_Sure
  | sure b => obtain ⟨dx', e'⟩ := h; rw [e] at e'; injection e' with e'; injection e' with _ _ e'; exact ⟨b, rfl, e'⟩
  | neg g => obtain ⟨dx', q, e', _⟩ := h; rw [e] at e'; injection e' with e'; injection e' with e' _ _; exact absurd e' T.x_Sure_Not
  | join w gs => obtain ⟨dx', tp, ps, e', _⟩ := h; rw [e] at e'; injection e' with e'; injection e' with e' _ _; cases w; exact absurd e' T.x_Sure_And; exact absurd e' T.x_Sure_Either; exact absurd e' T.x_Sure_Or
theorem FmAt.neg {dx : Addr} {fs : List (Str × V)} (T : Txt K mg t) (h : FmAt t H (n + 1) p f) (e : H p = some (.ins t.C_Not dx fs)) : ∃ g q, f = .neg g ∧ fs = [(("part" : Str), .ref q)] ∧ FmAt t H n q g := by
  cases f with
  | lamp k => obtain ⟨dx', e'⟩ := h; rw [e] at e'; injection e' with e'; injection e' with e' _ _; exact absurd e'.symm T.x_Lamp_Not
  | sure b => obtain ⟨dx', e'⟩ := h; rw [e] at e'; injection e' with e'; injection e' with e' _ _; exact absurd e'.symm T.x_Sure_Not
  | neg g => obtain ⟨dx', q, e', h⟩ := h; rw [e] at e'; injection e' with e'; injection e' with _ _ e'; exact ⟨g, q, rfl, e', h⟩
  | join w gs => obtain ⟨dx', tp, ps, e', _⟩ := h; rw [e] at e'; injection e' with e'; injection e' with e' _ _; cases w; exact absurd e' T.x_Not_And; exact absurd e' T.x_Not_Either; exact absurd e' T.x_Not_Or
theorem cw_inj (T : Txt K mg t) {v w : W3} (e : cw t v = cw t w) : v = w := by
  cases v <;> cases w <;> first
    | rfl
    | exact absurd e T.x_And_Either
    | exact absurd e T.x_And_Or
    | exact absurd e T.x_Either_Or
    | exact absurd e.symm T.x_And_Either
    | exact absurd e.symm T.x_And_Or
    | exact absurd e.symm T.x_Either_Or
theorem FmAt.join {dx : Addr} {fs : List (Str × V)} {w : W3} (T : Txt K mg t) (h : FmAt t H (n + 1) p f) (e : H p = some (.ins (cw t w) dx fs)) :
    ∃ gs tp ps, f = .join w gs ∧ fs = [(("parts" : Str), .ref tp)] ∧ H tp = some (.tup (ps.map V.ref)) ∧ Paired (FmAt t H n) ps gs := by
  cases f with
  | lamp k => obtain ⟨dx', e'⟩ := h; rw [e] at e'; injection e' with e'; injection e' with e' _ _; cases w; exact absurd e'.symm T.x_Lamp_And; exact absurd e'.symm T.x_Lamp_Either; exact absurd e'.symm T.x_Lamp_Or
  | sure b => obtain ⟨dx', e'⟩ := h; rw [e] at e'; injection e' with e'; injection e' with e' _ _; cases w; exact absurd e'.symm T.x_Sure_And; exact absurd e'.symm T.x_Sure_Either; exact absurd e'.symm T.x_Sure_Or
  | neg g => obtain ⟨dx', q, e', _⟩ := h; rw [e] at e'; injection e' with e'; injection e' with e' _ _; cases w; exact absurd e'.symm T.x_Not_And; exact absurd e'.symm T.x_Not_Either; exact absurd e'.symm T.x_Not_Or
  | join v gs =>
    obtain ⟨dx', tp, ps, e', e2, h⟩ := h
    rw [e] at e'; injection e' with e'; injection e' with e1 _ e3
    obtain rfl := cw_inj T e1
    exact ⟨gs, tp, ps, rfl, e3, e2, h⟩
theorem ok_Lamp (T : Txt K mg t) : MkS P w K mg base 1 "Lamp" t.C_Lamp ["self", "at"] (spInit1 t.C_Lamp "at") := by
  refine ⟨T.m_Lamp, _, _, T.k_Lamp, T.F_Lamp_init.ok sc_Lamp_init (fun vs H Q E h => ?_) (fun cdv A outer s H vs Q E hr h => ?_), T.b_Lamp_init⟩
  · obtain ⟨p, dx, v, rfl, _⟩ := h
    rfl
  · obtain ⟨p, dx, v, rfl, hp, q⟩ := h
    refine ⟨_, (pss_one (ps_fld (pv 0) (pv 1) rfl)), ?_⟩
    walk_at "rd0"
    exact ⟨p, _, _, _, rfl, hp, T.c_Lamp, T.n_Lamp_at, by decide, q⟩
theorem ok_Sure (T : Txt K mg t) : MkS P w K mg base 1 "Sure" t.C_Sure ["self", "truth"] (spInit1 t.C_Sure "truth") := by
  refine ⟨T.m_Sure, _, _, T.k_Sure, T.F_Sure_init.ok sc_Sure_init (fun vs H Q E h => ?_) (fun cdv A outer s H vs Q E hr h => ?_), T.b_Sure_init⟩
  · obtain ⟨p, dx, v, rfl, _⟩ := h
    rfl
  · obtain ⟨p, dx, v, rfl, hp, q⟩ := h
    refine ⟨_, (pss_one (ps_fld (pv 0) (pv 1) rfl)), ?_⟩
    walk_at "rd0"
    exact ⟨p, _, _, _, rfl, hp, T.c_Sure, T.n_Sure_truth, by decide, q⟩
theorem ok_Not (T : Txt K mg t) : MkS P w K mg base 1 "Not" t.C_Not ["self", "part"] (spInit1 t.C_Not "part") := by
  refine ⟨T.m_Not, _, _, T.k_Not, T.F_Not_init.ok sc_Not_init (fun vs H Q E h => ?_) (fun cdv A outer s H vs Q E hr h => ?_), T.b_Not_init⟩
  · obtain ⟨p, dx, v, rfl, _⟩ := h
    rfl
  · obtain ⟨p, dx, v, rfl, hp, q⟩ := h
    refine ⟨_, (pss_one (ps_fld (pv 0) (pv 1) rfl)), ?_⟩
    walk_at "rd0"
    exact ⟨p, _, _, _, rfl, hp, T.c_Not, T.n_Not_part, by decide, q⟩
def spInitJ (C : Addr) : Sp := fun vs H Q _ => ∃ p dx l ys, vs = [.ref p, .ref l] ∧ H p = some (.ins C dx []) ∧ H l = some (.lst ys) ∧ ∀ tp, H tp = none → Q .non (upd (upd H tp (.tup ys)) p (.ins C dx [(("parts" : Str), .ref tp)]))
theorem ok_JoinedC {C : Addr} (T : Txt K mg t) (cl : Cls K C) (na : NoAttr K C "parts") : FnOk P w K mg base CX0 1 t.f_Joined_init t.d_Joined_init ["self", "parts"] (spInitJ C) := by
  refine T.F_Joined_init.ok sc_Joined_init (fun vs H Q E h => ?_) (fun cdv A outer s H vs Q E hr h => ?_)
  · obtain ⟨p, dx, l, ys, rfl, _⟩ := h
    rfl
  · obtain ⟨p, dx, l, ys, rfl, hp, hl, q⟩ := h
    refine ⟨_, (pss_one (ps_fld (pv 0) (pe_callTy call_tupleG rfl T.B.tuple bt_tuple (pa_cons (pv 1) pa_nil)) rfl)), ?_⟩
    walk_at "rd0"
    refine i_tupL hl fun tp htp => ?_
    walk_at "rd"
    exact ⟨p, _, _, _, rfl, by rw [upd_ne (ne_of_none hp htp)]; exact hp, cl, na, by decide, q tp htp⟩
theorem ok_And (T : Txt K mg t) : MkS P w K mg base 1 "And" t.C_And ["self", "parts"] (spInitJ t.C_And) := ⟨T.m_And, _, _, T.k_And, ok_JoinedC T T.c_And T.n_And_parts, T.b_Joined_init⟩
theorem ok_Either (T : Txt K mg t) : MkS P w K mg base 1 "Either" t.C_Either ["self", "parts"] (spInitJ t.C_Either) := ⟨T.m_Either, _, _, T.k_Either, ok_JoinedC T T.c_Either T.n_Either_parts, T.b_Joined_init⟩
theorem ok_Or (T : Txt K mg t) : MkS P w K mg base 1 "Or" t.C_Or ["self", "parts"] (spInitJ t.C_Or) := ⟨T.m_Or, _, _, T.k_Or, ok_JoinedC T T.c_Or T.n_Or_parts, T.b_Joined_init⟩
theorem i_initJ {C l : Addr} {ys : List V} {H : Hp} {Q : VK} (hl : H l = some (.lst ys)) (h : ∀ (x dx tp : Addr) (H' : Hp), Same H H' → H x = none → H' x = some (.ins C dx [(("parts" : Str), .ref tp)]) → H' tp = some (.tup ys) → Q (.ref x) H') :
    MkG C (spInitJ C) [.ref l] H Q := by
  intro x dx hx hdx ne
  have s2 := same_new2 hx hdx (.ins C dx []) (.own x)
  refine ⟨x, dx, l, ys, rfl, upd_same, s2 _ _ hl, fun tp htp => ⟨rfl, ?_⟩⟩
  have hxt : tp ≠ x := by
    intro e; subst e; rw [upd_same] at htp; cases htp
  have htp0 : H tp = none := s2.free htp
  refine h x dx tp _ (fun b o e => ?_) hx upd_same (by rw [upd_ne hxt, upd_same])
  rw [upd_ne (ne_of_none e hx), upd_ne (ne_of_none e htp0), upd_ne (ne_of_none e hx), upd_ne (ne_of_none e hdx)]
  exact e
end

def word3 : W3 → Str
  | .a => " and "
  | .e => " either "
  | .o => " or "
def rank3 : W3 → Nat
  | .a => 1
  | .e => 2
  | .o => 3
def fLoose : Fm → Nat
  | .join w _ => rank3 w
  | _ => 0
def brk (b : Bool) (z : Str) : Str := if b = true then Str.empty ++ "(" ++ z ++ ")" else z
mutual
def fShown (ns : List Str) : Fm → Str
  | .lamp k => ns.getD k Str.empty
  | .sure b => if b = true then "yes" else "no"
  | .neg f => Str.empty ++ "not " ++ brk (decide (1 ≤ (fLoose f))) (fShown ns f)
  | .join w fs => Txt.join (word3 w) (fShownL ns (rank3 w) fs)
def fShownL (ns : List Str) (r : Nat) : List Fm → List Str
  | [] => []
  | f :: fs => brk (decide (r ≤ (fLoose f))) (fShown ns f) :: fShownL ns r fs
end
def partS (ns : List Str) (r : Nat) (f : Fm) : Str := brk (decide (r ≤ (fLoose f))) (fShown ns f)
theorem shownL_eq (ns : List Str) (r : Nat) : ∀ fs : List Fm, fShownL ns r fs = fs.map (partS ns r)
  | [] => by simp [fShownL]
  | f :: fs => by simp [fShownL, shownL_eq ns r fs, partS]
theorem shown_join (ns : List Str) (w : W3) (fs : List Fm) : fShown ns (Fm.join w fs) = Txt.join (word3 w) (fs.map (partS ns (rank3 w))) := by
  simp [fShown, shownL_eq]

mutual
def fWt : Fm → Nat
  | .lamp _ => 1
  | .sure _ => 1
  | .neg f => 1 + fWt f
  | .join _ fs => 1 + fWtL fs
def fWtL : List Fm → Nat
  | [] => 0
  | f :: fs => 1 + fWt f + fWtL fs
end
theorem wtL_eq : ∀ fs : List Fm, fWtL fs = (fs.map fun f => 1 + fWt f).sum
  | [] => by simp [fWtL]
  | f :: fs => by simp [fWtL, wtL_eq fs]
theorem wt_mem {fs : List Fm} {f : Fm} (h : f ∈ fs) : fWt f < fWtL fs := by
  induction fs with
  | nil => cases h
  | cons g gs ih =>
    rw [fWtL]
    rcases List.mem_cons.mp h with rfl | h
    · omega
    · have := ih h
      omega
theorem wt_len : ∀ fs : List Fm, fs.length ≤ fWtL fs
  | [] => Nat.zero_le _
  | f :: fs => by rw [List.length_cons, fWtL]; have := wt_len fs; omega
theorem brk_len (b : Bool) (z : Str) : (brk b z).length ≤ z.length + 2 := by
  unfold brk
  split
  · rw [len_append, len_append, len_append]
    have : Str.length Str.empty = 0 := rfl
    have : Str.length "(" = 1 := by decide +kernel
    have : Str.length ")" = 1 := by decide +kernel
    omega
  · omega
theorem word3_len (w : W3) : (word3 w).length ≤ 8 := by cases w <;> decide +kernel
theorem getD_len {ns : List Str} {B : Nat} (h : ∀ z ∈ ns, z.length ≤ B) (k : Nat) : (ns.getD k Str.empty).length ≤ B := by
  rw [List.getD_eq_getElem?_getD]
  cases e : ns[k]? with
  | none => exact Nat.zero_le _
  | some z => exact h z (List.mem_of_getElem? e)
mutual
theorem shown_len {ns : List Str} (h : ∀ z ∈ ns, z.length ≤ 20) : ∀ f : Fm, (fShown ns f).length ≤ 20 * fWt f
  | .lamp k => by simp only [fShown, fWt]; exact getD_len h k
  | .sure b => by cases b <;> simp only [fShown, fWt] <;> decide +kernel
  | .neg f => by
    have a := shown_len h f
    have b := brk_len (decide (1 ≤ (fLoose f))) (fShown ns f)
    have c : Str.length "not " = 4 := by decide +kernel
    have d : Str.length Str.empty = 0 := rfl
    simp only [fShown, fWt]
    rw [len_append, len_append]
    omega
  | .join w fs => by
    have a := shownL_len h (rank3 w) fs
    have b := word3_len w
    simp only [fShown, fWt]
    have c : (Txt.join (word3 w) (fShownL ns (rank3 w) fs)).length ≤ ((fShownL ns (rank3 w) fs).map (·.length)).sum + (fShownL ns (rank3 w) fs).length * (word3 w).length := by
      show (Builtin.Str.glued _ _).length ≤ _
      rw [StrLaws.glued_eq_join]
      exact StrLaws.join_length_le _ _
    have d : (fShownL ns (rank3 w) fs).length * (word3 w).length ≤ (fShownL ns (rank3 w) fs).length * 8 := Nat.mul_le_mul_left _ b
    omega
theorem shownL_len {ns : List Str} (h : ∀ z ∈ ns, z.length ≤ 20) (r : Nat) : ∀ fs : List Fm, ((fShownL ns r fs).map (·.length)).sum + (fShownL ns r fs).length * 8 ≤ 20 * fWtL fs
  | [] => by simp [fShownL]
  | f :: fs => by
    have a := shown_len h f
    have b := brk_len (decide (r ≤ (fLoose f))) (fShown ns f)
    have c := shownL_len h r fs
    simp only [fShownL, fWtL, List.map_cons, List.sum_cons, List.length_cons]
    omega
end
theorem joinOk_shown {ns : List Str} (h : ∀ z ∈ ns, z.length ≤ 20) (w : W3) (fs : List Fm) (hw : fWtL fs ≤ 1000) : JoinOk (word3 w) (fs.map (partS ns (rank3 w))) = true := by
  rw [← shownL_eq]
  unfold JoinOk Builtin.Str.tooLong
  rw [StrLaws.joinTotal]
  have a := shownL_len h (rank3 w) fs
  have b := word3_len w
  have d : (fShownL ns (rank3 w) fs).length * (word3 w).length ≤ (fShownL ns (rank3 w) fs).length * 8 := Nat.mul_le_mul_left _ b
  rw [decide_eq_false (Nat.not_lt.mpr (small (by omega)))]
  rfl

section
variable {P : Program} {w : World} {K : PySem.W.Frag} {mg : Str → Option Value} {base : Heap} {t : Ad} {n : Nat}
def spLoose (t : Ad) : Sp := fun vs H Q _ => ∃ (p : Addr) (f : Fm) (n : Nat), vs = [.ref p] ∧ FmAt t H (n + 1) p f ∧ Q (.int (fLoose f : Int)) H
theorem D_looseness_of (T : Txt K mg t) : ∀ C, isFm t C → MeS P w K mg base 1 C "looseness" ["self"] (spAt (spLoose t) C) := by
  rintro C (rfl | rfl | rfl | rfl | rfl | rfl)
  · refine ⟨T.c_Lamp, _, _, T.F_Formula_looseness.ok sc_Formula_looseness (fun vs H Q E h => ?_) (fun cdv A outer s H vs Q E hr h => ?_), T.b_Formula_looseness, T.h_Lamp_looseness⟩
    · obtain ⟨⟨p, f, n, rfl, _⟩, _⟩ := h
      rfl
    · obtain ⟨⟨p, f, n, rfl, hf, q⟩, a, dx, fs, r, e, ea⟩ := h
      cases e
      obtain ⟨k, rfl, rfl⟩ := hf.lamp T ea
      refine ⟨_, (pss_one (ps_ret pe_int)), ?_⟩
      walk_at "rd0"
      exact q
  · refine ⟨T.c_Sure, _, _, T.F_Formula_looseness.ok sc_Formula_looseness (fun vs H Q E h => ?_) (fun cdv A outer s H vs Q E hr h => ?_), T.b_Formula_looseness, T.h_Sure_looseness⟩
    · obtain ⟨⟨p, f, n, rfl, _⟩, _⟩ := h
      rfl
    · obtain ⟨⟨p, f, n, rfl, hf, q⟩, a, dx, fs, r, e, ea⟩ := h
      cases e
      obtain ⟨b, rfl, rfl⟩ := hf.sure T ea
      refine ⟨_, (pss_one (ps_ret pe_int)), ?_⟩
      walk_at "rd0"
      exact q
  · refine ⟨T.c_Not, _, _, T.F_Formula_looseness.ok sc_Formula_looseness (fun vs H Q E h => ?_) (fun cdv A outer s H vs Q E hr h => ?_), T.b_Formula_looseness, T.h_Not_looseness⟩
    · obtain ⟨⟨p, f, n, rfl, _⟩, _⟩ := h
      rfl
    · obtain ⟨⟨p, f, n, rfl, hf, q⟩, a, dx, fs, r, e, ea⟩ := h
      cases e
      obtain ⟨g, p2, rfl, rfl, hg⟩ := hf.neg T ea
      refine ⟨_, (pss_one (ps_ret pe_int)), ?_⟩
      walk_at "rd0"
      exact q
  · refine ⟨T.c_And, _, _, T.F_And_looseness.ok sc_And_looseness (fun vs H Q E h => ?_) (fun cdv A outer s H vs Q E hr h => ?_), T.b_And_looseness, T.h_And_looseness⟩
    · obtain ⟨⟨p, f, n, rfl, _⟩, _⟩ := h
      rfl
    · obtain ⟨⟨p, f, n, rfl, hf, q⟩, a, dx, fs, r, e, ea⟩ := h
      cases e
      obtain ⟨gs, tp, ps, rfl, rfl, htp, hg⟩ := hf.join (w := .a) T ea
      refine ⟨_, (pss_one (ps_ret pe_int)), ?_⟩
      walk_at "rd0"
      exact q
  · refine ⟨T.c_Either, _, _, T.F_Either_looseness.ok sc_Either_looseness (fun vs H Q E h => ?_) (fun cdv A outer s H vs Q E hr h => ?_), T.b_Either_looseness, T.h_Either_looseness⟩
    · obtain ⟨⟨p, f, n, rfl, _⟩, _⟩ := h
      rfl
    · obtain ⟨⟨p, f, n, rfl, hf, q⟩, a, dx, fs, r, e, ea⟩ := h
      cases e
      obtain ⟨gs, tp, ps, rfl, rfl, htp, hg⟩ := hf.join (w := .e) T ea
      refine ⟨_, (pss_one (ps_ret pe_int)), ?_⟩
      walk_at "rd0"
      exact q
  · refine ⟨T.c_Or, _, _, T.F_Or_looseness.ok sc_Or_looseness (fun vs H Q E h => ?_) (fun cdv A outer s H vs Q E hr h => ?_), T.b_Or_looseness, T.h_Or_looseness⟩
    · obtain ⟨⟨p, f, n, rfl, _⟩, _⟩ := h
      rfl
    · obtain ⟨⟨p, f, n, rfl, hf, q⟩, a, dx, fs, r, e, ea⟩ := h
      cases e
      obtain ⟨gs, tp, ps, rfl, rfl, htp, hg⟩ := hf.join (w := .o) T ea
      refine ⟨_, (pss_one (ps_ret pe_int)), ?_⟩
      walk_at "rd0"
      exact q
def isJn (t : Ad) (C : Addr) : Prop := ∃ w, C = cw t w
def spBetween (t : Ad) : Sp := fun vs H Q _ => ∃ (p dx : Addr) (fs : List (Str × V)) (w : W3), vs = [.ref p] ∧ H p = some (.ins (cw t w) dx fs) ∧ Q (.str (word3 w)) H
theorem D_between_of (T : Txt K mg t) : ∀ C, isJn t C → MeS P w K mg base 1 C "between" ["self"] (spAt (spBetween t) C) := by
  rintro C ⟨v, rfl⟩
  cases v
  · refine ⟨T.c_And, _, _, T.F_And_between.ok sc_And_between (fun vs H Q E h => ?_) (fun cdv A outer s H vs Q E hr h => ?_), T.b_And_between, T.h_And_between⟩
    · obtain ⟨⟨p, dx, fs, w, rfl, _⟩, _⟩ := h
      rfl
    · obtain ⟨⟨p, dx, fs, w, rfl, hp, q⟩, a, dx', fs', r, e, ea⟩ := h
      cases e
      rw [ea] at hp
      have e1 : cw t .a = cw t w := (HO.ins.inj (Option.some.inj hp)).1
      obtain rfl := cw_inj T e1
      refine ⟨_, (pss_one (ps_ret pe_str)), ?_⟩
      walk_at "rd0"
      exact q
  · refine ⟨T.c_Either, _, _, T.F_Either_between.ok sc_Either_between (fun vs H Q E h => ?_) (fun cdv A outer s H vs Q E hr h => ?_), T.b_Either_between, T.h_Either_between⟩
    · obtain ⟨⟨p, dx, fs, w, rfl, _⟩, _⟩ := h
      rfl
    · obtain ⟨⟨p, dx, fs, w, rfl, hp, q⟩, a, dx', fs', r, e, ea⟩ := h
      cases e
      rw [ea] at hp
      have e1 : cw t .e = cw t w := (HO.ins.inj (Option.some.inj hp)).1
      obtain rfl := cw_inj T e1
      refine ⟨_, (pss_one (ps_ret pe_str)), ?_⟩
      walk_at "rd0"
      exact q
  · refine ⟨T.c_Or, _, _, T.F_Or_between.ok sc_Or_between (fun vs H Q E h => ?_) (fun cdv A outer s H vs Q E hr h => ?_), T.b_Or_between, T.h_Or_between⟩
    · obtain ⟨⟨p, dx, fs, w, rfl, _⟩, _⟩ := h
      rfl
    · obtain ⟨⟨p, dx, fs, w, rfl, hp, q⟩, a, dx', fs', r, e, ea⟩ := h
      cases e
      rw [ea] at hp
      have e1 : cw t .o = cw t w := (HO.ins.inj (Option.some.inj hp)).1
      obtain rfl := cw_inj T e1
      refine ⟨_, (pss_one (ps_ret pe_str)), ?_⟩
      walk_at "rd0"
      exact q
def spBrk (t : Ad) : Sp := fun vs H Q _ => ∃ (p : Addr) (f : Fm) (n r : Nat) (z : Str), vs = [.ref p, .str z, .int (r : Int)] ∧ FmAt t H (n + 1) p f ∧ z.length ≤ 900000 ∧ Q (.str (brk (decide (r ≤ fLoose f)) z)) H
theorem ok_bracketed (T : Txt K mg t) : FnS P w K mg base 2 "bracketed" ["part", "text", "bound"] ((spBrk t)) := by
  refine ⟨_, _, T.F_bracketed.ok sc_bracketed (fun vs H Q E h => ?_) (fun cdv A outer s H vs Q E hr h => ?_), T.b_bracketed, T.F_bracketed.kp, T.m_bracketed⟩
  · obtain ⟨p, f, n, r, z, rfl, hf, hz, q⟩ := h
    rfl
  obtain ⟨p, f, n, r, z, rfl, hf, hz, q⟩ := h
  have D_looseness := D_looseness_of (P := P) (w := w) (base := base) T
  obtain ⟨C, dx', fs', e', hC, hl⟩ := hf.ins "looseness" (by decide +kernel) (by decide +kernel) (by decide +kernel) (by decide +kernel)
  have l0 : Str.length Str.empty = 0 := rfl
  have l1 : Str.length "(" = 1 := by decide +kernel
  have l2 : Str.length ")" = 1 := by decide +kernel
  refine ⟨_, (pss_one (ps_ret (pe_ifExp (pt_cmpR op_ge (pe_dy0 D_looseness hr (pv 0)) (pv 2) (nomark _)) (pe_joined (pj_cons pe_str (pj_cons (pe_fmt (pv 1)) (pj_cons pe_str pj_nil)))) (pv 1)))), ?_⟩
  walk_at "rd0"
  refine ⟨p, C, dx', fs', rfl, e', hC, hl, ?_⟩
  walk_at "rd"
  refine ⟨e', p, f, n, rfl, hf, ?_⟩
  walk_at "rd"
  refine i_ifd (fun h => ?_) (fun h => ?_)
  · rw [decide_eq_true (by omega)] at q
    walk_at "rd"
    refine ⟨_, rfl, small (by rw [len_append]; omega), ?_⟩
    walk_at "rd"
    refine ⟨_, rfl, small (by omega), _, rfl, small (by rw [len_append, len_append]; omega), ?_⟩
    walk_at "rd"
    refine ⟨_, rfl, small (by rw [len_append, len_append, len_append]; omega), ?_⟩
    refine i_jn (by rw [len_append, len_append, len_append]; omega) ?_
    exact q
  · rw [decide_eq_false (by omega)] at q
    walk_at "rd"
    exact q
def spShown (t : Ad) (n : Nat) : Sp := fun vs H Q _ => ∃ (p nl : Addr) (f : Fm) (ns : List Str), vs = [.ref p, .ref nl] ∧ FmAt t H n p f ∧ H nl = some (.lst (ns.map V.str)) ∧ (∀ z ∈ ns, z.length ≤ 20) ∧ f.low ns.length = true ∧ fWt f ≤ 1000 ∧ ∀ H', Same H H' → Q (.str (fShown ns f)) H'
theorem ok_Lamp_shown (T : Txt K mg t) : MeS P w K mg base (n + 3) t.C_Lamp "shown" ["self", "names"] (spAt (spShown t (n + 1)) t.C_Lamp) := by
  refine ⟨T.c_Lamp, _, _, T.F_Lamp_shown.ok sc_Lamp_shown (fun vs H Q E h => ?_) (fun cdv A outer s H vs Q E hr h => ?_), T.b_Lamp_shown, T.h_Lamp_shown⟩
  · obtain ⟨⟨p, nl, f, ns, rfl, _⟩, _⟩ := h
    rfl
  · obtain ⟨⟨p, nl, f, ns, rfl, hf, hn, h20, hlow, hwt, q⟩, a, dx, fs, r, e, ea⟩ := h
    cases e
    obtain ⟨k, rfl, rfl⟩ := hf.lamp T ea
    simp only [Fm.low, decide_eq_true_iff] at hlow
    refine ⟨_, (pss_one (ps_ret (pe_ix ix_seq (pv 1) (pe_fld (pv 0) rfl) (fun _ _ => rfl)))), ?_⟩
    walk_at "rd0"
    refine ⟨p, _, _, _, _, rfl, ea, T.c_Lamp, T.n_Lamp_at, lk1 _ _, ?_⟩
    walk_at "rd"
    refine i_ixL (v := .str (ns.getD k Str.empty)) hn (by rw [List.getElem?_map, List.getD_eq_getElem?_getD, List.getElem?_eq_getElem hlow]; rfl) ?_
    have := q H (Same.refl _)
    simpa only [fShown] using this
theorem ok_Sure_shown (T : Txt K mg t) : MeS P w K mg base (n + 3) t.C_Sure "shown" ["self", "names"] (spAt (spShown t (n + 1)) t.C_Sure) := by
  refine ⟨T.c_Sure, _, _, T.F_Sure_shown.ok sc_Sure_shown (fun vs H Q E h => ?_) (fun cdv A outer s H vs Q E hr h => ?_), T.b_Sure_shown, T.h_Sure_shown⟩
  · obtain ⟨⟨p, nl, f, ns, rfl, _⟩, _⟩ := h
    rfl
  · obtain ⟨⟨p, nl, f, ns, rfl, hf, hn, h20, hlow, hwt, q⟩, a, dx, fs, r, e, ea⟩ := h
    cases e
    obtain ⟨b, rfl, rfl⟩ := hf.sure T ea
    have q' := q H (Same.refl _)
    simp only [fShown] at q'
    refine ⟨_, (pss_one (ps_ret (pe_ifExp (pt_truth (pe_fld (pv 0) rfl) (fun _ => rfl)) pe_str pe_str))), ?_⟩
    walk_at "rd0"
    refine ⟨p, _, _, _, _, rfl, ea, T.c_Sure, T.n_Sure_truth, lk1 _ _, ?_⟩
    walk_at "rd"
    refine i_ifb (fun h => ?_) (fun h => ?_)
    · rw [if_pos h] at q'
      walk_at "rd"
      exact q'
    · rw [if_neg (by rw [h]; decide)] at q'
      walk_at "rd"
      exact q'
theorem ok_Not_shown (T : Txt K mg t) (D_shown : ∀ C, isFm t C → MeS P w K mg base (n + 2) C "shown" ["self", "names"] (spAt (spShown t n) C)) : MeS P w K mg base (n + 3) t.C_Not "shown" ["self", "names"] (spAt (spShown t (n + 1)) t.C_Not) := by
  refine ⟨T.c_Not, _, _, T.F_Not_shown.ok sc_Not_shown (fun vs H Q E h => ?_) (fun cdv A outer s H vs Q E hr h => ?_), T.b_Not_shown, T.h_Not_shown⟩
  · obtain ⟨⟨p, nl, f, ns, rfl, _⟩, _⟩ := h
    rfl
  · obtain ⟨⟨p, nl, f, ns, rfl, hf, hn, h20, hlow, hwt, q⟩, a, dx, fs, r, e, ea⟩ := h
    cases e
    obtain ⟨g, p', rfl, rfl, hg⟩ := hf.neg T ea
    simp only [Fm.low] at hlow
    simp only [fWt] at hwt
    have G_bracketed := ok_bracketed (P := P) (w := w) (base := base) T
    obtain ⟨C, dx', fs', e', hC, hl⟩ := hg.ins "shown" (by decide +kernel) (by decide +kernel) (by decide +kernel) (by decide +kernel)
    have hsl := shown_len h20 g
    have hbl := brk_len (decide (1 ≤ fLoose g)) (fShown ns g)
    have l0 : Str.length Str.empty = 0 := rfl
    have l1 : Str.length "not " = 4 := by decide +kernel
    refine ⟨_, (pss_cons (ss 2 sc_Not_shown.nd (pe_fn G_bracketed hr (pa_cons (pe_fld (pv 0) rfl) (pa_cons (pe_dy D_shown hr (pe_fld (pv 0) rfl) (pa_cons (pv 1) pa_nil)) (pa_cons pe_int pa_nil)))))
      (pss_one (ps_ret (pe_joined (pj_cons pe_str (pj_cons (pe_fmt (pv 2)) pj_nil)))))), ?_⟩
    walk_at "rd0"
    refine ⟨p, _, _, _, _, rfl, ea, T.c_Not, T.n_Not_part, lk1 _ _, ?_⟩
    walk_at "rd"
    refine ⟨p, _, _, _, _, rfl, ea, T.c_Not, T.n_Not_part, lk1 _ _, ?_⟩
    walk_at "rd"
    refine ⟨p', C, dx', fs', rfl, e', hC, hl, ?_⟩
    walk_at "rd"
    refine ⟨e', p', nl, g, ns, rfl, hg, hn, h20, hlow, by omega, fun H1 s1 => ?_⟩
    walk_at "rd"
    cases n with
    | zero => exact hg.elim
    | succ n =>
      refine ⟨p', g, n, 1, _, rfl, FmAt.mono (Ext.of s1) hg, by omega, ?_⟩
      walk_at "rd"
      refine ⟨_, rfl, small (by rw [len_append]; omega), ?_⟩
      walk_at "rd"
      refine ⟨_, rfl, small (by omega), _, rfl, small (by rw [len_append, len_append]; omega), ?_⟩
      refine i_jn (by rw [len_append, len_append]; omega) ?_
      have := q H1 s1
      simpa only [fShown] using this
theorem ok_Joined_shown {v : W3} (T : Txt K mg t) (cl : Cls K (cw t v)) (na : NoAttr K (cw t v) "parts") (me : Meth K (cw t v) "shown" t.f_Joined_shown) (D_shown : ∀ C, isFm t C → MeS P w K mg base (n + 2) C "shown" ["self", "names"] (spAt (spShown t n) C)) : MeS P w K mg base (n + 3) (cw t v) "shown" ["self", "names"] (spAt (spShown t (n + 1)) (cw t v)) := by
  refine ⟨cl, _, _, T.F_Joined_shown.ok sc_Joined_shown (fun vs H Q E h => ?_) (fun cdv A outer s H vs Q E hr h => ?_), T.b_Joined_shown, me⟩
  · obtain ⟨⟨p, nl, f, ns, rfl, _⟩, _⟩ := h
    rfl
  · obtain ⟨⟨p, nl, f, ns, rfl, hf, hn, h20, hlow, hwt, q⟩, a, dx, fs, r, e, ea⟩ := h
    cases e
    obtain ⟨gs, tp, ps, rfl, rfl, htp, hg⟩ := hf.join T ea
    rw [low_join, List.all_eq_true] at hlow
    simp only [fWt] at hwt
    have G_bracketed := ok_bracketed (P := P) (w := w) (base := base) T
    have D_looseness := D_looseness_of (P := P) (w := w) (base := base) T
    have D_between := D_between_of (P := P) (w := w) (base := base) T
    obtain ⟨C0, dx0, fs0, e0, hC0, hl0⟩ := hf.ins "looseness" (by decide +kernel) (by decide +kernel) (by decide +kernel) (by decide +kernel)
    refine ⟨_, (pss_cons (ss 2 sc_Joined_shown.nd (pe_lst pa_nil))
      (pss_cons (ps_for PassesOwn.never rfl (pi_seq (pe_fld (pv 0) rfl)) (sg 3 sc_Joined_shown.nd)
      (pss_one (ps_expr (pe_bm PySem.F.plainAttrs_list PySem.F.slot_list_append PySem.F.type_list_append mt_append (pv 2) (pa_cons (pe_fn G_bracketed hr (pa_cons (pv 3) (pa_cons (pe_dy D_shown hr (pv 3) (pa_cons (pv 1) pa_nil)) (pa_cons (pe_dy0 D_looseness hr (pv 0)) pa_nil)))) pa_nil)))))
      (pss_one (ps_ret (pe_bm PySem.F.plainAttrs_str PySem.F.slot_str_join PySem.F.type_str_join ms_join (pe_dy0 D_between hr (pv 0)) (pa_cons (pv 2) pa_nil)))))), ?_⟩
    walk_at "rd0"
    refine j_lst (by simp) fun tl H1 s1 n1 e1 => ?_
    walk_at "rd"
    refine ⟨p, _, _, _, _, rfl, s1 _ _ ea, cl, na, lk1 _ _, ?_⟩
    refine seqT (xs := ps.map V.ref) (fun i σ H' => Same H H' ∧ H' tl = some (.lst (((gs.take i).map (partS ns (rank3 v))).map V.str)) ∧ ∃ v3, σ = [some (.ref p), some (.ref nl), some (.ref tl), v3]) ⟨s1, e1, _, rfl⟩ (fun i σ H' _ hp => by obtain ⟨s2, _⟩ := hp; exact SqT.of (s2 _ _ htp)) ?_ ?_
    · rintro i x σ H2 hx ⟨s2, e2, v3, rfl⟩
      obtain ⟨p', rfl, hx'⟩ := get_ref hx
      obtain ⟨g, hgi, hf'⟩ := paired_get hg hx'
      have hgm := List.mem_of_getElem? hgi
      have hgw := wt_mem hgm
      have hsl := shown_len h20 g
      have hf2 := FmAt.mono (Ext.of s2) hf'
      obtain ⟨C, dx', fs', e', hC, hl⟩ := hf2.ins "shown" (by decide +kernel) (by decide +kernel) (by decide +kernel) (by decide +kernel)
      walk_at "rd"
      refine ⟨tyL e2, ?_⟩
      walk_at "rd"
      refine ⟨p', C, dx', fs', rfl, e', hC, hl, ?_⟩
      walk_at "rd"
      refine ⟨e', p', nl, g, ns, rfl, hf2, s2 _ _ hn, h20, hlow g hgm, by omega, fun H3 s3 => ?_⟩
      walk_at "rd"
      refine ⟨p, C0, dx0, fs0, rfl, s3 _ _ (s2 _ _ e0), hC0, hl0, ?_⟩
      walk_at "rd"
      have hfj := FmAt.mono (Ext.of (s2.trans s3)) hf
      refine ⟨s3 _ _ (s2 _ _ e0), p, _, n, rfl, hfj, ?_⟩
      walk_at "rd"
      cases n with
      | zero => exact hf'.elim
      | succ n =>
        refine ⟨p', g, n, rank3 v, _, rfl, FmAt.mono (Ext.of s3) hf2, by omega, ?_⟩
        walk_at "rd"
        refine j_append (s3 _ _ e2) (by rw [List.length_map, List.length_map, List.length_take]; have := wt_len gs; omega) fun H4 b4 e4 => ?_
        walk_at "rd"
        refine ⟨b4.same n1 (s2.trans s3), ?_, _, rfl⟩
        rw [take_snoc hgi, List.map_append, List.map_append]
        exact e4
    · rintro σ H2 ⟨s2, e2, v3, rfl⟩
      rw [List.length_map, paired_len hg, List.take_length] at e2
      walk_at "rd"
      refine ⟨p, _, dx, _, rfl, s2 _ _ ea, ⟨v, rfl⟩, lk0 _ (by decide +kernel), ?_⟩
      walk_at "rd"
      refine ⟨s2 _ _ ea, p, dx, _, v, rfl, s2 _ _ ea, ?_⟩
      walk_at "rd"
      refine ⟨tyS, ?_⟩
      walk_at "rd"
      refine ⟨_, tl, _, rfl, rfl, SqL.of e2, joinOk_shown h20 v gs (by omega), ?_⟩
      have := q H2 s2
      rw [shown_join] at this
      exact this
theorem me_noneK {k : Nat} {C f : Addr} {fd : FuncData} {m : Str} {ps : List Str} {sp : Sp} (no : ∀ vs H Q E, ¬ sp vs H Q E) (c : Cls K C) (b : Binds K fd ps []) (h : Meth K C m f) : MeS P w K mg base k C m ps sp :=
  ⟨c, f, fd, ⟨fun vs H Q E h => absurd h (no vs H Q E), fun A outer s H args us vs Q E _ _ _ _ h => absurd h (no vs H Q E)⟩, b, h⟩
theorem D_shown_of (T : Txt K mg t) : ∀ n : Nat, ∀ C, isFm t C → MeS P w K mg base (n + 2) C "shown" ["self", "names"] (spAt (spShown t n) C)
  | 0 => by
    have no : ∀ C vs H Q E, ¬ spAt (spShown t 0) C vs H Q E := fun C vs H Q E h => by
      obtain ⟨⟨p, nl, f, ns, _, h, _⟩, _⟩ := h
      exact h
    rintro C (rfl | rfl | rfl | rfl | rfl | rfl)
    · exact me_noneK (no _) T.c_Lamp T.b_Lamp_shown T.h_Lamp_shown
    · exact me_noneK (no _) T.c_Sure T.b_Sure_shown T.h_Sure_shown
    · exact me_noneK (no _) T.c_Not T.b_Not_shown T.h_Not_shown
    · exact me_noneK (no _) T.c_And T.b_Joined_shown T.h_And_shown
    · exact me_noneK (no _) T.c_Either T.b_Joined_shown T.h_Either_shown
    · exact me_noneK (no _) T.c_Or T.b_Joined_shown T.h_Or_shown
  | n + 1 => by
    have ih := D_shown_of T n
    rintro C (rfl | rfl | rfl | rfl | rfl | rfl)
    · exact ok_Lamp_shown T
    · exact ok_Sure_shown T
    · exact ok_Not_shown T ih
    · exact ok_Joined_shown (v := .a) T T.c_And T.n_And_parts T.h_And_shown ih
    · exact ok_Joined_shown (v := .e) T T.c_Either T.n_Either_parts T.h_Either_shown ih
    · exact ok_Joined_shown (v := .o) T T.c_Or T.n_Or_parts T.h_Or_shown ih

end


end LW

set_option maxRecDepth 100000
set_option maxHeartbeats 4000000
open PySem L2

namespace LW
open PySem L2 EM
def kindS : Fm → Str
  | .lamp _ => "lamp"
  | .sure _ => "sure"
  | .neg _ => "not"
  | .join .a _ => "and"
  | .join .e _ => "either"
  | .join .o _ => "or"
def kw3 : W3 → Str
  | .a => "and"
  | .e => "either"
  | .o => "or"
def TrAt (S : Addr → Prop) (H : Hp) : Nat → Addr → Fm → Prop
  | 0, _, _ => False
  | n + 1, p, f => match f with
    | .lamp k => H p = some (.tup [.str "lamp", .int (k : Int)])
    | .sure b => H p = some (.tup [.str "sure", .bl b])
    | .neg g => ∃ l q, H p = some (.tup [.str "not", .ref l]) ∧ S l ∧ H l = some (.lst [.ref q]) ∧ TrAt S H n q g
    | .join w gs => ∃ l ps, H p = some (.tup [.str (kw3 w), .ref l]) ∧ S l ∧ H l = some (.lst (ps.map V.ref)) ∧ Paired (TrAt S H n) ps gs
theorem TrAt.imp {S S' : Addr → Prop} {H H' : Hp} (ht : ∀ p xs, H p = some (.tup xs) → H' p = some (.tup xs)) (hl : ∀ l xs, S l → H l = some (.lst xs) → S' l ∧ H' l = some (.lst xs)) : ∀ {n : Nat} {p : Addr} {f : Fm}, TrAt S H n p f → TrAt S' H' n p f
  | 0, _, _, h => h
  | n + 1, p, f, h => by
    cases f with
    | lamp k => exact ht _ _ h
    | sure b => exact ht _ _ h
    | neg g => obtain ⟨l, q, e, sl, e2, h⟩ := h; exact ⟨l, q, ht _ _ e, (hl _ _ sl e2).1, (hl _ _ sl e2).2, TrAt.imp ht hl h⟩
    | join w gs => obtain ⟨l, ps, e, sl, e2, h⟩ := h; exact ⟨l, ps, ht _ _ e, (hl _ _ sl e2).1, (hl _ _ sl e2).2, paired_imp (fun a b h => TrAt.imp ht hl h) h⟩
theorem TrAt.same {S : Addr → Prop} {H H' : Hp} (s : Same H H') {n : Nat} {p : Addr} {f : Fm} (h : TrAt S H n p f) : TrAt S H' n p f := h.imp (fun _ _ e => s _ _ e) fun _ _ z e => ⟨z, s _ _ e⟩
theorem TrAt.le {S : Addr → Prop} {H : Hp} : ∀ {n m : Nat} {p : Addr} {f : Fm}, n ≤ m → TrAt S H n p f → TrAt S H m p f
  | 0, _, _, _, _, h => h.elim
  | n + 1, 0, _, _, hm, _ => absurd hm (by omega)
  | n + 1, m + 1, p, f, hm, h => by
    have hm' : n ≤ m := by omega
    cases f with
    | lamp k => exact h
    | sure b => exact h
    | neg g => obtain ⟨l, q, e, sl, e2, h⟩ := h; exact ⟨l, q, e, sl, e2, TrAt.le hm' h⟩
    | join w gs => obtain ⟨l, ps, e, sl, e2, h⟩ := h; exact ⟨l, ps, e, sl, e2, paired_imp (fun a b h => TrAt.le hm' h) h⟩
theorem kind_join (w : W3) (gs : List Fm) : kindS (.join w gs) = kw3 w := by cases w <;> rfl
theorem TrAt.kind {S : Addr → Prop} {H : Hp} {n : Nat} {p : Addr} {f : Fm} (h : TrAt S H n p f) : ∃ v, H p = some (.tup [.str (kindS f), v]) := by
  cases n with
  | zero => exact h.elim
  | succ n =>
    cases f with
    | lamp k => exact ⟨_, h⟩
    | sure b => exact ⟨_, h⟩
    | neg g => obtain ⟨l, q, e, _⟩ := h; exact ⟨_, e⟩
    | join w gs => obtain ⟨l, ps, e, _⟩ := h; exact ⟨_, by rw [kind_join]; exact e⟩
mutual
/-- every join has a part -/
def fOk : Fm → Bool
  | .lamp _ => true
  | .sure _ => true
  | .neg f => fOk f
  | .join _ fs => decide (fs ≠ []) && fOkL fs
def fOkL : List Fm → Bool
  | [] => true
  | f :: fs => fOk f && fOkL fs
end
theorem fOkL_eq : ∀ fs : List Fm, fOkL fs = fs.all fOk
  | [] => by simp [fOkL]
  | f :: fs => by simp [fOkL, fOkL_eq fs]
theorem join_snoc (sep : Str) (xs : List Str) (x : Str) : Txt.join sep (xs ++ [x]) = if xs = [] then x else Txt.join sep xs ++ sep ++ x := by
  cases xs with
  | nil => rfl
  | cons y ys =>
    rw [if_neg (List.cons_ne_nil _ _)]
    show Builtin.Str.glued sep _ = Builtin.Str.glued sep _ ++ _ ++ _
    unfold Builtin.Str.glued
    simp only [List.cons_append, List.drop_succ_cons, List.drop_zero, List.foldl_append, List.foldl_cons, List.foldl_nil, List.headD_cons]
    rfl
theorem brk_ne {b : Bool} {z : Str} (h : z.length ≠ 0) : (brk b z).length ≠ 0 := by
  unfold brk
  split
  · rw [len_append, len_append]
    omega
  · exact h
theorem join_ne {sep : Str} {xs : List Str} (h0 : xs ≠ []) (h : ∀ x ∈ xs, x.length ≠ 0) : (Txt.join sep xs).length ≠ 0 := by
  rcases List.eq_nil_or_concat xs with rfl | ⟨ys, y, rfl⟩
  · exact absurd rfl h0
  · rw [List.concat_eq_append, join_snoc]
    have := h y (by simp)
    split
    · exact this
    · rw [len_append]
      omega
mutual
theorem shown_ne {ns : List Str} (hne : ∀ z ∈ ns, z.length ≠ 0) : ∀ f : Fm, f.low ns.length = true → fOk f = true → (fShown ns f).length ≠ 0
  | .lamp k, hl, _ => by
    simp only [Fm.low, decide_eq_true_iff] at hl
    simp only [fShown]
    rw [List.getD_eq_getElem?_getD, List.getElem?_eq_getElem hl]
    exact hne _ (List.getElem_mem hl)
  | .sure b, _, _ => by cases b <;> simp only [fShown] <;> decide +kernel
  | .neg f, _, _ => by
    simp only [fShown]
    rw [len_append, len_append]
    have : Str.length "not " = 4 := by decide +kernel
    omega
  | .join w fs, hl, hk => by
    simp only [Fm.low] at hl
    simp only [fOk, Bool.and_eq_true, decide_eq_true_iff] at hk
    simp only [fShown]
    refine join_ne ?_ (shownL_ne hne (rank3 w) fs hl hk.2)
    cases fs with
    | nil => exact absurd rfl hk.1
    | cons g gs => simp only [fShownL]; exact List.cons_ne_nil _ _
theorem shownL_ne {ns : List Str} (hne : ∀ z ∈ ns, z.length ≠ 0) (r : Nat) : ∀ fs : List Fm, Fm.lowL ns.length fs = true → fOkL fs = true → ∀ x ∈ fShownL ns r fs, x.length ≠ 0
  | [], _, _, x, hx => by simp [fShownL] at hx
  | f :: fs, hl, hk, x, hx => by
    simp only [Fm.lowL, Bool.and_eq_true] at hl
    simp only [fOkL, Bool.and_eq_true] at hk
    simp only [fShownL, List.mem_cons] at hx
    rcases hx with rfl | hx
    · exact brk_ne (shown_ne hne f hl.1 hk.1)
    · exact shownL_ne hne r fs hl.2 hk.2 x hx
end
section
variable {P : Program} {w : World} {K : PySem.W.Frag} {mg : Str → Option Value} {base : Heap} {t : Ad} {n : Nat}
theorem i_dget2 {td ty tx : TE} {σ : St} {H : Hp} {Q : VK} (h : td σ H fun x H1 => ∃ a, x = .ref a ∧ IsD H1 a ∧ ty σ H1 fun y H2 => tx σ H2 fun z H3 => ∃ o, DGet H3 a y o ∧ Q (o.getD z) H3) : tDGet2 td ty tx σ H Q := h
theorem i_disp {trs : List (TE × TE)} {σ : St} {H : Hp} {Q : VK} (h : ∀ p, H p = none → tPairs trs σ (upd H p (.dK [])) fun ps H2 => H2 p = some (.dK []) ∧ ∃ kvs : List (Key × V), ps = kvs.map (fun kv => (kV kv.1, kv.2)) ∧ kvs.length ≤ 15 ∧ Q (.ref p) (upd H2 p (.dK (mergeK [] kvs)))) : tDisp trs σ H Q := h
def spRank : Sp := fun vs H Q _ => ∃ (f : Fm), vs = [.str (kindS f)] ∧ ∀ H', Same H H' → Q (.int (fLoose f : Int)) H'
theorem ok_rank (T : Txt K mg t) : FnS P w K mg base 1 "_law_rank" ["_law_kind"] (spRank) := by
  refine ⟨_, _, T.F__law_rank.ok sc__law_rank (fun vs H Q E h => ?_) (fun cdv A outer s H vs Q E hr h => ?_), T.b__law_rank, T.F__law_rank.kp, T.m__law_rank⟩
  · obtain ⟨f, rfl, q⟩ := h
    rfl
  obtain ⟨f, rfl, q⟩ := h
  refine ⟨_, (pss_one (ps_ret (pe_dget2 (Nat.lt_of_le_of_lt (Nat.add_le_add_left (by decide) _) hr.units) (pe_disp (pps_cons pe_str pe_int (pps_cons pe_str pe_int (pps_cons pe_str pe_int pps_nil))) rfl rfl (List.cons_ne_nil _ _) (Nat.le_of_ble_eq_true rfl)) (pv 0) pe_int ⟨rfl, rfl, rfl, rfl⟩))), ?_⟩
  walk_at "rd0"
  refine i_dget2 ?_
  refine i_disp fun d hd => ?_
  simp only [tPairs]
  walk_at "rd"
  refine ⟨upd_same, [(Sum.inr "and", .int 1), (Sum.inr "either", .int 2), (Sum.inr "or", .int 3)], rfl, by decide, d, rfl, .inl ⟨_, .inl upd_same⟩, ?_⟩
  walk_at "rd"
  refine ⟨_, DGet.k (k := Sum.inr (kindS f)) upd_same, ?_⟩
  have e : (valV (mergeK [] [(Sum.inr "and", V.int 1), (Sum.inr "either", .int 2), (Sum.inr "or", .int 3)]) (Sum.inr (kindS f) : Key)).getD (.int 0) = .int (fLoose f : Int) := by
    cases f with
    | lamp k => rfl
    | sure b => rfl
    | neg g => rfl
    | join w gs => cases w <;> rfl
  rw [e]
  refine q _ fun b u hb => ?_
  have hbd : b ≠ d := ne_of_none hb hd
  rw [upd_ne hbd, upd_ne hbd]
  exact hb
end

theorem i_join {t u : TS} {D : Ends} {σ : St} {H : Hp} (Pn : St → Hp → Prop) (h2 : ∀ σ H, Pn σ H → u D σ H) (h1 : ∀ Kn : St → Hp → Prop, (∀ σ H, Pn σ H → Kn σ H) → t { D with nx := Kn } σ H) : tSeq t u D σ H := h1 (u D) h2
theorem empty_app (x : Str) : Str.empty ++ x = x := by
  show Str.append Str.empty x = x
  unfold Str.append Str.empty
  simp
theorem str_assoc (x y z : Str) : x ++ y ++ z = x ++ (y ++ z) := by
  show Str.append (Str.append x y) z = Str.append x (Str.append y z)
  unfold Str.append
  simp [Array.append_assoc]
theorem brk_t (z : Str) : brk true z = "(" ++ z ++ ")" := by unfold brk; rw [if_pos rfl, empty_app]
theorem brk_f (z : Str) : brk false z = z := by unfold brk; rw [if_neg (by decide)]
theorem word_eq (w : W3) : (" " : Str) ++ kw3 w ++ (" " : Str) = word3 w := by cases w <;> decide +kernel
theorem rank_join (w : W3) (gs : List Fm) : fLoose (.join w gs) = rank3 w := rfl
theorem rank_pos (w : W3) : 1 ≤ rank3 w := by cases w <;> decide
theorem kw_ne (w : W3) : kw3 w ≠ "lamp" ∧ kw3 w ≠ "sure" ∧ kw3 w ≠ "not" := by cases w <;> decide +kernel
theorem joinL_len {ns : List Str} (h : ∀ z ∈ ns, z.length ≤ 20) (w : W3) (fs : List Fm) : (Txt.join (word3 w) (fs.map (partS ns (rank3 w)))).length ≤ 20 * fWtL fs := by
  rw [← shownL_eq]
  have a := shownL_len h (rank3 w) fs
  have b := word3_len w
  have c : (Txt.join (word3 w) (fShownL ns (rank3 w) fs)).length ≤ ((fShownL ns (rank3 w) fs).map (·.length)).sum + (fShownL ns (rank3 w) fs).length * (word3 w).length := by
    show (Builtin.Str.glued _ _).length ≤ _
    rw [StrLaws.glued_eq_join]
    exact StrLaws.join_length_le _ _
  have d : (fShownL ns (rank3 w) fs).length * (word3 w).length ≤ (fShownL ns (rank3 w) fs).length * 8 := Nat.mul_le_mul_left _ b
  omega
theorem wt_take : ∀ (fs : List Fm) (i : Nat), fWtL (fs.take i) ≤ fWtL fs
  | [], i => by rw [List.take_nil]; exact Nat.le_refl _
  | f :: fs, 0 => by rw [List.take_zero]; simp [fWtL]
  | f :: fs, i + 1 => by
    rw [List.take_succ_cons]
    simp only [fWtL]
    have := wt_take fs i
    omega
section
variable {P : Program} {w : World} {K : PySem.W.Frag} {mg : Str → Option Value} {base : Heap} {t : Ad} {n : Nat}
def anyA : Addr → Prop := fun _ => True
def spLine (n : Nat) : Sp := fun vs H Q _ => ∃ (p nl : Addr) (f : Fm) (ns : List Str), vs = [.ref p, .ref nl] ∧ TrAt anyA H n p f ∧ H nl = some (.lst (ns.map V.str)) ∧ (∀ z ∈ ns, z.length ≤ 20) ∧ (∀ z ∈ ns, z.length ≠ 0) ∧ f.low ns.length = true ∧ fOk f = true ∧ fWt f ≤ 1000 ∧ ∀ H', Same H H' → Q (.str (fShown ns f)) H'
theorem G_line_of (T : Txt K mg t) : ∀ n : Nat, FnS P w K mg base (n + 2) "_law_line" ["_law_tree_here", "_law_names_here"] (spLine n)
  | 0 => by
    have no : ∀ vs H Q E, ¬ spLine 0 vs H Q E := fun vs H Q E h => by
      obtain ⟨p, nl, f, ns, _, h, _⟩ := h
      exact h
    exact ⟨_, _, ⟨fun vs H Q E h => absurd h (no vs H Q E), fun A outer s H args us vs Q E _ _ _ _ h => absurd h (no vs H Q E)⟩, T.b__law_line, T.F__law_line.kp, T.m__law_line⟩
  | n + 1 => by
    have G__law_line := G_line_of T n
    refine ⟨_, _, T.F__law_line.ok sc__law_line (fun vs H Q E h => ?_) (fun cdv A outer s H vs Q E hr h => ?_), T.b__law_line, T.F__law_line.kp, T.m__law_line⟩
    · obtain ⟨p, nl, f, ns, rfl, _⟩ := h
      rfl
    obtain ⟨p, nl, f, ns, rfl, hf, hn, h20, hne, hlow, hok, hwt, q⟩ := h
    have G__law_rank := ok_rank (P := P) (w := w) (base := base) T
    have lp1 : Str.length "(" = 1 := by decide +kernel
    have lp2 : Str.length ")" = 1 := by decide +kernel
    have lp3 : Str.length "not " = 4 := by decide +kernel
    have lp4 : Str.length " " = 1 := by decide +kernel
    refine ⟨_, (pss_cons (ss 2 sc__law_line.nd (pe_ix ix_seq (pv 0) pe_int (fun _ _ => rfl)))
      (pss_cons (ps_if (pt_cmpR (op_eqA hr.units) (pv 2) pe_str (nomark _))
      (pss_one (ps_ret (pe_ix ix_seq (pv 1) (pe_ix ix_seq (pv 0) pe_int (fun _ _ => rfl)) (fun _ _ => rfl))))
      pss_nil)
      (pss_cons (ps_if (pt_cmpR (op_eqA hr.units) (pv 2) pe_str (nomark _))
      (pss_one (ps_ret (pe_ix ix_seq (pe_lst (pa_cons pe_str (pa_cons pe_str pa_nil))) (pe_callTy call_intG rfl T.B.int bt_int (pa_cons (pe_ix ix_seq (pv 0) pe_int (fun _ _ => rfl)) pa_nil)) (fun _ _ => rfl))))
      pss_nil)
      (pss_cons (ss 3 sc__law_line.nd pe_str)
      (pss_cons (ps_for PassesOwn.never rfl (pi_seq (pe_ix ix_seq (pv 0) pe_int (fun _ _ => rfl))) (sg 4 sc__law_line.nd)
      (pss_cons (ss 5 sc__law_line.nd (pe_fn G__law_line hr (pa_cons (pv 4) (pa_cons (pv 1) pa_nil))))
      (pss_cons (ps_if (pt_cmpR op_ge (pe_fn G__law_rank hr (pa_cons (pe_ix ix_seq (pv 4) pe_int (fun _ _ => rfl)) pa_nil)) (pe_callB (call_maxG rfl) rfl T.B.max bt_max (pa_cons pe_int (pa_cons (pe_fn G__law_rank hr (pa_cons (pv 2) pa_nil)) pa_nil))) (nomark _))
      (pss_one (ss 5 sc__law_line.nd (pe_op op_addG (pe_op op_addG pe_str (pv 5)) pe_str)))
      pss_nil)
      (pss_cons (ps_if (pt_cmpR (op_eqA hr.units) (pv 2) pe_str (nomark _))
      (pss_one (ps_ret (pe_op op_addG pe_str (pv 5))))
      pss_nil)
      (pss_cons (ps_if (pt_cmpR (op_neA hr.units) (pv 3) pe_str (nomark _))
      (pss_one (ss 3 sc__law_line.nd (pe_op op_addG (pe_op op_addG (pe_op op_addG (pv 3) pe_str) (pv 2)) pe_str)))
      pss_nil)
      (pss_one (ss 3 sc__law_line.nd (pe_op op_addG (pv 3) (pv 5)))))))))
      (pss_one (ps_ret (pv 3)))))))), ?_⟩
    walk_at "rd0"
    cases f with
    | lamp k =>
      have hp : H p = some (.tup [.str "lamp", .int (k : Int)]) := hf
      simp only [Fm.low, decide_eq_true_iff] at hlow
      refine i_ixT hp (v := .str "lamp") rfl ?_
      walk_at "rd"
      refine i_ifT (by decide +kernel) ?_
      walk_at "rd"
      refine i_ixT hp (v := .int (k : Int)) rfl ?_
      walk_at "rd"
      refine i_ixL (v := .str (ns.getD k Str.empty)) hn (by rw [List.getElem?_map, List.getD_eq_getElem?_getD, List.getElem?_eq_getElem hlow]; rfl) ?_
      have := q H (Same.refl _)
      simpa only [fShown] using this
    | sure b =>
      have hp : H p = some (.tup [.str "sure", .bl b]) := hf
      refine i_ixT hp (v := .str "sure") rfl ?_
      walk_at "rd"
      refine i_ifF (by decide +kernel) ?_
      walk_at "rd"
      refine i_ifT (by decide +kernel) ?_
      walk_at "rd"
      refine j_lst (by simp) fun l1 H1 s1 n1 e1 => ?_
      walk_at "rd"
      refine i_ixT (s1 _ _ hp) (v := .bl b) rfl ?_
      walk_at "rd"
      have q' := q H1 s1
      simp only [fShown] at q'
      cases b with
      | true => exact i_ixL (j := 1) e1 rfl q'
      | false => exact i_ixL (j := 0) e1 rfl q'
    | neg g =>
      obtain ⟨l, q1, hp, _, hl, hg⟩ := hf
      simp only [Fm.low] at hlow
      simp only [fOk] at hok
      simp only [fWt] at hwt
      have hsl := shown_len h20 g
      refine i_ixT hp (v := .str "not") rfl ?_
      walk_at "rd"
      refine i_ifF (by decide +kernel) ?_
      walk_at "rd"
      refine i_ifF (by decide +kernel) ?_
      walk_at "rd"
      refine i_ixT hp (v := .ref l) rfl ?_
      refine seqL (xs := [.ref q1]) (fun i σ H' => i = 0 ∧ H' = H ∧ σ = [some (.ref p), some (.ref nl), some (.str "not"), some (.str ""), none, none]) ⟨rfl, rfl, rfl⟩ (fun i σ H' _ hp => by obtain ⟨_, rfl, _⟩ := hp; exact SqL.of hl) ?_ ?_
      · rintro i x σ H' hx ⟨rfl, rfl, rfl⟩
        obtain rfl : x = .ref q1 := by simpa using hx.symm
        obtain ⟨kv, hk⟩ := hg.kind
        walk_at "rd"
        refine ⟨q1, nl, g, ns, rfl, hg, hn, h20, hne, hlow, hok, by omega, fun H1 s1 => ?_⟩
        walk_at "rd"
        refine i_ixT (s1 _ _ hk) (v := .str (kindS g)) rfl ?_
        walk_at "rd"
        refine ⟨g, rfl, fun H2 s2 => ?_⟩
        walk_at "rd"
        refine ⟨.neg g, rfl, fun H3 s3 => ?_⟩
        walk_at "rd"
        have q' := q H3 (s1.trans (s2.trans s3))
        simp only [fShown] at q'
        rw [empty_app] at q'
        have hbl := brk_len (decide (1 ≤ fLoose g)) (fShown ns g)
        have e0 : fLoose (.neg g) = 0 := rfl
        rw [e0]
        refine i_ifd (fun h => ?_) (fun h => ?_)
        · rw [decide_eq_true (by omega), brk_t] at q'
          walk_at "rd"
          refine i_addS (small (by omega)) ?_
          walk_at "rd"
          refine i_addS (small (by rw [len_append]; omega)) ?_
          walk_at "rd"
          refine i_ifT (by decide +kernel) ?_
          walk_at "rd"
          refine i_addS (small (by rw [len_append, len_append]; omega)) ?_
          exact q'
        · rw [decide_eq_false (by omega), brk_f] at q'
          walk_at "rd"
          refine i_ifT (by decide +kernel) ?_
          walk_at "rd"
          refine i_addS (small (by omega)) ?_
          exact q'
      · rintro σ H' ⟨h, _⟩
        exact absurd h (by simp)
    | join v gs =>
      obtain ⟨l, ps, hp, _, hl, hg⟩ := hf
      rw [low_join, List.all_eq_true] at hlow
      simp only [fOk, Bool.and_eq_true] at hok
      rw [fOkL_eq, List.all_eq_true] at hok
      simp only [fWt] at hwt
      obtain ⟨kn1, kn2, kn3⟩ := kw_ne v
      have lw := word3_len v
      have lk : (kw3 v).length ≤ 6 := by cases v <;> decide +kernel
      refine i_ixT hp (v := .str (kw3 v)) rfl ?_
      walk_at "rd"
      refine i_ifF (decide_eq_false kn1) ?_
      walk_at "rd"
      refine i_ifF (decide_eq_false kn2) ?_
      walk_at "rd"
      refine i_ixT hp (v := .ref l) rfl ?_
      refine seqL (xs := ps.map V.ref) (fun i σ H' => Same H H' ∧ ∃ v4 v5, σ = [some (.ref p), some (.ref nl), some (.str (kw3 v)), some (.str (Txt.join (word3 v) ((gs.take i).map (partS ns (rank3 v))))), v4, v5]) ⟨Same.refl _, _, _, rfl⟩ (fun i σ H' _ hp => by obtain ⟨s2, _⟩ := hp; exact SqL.of (s2 _ _ hl)) ?_ ?_
      · rintro i x σ H1 hx ⟨s1, v4, v5, rfl⟩
        obtain ⟨p', rfl, hx'⟩ := get_ref hx
        obtain ⟨g, hgi, hg'⟩ := paired_get hg hx'
        have hgm := List.mem_of_getElem? hgi
        have hgw := wt_mem hgm
        have hsl := shown_len h20 g
        have hbl := brk_len (decide (rank3 v ≤ fLoose g)) (fShown ns g)
        have hjl := joinL_len h20 v (gs.take i)
        have hwk := wt_take gs i
        have hg1 := hg'.same s1
        obtain ⟨kv, hk⟩ := hg1.kind
        have hgne := brk_ne (b := decide (rank3 v ≤ fLoose g)) (shown_ne hne g (hlow g hgm) (hok.2 g hgm))
        walk_at "rd"
        refine ⟨p', nl, g, ns, rfl, hg1, s1 _ _ hn, h20, hne, hlow g hgm, hok.2 g hgm, by omega, fun H2 s2 => ?_⟩
        walk_at "rs"
        refine i_join (fun σ H' => Same H H' ∧ σ = [some (.ref p), some (.ref nl), some (.str (kw3 v)), some (.str (Txt.join (word3 v) ((gs.take i).map (partS ns (rank3 v))))), some (.ref p'), some (.str (partS ns (rank3 v) g))]) ?_ ?_
        rotate_left
        · intro Kn hK
          walk_at "rs"
          refine i_ixT (s2 _ _ hk) (v := .str (kindS g)) rfl ?_
          walk_at "rd"
          refine ⟨g, rfl, fun H3 s3 => ?_⟩
          walk_at "rd"
          refine ⟨.join v gs, by rw [kind_join], fun H4 s4 => ?_⟩
          walk_at "rd"
          have rp := rank_pos v
          rw [rank_join]
          unfold partS at hK
          refine i_ifd (fun h => ?_) (fun h => ?_)
          · rw [decide_eq_true (show rank3 v ≤ fLoose g by omega), brk_t] at hK
            walk_at "rd"
            refine i_addS (small (by omega)) ?_
            walk_at "rd"
            refine i_addS (small (by rw [len_append]; omega)) ?_
            walk_at "rd"
            exact hK _ _ ⟨s1.trans (s2.trans (s3.trans s4)), rfl⟩
          · rw [decide_eq_false (show ¬ rank3 v ≤ fLoose g by omega), brk_f] at hK
            walk_at "rd"
            exact hK _ _ ⟨s1.trans (s2.trans (s3.trans s4)), rfl⟩
        rintro σ H5 ⟨s5, rfl⟩
        have hpl : (partS ns (rank3 v) g).length ≤ (fShown ns g).length + 2 := hbl
        have hpe : partS ns (rank3 v) g = brk (decide (rank3 v ≤ fLoose g)) (fShown ns g) := rfl
        have nx := join_snoc (word3 v) ((gs.take i).map (partS ns (rank3 v))) (partS ns (rank3 v) g)
        rw [← List.map_singleton (f := partS ns (rank3 v)), ← List.map_append, ← take_snoc hgi] at nx
        walk_at "rd"
        refine i_ifF (decide_eq_false kn3) ?_
        walk_at "rd"
        refine i_ifn (fun h => ?_) (fun h => ?_)
        · rw [if_neg (fun z => h (by rw [z]; rfl))] at nx
          walk_at "rd"
          refine i_addS (small (by omega)) ?_
          walk_at "rd"
          refine i_addS (small (by rw [len_append]; omega)) ?_
          walk_at "rd"
          refine i_addS (small (by rw [len_append, len_append]; omega)) ?_
          walk_at "rd"
          refine i_addS (small (by rw [len_append, len_append, len_append]; omega)) ?_
          walk_at "rd"
          refine ⟨s5, some (.ref p'), some (.str (partS ns (rank3 v) g)), ?_⟩
          have key : ∀ J X : Str, J ++ (" " : Str) ++ kw3 v ++ (" " : Str) ++ X = J ++ word3 v ++ X := fun J X => by rw [← word_eq v]; simp only [str_assoc]
          rw [nx, key]
        · have z : (gs.take i).map (partS ns (rank3 v)) = [] := by
            cases zz : (gs.take i).map (partS ns (rank3 v)) with
            | nil => rfl
            | cons a as =>
              refine absurd (congrArg Str.length h) ?_
              refine join_ne (by rw [zz]; exact List.cons_ne_nil _ _) fun x hx => ?_
              obtain ⟨g', hg', rfl⟩ := List.mem_map.mp hx
              have hm := List.mem_of_mem_take hg'
              exact brk_ne (shown_ne hne g' (hlow g' hm) (hok.2 g' hm))
          rw [if_pos z] at nx
          walk_at "rd"
          refine i_addS (small (by omega)) ?_
          walk_at "rd"
          refine ⟨s5, some (.ref p'), some (.str (partS ns (rank3 v) g)), ?_⟩
          rw [nx, h, show (("" : String) : Str) = Str.empty from rfl, empty_app]
      · rintro σ H1 ⟨s1, v4, v5, rfl⟩
        rw [List.length_map, paired_len hg, List.take_length]
        walk_at "rd"
        have := q H1 s1
        rw [shown_join] at this
        exact this
end

section
variable {P : Program} {w : World} {K : PySem.W.Frag} {mg : Str → Option Value} {base : Heap} {t : Ad} {n : Nat}
def isL (H : Hp) (x : Addr) : Prop := ∃ ys, H x = some (.lst ys)
theorem isL.but {H H' : Hp} {a x : Addr} {zs : List V} (h : isL H x) (b : But a H H') (e : H' a = some (.lst zs)) : isL H' x := by
  by_cases z : x = a
  · rw [z]; exact ⟨_, e⟩
  · obtain ⟨ys, h⟩ := h; exact ⟨ys, b _ _ z h⟩
theorem isL.same {H H' : Hp} {x : Addr} (h : isL H x) (s : Same H H') : isL H' x := by
  obtain ⟨ys, h⟩ := h; exact ⟨ys, s _ _ h⟩
def spMade (t : Ad) (n : Nat) : Sp := fun vs H Q _ => ∃ (p hl : Addr) (f : Fm) (hs : List Addr), vs = [.ref p, .ref hl] ∧ TrAt (fun l => l ≠ hl) H n p f ∧ H hl = some (.lst (hs.map V.ref)) ∧ hs.length + fWt f ≤ 900000 ∧
  ∀ H' q hs', But hl H H' → H' hl = some (.lst ((hs ++ hs').map V.ref)) → (∀ x ∈ hs', H x = none ∧ isL H' x) → hs'.length ≤ fWt f → FmAt t H' n q f → Q (.ref q) H'
theorem G_made_of (T : Txt K mg t) : ∀ n : Nat, FnS P w K mg base (n + 2) "_law_made" ["_law_tree_here", "_law_held"] (spMade t n)
  | 0 => by
    have no : ∀ vs H Q E, ¬ spMade t 0 vs H Q E := fun vs H Q E h => by
      obtain ⟨p, hl, f, hs, _, h, _⟩ := h
      exact h
    exact ⟨_, _, ⟨fun vs H Q E h => absurd h (no vs H Q E), fun A outer s H args us vs Q E _ _ _ _ h => absurd h (no vs H Q E)⟩, T.b__law_made, T.F__law_made.kp, T.m__law_made⟩
  | n + 1 => by
    have G__law_made := G_made_of T n
    refine ⟨_, _, T.F__law_made.ok sc__law_made (fun vs H Q E h => ?_) (fun cdv A outer s H vs Q E hr h => ?_), T.b__law_made, T.F__law_made.kp, T.m__law_made⟩
    · obtain ⟨p, hl, f, hs, rfl, _⟩ := h
      rfl
    obtain ⟨p, hl, f, hs, rfl, hf, hh, hwt, q⟩ := h
    have M_Lamp := ok_Lamp (P := P) (w := w) (base := base) T
    have M_Sure := ok_Sure (P := P) (w := w) (base := base) T
    have M_Not := ok_Not (P := P) (w := w) (base := base) T
    have M_And := ok_And (P := P) (w := w) (base := base) T
    have M_Or := ok_Or (P := P) (w := w) (base := base) T
    have M_Either := ok_Either (P := P) (w := w) (base := base) T
    have app0 : ∀ (xs : List Addr), (xs ++ []).map V.ref = xs.map V.ref := fun xs => by rw [List.append_nil]
    refine ⟨_, (pss_cons (ps_if (pt_cmpR (op_eqA hr.units) (pe_ix ix_seq (pv 0) pe_int (fun _ _ => rfl)) pe_str (nomark _))
      (pss_one (ps_ret (pe_mk M_Lamp hr (pa_cons (pe_ix ix_seq (pv 0) pe_int (fun _ _ => rfl)) pa_nil))))
      pss_nil)
      (pss_cons (ps_if (pt_cmpR (op_eqA hr.units) (pe_ix ix_seq (pv 0) pe_int (fun _ _ => rfl)) pe_str (nomark _))
      (pss_one (ps_ret (pe_mk M_Sure hr (pa_cons (pe_ix ix_seq (pv 0) pe_int (fun _ _ => rfl)) pa_nil))))
      pss_nil)
      (pss_cons (ss 2 sc__law_made.nd (pe_lst pa_nil))
      (pss_cons (ps_for PassesOwn.never rfl (pi_seq (pe_ix ix_seq (pv 0) pe_int (fun _ _ => rfl))) (sg 3 sc__law_made.nd)
      (pss_one (ps_expr (pe_bm PySem.F.plainAttrs_list PySem.F.slot_list_append PySem.F.type_list_append mt_append (pv 2) (pa_cons (pe_fn G__law_made hr (pa_cons (pv 3) (pa_cons (pv 1) pa_nil))) pa_nil)))))
      (pss_cons (ps_if (pt_cmpR (op_eqA hr.units) (pe_ix ix_seq (pv 0) pe_int (fun _ _ => rfl)) pe_str (nomark _))
      (pss_one (ps_ret (pe_mk M_Not hr (pa_cons (pe_ix ix_seq (pv 2) pe_int (fun _ _ => rfl)) pa_nil))))
      pss_nil)
      (pss_cons (ps_expr (pe_bm PySem.F.plainAttrs_list PySem.F.slot_list_append PySem.F.type_list_append mt_append (pv 1) (pa_cons (pv 2) pa_nil)))
      (pss_cons (ps_if (pt_cmpR (op_eqA hr.units) (pe_ix ix_seq (pv 0) pe_int (fun _ _ => rfl)) pe_str (nomark _))
      (pss_one (ps_ret (pe_mk M_And hr (pa_cons (pv 2) pa_nil))))
      pss_nil)
      (pss_cons (ps_if (pt_cmpR (op_eqA hr.units) (pe_ix ix_seq (pv 0) pe_int (fun _ _ => rfl)) pe_str (nomark _))
      (pss_one (ps_ret (pe_mk M_Either hr (pa_cons (pv 2) pa_nil))))
      pss_nil)
      (pss_one (ps_ret (pe_mk M_Or hr (pa_cons (pv 2) pa_nil)))))))))))), ?_⟩
    walk_at "rd0"
    cases f with
    | lamp k =>
      have hp : H p = some (.tup [.str "lamp", .int (k : Int)]) := hf
      refine i_ixT hp (v := .str "lamp") rfl ?_
      walk_at "rd"
      refine i_ifT (by decide +kernel) ?_
      walk_at "rd"
      refine i_ixT hp (v := .int (k : Int)) rfl ?_
      walk_at "rd"
      refine i_init1 fun x dx H1 s1 nx e1 => ?_
      exact q H1 x [] (fun b u _ e => s1 _ _ e) (by rw [app0]; exact s1 _ _ hh) (fun x hx => by cases hx) (Nat.zero_le _) ⟨dx, e1⟩
    | sure b =>
      have hp : H p = some (.tup [.str "sure", .bl b]) := hf
      refine i_ixT hp (v := .str "sure") rfl ?_
      walk_at "rd"
      refine i_ifF (by decide +kernel) ?_
      walk_at "rd"
      refine i_ixT hp (v := .str "sure") rfl ?_
      walk_at "rd"
      refine i_ifT (by decide +kernel) ?_
      walk_at "rd"
      refine i_ixT hp (v := .bl b) rfl ?_
      walk_at "rd"
      refine i_init1 fun x dx H1 s1 nx e1 => ?_
      exact q H1 x [] (fun b u _ e => s1 _ _ e) (by rw [app0]; exact s1 _ _ hh) (fun x hx => by cases hx) (Nat.zero_le _) ⟨dx, e1⟩
    | neg g =>
      obtain ⟨l, q1, hp, hll, hl1, hg⟩ := hf
      simp only [fWt] at hwt
      refine i_ixT hp (v := .str "not") rfl ?_
      walk_at "rd"
      refine i_ifF (by decide +kernel) ?_
      walk_at "rd"
      refine i_ixT hp (v := .str "not") rfl ?_
      walk_at "rd"
      refine i_ifF (by decide +kernel) ?_
      walk_at "rd"
      refine j_lst (by simp) fun pl H1 s1 n1 e1 => ?_
      have nph : pl ≠ hl := Ne.symm (ne_of_none hh n1)
      walk_at "rd"
      refine i_ixT (s1 _ _ hp) (v := .ref l) rfl ?_
      refine seqL (xs := [.ref q1]) (fun i σ H' => But hl H H' ∧ (i = 0 → H' = H1) ∧ (i = 1 → ∃ r hs', H' hl = some (.lst ((hs ++ hs').map V.ref)) ∧ H' pl = some (.lst [.ref r]) ∧ (∀ x ∈ hs', H x = none ∧ isL H' x) ∧ hs'.length ≤ fWt g ∧ FmAt t H' n r g) ∧ ∃ v3, σ = [some (.ref p), some (.ref hl), some (.ref pl), v3]) ⟨fun b u _ e => s1 _ _ e, fun _ => rfl, fun h => absurd h (by decide), _, rfl⟩ (fun i σ H' _ hp => by obtain ⟨b, _⟩ := hp; exact SqL.of (b _ _ hll hl1)) ?_ ?_
      · rintro i x σ H2 hx ⟨b2, h0, _, v3, rfl⟩
        have hi0 : i = 0 := by
          have := (List.getElem?_eq_some_iff.mp hx).1
          simp at this
          exact this
        subst hi0
        obtain rfl : x = .ref q1 := by simpa using hx.symm
        obtain rfl := h0 rfl
        walk_at "rd"
        refine ⟨tyL e1, ?_⟩
        walk_at "rd"
        refine ⟨q1, hl, g, hs, rfl, hg.same s1, s1 _ _ hh, by omega, fun H3 r hs' b3 e3 hx3 hz3 f3 => ?_⟩
        have ep := b3 _ _ nph e1
        walk_at "rd"
        refine j_append ep (by simp) fun H4 b4 e4 => ?_
        walk_at "rd"
        refine ⟨fun b u hb e => b4 _ _ (ne_of_none e n1) (b3 _ _ hb (s1 _ _ e)), fun h => absurd h (by decide), fun _ => ⟨r, hs', b4 _ _ (Ne.symm nph) e3, e4, fun x hx => ⟨s1.free (hx3 x hx).1, (hx3 x hx).2.but b4 e4⟩, hz3, FmAt.mono (b4.ext ep) f3⟩, _, rfl⟩
      · rintro σ H2 ⟨b2, _, h1, v3, rfl⟩
        obtain ⟨r, hs', e2, ep, hx2, hz2, f2⟩ := h1 rfl
        have hp2 := b2 _ _ (ne_of hp hh (by intro z; cases z)) hp
        walk_at "rd"
        refine i_ixT hp2 (v := .str "not") rfl ?_
        walk_at "rd"
        refine i_ifT (by decide +kernel) ?_
        walk_at "rd"
        refine i_ixL (j := 0) ep (v := .ref r) rfl ?_
        walk_at "rd"
        refine i_init1 fun x dx H3 s3 nx e3 => ?_
        exact q H3 x hs' (fun b u hb e => s3 _ _ (b2 _ _ hb e)) (s3 _ _ e2) (fun y hy => ⟨(hx2 y hy).1, (hx2 y hy).2.same s3⟩) (by simp only [fWt]; omega) ⟨dx, r, e3, FmAt.mono (Ext.of s3) f2⟩
    | join v gs =>
      obtain ⟨l, ps, hp, hll, hl1, hg⟩ := hf
      simp only [fWt] at hwt
      obtain ⟨kn1, kn2, kn3⟩ := kw_ne v
      refine i_ixT hp (v := .str (kw3 v)) rfl ?_
      walk_at "rd"
      refine i_ifF (decide_eq_false kn1) ?_
      walk_at "rd"
      refine i_ixT hp (v := .str (kw3 v)) rfl ?_
      walk_at "rd"
      refine i_ifF (decide_eq_false kn2) ?_
      walk_at "rd"
      refine j_lst (by simp) fun pl H1 s1 n1 e1 => ?_
      have nph : pl ≠ hl := Ne.symm (ne_of_none hh n1)
      walk_at "rd"
      refine i_ixT (s1 _ _ hp) (v := .ref l) rfl ?_
      refine seqL (xs := ps.map V.ref) (fun i σ H' => But hl H H' ∧ (∃ rs hs', H' hl = some (.lst ((hs ++ hs').map V.ref)) ∧ H' pl = some (.lst (rs.map V.ref)) ∧ (∀ x ∈ hs', H x = none ∧ isL H' x) ∧ hs'.length ≤ fWtL (gs.take i) ∧ Paired (FmAt t H' n) rs (gs.take i)) ∧ ∃ v3, σ = [some (.ref p), some (.ref hl), some (.ref pl), v3]) ⟨fun b u _ e => s1 _ _ e, ⟨[], [], by rw [app0]; exact s1 _ _ hh, e1, (fun x hx => by cases hx), Nat.zero_le _, .nil⟩, _, rfl⟩ (fun i σ H' _ hp => by obtain ⟨b, _⟩ := hp; exact SqL.of (b _ _ hll hl1)) ?_ ?_
      · rintro i x σ H2 hx ⟨b2, ⟨rs, hs', e2, ep, hx2, hz2, f2⟩, v3, rfl⟩
        obtain ⟨p', rfl, hx'⟩ := get_ref hx
        obtain ⟨g, hgi, hg'⟩ := paired_get hg hx'
        have hwk := wt_take gs (i + 1)
        have hwi : fWtL (gs.take (i + 1)) = fWtL (gs.take i) + (1 + fWt g) := by
          rw [take_snoc hgi, wtL_eq, wtL_eq, List.map_append, List.sum_append]
          simp
        have hrl := paired_len f2
        have hrl2 := wt_len (gs.take i)
        walk_at "rd"
        refine ⟨tyL ep, ?_⟩
        walk_at "rd"
        refine ⟨p', hl, g, hs ++ hs', rfl, hg'.imp (fun a xs e => b2 _ _ (ne_of e hh (by intro z; cases z)) e) (fun a xs sl e => ⟨sl, b2 _ _ sl e⟩), e2, by rw [List.length_append]; omega, fun H3 r hs3 b3 e3 hx3 hz3 f3 => ?_⟩
        have ep3 := b3 _ _ nph ep
        walk_at "rd"
        refine j_append ep3 (by rw [List.length_map]; omega) fun H4 b4 e4 => ?_
        walk_at "rd"
        have x34 := b4.ext ep3
        refine ⟨fun b u hb e => b4 _ _ (ne_of_none e n1) (b3 _ _ hb (b2 _ _ hb e)), ⟨rs ++ [r], hs' ++ hs3, ?_, by rw [e4, List.map_append]; rfl, fun x hx => ?_, by rw [List.length_append, hwi]; omega, ?_⟩, _, rfl⟩
        · rw [← List.append_assoc]
          exact b4 _ _ (Ne.symm nph) e3
        · rcases List.mem_append.mp hx with h | h
          · obtain ⟨a, c⟩ := hx2 x h
            exact ⟨a, (c.but b3 e3).but b4 e4⟩
          · obtain ⟨a, c⟩ := hx3 x h
            refine ⟨?_, c.but b4 e4⟩
            cases e : H x with
            | none => rfl
            | some u =>
              by_cases z : x = hl
              · rw [z, e2] at a; cases a
              · rw [b2 _ _ z e] at a; cases a
        · rw [take_snoc hgi]
          exact paired_append (paired_imp (fun a b h => FmAt.mono x34 (FmAt.mono (b3.ext e2) h)) f2) (.cons (FmAt.mono x34 f3) .nil)
      · rintro σ H2 ⟨b2, ⟨rs, hs', e2, ep, hx2, hz2, f2⟩, v3, rfl⟩
        rw [List.length_map, paired_len hg, List.take_length] at hz2 f2
        have hp2 := b2 _ _ (ne_of hp hh (by intro z; cases z)) hp
        walk_at "rd"
        refine i_ixT hp2 (v := .str (kw3 v)) rfl ?_
        walk_at "rd"
        refine i_ifF (decide_eq_false kn3) ?_
        walk_at "rd"
        refine ⟨tyL e2, ?_⟩
        walk_at "rd"
        refine j_append e2 (by rw [List.length_map, List.length_append]; omega) fun H3 b3 e3 => ?_
        have hp3 := b3 _ _ (ne_of hp2 e2 (by intro z; cases z)) hp2
        have ep3 := b3 _ _ nph ep
        have f3 : Paired (FmAt t H3 n) rs gs := paired_imp (fun a b h => FmAt.mono (b3.ext e2) h) f2
        have fin : ∀ (x dx tp : Addr) (H4 : Hp), Same H3 H4 → H4 x = some (.ins (cw t v) dx [(("parts" : Str), .ref tp)]) → H4 tp = some (.tup (rs.map V.ref)) → Q (.ref x) H4 := fun x dx tp H4 s4 ex et => by
          refine q H4 x (hs' ++ [pl]) (fun b u hb e => s4 _ _ (b3 _ _ hb (b2 _ _ hb e))) (by rw [s4 _ _ e3, ← List.append_assoc]; simp [List.map_append]) (fun y hy => ?_) (by rw [List.length_append, List.length_singleton]; simp only [fWt]; omega) ⟨dx, tp, rs, ex, et, paired_imp (fun a b h => FmAt.mono (Ext.of s4) h) f3⟩
          rcases List.mem_append.mp hy with h | h
          · exact ⟨(hx2 y h).1, ((hx2 y h).2.but b3 e3).same s4⟩
          · rw [List.mem_singleton.mp h]
            exact ⟨n1, _, s4 _ _ ep3⟩
        walk_at "rd"
        refine i_ixT hp3 (v := .str (kw3 v)) rfl ?_
        walk_at "rd"
        cases v with
        | a =>
          refine i_ifT (by decide +kernel) ?_
          walk_at "rd"
          exact i_initJ ep3 fun x dx tp H4 s4 hx ex et => fin x dx tp H4 s4 ex et
        | e =>
          refine i_ifF (by decide +kernel) ?_
          walk_at "rd"
          refine i_ixT hp3 (v := .str (kw3 .e)) rfl ?_
          walk_at "rd"
          refine i_ifT (by decide +kernel) ?_
          walk_at "rd"
          exact i_initJ ep3 fun x dx tp H4 s4 hx ex et => fin x dx tp H4 s4 ex et
        | o =>
          refine i_ifF (by decide +kernel) ?_
          walk_at "rd"
          refine i_ixT hp3 (v := .str (kw3 .o)) rfl ?_
          walk_at "rd"
          refine i_ifF (by decide +kernel) ?_
          walk_at "rd"
          exact i_initJ ep3 fun x dx tp H4 s4 hx ex et => fin x dx tp H4 s4 ex et
end

section
variable {P : Program} {w : World} {K : PySem.W.Frag} {mg : Str → Option Value} {base : Heap} {t : Ad} {n : Nat}
structure PT (H0 H : Hp) (mp : Addr) (n m : Nat) (qs : List Addr) (fs : List Fm) : Prop where
  sm : Same H0 H
  nm : H0 mp = none
  fm : H mp = some (.lst (qs.map V.ref))
  ff : Paired (TrAt (fun l => l ≠ mp) H n) qs fs
  lo : ∀ f ∈ fs, f.low m = true ∧ fOk f = true
  wt : fWtL fs + 2 ≤ 2 * n
theorem PT.but {H0 H H' H'' : Hp} {mp : Addr} {n m k : Nat} {qs qs' : List Addr} {fs fs' : List Fm} (L : PT H0 H mp n m qs fs) (h : n ≤ k) (s : Same H H') (b : But mp H' H'') (e : H'' mp = some (.lst (qs'.map V.ref))) (f : Paired (TrAt (fun l => l ≠ mp) H' k) qs' fs') (lo : ∀ f ∈ fs', f.low m = true ∧ fOk f = true) (hw : fWtL fs' + 2 ≤ 2 * k) : PT H0 H'' mp k m qs' fs' :=
  ⟨b.same L.nm (L.sm.trans s), L.nm, e, paired_imp (fun _ _ h => h.imp (fun p xs ep => b _ _ (ne_of ep (s _ _ L.fm) (by intro z; cases z)) ep) fun l xs sl el => ⟨sl, b _ _ sl el⟩) f, lo, hw⟩
theorem PT.up {H0 H H' : Hp} {mp : Addr} {n m k : Nat} {qs : List Addr} {fs : List Fm} (L : PT H0 H mp n m qs fs) (h : n ≤ k) (s : Same H H') : Paired (TrAt (fun l => l ≠ mp) H' k) qs fs := paired_imp (fun _ _ z => (z.same s).le h) L.ff
theorem wtL_snoc (fs : List Fm) (f : Fm) : fWtL (fs ++ [f]) = fWtL fs + (1 + fWt f) := by
  rw [wtL_eq, wtL_eq, List.map_append, List.sum_append]
  simp
theorem wtL_split (fs : List Fm) (k : Nat) : fWtL fs = fWtL (fs.take k) + fWtL (fs.drop k) := by
  conv => lhs; rw [← List.take_append_drop k fs]
  rw [wtL_eq, wtL_eq, wtL_eq, List.map_append, List.sum_append]
def w3of (i : Nat) : W3 := if i = 0 then .a else if i = 1 then .e else .o
theorem w3_get {i : Nat} (h : i < 3) : ([.str "and", .str "either", .str "or"] : List V)[i]? = some (.str (kw3 (w3of i))) := by
  rcases (show i = 0 ∨ i = 1 ∨ i = 2 by omega) with rfl | rfl | rfl <;> rfl
def spTree : Sp := fun vs H Q _ => ∃ (l : Addr) (cs : List Int) (m : Nat) (la : Int), vs = [.ref l, .int (m : Int), .int la] ∧ H l = some (.lst (cs.map V.int)) ∧ cs.length ≤ 60 ∧ 1 ≤ m ∧ m ≤ 6 ∧
  ∀ p f H', Same H H' → TrAt anyA H' 63 p f → f.low m = true → fOk f = true → fWt f ≤ 200 → Q (.ref p) H'
theorem ok_tree (T : Txt K mg t) : FnS P w K mg base 1 "_law_tree" ["_law_cells", "_law_many", "_law_last"] (spTree) := by
  refine ⟨_, _, T.F__law_tree.ok sc__law_tree (fun vs H Q E h => ?_) (fun cdv A outer s H vs Q E hr h => ?_), T.b__law_tree, T.F__law_tree.kp, T.m__law_tree⟩
  · obtain ⟨l, cs, m, la, rfl, hl, hz, h1, hm, q⟩ := h
    rfl
  obtain ⟨l, cs, m, la, rfl, hl, hz, h1, hm, q⟩ := h
  have md : ∀ z : Int, ∃ k : Nat, z % (m : Int) = (k : Int) ∧ k < m := fun z => by
    have v1 := Int.emod_nonneg z (show (m : Int) ≠ 0 by omega)
    have v2 := Int.emod_lt_of_pos z (show (0 : Int) < (m : Int) by omega)
    exact ⟨(z % (m : Int)).toNat, by omega, by omega⟩
  refine ⟨_, (pss_cons (ss 3 sc__law_tree.nd (pe_lst pa_nil))
      (pss_cons (ps_for PassesOwn.never rfl (pi_seq (pv 0)) (sg 4 sc__law_tree.nd)
      (pss_cons (ss 5 sc__law_tree.nd (pe_op op_mod (pv 4) pe_int))
      (pss_cons (ss 6 sc__law_tree.nd (pe_op op_fdivG (pv 4) pe_int))
      (pss_one (ps_if (PW.pt (pw_and (pt_cmpR (op_eqA hr.units) (pv 5) pe_int (nomark _)) (pw_and1 (pt_cmpR op_gt (pe_callB call_lenG rfl T.B.len bt_len (pa_cons (pv 3) pa_nil)) pe_int (nomark _)))))
      (pss_cons (ss 7 sc__law_tree.nd (pe_bm0 PySem.F.plainAttrs_list PySem.F.slot_list_pop PySem.F.type_list_pop mt_pop (pv 3)))
      (pss_one (ps_expr (pe_bm PySem.F.plainAttrs_list PySem.F.slot_list_append PySem.F.type_list_append mt_append (pv 3) (pa_cons (pe_tup (pa_cons pe_str (pa_cons (pe_lst (pa_cons (pv 7) pa_nil)) pa_nil))) pa_nil)))))
      (pss_one (ps_if (PW.pt (pw_and (pt_cmpR op_gt (pv 5) pe_int (nomark _)) (pw_and1 (pt_cmpR op_gt (pe_callB call_lenG rfl T.B.len bt_len (pa_cons (pv 3) pa_nil)) pe_int (nomark _)))))
      (pss_cons (ss 8 sc__law_tree.nd (pe_op op_sub (pe_callB call_lenG rfl T.B.len bt_len (pa_cons (pv 3) pa_nil)) (pe_callB (call_minG rfl) rfl T.B.min bt_min (pa_cons (pe_callB call_lenG rfl T.B.len bt_len (pa_cons (pv 3) pa_nil)) (pa_cons (pe_op op_addG pe_int (pe_op op_mod (pv 6) pe_int)) pa_nil)))))
      (pss_cons (ss 9 sc__law_tree.nd (pe_slice sl_any (pv 3) (po_some (pv 8)) po_none))
      (pss_one (ss 3 sc__law_tree.nd (pe_op op_addG (pe_slice sl_any (pv 3) po_none (po_some (pv 8))) (pe_lst (pa_cons (pe_tup (pa_cons (pe_ix ix_seq (pe_lst (pa_cons pe_str (pa_cons pe_str (pa_cons pe_str pa_nil)))) (pe_op op_sub (pv 5) pe_int) (fun _ _ => rfl)) (pa_cons (pv 9) pa_nil))) pa_nil)))))))
      (pss_one (ps_if (pt_cmpR (op_eqA hr.units) (pv 5) pe_int (nomark _))
      (pss_one (ps_expr (pe_bm PySem.F.plainAttrs_list PySem.F.slot_list_append PySem.F.type_list_append mt_append (pv 3) (pa_cons (pe_tup (pa_cons pe_str (pa_cons (pe_cmpR (op_eqA hr.units) (pe_op op_mod (pv 6) pe_int) pe_int (nomark _)) pa_nil))) pa_nil))))
      (pss_one (ps_expr (pe_bm PySem.F.plainAttrs_list PySem.F.slot_list_append PySem.F.type_list_append mt_append (pv 3) (pa_cons (pe_tup (pa_cons pe_str (pa_cons (pe_op op_mod (pv 6) (pv 1)) pa_nil))) pa_nil)))))))))))))
      (pss_cons (ps_if (pt_cmpR (op_eqA hr.units) (pe_callB call_lenG rfl T.B.len bt_len (pa_cons (pv 3) pa_nil)) pe_int (nomark _))
      (pss_one (ps_ret (pe_tup (pa_cons pe_str (pa_cons (pe_op op_mod (pv 2) (pv 1)) pa_nil)))))
      pss_nil)
      (pss_cons (ps_if (pt_cmpR (op_eqA hr.units) (pe_callB call_lenG rfl T.B.len bt_len (pa_cons (pv 3) pa_nil)) pe_int (nomark _))
      (pss_one (ps_ret (pe_ix ix_seq (pv 3) pe_int (fun _ _ => rfl))))
      pss_nil)
      (pss_one (ps_ret (pe_tup (pa_cons (pe_ix ix_seq (pe_lst (pa_cons pe_str (pa_cons pe_str (pa_cons pe_str pa_nil)))) (pe_op op_mod (pv 2) pe_int) (fun _ _ => rfl)) (pa_cons (pv 3) pa_nil))))))))), ?_⟩
  walk_at "rd0"
  refine j_lst (by simp) fun mp0 H0 s0 n0 e0 => ?_
  walk_at "rd"
  refine seqL (xs := cs.map V.int) (fun i σ H' => ∃ mp qs fs v4 v5 v6 v7 v8 v9, σ = [some (.ref l), some (.int (m : Int)), some (.int la), some (.ref mp), v4, v5, v6, v7, v8, v9] ∧ qs.length ≤ i ∧ PT H H' mp (i + 1) m qs fs)
    ⟨mp0, [], [], _, _, _, _, _, _, rfl, Nat.le_refl _, s0, n0, e0, .nil, (fun f hf => by cases hf), Nat.le_refl _⟩ (fun i σ H' _ hp => by obtain ⟨mp, qs, fs, v4, v5, v6, v7, v8, v9, _, _, L⟩ := hp; exact SqL.of (L.sm _ _ hl)) ?_ ?_
  · rintro i x σ H1 hx ⟨mp, qs, fs, v4, v5, v6, v7, v8, v9, rfl, hi, L⟩
    obtain ⟨c, rfl, hci⟩ := get_int hx
    have hil : i < cs.length := (List.getElem?_eq_some_iff.mp hci).1
    have hlen : (qs.map V.ref).length = qs.length := List.length_map _
    have hgl := paired_len L.ff
    have hmp := L.fm
    have hw := L.wt
    have hc0 := Int.emod_nonneg c (show (8 : Int) ≠ 0 by decide)
    have hc1 := Int.emod_lt_of_pos c (show (0 : Int) < 8 by decide)
    have leaf : ∀ (y : Addr) (f : Fm) (H2 H3 : Hp), Same H1 H2 → TrAt (fun l => l ≠ mp) H2 (i + 2) y f → f.low m = true → fOk f = true → fWt f ≤ 1 → But mp H2 H3 → H3 mp = some (.lst (qs.map V.ref ++ [.ref y])) → PT H H3 mp (i + 1 + 1) m (qs ++ [y]) (fs ++ [f]) ∧ (qs ++ [y]).length ≤ i + 1 := fun y f H2 H3 s2 f2 lo ok hf b3 e3 => by
      refine ⟨L.but (by omega) s2 b3 (by rw [e3, List.map_append]; rfl) (paired_append (L.up (by omega) s2) (.cons f2 .nil)) (fun g hg => ?_) (by rw [wtL_snoc]; omega), by rw [List.length_append, List.length_singleton]; omega⟩
      rcases List.mem_append.mp hg with h | h
      · exact L.lo g h
      · rw [List.mem_singleton.mp h]; exact ⟨lo, ok⟩
    by_cases hA : c % 8 = 4 ∧ 0 < qs.length
    · obtain ⟨hA1, hA2⟩ := hA
      obtain ⟨qs0, ql, rfl⟩ := snoc_of (l := qs) (fun e => by rw [e] at hA2; exact absurd hA2 (by decide))
      obtain ⟨fs0, fl, rfl⟩ := snoc_of (l := fs) (fun e => by rw [e] at hgl; simp at hgl)
      obtain ⟨f0, ft⟩ := paired_snoc L.ff
      have hmp' := hmp
      rw [List.map_append, List.map_cons, List.map_nil] at hmp'
      have hz0 : qs0.length + 1 ≤ i := by simpa using hi
      rw [wtL_snoc] at hw
      have hlen2 : (List.map V.ref qs0 ++ [V.ref ql]).length = qs0.length + 1 := by simp
      walk_at "tst"
      refine ⟨tyL hmp', ?_⟩
      walk_at "rd"
      refine j_pop hmp' fun H2 b2 e2 => ?_
      walk_at "rd"
      refine ⟨tyL e2, ?_⟩
      walk_at "rd"
      refine j_lst (by simp) fun nl H3 s3 n3 e3 => ?_
      walk_at "rd"
      refine j_tup (by simp) fun y H4 s4 ny e4 => ?_
      walk_at "rd"
      have e2' := s4 _ _ (s3 _ _ e2)
      refine j_append e2' (by rw [List.length_map]; omega) fun H5 b5 e5 => ?_
      walk_at "rd"
      have nlm : nl ≠ mp := Ne.symm (ne_of_none e2 n3)
      have hlo := L.lo
      have L2 : PT H H2 mp (i + 1) m qs0 fs0 := L.but (Nat.le_refl _) (Same.refl _) b2 e2 f0 (fun g hg => hlo g (List.mem_append_left _ hg)) (by omega)
      have ft2 : TrAt (fun l => l ≠ mp) H2 (i + 1) ql fl := ft.imp (fun p xs ep => b2 _ _ (ne_of ep hmp (by intro z; cases z)) ep) fun l xs sl el => ⟨sl, b2 _ _ sl el⟩
      have fl2 := hlo fl (List.mem_append_right _ (List.mem_singleton.mpr rfl))
      have ty : TrAt (fun l => l ≠ mp) H4 (i + 2) y (.neg fl) := ⟨nl, ql, e4, nlm, s4 _ _ e3, ft2.same (s3.trans s4)⟩
      refine ⟨mp, qs0 ++ [y], fs0 ++ [.neg fl], _, _, _, _, _, _, rfl, by rw [List.length_append, List.length_singleton]; omega, L2.but (by omega) (s3.trans s4) b5 (by rw [e5, List.map_append]; rfl) (paired_append (L2.up (by omega) (s3.trans s4)) (.cons ty .nil)) (fun g hg => ?_) (by rw [wtL_snoc]; simp only [fWt]; omega)⟩
      rcases List.mem_append.mp hg with h | h
      · exact L2.lo g h
      · rw [List.mem_singleton.mp h]
        simp only [Fm.low, fOk]
        exact fl2
    · by_cases hB : 4 < c % 8 ∧ 1 < qs.length
      · obtain ⟨hB1, hB2⟩ := hB
        obtain ⟨k, hk, hk2⟩ : ∃ k : Nat, ((qs.map V.ref).length : Int) - min ((qs.map V.ref).length : Int) (2 + c / 8 % 3) = (k : Int) ∧ k + 2 ≤ qs.length := by
          rw [hlen]
          exact ⟨((qs.length : Int) - min (qs.length : Int) (2 + c / 8 % 3)).toNat, by omega, by omega⟩
        obtain ⟨j, hj, hj3⟩ : ∃ j : Nat, c % 8 - 5 = (j : Int) ∧ j < 3 := ⟨(c % 8 - 5).toNat, by omega, by omega⟩
        walk_at "tst"
        rw [hk]
        refine .inl (j_sl (SqL.of hmp) (cut_from (by rw [hlen]; omega)) fun a2 H3 s3 n3 e3 => ?_)
        rw [← List.map_drop] at e3
        walk_at "rd"
        refine .inl (j_sl (SqL.of (s3 _ _ hmp)) (cut_to (by rw [hlen]; omega)) fun a1 H2 s2 n2 e2 => ?_)
        rw [← List.map_take] at e2
        walk_at "rd"
        refine j_lst (by simp) fun wl H4 s4 n4 e4 => ?_
        walk_at "rd"
        rw [hj]
        refine i_ixL e4 (w3_get hj3) ?_
        walk_at "rd"
        refine j_tup (by simp) fun y H5 s5 ny e5 => ?_
        walk_at "rd"
        refine j_lst (by simp) fun a3 H6 s6 n6 e6 => ?_
        refine j_add (s6 _ _ (s5 _ _ (s4 _ _ e2))) e6 (by rw [List.length_map, List.length_take]; simp; omega) fun a4 H7 s7 n7 e7 => ?_
        walk_at "rd"
        have s36 : Same H1 H6 := s3.trans (s2.trans (s4.trans (s5.trans s6)))
        have w7 : Same H1 H7 := s36.trans s7
        have n70 : H1 a4 = none := s36.free n7
        have na2 : a2 ≠ a4 := ne_of_none (s6 _ _ (s5 _ _ (s4 _ _ (s2 _ _ e3)))) n7
        have tr7 : Paired (TrAt (fun l => l ≠ a4) H7 (i + 1)) qs fs := paired_imp (fun _ _ h => h.imp (fun p xs e => w7 _ _ e) fun l xs _ e => ⟨ne_of_none e n70, w7 _ _ e⟩) L.ff
        have hsp := wtL_split fs k
        have ok7 : fOk (.join (w3of j) (fs.drop k)) = true := by
          simp only [fOk, Bool.and_eq_true, decide_eq_true_iff]
          refine ⟨fun e => ?_, ?_⟩
          · have := congrArg List.length e
            rw [List.length_drop] at this
            simp at this
            omega
          · rw [fOkL_eq, List.all_eq_true]
            exact fun g hg => (L.lo g (List.mem_of_mem_drop hg)).2
        have ty : TrAt (fun l => l ≠ a4) H7 (i + 2) y (.join (w3of j) (fs.drop k)) := ⟨a2, qs.drop k, s7 _ _ (s6 _ _ e5), na2, s7 _ _ (s6 _ _ (s5 _ _ (s4 _ _ (s2 _ _ e3)))), paired_drop k tr7⟩
        refine ⟨a4, qs.take k ++ [y], fs.take k ++ [.join (w3of j) (fs.drop k)], _, _, _, _, _, _, rfl, by rw [List.length_append, List.length_take]; simp; omega, L.sm.trans w7, L.sm.free n70, by rw [e7, List.map_append]; rfl, paired_append (paired_imp (fun _ _ h => h.le (by omega)) (paired_take k tr7)) (.cons ty .nil), fun g hg => ?_, by rw [wtL_snoc]; simp only [fWt]; omega⟩
        rcases List.mem_append.mp hg with h | h
        · exact L.lo g (List.mem_of_mem_take h)
        · rw [List.mem_singleton.mp h]
          refine ⟨?_, ok7⟩
          rw [low_join, List.all_eq_true]
          exact fun g hg => (L.lo g (List.mem_of_mem_drop hg)).1
      · obtain ⟨k, hk, hkm⟩ := md (c / 8)
        rcases Nat.eq_zero_or_pos qs.length with hq | hq <;> rcases (show c % 8 = 3 ∨ c % 8 < 3 ∨ c % 8 = 4 ∨ 4 < c % 8 by omega) with hc | hc | hc | hc
        all_goals first
          | exact absurd (show c % 8 = 4 ∧ 0 < qs.length by omega) hA
          | exact absurd (show c % 8 = 3 by omega) (by omega)
          | (walk_at "tst"
             refine ⟨tyL hmp, ?_⟩
             walk_at "rd"
             first
              | rw [hk]
                refine j_tup (by simp) fun y H4 s4 ny e4 => ?_
                walk_at "rd"
                refine j_append (s4 _ _ hmp) (by rw [hlen]; omega) fun H3 b3 e3 => ?_
                walk_at "rd"
                obtain ⟨L3, z3⟩ := leaf y (.lamp k) H4 H3 s4 e4 (by simp only [Fm.low]; exact decide_eq_true hkm) (by simp only [fOk]) (by simp only [fWt]; omega) b3 e3
                exact ⟨mp, _, _, _, _, _, _, _, _, rfl, z3, L3⟩
              | refine j_tup (by simp) fun y H4 s4 ny e4 => ?_
                walk_at "rd"
                refine j_append (s4 _ _ hmp) (by rw [hlen]; omega) fun H3 b3 e3 => ?_
                walk_at "rd"
                obtain ⟨L3, z3⟩ := leaf y (.sure (decide (c / 8 % 2 = 0))) H4 H3 s4 e4 (by simp only [Fm.low]) (by simp only [fOk]) (by simp only [fWt]; omega) b3 e3
                exact ⟨mp, _, _, _, _, _, _, _, _, rfl, z3, L3⟩)
  · rintro σ H1 ⟨mp, qs, fs, v4, v5, v6, v7, v8, v9, rfl, hi, L⟩
    rw [List.length_map] at hi L
    have hmp := L.fm
    have hw := L.wt
    have hgl := paired_len L.ff
    have hlen : (qs.map V.ref).length = qs.length := List.length_map _
    walk_at "rd"
    refine i_ifd (fun hA => ?_) (fun hA => ?_)
    · walk_at "rd"
      obtain ⟨k, hk, hkm⟩ := md la
      rw [hk]
      refine j_tup (by simp) fun y H4 s4 ny e4 => ?_
      exact q y (.lamp k) H4 (L.sm.trans s4) e4 (by simp only [Fm.low]; exact decide_eq_true hkm) (by simp only [fOk]) (by simp only [fWt]; omega)
    · walk_at "rd"
      refine i_ifd (fun hB => ?_) (fun hB => ?_)
      · walk_at "rd"
        obtain ⟨p, hp⟩ : ∃ p, qs[0]? = some p := ⟨qs[0]'(by omega), List.getElem?_eq_getElem (by omega)⟩
        obtain ⟨f, hf, ht⟩ := paired_get L.ff hp
        have hm := List.mem_of_getElem? hf
        have := wt_mem hm
        refine i_ixL (j := 0) hmp (v := .ref p) (by rw [List.getElem?_map, hp]; rfl) ?_
        exact q p f H1 L.sm ((ht.imp (fun _ _ e => e) fun _ _ _ e => ⟨trivial, e⟩).le (by omega)) (L.lo f hm).1 (L.lo f hm).2 (by omega)
      · walk_at "rd"
        refine j_lst (by simp) fun wl H4 s4 n4 e4 => ?_
        walk_at "rd"
        obtain ⟨j, hj, hj3⟩ : ∃ j : Nat, la % 3 = (j : Int) ∧ j < 3 := ⟨(la % 3).toNat, by omega, by omega⟩
        rw [hj]
        refine i_ixL e4 (w3_get hj3) ?_
        walk_at "rd"
        refine j_tup (by simp) fun y H5 s5 ny e5 => ?_
        refine q y (.join (w3of j) fs) H5 (L.sm.trans (s4.trans s5)) (TrAt.le (n := cs.length + 2) (by omega) ⟨mp, qs, e5, trivial, s5 _ _ (s4 _ _ hmp), paired_imp (fun _ _ h => h.imp (fun _ _ e => s5 _ _ (s4 _ _ e)) fun _ _ _ e => ⟨trivial, s5 _ _ (s4 _ _ e)⟩) L.ff⟩) ?_ ?_ ?_
        · rw [low_join, List.all_eq_true]
          exact fun g hg => (L.lo g hg).1
        · simp only [fOk, Bool.and_eq_true, decide_eq_true_iff]
          refine ⟨fun e => ?_, ?_⟩
          · rw [e] at hgl
            simp only [List.length_nil] at hgl
            rw [hlen] at hA
            omega
          · rw [fOkL_eq, List.all_eq_true]
            exact fun g hg => (L.lo g hg).2
        · simp only [fWt]
          omega
end

def Lt (z : Str) : Prop := ∀ c ∈ z.cps.toList, 97 ≤ c ∧ c ≤ 122
theorem lt_slice {z : Str} (h : Lt z) (lo hi : Option Int) : Lt (Txt.slice z lo hi) := by
  unfold Txt.slice
  split
  · exact h
  · intro c hc
    have hc : c ∈ (Builtin.Str.strSliceIndices lo hi 1 z.length).filterMap (z.cps[·]?) := by simpa using hc
    obtain ⟨i, _, e⟩ := List.mem_filterMap.mp hc
    obtain ⟨hi, e⟩ := Array.getElem?_eq_some_iff.mp e
    exact h c (by rw [← e]; simp)
theorem lt_append {x y : Str} (hx : Lt x) (hy : Lt y) : Lt (x ++ y) := by
  intro c hc
  have hc : c ∈ (x.cps ++ y.cps).toList := hc
  rw [Array.toList_append, List.mem_append] at hc
  exact hc.elim (hx c) (hy c)
theorem lt_one {k : Nat} (h : k < 26) : Lt ⟨#[97 + k]⟩ := by
  intro c hc
  have hc : c ∈ [97 + k] := hc
  rw [List.mem_singleton.mp hc]
  omega
def abc : Str := "abcdefghijklmnopqrstuvwxyz"
theorem let_at : ∀ k, k < 26 → abc.cps.toList[k]? = some (97 + k) := by decide +kernel
theorem let_find : ∀ k, k < 26 → Txt.find abc ⟨#[97 + k]⟩ = (k : Int) := by decide +kernel
theorem get_nat {z : Str} {k : Nat} (h : k < z.length) : ∃ c, z.cps.toList[k]? = some c := by
  have h : k < z.cps.toList.length := by simpa [Str.length] using h
  exact ⟨_, List.getElem?_eq_getElem h⟩
def Nm (z : Str) : Prop := Lt z ∧ 1 ≤ z.length ∧ z.length ≤ 20
/-- k different ones of a list are no more than its length -/
theorem pigeon {α : Type} [DecidableEq α] (f : Nat → α) : ∀ (k : Nat) (L : List α), (∀ i, i < k → f i ∈ L) → (∀ i j, i < j → j < k → f i ≠ f j) → k ≤ L.length
  | 0, _, _, _ => Nat.zero_le _
  | k + 1, L, h, d => by
    have hk := h k (by omega)
    have := pigeon f k (L.erase (f k)) (fun i hi => (List.mem_erase_of_ne (d i k hi (by omega))).mpr (h i (by omega))) (fun i j hij hj => d i j hij (by omega))
    rw [List.length_erase_of_mem hk] at this
    have : 0 < L.length := List.length_pos_of_mem hk
    omega
def rot (u : Str) (c j : Nat) : Str := u ++ ⟨#[97 + (c + j) % 26]⟩
theorem rot_ne {u : Str} {c i j : Nat} (h : i < j) (hj : j < 26) : rot u c i ≠ rot u c j := by
  intro e
  have e : (u.cps ++ #[97 + (c + i) % 26]) = (u.cps ++ #[97 + (c + j) % 26]) := congrArg Str.cps e
  have e := congrArg Array.toList e
  rw [Array.toList_append, Array.toList_append] at e
  have e := List.append_cancel_left e
  simp at e
  omega
theorem cut_last {z : Str} (h : 1 ≤ z.length) (hz : Lt z) : ∃ c, c < 26 ∧ z = rot (Txt.slice z none (some (-1))) c 0 := by
  have hl : z.cps.toList.length = z.length := by simp [Str.length]
  obtain ⟨c, hc⟩ := get_nat (z := z) (k := z.length - 1) (by omega)
  have hm := hz c (List.mem_of_getElem? hc)
  refine ⟨c - 97, by omega, ?_⟩
  have e1 : Txt.slice z none (some (-1)) = ⟨(z.cps.toList.take (z.length - 1)).toArray⟩ := by
    rw [PyProof.Rows.slice_to_neg (by decide)]
    show StrLaws.sliceText z none (some _) = _
    rw [StrLaws.sliceText_to (by constructor <;> omega)]
    rw [List.drop_zero, show ((max 0 ((z.length : Int) + -1)) - 0).toNat = z.length - 1 by omega]
  rw [e1]
  unfold rot
  have e2 : z.cps.toList = z.cps.toList.take (z.length - 1) ++ [c] := by
    have := take_snoc hc
    rw [show z.length - 1 + 1 = z.cps.toList.length by omega, List.take_length] at this
    exact this
  have e3 : 97 + (c - 97 + 0) % 26 = c := by omega
  rw [e3]
  show z = Str.append _ _
  unfold Str.append
  obtain ⟨a⟩ := z
  congr 1
  apply Array.toList_inj.mp
  rw [Array.toList_append]
  exact e2
theorem rot_slice (u : Str) (c j : Nat) : Txt.slice (rot u c j) none (some (-1)) = u := by
  have hl : (rot u c j).length = u.length + 1 := by unfold rot; rw [len_append]; rfl
  rw [PyProof.Rows.slice_to_neg (by decide)]
  show StrLaws.sliceText (rot u c j) none (some _) = _
  have hl2 : (rot u c j).cps.toList.length = (rot u c j).length := by simp [Str.length]
  rw [StrLaws.sliceText_to (by constructor <;> omega)]
  rw [List.drop_zero, show ((max 0 (((rot u c j).length : Int) + -1)) - 0).toNat = u.length by omega]
  obtain ⟨a⟩ := u
  congr 1
  show ((a ++ #[97 + (c + j) % 26]).toList.take a.size).toArray = a
  rw [Array.toList_append, show a.size = a.toList.length by simp, List.take_left]
theorem rot_last (u : Str) (c j : Nat) : atI (rot u c j).cps.toList (-1) = some (97 + (c + j) % 26) := by
  have e : (rot u c j).cps.toList = u.cps.toList ++ [97 + (c + j) % 26] := by
    show (u.cps ++ #[97 + (c + j) % 26]).toList = _
    rw [Array.toList_append]
  rw [e]
  unfold atI ixN
  rw [if_neg (by decide), if_pos (by rw [List.length_append, List.length_singleton]; omega)]
  show (u.cps.toList ++ [97 + (c + j) % 26])[_]? = _
  rw [List.length_append, List.length_singleton, show (-1 + ((u.cps.toList.length + 1 : Nat) : Int)).toNat = u.cps.toList.length by omega, List.getElem?_append_right (Nat.le_refl _)]
  simp
theorem inV_strs (x : Str) : ∀ ns : List Str, inV (.str x) (ns.map V.str) = decide (x ∈ ns)
  | [] => rfl
  | y :: ns => by
    have ih := inV_strs x ns
    unfold inV at ih ⊢
    rw [List.map_cons, List.any_cons, ih]
    have e : eqV (.str y) (.str x) = decide (y = x) := rfl
    rw [e]
    by_cases h : y = x
    · simp [h]
    · have h' : ¬ x = y := fun z => h z.symm
      simp [h, h']
section
variable {P : Program} {w : World} {K : PySem.W.Frag} {mg : Str → Option Value} {base : Heap} {t : Ad} {n : Nat}
theorem i_inS {p : Addr} {x : Str} {ns : List Str} {H : Hp} {Q : VK} (h : H p = some (.lst (ns.map V.str)) ∨ H p = some (.tup (ns.map V.str))) (k : Q (.bl (decide (x ∈ ns))) H) : rInG K (.str x) (.ref p) H Q := by
  refine .inr ⟨p, ns.map V.str, rfl, h.imp SqL.of SqT.of, rfl, ?_, ?_⟩
  · rw [List.all_eq_true]
    intro v hv
    obtain ⟨z, _, rfl⟩ := List.mem_map.mp hv
    rfl
  · rw [inV_strs]
    exact k
theorem i_abc {x : Int} {H : Hp} {Q : VK} (h : ∀ e, e < 26 → Q (.str ⟨#[97 + e]⟩) H) : rIx K (.str "abcdefghijklmnopqrstuvwxyz") (.int (x % 26)) H Q := by
  obtain ⟨e, he, he26⟩ : ∃ e : Nat, x % 26 = (e : Int) ∧ e < 26 := ⟨(x % 26).toNat, by omega, by omega⟩
  rw [he]
  exact i_ixX (by decide) (atI_nat (let_at e he26)) (h e he26)
def spLetters : Sp := fun vs H Q _ => ∃ (sd : Int) (sz : Nat), vs = [.int sd, .int (sz : Int)] ∧ sz ≤ 8 ∧ ∀ z, Lt z → z.length = sz → Q (.str z) H
theorem ok_letters (T : Txt K mg t) : FnS P w K mg base 1 "_law_letters" ["_law_seed", "_law_size"] (spLetters) := by
  refine ⟨_, _, T.F__law_letters.ok sc__law_letters (fun vs H Q E h => ?_) (fun cdv A outer s H vs Q E hr h => ?_), T.b__law_letters, T.F__law_letters.kp, T.m__law_letters⟩
  · obtain ⟨sd, sz, rfl, hsz, q⟩ := h
    rfl
  obtain ⟨sd, sz, rfl, hsz, q⟩ := h
  refine ⟨_, (pss_cons (ss 2 sc__law_letters.nd pe_str)
      (pss_cons (ss 3 sc__law_letters.nd pe_str)
      (pss_cons (ss 4 sc__law_letters.nd (pe_op op_mod (pv 0) pe_int))
      (pss_cons (ps_for PassesOwn.never rfl (pi_range1 rfl T.B.range (pa_cons (pv 1) pa_nil)) (sg 5 sc__law_letters.nd)
      (pss_cons (ss 4 sc__law_letters.nd (pe_op op_mod (pe_op op_addG (pe_op op_mulG (pv 4) pe_int) pe_int) pe_int))
      (pss_one (ss 3 sc__law_letters.nd (pe_op op_addG (pv 3) (pe_ix ix_seq (pv 2) (pe_op op_mod (pe_op op_fdivG (pv 4) pe_int) pe_int) (fun _ _ => rfl)))))))
      (pss_one (ps_ret (pv 3))))))), ?_⟩
  walk_at "rd0"
  refine ⟨_, rfl, by omega, by omega, ?_⟩
  rw [show ((sz : Int)).toNat = sz by omega]
  refine loopR0 (n := sz) (fun i σ H' => H' = H ∧ ∃ (z : Str) (st : Int) (v : Option V), Lt z ∧ z.length = i ∧ σ = [some (.int sd), some (.int (sz : Int)), some (.str "abcdefghijklmnopqrstuvwxyz"), some (.str z), some (.int st), v]) ⟨rfl, "", _, _, (fun c hc => by cases hc), rfl, rfl⟩ ?_ ?_
  · rintro i σ H' hi ⟨rfl, z, st, v, hz, hl, rfl⟩
    walk_at "rd"
    refine i_mulI (.inr ⟨by decide, by decide⟩) ?_
    walk_at "rd"
    obtain ⟨k, hk, hk26⟩ : ∃ k : Nat, (st * 48271 + 7919) % 2147483647 / 64 % 26 = (k : Int) ∧ k < 26 := ⟨((st * 48271 + 7919) % 2147483647 / 64 % 26).toNat, by omega, by omega⟩
    rw [hk]
    refine i_ixX (by decide) (atI_nat (let_at k hk26)) ?_
    refine i_addS (small (by show _ + 1 ≤ _; omega)) ?_
    walk_at "rd"
    exact ⟨rfl, _, _, _, lt_append hz (lt_one hk26), by rw [len_append, hl]; rfl, rfl⟩
  · rintro σ H' ⟨rfl, z, st, v, hz, hl, rfl⟩
    walk_at "rd"
    exact q z hz hl
def keptW : List Str := ["and", "or", "not", "either", "yes", "no", "then", "is"]
def lineW : List Str := ["lamps", "start", "bad", "move", "drop", "show", "judge", "fence", "always", "reach"]
def okN (z : Str) : Bool := z.cps.toList.all (fun c => decide (97 ≤ c) && decide (c ≤ 122)) && decide (1 ≤ z.length) && decide (z.length ≤ 12)
theorem okN_nm {z : Str} (h : okN z = true) : Lt z ∧ 1 ≤ z.length ∧ z.length ≤ 12 := by
  unfold okN at h
  rw [Bool.and_eq_true, Bool.and_eq_true, List.all_eq_true] at h
  refine ⟨fun c hc => ?_, of_decide_eq_true h.1.2, of_decide_eq_true h.2⟩
  have := h.1.1 c hc
  rw [Bool.and_eq_true] at this
  exact ⟨of_decide_eq_true this.1, of_decide_eq_true this.2⟩
theorem kept_at : ∀ k, k < 8 → ∃ z, keptW[k]? = some z ∧ okN z = true := by
  have h : ∀ k, k < 8 → (keptW[k]?).any okN = true := by decide +kernel
  intro k hk
  have := h k hk
  cases e : keptW[k]? with
  | none => rw [e] at this; exact absurd this (by decide)
  | some z => rw [e] at this; exact ⟨z, rfl, this⟩
theorem line_at : ∀ k, k < 10 → ∃ z, lineW[k]? = some z ∧ okN z = true := by
  have h : ∀ k, k < 10 → (lineW[k]?).any okN = true := by decide +kernel
  intro k hk
  have := h k hk
  cases e : lineW[k]? with
  | none => rw [e] at this; exact absurd this (by decide)
  | some z => rw [e] at this; exact ⟨z, rfl, this⟩
theorem map_at {ns : List Str} {k : Nat} {z : Str} (h : ns[k]? = some z) : (ns.map V.str)[k]? = some (.str z) := by rw [List.getElem?_map, h]; rfl
seal PE PA PS PSs
def spName : Sp := fun vs H Q _ => ∃ (k : Nat) (c : Int), vs = [.int (k : Int), .int c] ∧ k < 6 ∧ ∀ z H', Same H H' → Nm z → Q (.str z) H'
theorem ok_name (T : Txt K mg t) : FnS P w K mg base 3 "_law_name" ["_law_k", "_law_cell"] (spName) := by
  refine ⟨_, _, T.F__law_name.ok sc__law_name (fun vs H Q E h => ?_) (fun cdv A outer s H vs Q E hr h => ?_), T.b__law_name, T.F__law_name.kp, T.m__law_name⟩
  · obtain ⟨k, c, rfl, hk6, q⟩ := h
    rfl
  obtain ⟨k, c, rfl, hk6, q⟩ := h
  have G__law_letters := ok_letters (P := P) (w := w) (base := base) T
  refine ⟨_, (pss_cons (ss 2 sc__law_name.nd pe_str)
      (pss_cons (ss 3 sc__law_name.nd (pe_op op_mod (pv 1) pe_int))
      (pss_cons (ss 4 sc__law_name.nd (pe_op op_addG pe_int (pe_op op_mod (pe_op op_fdivG (pv 1) pe_int) pe_int)))
      (pss_cons (ss 5 sc__law_name.nd (pe_fn G__law_letters hr (pa_cons (pv 1) (pa_cons pe_int pa_nil))))
      (pss_cons (ps_if (pt_cmpR (op_eqA hr.units) (pv 3) pe_int (nomark _))
      (pss_cons (ss 6 sc__law_name.nd (pe_op op_mod (pe_op op_fdivG (pv 1) pe_int) (pv 4)))
      (pss_cons (ss 7 sc__law_name.nd (pe_op op_addG (pe_bm PySem.F.plainAttrs_str PySem.F.slot_str_find PySem.F.type_str_find ms_find (pv 2) (pa_cons (pe_ix ix_seq (pv 5) (pv 6) (fun _ _ => rfl)) pa_nil)) (pe_op op_mulG (pe_op op_addG pe_int (pe_op op_mulG pe_int (pe_op op_mod (pe_op op_fdivG (pv 1) pe_int) pe_int))) (pv 0))))
      (pss_one (ps_ret (pe_op op_addG (pe_op op_addG (pe_slice sl_any (pv 5) po_none (po_some (pv 6))) (pe_ix ix_seq (pv 2) (pe_op op_mod (pv 7) pe_int) (fun _ _ => rfl))) (pe_slice sl_any (pv 5) (po_some (pe_op op_addG (pv 6) pe_int)) (po_some (pv 4))))))))
      pss_nil)
      (pss_cons (ps_if (pt_cmpR (op_eqA hr.units) (pv 3) pe_int (nomark _))
      (pss_one (ps_ret (pe_fn G__law_letters hr (pa_cons (pe_op op_addG (pv 1) (pe_op op_mulG pe_int (pv 0))) (pa_cons (pe_op op_addG pe_int (pe_op op_mod (pe_op op_addG (pv 4) (pe_op op_mulG pe_int (pv 0))) pe_int)) pa_nil)))))
      pss_nil)
      (pss_cons (ps_if (pt_cmpR (op_eqA hr.units) (pv 3) pe_int (nomark _))
      (pss_one (ps_ret (pe_slice sl_any (pv 5) po_none (po_some (pe_op op_addG pe_int (pe_op op_mod (pe_op op_addG (pv 4) (pv 0)) pe_int))))))
      pss_nil)
      (pss_cons (ps_if (pt_cmpR (op_eqA hr.units) (pe_op op_mod (pe_op op_fdivG (pv 1) pe_int) pe_int) pe_int (nomark _))
      (pss_cons (ss 2 sc__law_name.nd (pe_lst (pa_s4 (pa_s4 (pa_cons pe_str (pa_cons pe_str pa_nil))))))
      (pss_one (ps_ret (pe_ix ix_seq (pv 2) (pe_op op_mod (pe_op op_addG (pv 4) (pv 0)) pe_int) (fun _ _ => rfl)))))
      pss_nil)
      (pss_one (ps_ret (pe_op op_addG (pe_ix ix_seq (pe_lst (pa_s4 (pa_s4 pa_nil))) (pe_op op_mod (pe_op op_addG (pv 4) (pv 0)) pe_int) (fun _ _ => rfl)) (pe_ix ix_seq (pv 5) (pv 0) (fun _ _ => rfl))))))))))))), ?_⟩
  walk_at "rd0"
  refine ⟨c, 8, rfl, by omega, fun w hw hw8 => ?_⟩
  walk_at "rd"
  obtain ⟨sz, hsz, hs1, hs8⟩ : ∃ sz : Nat, 1 + c / 4 % 8 = (sz : Int) ∧ 1 ≤ sz ∧ sz ≤ 8 := ⟨(1 + c / 4 % 8).toNat, by omega, by omega, by omega⟩
  rw [hsz]
  refine i_ifd (fun h0 => ?_) (fun h0 => ?_)
  · walk_at "rd"
    obtain ⟨pl, hpl, hps⟩ : ∃ pl : Nat, c / 32 % (sz : Int) = (pl : Int) ∧ pl < sz := by
      have v1 := Int.emod_nonneg (c / 32) (show (sz : Int) ≠ 0 by omega)
      have v2 := Int.emod_lt_of_pos (c / 32) (show (0 : Int) < (sz : Int) by omega)
      exact ⟨(c / 32 % (sz : Int)).toNat, by omega, by omega⟩
    rw [hpl]
    refine ⟨tyS, ?_⟩
    walk_at "rd"
    obtain ⟨d, hd⟩ := get_nat (z := w) (k := pl) (by omega)
    refine i_ixX (small (by omega)) (atI_nat hd) ?_
    walk_at "rd"
    refine ⟨_, _, rfl, rfl, ?_⟩
    walk_at "rd"
    refine i_mulI (.inl ⟨by decide, by decide⟩) ?_
    walk_at "rd"
    refine i_mulI (.inr ⟨by omega, by omega⟩) ?_
    walk_at "rd"
    refine i_slX (by omega) ?_
    walk_at "rd"
    have l1 := Txt.slice_le w none (some (pl : Int))
    refine i_abc fun e he26 => ?_
    refine i_addS (small (by show _ + 1 ≤ _; omega)) ?_
    walk_at "rd"
    refine i_slX (by omega) ?_
    have l2 := Txt.slice_le w (some ((pl : Int) + 1)) (some (sz : Int))
    have l3 : Str.length ⟨#[97 + e]⟩ = 1 := rfl
    refine i_addS (small (by rw [len_append]; omega)) ?_
    refine q _ _ (Same.refl _) ⟨lt_append (lt_append (lt_slice hw _ _) (lt_one he26)) (lt_slice hw _ _), ?_, ?_⟩
    · rw [len_append, len_append]; omega
    · rw [len_append, len_append]; omega
  walk_at "rd"
  refine i_ifd (fun h1 => ?_) (fun h1 => ?_)
  · walk_at "rd"
    refine i_mulI (.inl ⟨by decide, by decide⟩) ?_
    walk_at "rd"
    refine i_mulI (.inl ⟨by decide, by decide⟩) ?_
    walk_at "rd"
    obtain ⟨e, he, he1, he8⟩ : ∃ e : Nat, 1 + ((sz : Int) + 3 * (k : Int)) % 8 = (e : Int) ∧ 1 ≤ e ∧ e ≤ 8 := ⟨(1 + ((sz : Int) + 3 * (k : Int)) % 8).toNat, by omega, by omega, by omega⟩
    rw [he]
    refine ⟨_, e, rfl, by omega, fun z hz hzl => ?_⟩
    exact q _ _ (Same.refl _) ⟨hz, by omega, by omega⟩
  walk_at "rd"
  refine i_ifd (fun h2 => ?_) (fun h2 => ?_)
  · walk_at "rd"
    refine i_slX (by omega) ?_
    refine q _ _ (Same.refl _) ⟨lt_slice hw _ _, ?_, ?_⟩
    · rcases PyProof.Rows.slice_ns_cases' w (1 + ((sz : Int) + (k : Int)) % 8) with ⟨a, b⟩ | ⟨a, b, c⟩ | ⟨a, b⟩ <;> omega
    · have := Txt.slice_le w none (some (1 + ((sz : Int) + (k : Int)) % 8))
      omega
  walk_at "rd"
  refine i_ifd (fun h3 => ?_) (fun h3 => ?_)
  · walk_at "rd"
    refine j_lst (by simp) fun l1 H1 s1 n1 e1 => ?_
    walk_at "rd"
    obtain ⟨e, he, he10⟩ : ∃ e : Nat, ((sz : Int) + (k : Int)) % 10 = (e : Int) ∧ e < 10 := ⟨(((sz : Int) + (k : Int)) % 10).toNat, by omega, by omega⟩
    rw [he]
    obtain ⟨z, hz, ok⟩ := line_at e he10
    obtain ⟨o1, o2, o3⟩ := okN_nm ok
    exact i_ixL e1 (map_at hz) (q _ _ s1 ⟨o1, o2, by omega⟩)
  · walk_at "rd"
    refine j_lst (by simp) fun l1 H1 s1 n1 e1 => ?_
    walk_at "rd"
    obtain ⟨e, he, he10⟩ : ∃ e : Nat, ((sz : Int) + (k : Int)) % 8 = (e : Int) ∧ e < 8 := ⟨(((sz : Int) + (k : Int)) % 8).toNat, by omega, by omega⟩
    rw [he]
    obtain ⟨z, hz, ok⟩ := kept_at e he10
    obtain ⟨o1, o2, o3⟩ := okN_nm ok
    refine i_ixL e1 (map_at hz) ?_
    walk_at "rd"
    obtain ⟨d, hd⟩ := get_nat (z := w) (k := k) (by omega)
    refine i_ixX (small (by omega)) (atI_nat hd) ?_
    have hd2 := hw d (List.mem_of_getElem? hd)
    have l3 : Str.length ⟨#[d]⟩ = 1 := rfl
    refine i_addS (small (by omega)) ?_
    refine q _ _ s1 ⟨lt_append o1 (fun x hx => ?_), by rw [len_append]; omega, by rw [len_append]; omega⟩
    have hx : x ∈ [d] := hx
    rw [List.mem_singleton.mp hx]
    exact hd2
unseal PE PA PS PSs
def spFresh : Sp := fun vs H Q _ => ∃ (z : Str) (l : Addr) (ns : List Str), vs = [.str z, .ref l] ∧ H l = some (.lst (ns.map V.str)) ∧ ns.length ≤ 5 ∧ Nm z ∧ ∀ z' H', Same H H' → Nm z' → z' ∉ ns → z' ∉ keptW → Q (.str z') H'
theorem kept_len : keptW.length = 8 := rfl
theorem ok_fresh (T : Txt K mg t) : FnS P w K mg base 1 "_law_fresh" ["_law_name_here", "_law_names_here"] (spFresh) := by
  refine ⟨_, _, T.F__law_fresh.ok sc__law_fresh (fun vs H Q E h => ?_) (fun cdv A outer s H vs Q E hr h => ?_), T.b__law_fresh, T.F__law_fresh.kp, T.m__law_fresh⟩
  · obtain ⟨z, l, ns, rfl, hl, hn5, ⟨hz, hz1, hz2⟩, q⟩ := h
    rfl
  obtain ⟨z, l, ns, rfl, hl, hn5, ⟨hz, hz1, hz2⟩, q⟩ := h
  obtain ⟨c, hc, ez⟩ := cut_last hz1 hz
  generalize eu : Txt.slice z none (some (-1)) = u at ez
  have hu : Lt u := by rw [← eu]; exact lt_slice hz _ _
  have hul : u.length + 1 = z.length := by rw [ez]; unfold rot; rw [len_append]; rfl
  have hrl : ∀ j, (rot u c j).length = u.length + 1 := fun j => by unfold rot; rw [len_append]; rfl
  refine ⟨_, (pss_cons (ss 2 sc__law_fresh.nd pe_str)
      (pss_cons (ps_while PassesOwn.never (PW.pt (pw_or (pt_cmpR op_inG (pv 0) (pv 1) (by with_unfolding_all rfl)) (pw_or1 (pt_cmpR op_inG (pv 0) (pe_tup (pa_s4 (pa_s4 pa_nil))) (by with_unfolding_all rfl)))))
      (pss_one (ss 0 sc__law_fresh.nd (pe_op op_addG (pe_slice sl_any (pv 0) po_none (po_some (pe_un un_neg pe_int))) (pe_ix ix_seq (pv 2) (pe_op op_mod (pe_op op_addG (pe_bm PySem.F.plainAttrs_str PySem.F.slot_str_find PySem.F.type_str_find ms_find (pv 2) (pa_cons (pe_ix ix_seq (pv 0) (pe_un un_neg pe_int) (fun _ _ => rfl)) pa_nil)) pe_int) pe_int) (fun _ _ => rfl))))))
      (pss_one (ps_ret (pv 0))))), ?_⟩
  walk_at "rd0"
  refine ⟨fun m σ H' => ∃ j, m + j = 14 ∧ j ≤ 13 ∧ Same H H' ∧ (∀ i, i < j → rot u c i ∈ ns ++ keptW) ∧ σ = [some (.str (rot u c j)), some (.ref l), some (.str "abcdefghijklmnopqrstuvwxyz")], ⟨14, 0, rfl, by omega, Same.refl _, fun i hi => absurd hi (by omega), by rw [← ez]⟩, ?_⟩
  rintro m σ H1 ⟨j, hm, hj, s1, hin, rfl⟩
  have go : rot u c j ∈ ns ++ keptW → j + 1 ≤ 13 := fun h => by
    have := pigeon (rot u c) (j + 1) (ns ++ keptW) (fun i hi => by
      rcases (show i = j ∨ i < j by omega) with rfl | h'
      · exact h
      · exact hin i h') (fun i i' h1 h2 => rot_ne h1 (by omega))
    rw [List.length_append, kept_len] at this
    omega
  have step : ∀ (H2 : Hp), Same H1 H2 → rot u c j ∈ ns ++ keptW → ∃ N : St → Hp → Prop, (∀ σ' H', N σ' H' → ∃ m', m' < m ∧ ∃ j, m' + j = 14 ∧ j ≤ 13 ∧ Same H H' ∧ (∀ i, i < j → rot u c i ∈ ns ++ keptW) ∧ σ' = [some (.str (rot u c j)), some (.ref l), some (.str "abcdefghijklmnopqrstuvwxyz")]) ∧ ∀ σ' H', σ' = [some (.str (rot u c (j + 1))), some (.ref l), some (.str "abcdefghijklmnopqrstuvwxyz")] → Same H H' → N σ' H' := fun H2 s2 h => by
    have := go h
    refine ⟨fun σ' H' => Same H H' ∧ σ' = [some (.str (rot u c (j + 1))), some (.ref l), some (.str "abcdefghijklmnopqrstuvwxyz")], fun σ' H' ⟨a, b⟩ => ⟨m - 1, by omega, j + 1, by omega, this, a, fun i hi => ?_, b⟩, fun σ' H' a b => ⟨b, a⟩⟩
    rcases (show i = j ∨ i < j by omega) with rfl | h'
    · exact h
    · exact hin i h'
  have nxt : Txt.slice (rot u c j) none (some (-1)) ++ (⟨#[97 + (c + j + 1) % 26]⟩ : Str) = rot u c (j + 1) := by rw [rot_slice]; rfl
  have h1 := hrl j
  walk_at "rd"
  have bod : ∀ (H2 : Hp) (N : St → Hp → Prop) (rt : VK) (bk : St → Hp → Prop), Same H1 H2 → (∀ σ' H', σ' = [some (.str (rot u c (j + 1))), some (.ref l), some (.str "abcdefghijklmnopqrstuvwxyz")] → Same H H' → N σ' H') → tAsg (tOp rAddG (tSl (rSlA K) (tVar 0) tNoPart (tPart (tUn (rU fun i => V.int (-i)) (tC (.int 1))))) (tOp (rIx K) (tVar 2) (tOp (rI (fun x j => 0 < j) fun i j => V.int (i % j)) (tOp rAddG (tBM K "str" rFind (tVar 2) (tCons (tOp (rIx K) (tVar 0) (tUn (rU fun i => V.int (-i)) (tC (.int 1)))) tNil)) (tC (.int 1))) (tC (.int 26))))) (gName 0) { nx := N, rt := rt, bk := bk, ct := N } [some (.str (rot u c j)), some (.ref l), some (.str "abcdefghijklmnopqrstuvwxyz")] H2 := fun H2 N rt bk s2 n2 => by
    walk_at "rd"
    refine i_slX (by omega) ?_
    walk_at "rd"
    refine ⟨tyS, ?_⟩
    walk_at "rd"
    refine i_ixX (small (by omega)) (rot_last u c j) ?_
    walk_at "rd"
    refine ⟨_, _, rfl, rfl, ?_⟩
    walk_at "rd"
    have e0 : Txt.find "abcdefghijklmnopqrstuvwxyz" ⟨#[97 + (c + j) % 26]⟩ = (((c + j) % 26 : Nat) : Int) := let_find _ (by omega)
    rw [e0]
    have e1 : ((((c + j) % 26 : Nat) : Int) + 1) % 26 = (((c + j + 1) % 26 : Nat) : Int) := by omega
    rw [e1]
    refine i_ixX (by decide) (atI_nat (let_at _ (by omega))) ?_
    have l3 := Txt.slice_le (rot u c j) none (some (-1))
    refine i_addS (small (by show _ + 1 ≤ _; omega)) ?_
    walk_at "rd"
    exact n2 _ _ (by rw [nxt]) (s1.trans s2)
  have memD : rot u c j ∈ ns ++ keptW → Lt (rot u c j) := fun _ => lt_append hu (lt_one (by omega))
  walk_at "rd"
  refine i_inS (.inl (s1 _ _ hl)) ?_
  walk_at "rd"
  refine i_ifd (fun hA => ?_) (fun hA => ?_)
  · obtain ⟨N, n1, n2⟩ := step H1 (Same.refl _) (List.mem_append_left _ hA)
    refine i_ifT rfl ⟨N, n1, ?_⟩
    exact bod H1 N _ _ (Same.refl _) n2
  · walk_at "rd"
    refine j_tup (by simp) fun l1 H2 s2 n2 e2 => ?_
    refine i_inS (ns := keptW) (.inr e2) ?_
    walk_at "rd"
    refine i_ifd (fun hB => ?_) (fun hB => ?_)
    · obtain ⟨N, n1, n2⟩ := step H2 s2 (List.mem_append_right _ hB)
      refine ⟨N, n1, ?_⟩
      exact bod H2 N _ _ s2 n2
    · walk_at "rd"
      exact q _ _ (s1.trans s2) ⟨lt_append hu (lt_one (by omega)), by omega, by omega⟩ hA hB
def spNames : Sp := fun vs H Q _ => ∃ (m : Nat) (c : Int), vs = [.int (m : Int), .int c] ∧ m ≤ 6 ∧ ∀ (l : Addr) (ns : List Str) (H' : Hp), Same H H' → H l = none → H' l = some (.lst (ns.map V.str)) → ns.length = m → (∀ z ∈ ns, Nm z ∧ z ∉ keptW) → ns.Nodup → Q (.ref l) H'
theorem ok_names (T : Txt K mg t) : FnS P w K mg base 5 "_law_names" ["_law_many", "_law_cell"] (spNames) := by
  refine ⟨_, _, T.F__law_names.ok sc__law_names (fun vs H Q E h => ?_) (fun cdv A outer s H vs Q E hr h => ?_), T.b__law_names, T.F__law_names.kp, T.m__law_names⟩
  · obtain ⟨m, c, rfl, hm6, q⟩ := h
    rfl
  obtain ⟨m, c, rfl, hm6, q⟩ := h
  have G__law_name := ok_name (P := P) (w := w) (base := base) T
  have G__law_fresh := ok_fresh (P := P) (w := w) (base := base) T
  refine ⟨_, (pss_cons (ss 2 sc__law_names.nd (pe_lst pa_nil))
      (pss_cons (ps_for PassesOwn.never rfl (pi_range1 rfl T.B.range (pa_cons (pv 0) pa_nil)) (sg 3 sc__law_names.nd)
      (pss_one (ps_expr (pe_bm PySem.F.plainAttrs_list PySem.F.slot_list_append PySem.F.type_list_append mt_append (pv 2) (pa_cons (pe_fn G__law_fresh hr (pa_cons (pe_fn G__law_name hr (pa_cons (pv 3) (pa_cons (pv 1) pa_nil))) (pa_cons (pv 2) pa_nil))) pa_nil)))))
      (pss_one (ps_ret (pv 2))))), ?_⟩
  walk_at "rd0"
  refine j_lst (by simp) fun l H1 s1 n1 e1 => ?_
  walk_at "rd"
  refine ⟨_, rfl, by omega, by omega, ?_⟩
  rw [show ((m : Int)).toNat = m by omega]
  refine loopR0 (n := m) (fun i σ H' => ∃ (ns : List Str) (v : Option V), Same H H' ∧ H' l = some (.lst (ns.map V.str)) ∧ ns.length = i ∧ (∀ z ∈ ns, Nm z ∧ z ∉ keptW) ∧ ns.Nodup ∧ σ = [some (.int (m : Int)), some (.int c), some (.ref l), v]) ⟨[], _, s1, e1, rfl, (fun z hz => by cases hz), List.nodup_nil, rfl⟩ ?_ ?_
  · rintro i σ H2 hi ⟨ns, v, s2, e2, hl2, hn2, hd2, rfl⟩
    walk_at "rd"
    refine ⟨tyL e2, ?_⟩
    walk_at "rd"
    refine ⟨i, c, rfl, by omega, fun z H3 s3 hz => ?_⟩
    walk_at "rd"
    refine ⟨z, l, ns, rfl, s3 _ _ e2, by omega, hz, fun z' H4 s4 hz4 hn4 hk4 => ?_⟩
    walk_at "rd"
    refine j_append (s4 _ _ (s3 _ _ e2)) (by rw [List.length_map]; omega) fun H5 b5 e5 => ?_
    walk_at "rd"
    refine ⟨ns ++ [z'], _, b5.same n1 (s2.trans (s3.trans s4)), by rw [e5, List.map_append]; rfl, by rw [List.length_append]; simp [hl2], fun y hy => ?_, ?_, rfl⟩
    · rcases List.mem_append.mp hy with h | h
      · exact hn2 y h
      · rw [List.mem_singleton.mp h]; exact ⟨hz4, hk4⟩
    · rw [List.nodup_append]
      refine ⟨hd2, by simp, fun a ha b hb e => ?_⟩
      rw [List.mem_singleton.mp hb] at e
      rw [e] at ha
      exact hn4 ha
  · rintro σ H2 ⟨ns, v, s2, e2, hl2, hn2, hd2, rfl⟩
    walk_at "rd"
    exact q l ns H2 s2 n1 e2 hl2 hn2 hd2
end


end LW

set_option maxRecDepth 100000
set_option maxHeartbeats 4000000
open PySem L2

namespace LW
open PySem L2 EM
theorem lay_strs : ∀ a : List Str, (∀ z ∈ a, Lt z) → PyData.canLayAll0 (a.map .str) = true
  | [], _ => rfl
  | x :: a, h => by
    have e : PyData.strOk x = true := by
      unfold PyData.strOk
      rw [Array.all_eq_true_iff_forall_mem]
      intro c hc
      have := h x (by simp) c (Array.mem_toList_iff.mpr hc)
      exact decide_eq_true (by omega)
    simp [PyData.canLayAll0, PyData.canLay0, e, lay_strs a (fun z hz => h z (List.mem_cons_of_mem _ hz))]
section
variable {P : Program} {w : World} {K : PySem.W.Frag} {mg : Str → Option Value} {base : Heap} {t : Ad} {n : Nat}
theorem i_neLS {l l' : Addr} {a b : List Str} {H : Hp} {Q : VK} (ha : ∀ z ∈ a, Lt z) (hb : ∀ z ∈ b, Lt z) (h : H l = some (.lst (a.map V.str))) (h' : H l' = some (.lst (b.map V.str))) (q : Q (.bl (!decide (a = b))) H) : rNeA (.ref l) (.ref l') H Q := by
  refine .inr (.inl ⟨a.map .str, b.map .str, ?_, ?_, lay_strs a ha, lay_strs b hb, dep_strs a, ?_⟩)
  · rw [DV]; exact ⟨l, _, rfl, h, dvs_strs H a⟩
  · rw [DV]; exact ⟨l', _, rfl, h', dvs_strs H b⟩
  · rw [eqvAll_strs]; exact q
theorem nm_len {ys : List Str} (h : ∀ z ∈ ys, Nm z) : (∀ z ∈ ys, z.length ≤ 20) ∧ (∀ z ∈ ys, z.length ≠ 0) := ⟨fun z hz => (h z hz).2.2, fun z hz => by have := (h z hz).2.1; omega⟩
theorem ok_law (T : Txt K mg t) : FnOk P w K mg base CX0 70 t.f_law t.d_law ["_law_script"] (spLaw K) := by
  refine T.F_law.ok sc_law (fun vs H Q E h => ?_) (fun cdv A outer s H vs Q E hr h => ?_)
  · obtain ⟨a, ns, rfl, _⟩ := h
    rfl
  obtain ⟨sc, ns, rfl, hS, h63, hO, q⟩ := h
  have G__law_cell_at := ok_cell_at (P := P) (w := w) (base := base) T
  have G__law_names := ok_names (P := P) (w := w) (base := base) T
  have G__law_tree := ok_tree (P := P) (w := w) (base := base) T
  have G__law_made := G_made_of (P := P) (w := w) (base := base) T 63
  have G__law_line := G_line_of (P := P) (w := w) (base := base) T 64
  have M_Not := ok_Not (P := P) (w := w) (base := base) T
  have M_And := ok_And (P := P) (w := w) (base := base) T
  have D_shown := D_shown_of (P := P) (w := w) (base := base) T 64
  refine ⟨_, (pss_cons (ss 1 sc_law.nd (pe_op op_addG pe_int (pe_op op_mod (pe_fn G__law_cell_at hr (pa_cons (pv 0) (pa_cons pe_int pa_nil))) pe_int)))
      (pss_cons (ss 2 sc_law.nd (pe_fn G__law_names hr (pa_cons (pv 1) (pa_cons (pe_fn G__law_cell_at hr (pa_cons (pv 0) (pa_cons pe_int pa_nil))) pa_nil))))
      (pss_cons (ss 3 sc_law.nd (pe_fn G__law_tree hr (pa_cons (pe_slice sl_any (pv 0) (po_some pe_int) (po_some pe_int)) (pa_cons (pv 1) (pa_cons (pe_op op_fdivG (pe_fn G__law_cell_at hr (pa_cons (pv 0) (pa_cons pe_int pa_nil))) pe_int) pa_nil)))))
      (pss_cons (ss 4 sc_law.nd (pe_lst pa_nil))
      (pss_cons (ss 5 sc_law.nd (pe_fn G__law_made hr (pa_cons (pv 3) (pa_cons (pv 4) pa_nil))))
      (pss_cons (ps_for PassesOwn.never rfl (pi_seq (pv 4)) (sg 6 sc_law.nd)
      (pss_one (ps_expr (pe_bm0 PySem.F.plainAttrs_list PySem.F.slot_list_clear PySem.F.type_list_clear mt_clear (pv 6)))))
      (pss_cons (ps_for PassesOwn.never rfl (pi_seq (pe_lst (pa_cons (pv 2) (pa_cons (pe_listrev rfl rfl T.B.list rfl T.B.reversed (pv 2)) (pa_cons (pv 2) pa_nil))))) (sg 7 sc_law.nd)
      (pss_cons (ss 8 sc_law.nd (pe_callTy call_listG rfl T.B.list bt_list (pa_cons (pv 7) pa_nil)))
      (pss_cons (ss 9 sc_law.nd (pe_dy D_shown hr (pv 5) (pa_cons (pv 8) pa_nil)))
      (pss_one (ps_if (PW.pt (pw_or (pt_not (pt_truth (pe_callB call_isi rfl T.B.isinstance bt_isinstance (pa_cons (pv 9) (pa_cons (pe_bltn (v := .ty "str") rfl T.B.str bt_str rfl) pa_nil))) (fun _ => rfl))) (pw_or (pt_cmpR (op_neA hr.units) (pv 9) (pe_fn G__law_line hr (pa_cons (pv 3) (pa_cons (pv 7) pa_nil))) (nomark _)) (pw_or1 (pt_cmpR (op_neA hr.units) (pv 8) (pv 7) (nomark _))))))
      (pss_one (ps_ret pe_bl))
      pss_nil)))))
      (pss_cons (ss 10 sc_law.nd (pe_mk M_Not hr (pa_cons (pv 5) pa_nil)))
      (pss_cons (ss 11 sc_law.nd (pe_mk M_And hr (pa_cons (pe_lst (pa_cons (pv 5) (pa_cons (pv 5) pa_nil))) pa_nil)))
      (pss_cons (ps_if (pt_cmpR (op_neA hr.units) (pe_dy D_shown hr (pv 11) (pa_cons (pe_callTy call_listG rfl T.B.list bt_list (pa_cons (pv 2) pa_nil)) pa_nil)) (pe_fn G__law_line hr (pa_cons (pe_tup (pa_cons pe_str (pa_cons (pe_lst (pa_cons (pv 3) (pa_cons (pv 3) pa_nil))) pa_nil))) (pa_cons (pv 2) pa_nil))) (nomark _))
      (pss_one (ps_ret pe_bl))
      pss_nil)
      (pss_cons (ps_if (pt_cmpR (op_neA hr.units) (pe_dy D_shown hr (pv 10) (pa_cons (pe_callTy call_listG rfl T.B.list bt_list (pa_cons (pv 2) pa_nil)) pa_nil)) (pe_fn G__law_line hr (pa_cons (pe_tup (pa_cons pe_str (pa_cons (pe_lst (pa_cons (pv 3) pa_nil)) pa_nil))) (pa_cons (pv 2) pa_nil))) (nomark _))
      (pss_one (ps_ret pe_bl))
      pss_nil)
      (pss_one (ps_ret (pe_cmpR (op_eqA hr.units) (pe_dy D_shown hr (pv 5) (pa_cons (pe_callTy call_listG rfl T.B.list bt_list (pa_cons (pv 2) pa_nil)) pa_nil)) (pe_fn G__law_line hr (pa_cons (pv 3) (pa_cons (pv 2) pa_nil))) (nomark _))))))))))))))), ?_⟩
  obtain ⟨m, hm, hm1, hm6⟩ : ∃ m : Nat, 1 + cell ns 0 % 6 = (m : Int) ∧ 1 ≤ m ∧ m ≤ 6 := ⟨(1 + cell ns 0 % 6).toNat, by omega, by omega, by omega⟩
  walk_at "rd0"
  refine ⟨sc, ns, 0, rfl, hS, ?_⟩
  walk_at "rd"
  rw [hm]
  walk_at "rd"
  refine ⟨sc, ns, 1, rfl, hS, ?_⟩
  walk_at "rd"
  refine ⟨m, cell ns 1, rfl, hm6, fun nl zs H1 s1 n1 e1 hz1 hz2 hz3 => ?_⟩
  have hNm : ∀ z ∈ zs, Nm z := fun z hz => (hz2 z hz).1
  walk_at "rd"
  refine j_slA (s1.seq hS) ((cut_mid _ 2 62).trans (map_int_mid ns 2 60)) fun cl H2 s2 n2 e2 => ?_
  walk_at "rd"
  refine ⟨sc, ns, 0, rfl, (s1.trans s2).seq hS, ?_⟩
  walk_at "rd"
  refine ⟨cl, _, m, _, rfl, e2, by rw [List.length_take]; omega, hm1, hm6, fun tp f H3 s3 tr3 hlow hok hwt => ?_⟩
  walk_at "rd"
  refine j_lst (by simp) fun hl H4 s4 n4 e4 => ?_
  walk_at "rd"
  have tr4 : TrAt (fun l => l ≠ hl) H4 63 tp f := tr3.imp (fun _ _ e => s4 _ _ e) fun l xs _ e => ⟨ne_of_none e n4, s4 _ _ e⟩
  have nnl : nl ≠ hl := ne_of_none (s3 _ _ (s2 _ _ e1)) n4
  refine ⟨tp, hl, f, [], rfl, tr4, e4, by simp; omega, fun H5 fq hs b5 e5 hx5 hz5 f5 => ?_⟩
  walk_at "rd"
  rw [List.nil_append] at e5
  refine seqL (xs := hs.map V.ref) (fun i σ H' => But hl H4 H' ∧ H' hl = some (.lst (hs.map V.ref)) ∧ (∀ x ∈ hs, H4 x = none ∧ isL H' x) ∧ FmAt t H' 63 fq f ∧ ∃ v6, σ = [some (.ref sc), some (.int (m : Int)), some (.ref nl), some (.ref tp), some (.ref hl), some (.ref fq), v6, none, none, none, none, none])
    ⟨b5, e5, hx5, f5, _, rfl⟩ (fun i σ H' _ hp => by obtain ⟨_, e, _⟩ := hp; exact SqL.of e) ?_ ?_
  · rintro i x σ H6 hx ⟨b6, e6, hx6, f6, v6, rfl⟩
    obtain ⟨p', rfl, hx'⟩ := get_ref hx
    obtain ⟨np, ys, ep⟩ := hx6 p' (List.mem_of_getElem? hx')
    have nph : hl ≠ p' := fun z => by rw [z, np] at e4; cases e4
    walk_at "rd"
    refine ⟨tyL ep, ?_⟩
    walk_at "rd"
    refine j_clear ep fun H7 b7 e7 => ?_
    walk_at "rd"
    exact ⟨fun b u hb e => b7 _ _ (fun z => by rw [z, np] at e; cases e) (b6 _ _ hb e), b7 _ _ nph e6, fun x hx => ⟨(hx6 x hx).1, (hx6 x hx).2.but b7 e7⟩, FmAt.mono (b7.ext ep) f6, _, rfl⟩
  rintro σ H6 ⟨b6, e6, hx6, f6, v6, rfl⟩
  have tr6 : TrAt anyA H6 63 tp f := tr4.imp (fun p xs e => b6 _ _ (ne_of e e4 (by intro z; cases z)) e) (fun l xs sl e => ⟨trivial, b6 _ _ sl e⟩)
  have el6 : H6 nl = some (.lst (zs.map V.str)) := b6 _ _ nnl (s4 _ _ (s3 _ _ (s2 _ _ e1)))
  clear b5 e5 hx5 f5 b6 hx6 e6 tr3 tr4 e2 s1 s2 s3 s4
  walk_at "rd"
  refine j_listrev (SqL.of el6) fun rl H7 s7 n7 e7 => ?_
  rw [← List.map_reverse] at e7
  walk_at "rd"
  refine j_lst (by simp) fun ll H8 s8 n8 e8 => ?_
  have w8 := s7.trans s8
  have el8 := w8 _ _ el6
  refine seqL (xs := [.ref nl, .ref rl, .ref nl]) (fun i σ H' => Same H8 H' ∧ ∃ v6 v7 v8 v9, σ = [some (.ref sc), some (.int (m : Int)), some (.ref nl), some (.ref tp), some (.ref hl), some (.ref fq), v6, v7, v8, v9, none, none])
    ⟨Same.refl _, _, _, _, _, rfl⟩ (fun i σ H' _ hp => by obtain ⟨s, _⟩ := hp; exact SqL.of (s _ _ e8)) ?_ ?_
  · rintro i x σ H9 hx ⟨s9, v6, v7, v8, v9, rfl⟩
    obtain ⟨a, ys, rfl, ea, hyl, hyn⟩ : ∃ (a : Addr) (ys : List Str), x = .ref a ∧ H8 a = some (.lst (ys.map V.str)) ∧ ys.length = m ∧ ∀ z ∈ ys, Nm z := by
      have := List.mem_of_getElem? hx
      simp only [List.mem_cons, List.not_mem_nil, or_false] at this
      rcases this with rfl | rfl | rfl
      · exact ⟨nl, zs, rfl, el8, hz1, hNm⟩
      · exact ⟨rl, zs.reverse, rfl, s8 _ _ e7, by rw [List.length_reverse]; exact hz1, fun z hz => hNm z (List.mem_reverse.mp hz)⟩
      · exact ⟨nl, zs, rfl, el8, hz1, hNm⟩
    obtain ⟨h20, hne⟩ := nm_len hyn
    have ea9 := s9 _ _ ea
    walk_at "rd"
    refine j_list (.inl (SqL.of ea9)) fun hd H10 s10 n10 e10 => ?_
    walk_at "rd"
    have w10 := w8.trans (s9.trans s10)
    have f10 : FmAt t H10 64 fq f := FmAt.le (by omega) (FmAt.mono (Ext.of w10) f6)
    obtain ⟨C, dx', fs', e', hC, hlk⟩ := f10.ins "shown" (by decide +kernel) (by decide +kernel) (by decide +kernel) (by decide +kernel)
    refine ⟨fq, C, dx', fs', rfl, e', hC, hlk, ?_⟩
    walk_at "rd"
    refine ⟨e', fq, hd, f, ys, rfl, f10, e10, h20, by rw [hyl]; exact hlow, by omega, fun H11 s11 => ?_⟩
    walk_at "rd"
    refine i_ifF rfl ?_
    walk_at "rd"
    refine ⟨tp, a, f, ys, rfl, (tr6.same (w10.trans s11)).le (by omega), s11 _ _ (s10 _ _ ea9), h20, hne, by rw [hyl]; exact hlow, hok, by omega, fun H12 s12 => ?_⟩
    walk_at "rd"
    refine i_ifF (by rw [decide_eq_true rfl]; rfl) ?_
    walk_at "rd"
    refine i_neLS (fun z hz => (hyn z hz).1) (fun z hz => (hyn z hz).1) (s12 _ _ (s11 _ _ e10)) (s12 _ _ (s11 _ _ (s10 _ _ ea9))) ?_
    rw [decide_eq_true rfl]
    walk_at "rd"
    refine i_ifF rfl ?_
    walk_at "rd"
    exact ⟨s9.trans (s10.trans (s11.trans s12)), _, _, _, _, rfl⟩
  rintro σ H9 ⟨s9, v6, v7, v8, v9, rfl⟩
  obtain ⟨h20, hne⟩ := nm_len hNm
  have w9 := w8.trans s9
  have f9 := FmAt.mono (Ext.of w9) f6
  have tr9 := tr6.same w9
  have el9 := w9 _ _ el6
  have hlz : f.low zs.length = true := by rw [hz1]; exact hlow
  walk_at "rd"
  refine i_init1 fun ox od H10 s10 nx10 e10 => ?_
  walk_at "rd"
  refine j_lst (by simp) fun pl H11 s11 n11 e11 => ?_
  walk_at "rd"
  refine i_initJ e11 fun ax ad atp H12 s12 nx12 ex12 et12 => ?_
  walk_at "rd"
  have w12 := s10.trans (s11.trans s12)
  have f12 := FmAt.mono (Ext.of w12) f9
  have fN : FmAt t H12 64 ox (.neg f) := ⟨od, fq, (s11.trans s12) _ _ e10, f12⟩
  have fA : FmAt t H12 64 ax (.join .a [f, f]) := ⟨ad, atp, [fq, fq], ex12, et12, .cons f12 (.cons f12 .nil)⟩
  have tr12 := tr9.same w12
  have el12 := w12 _ _ el9
  clear w8 s7 s8 el8 e8 e7 s9 w9 f9 tr9 el9
  have lowN : (Fm.neg f).low zs.length = true := by simp only [Fm.low]; exact hlz
  have lowA : (Fm.join .a [f, f]).low zs.length = true := by simp only [Fm.low, Fm.lowL, hlz]; rfl
  have okA : fOk (.join .a [f, f]) = true := by simp only [fOk, fOkL, hok]; rfl
  have wtA : fWt (.join .a [f, f]) ≤ 1000 := by simp only [fWt, fWtL]; omega
  have wtN : fWt (.neg f) ≤ 1000 := by simp only [fWt]; omega
  obtain ⟨C, dx', fs', e', hC, hlk⟩ := fA.ins "shown" (by decide +kernel) (by decide +kernel) (by decide +kernel) (by decide +kernel)
  refine ⟨ax, C, dx', fs', rfl, e', hC, hlk, ?_⟩
  walk_at "rd"
  refine j_list (.inl (SqL.of el12)) fun h1 H13 s13 n13 e13 => ?_
  walk_at "rd"
  refine ⟨s13 _ _ e', ax, h1, _, zs, rfl, FmAt.mono (Ext.of s13) fA, e13, h20, lowA, wtA, fun H14 s14 => ?_⟩
  walk_at "rd"
  refine j_lst (by simp) fun tl H15 s15 n15 e15 => ?_
  walk_at "rd"
  refine j_tup (by simp) fun tt H16 s16 n16 e16 => ?_
  walk_at "rd"
  have w16 := s13.trans (s14.trans (s15.trans s16))
  have tr16 := tr12.same w16
  refine ⟨tt, nl, .join .a [f, f], zs, rfl, ⟨tl, [tp, tp], e16, trivial, s16 _ _ e15, .cons tr16 (.cons tr16 .nil)⟩, w16 _ _ el12, h20, hne, lowA, okA, wtA, fun H17 s17 => ?_⟩
  walk_at "rd"
  refine i_ifF (by rw [decide_eq_true rfl]; rfl) ?_
  have w17 := w16.trans s17
  have fN17 := FmAt.mono (Ext.of w17) fN
  have tr17 := tr12.same w17
  have el17 := w17 _ _ el12
  have f17 := FmAt.le (m := 64) (by omega) (FmAt.mono (Ext.of w17) f12)
  clear fA fN f12 tr12 el12 w16 w17 s13 s14 s15 s16 s17 tr16 e13 e15 e16 e' hC hlk
  walk_at "rd"
  obtain ⟨C, dx', fs', e', hC, hlk⟩ := fN17.ins "shown" (by decide +kernel) (by decide +kernel) (by decide +kernel) (by decide +kernel)
  refine ⟨ox, C, dx', fs', rfl, e', hC, hlk, ?_⟩
  walk_at "rd"
  refine j_list (.inl (SqL.of el17)) fun h1 H13 s13 n13 e13 => ?_
  walk_at "rd"
  refine ⟨s13 _ _ e', ox, h1, _, zs, rfl, FmAt.mono (Ext.of s13) fN17, e13, h20, lowN, wtN, fun H14 s14 => ?_⟩
  walk_at "rd"
  refine j_lst (by simp) fun tl H15 s15 n15 e15 => ?_
  walk_at "rd"
  refine j_tup (by simp) fun tt H16 s16 n16 e16 => ?_
  walk_at "rd"
  have w16 := s13.trans (s14.trans (s15.trans s16))
  refine ⟨tt, nl, .neg f, zs, rfl, ⟨tl, tp, e16, trivial, s16 _ _ e15, tr17.same w16⟩, w16 _ _ el17, h20, hne, lowN, by simp only [fOk]; exact hok, wtN, fun H18 s18 => ?_⟩
  walk_at "rd"
  refine i_ifF (by rw [decide_eq_true rfl]; rfl) ?_
  have w18 := w16.trans s18
  have f18 := FmAt.mono (Ext.of w18) f17
  have tr18 := tr17.same w18
  have el18 := w18 _ _ el17
  clear fN17 f17 tr17 el17 w16 w18 s13 s14 s15 s16 s18 e13 e15 e16 e' hC hlk
  walk_at "rd"
  obtain ⟨C, dx', fs', e', hC, hlk⟩ := f18.ins "shown" (by decide +kernel) (by decide +kernel) (by decide +kernel) (by decide +kernel)
  refine ⟨fq, C, dx', fs', rfl, e', hC, hlk, ?_⟩
  walk_at "rd"
  refine j_list (.inl (SqL.of el18)) fun h1 H13 s13 n13 e13 => ?_
  walk_at "rd"
  refine ⟨s13 _ _ e', fq, h1, _, zs, rfl, FmAt.mono (Ext.of s13) f18, e13, h20, hlz, by omega, fun H14 s14 => ?_⟩
  walk_at "rd"
  refine ⟨tp, nl, f, zs, rfl, (tr18.same (s13.trans s14)).le (by omega), s14 _ _ (s13 _ _ el18), h20, hne, hlz, hok, by omega, fun H15 s15 => ?_⟩
  walk_at "rd"
  rw [decide_eq_true rfl]
  exact q _
end


end LW
theorem PySem.W.Fast.tw10500913371939170409 : True := trivial
theorem PySem.W.Fast.tw12880658376138114666 : True := trivial
theorem PySem.W.Fast.tw4047473605403720894 : True := trivial
theorem PySem.W.Fast.tw2500849911103291418 : True := trivial
theorem PySem.W.Fast.tw10134718982484499679 : True := trivial
theorem PySem.W.Fast.tw18282353717412791283 : True := trivial
theorem PySem.W.Fast.tw2364956018452182470 : True := trivial
theorem PySem.W.Fast.tw14835116655894332925 : True := trivial
theorem PySem.W.Fast.tw16630620884825730090 : True := trivial
theorem PySem.W.Fast.tw6396691115049937862 : True := trivial
theorem PySem.W.Fast.tw3544523884615660534 : True := trivial
theorem PySem.W.Fast.tw16758100404300298392 : True := trivial
theorem PySem.W.Fast.tw11231381957902784446 : True := trivial
theorem PySem.W.Fast.tw9713996741536763202 : True := trivial
theorem PySem.W.Fast.tw15768413217608863787 : True := trivial
theorem PySem.W.Fast.tw6188826102634531795 : True := trivial
theorem PySem.W.Fast.tw12147518300319802035 : True := trivial
theorem PySem.W.Fast.tw256989846264089968 : True := trivial
theorem PySem.W.Fast.tw12846733004263165319 : True := trivial
theorem PySem.W.Fast.tw16078620387427720651 : True := trivial
theorem PySem.W.Fast.tw18221614512721432941 : True := trivial
theorem PySem.W.Fast.tw13796766807039527129 : True := trivial
theorem PySem.W.Fast.tw3163166859841521385 : True := trivial
theorem PySem.W.Fast.tw16285596121159149815 : True := trivial
theorem PySem.W.Fast.tw3617521229019002568 : True := trivial
theorem PySem.W.Fast.tw4103608124441109995 : True := trivial
theorem PySem.W.Fast.tw14249113658327523611 : True := trivial
theorem PySem.W.Fast.tw849909655613440828 : True := trivial
theorem PySem.W.Fast.tw614209394062200494 : True := trivial
theorem PySem.W.Fast.tw15400549775186814050 : True := trivial
theorem PySem.W.Fast.tw11718175172854274370 : True := trivial
theorem PySem.W.Fast.tw17800141619423266015 : True := trivial
theorem PySem.W.Fast.tw5219342936160899978 : True := trivial
theorem PySem.W.Fast.tw2343141896809635286 : True := trivial
theorem PySem.W.Fast.tw10966928549152737876 : True := trivial
theorem PySem.W.Fast.tw8496362241961796167 : True := trivial
theorem PySem.W.Fast.tw10347334520408502376 : True := trivial
theorem PySem.W.Fast.tw2928304469250374908 : True := trivial
theorem PySem.W.Fast.tw6318371534398230815 : True := trivial
theorem PySem.W.Fast.tw12298610258987351459 : True := trivial
theorem PySem.W.Fast.tw2925582323578065499 : True := trivial
theorem PySem.W.Fast.tw17668856653791533207 : True := trivial
theorem PySem.W.Fast.tw14809671086279177310 : True := trivial
theorem PySem.W.Fast.tw8045303549728347505 : True := trivial
theorem PySem.W.Fast.tw8375120821525105334 : True := trivial
theorem PySem.W.Fast.tw9371192514052139165 : True := trivial
theorem PySem.W.Fast.tw133585931076266938 : True := trivial
theorem PySem.W.Fast.tw7749071757576355363 : True := trivial
theorem PySem.W.Fast.tw14294363689817116968 : True := trivial
theorem PySem.W.Fast.tw10943451921239483966 : True := trivial
theorem PySem.W.Fast.tw12998773570629253844 : True := trivial
theorem PySem.W.Fast.tw13777753264663721730 : True := trivial
theorem PySem.W.Fast.tw9417144286107080831 : True := trivial
theorem PySem.W.Fast.tw5490180596196598158 : True := trivial
theorem PySem.W.Fast.tw16375949010972152169 : True := trivial
theorem PySem.W.Fast.tw18081658883697578530 : True := trivial
theorem PySem.W.Fast.tw2964754694755787933 : True := trivial
theorem PySem.W.Fast.tw18389596762792847335 : True := trivial
theorem PySem.W.Fast.tw8124970386473498938 : True := trivial
theorem PySem.W.Fast.tw378571907165658167 : True := trivial
theorem PySem.W.Fast.tw9864523487046885433 : True := trivial
theorem PySem.W.Fast.tw8902485628137387002 : True := trivial
theorem PySem.W.Fast.tw2945443493674755224 : True := trivial
theorem PySem.W.Fast.tw17884649790736194688 : True := trivial
theorem PySem.W.Fast.tw744748432631956329 : True := trivial
theorem PySem.W.Fast.tw3156979598460254779 : True := trivial
theorem PySem.W.Fast.tw7992856462448238079 : True := trivial
theorem PySem.W.Fast.tw11922870200194269422 : True := trivial
theorem PySem.W.Fast.tw4359296741300222988 : True := trivial
theorem PySem.W.Fast.tw151387575945449468 : True := trivial
theorem PySem.W.Fast.tw1388937083891332838 : True := trivial
theorem PySem.W.Fast.tw3175124352804423759 : True := trivial
theorem PySem.W.Fast.tw8190731340153208493 : True := trivial
theorem PySem.W.Fast.tw2687041125391335160 : True := trivial
theorem PySem.W.Fast.tw4871997692276872455 : True := trivial
theorem PySem.W.Fast.tw9397300778546810089 : True := trivial
theorem PySem.W.Fast.tw375310933517815635 : True := trivial
theorem PySem.W.Fast.tw17201596435116837236 : True := trivial
theorem PySem.W.Fast.tw17133312645545640506 : True := trivial
theorem PySem.W.Fast.tw3622414919200415209 : True := trivial
theorem PySem.W.Fast.tw13176143617884484854 : True := trivial
theorem PySem.W.Fast.tw9115843864450857659 : True := trivial
theorem PySem.W.Fast.tw578914795833734169 : True := trivial
theorem PySem.W.Fast.tw17277153495047872116 : True := trivial
theorem PySem.W.Fast.tw17799694373338684578 : True := trivial
theorem PySem.W.Fast.tw2124464325527487059 : True := trivial
theorem PySem.W.Fast.tw12697134392478275406 : True := trivial
theorem PySem.W.Fast.tw4979777510824619719 : True := trivial
theorem PySem.W.Fast.tw5666391847373590799 : True := trivial
theorem PySem.W.Fast.tw9661535960121993129 : True := trivial
theorem PySem.W.Fast.tw10783694795999957302 : True := trivial
theorem PySem.W.Fast.tw18301599350318135286 : True := trivial
theorem PySem.W.Fast.tw16180234274909202372 : True := trivial
theorem PySem.W.Fast.tw11291368984201384814 : True := trivial
theorem PySem.W.Fast.tw17843092421036914551 : True := trivial
theorem PySem.W.Fast.tw13001868025920958761 : True := trivial
theorem PySem.W.Fast.tw12572732889792030923 : True := trivial
theorem PySem.W.Fast.tw16030915519610949479 : True := trivial
theorem PySem.W.Fast.tw6211016519288515694 : True := trivial
theorem PySem.W.Fast.tw15700616504836202186 : True := trivial
theorem PySem.W.Fast.tw18406764493854449795 : True := trivial
theorem PySem.W.Fast.tw11382565509300646476 : True := trivial
theorem PySem.W.Fast.tw5890910479477460438 : True := trivial
theorem PySem.W.Fast.tw12666676809503254481 : True := trivial
theorem PySem.W.Fast.tw1519514362549558152 : True := trivial
theorem PySem.W.Fast.tw15986227087247818409 : True := trivial
theorem PySem.W.Fast.tw13792261407739064298 : True := trivial
theorem PySem.W.Fast.tw16843678289746136710 : True := trivial
theorem PySem.W.Fast.tw7714713224054017647 : True := trivial
theorem PySem.W.Fast.tw17934884833453257341 : True := trivial
theorem PySem.W.Fast.tw16244755231140416806 : True := trivial
theorem PySem.W.Fast.tw3555208238681538564 : True := trivial
theorem PySem.W.Fast.tw15108596313564496737 : True := trivial
theorem PySem.W.Fast.tw9666906260562702862 : True := trivial
theorem PySem.W.Fast.tw6107806674502253406 : True := trivial
theorem PySem.W.Fast.tw3571434883653078410 : True := trivial
theorem PySem.W.Fast.tw14765445086853423709 : True := trivial
theorem PySem.W.Fast.tw11398867440957981292 : True := trivial
theorem PySem.W.Fast.tw17426551575538897954 : True := trivial
theorem PySem.W.Fast.tw17940725675794939799 : True := trivial
theorem PySem.W.Fast.tw11088797430836969974 : True := trivial
theorem PySem.W.Fast.tw8506549400611726319 : True := trivial
theorem PySem.W.Fast.tw5439388053762390919 : True := trivial
theorem PySem.W.Fast.tw15261891647808019161 : True := trivial
theorem PySem.W.Fast.tw7726935444236217767 : True := trivial
theorem PySem.W.Fast.tw10863953839148229426 : True := trivial
theorem PySem.W.Fast.tw13112438169223712745 : True := trivial
theorem PySem.W.Fast.tw17712839458952665015 : True := trivial
theorem PySem.W.Fast.tw16724971128165434776 : True := trivial
theorem PySem.W.Fast.tw16362814907748425252 : True := trivial
theorem PySem.W.Fast.tw8061722418817139503 : True := trivial
theorem PySem.W.Fast.tw7099701486372304173 : True := trivial
theorem PySem.W.Fast.tw3055345917968403306 : True := trivial
theorem PySem.W.Fast.tw16025233563705536652 : True := trivial
theorem PySem.W.Fast.tw1138151333709751159 : True := trivial
theorem PySem.W.Fast.tw14769950114573360138 : True := trivial
theorem PySem.W.Fast.tw6165858032087112623 : True := trivial
theorem PySem.W.Fast.tw1644603926651510692 : True := trivial
theorem PySem.W.Fast.tw12072517474006917640 : True := trivial
theorem PySem.W.Fast.tw9717251518904034456 : True := trivial
theorem PySem.W.Fast.tw6478425271759171031 : True := trivial
theorem PySem.W.Fast.tw8412877730976069077 : True := trivial
theorem PySem.W.Fast.tw16035025945447508322 : True := trivial
theorem PySem.W.Fast.tw10739218686836124341 : True := trivial
theorem PySem.W.Fast.tw8955228259100387037 : True := trivial
theorem PySem.W.Fast.tw7796392662508518794 : True := trivial
theorem PySem.W.Fast.tw13017920370816205058 : True := trivial
theorem PySem.W.Fast.tw4530238050400962610 : True := trivial
theorem PySem.W.Fast.tw4897101321498984806 : True := trivial
theorem PySem.W.Fast.tw9471155744054393682 : True := trivial
theorem PySem.W.Fast.tw5695146457622706863 : True := trivial
theorem PySem.W.Fast.tw17904472502386896799 : True := trivial
theorem PySem.W.Fast.tw13179692470644957522 : True := trivial
theorem PySem.W.Fast.tw596965111382567991 : True := trivial
theorem PySem.W.Fast.tw74133057824795896 : True := trivial
theorem PySem.W.Fast.tw14274461151436077156 : True := trivial
theorem PySem.W.Fast.tw12975919088781239623 : True := trivial
theorem PySem.W.Fast.tw13385994076494976843 : True := trivial
theorem PySem.W.Fast.tw7677357440980361492 : True := trivial
theorem PySem.W.Fast.tw9640452670471797639 : True := trivial
theorem PySem.W.Fast.tw8667656418080042370 : True := trivial
theorem PySem.W.Fast.tw1335640863036239606 : True := trivial
theorem PySem.W.Fast.tw17255828586724937753 : True := trivial
theorem PySem.W.Fast.tw4439792137494025172 : True := trivial
theorem PySem.W.Fast.tw12025020263912648075 : True := trivial
theorem PySem.W.Fast.tw5702728348690153952 : True := trivial
theorem PySem.W.Fast.tw14440768213875011039 : True := trivial
theorem PySem.W.Fast.tw8740862813232578785 : True := trivial
theorem PySem.W.Fast.tw12902848011760399611 : True := trivial
theorem PySem.W.Fast.tw14511758457397962749 : True := trivial
theorem PySem.W.Fast.tw8110038713584680584 : True := trivial
theorem PySem.W.Fast.tw340506808805419257 : True := trivial
theorem PySem.W.Fast.tw10570870997606217356 : True := trivial
theorem PySem.W.Fast.tw8294745016745365969 : True := trivial
theorem PySem.W.Fast.tw17548252031457433877 : True := trivial
theorem PySem.W.Fast.tw8840189318679941129 : True := trivial
theorem PySem.W.Fast.tw10227757902580360723 : True := trivial
theorem PySem.W.Fast.tw10070417833003484042 : True := trivial
theorem PySem.W.Fast.tw6022628665102702833 : True := trivial
theorem PySem.W.Fast.tw10761075062077720899 : True := trivial
theorem PySem.W.Fast.tw2733161749228139464 : True := trivial
theorem PySem.W.Fast.tw11731072291526538572 : True := trivial
theorem PySem.W.Fast.tw11140803515228106408 : True := trivial
theorem PySem.W.Fast.tw2612560504430286067 : True := trivial
theorem PySem.W.Fast.tw6515368446782040611 : True := trivial
theorem PySem.W.Fast.tw4527020639825333254 : True := trivial
theorem PySem.W.Fast.tw17140429883936007376 : True := trivial
theorem PySem.W.Fast.tw7705733809737047907 : True := trivial
theorem PySem.W.Fast.tw4861602145165824342 : True := trivial
theorem PySem.W.Fast.tw7310470141976112025 : True := trivial
theorem PySem.W.Fast.tw10315557083260279845 : True := trivial
theorem PySem.W.Fast.tw8683122850377381028 : True := trivial
theorem PySem.W.Fast.tw14910502108338123812 : True := trivial
theorem PySem.W.Fast.tw10995549885689870305 : True := trivial
theorem PySem.W.Fast.tw8868558143708653402 : True := trivial
theorem PySem.W.Fast.tw1189971933032074485 : True := trivial
theorem PySem.W.Fast.tw2877717651130993433 : True := trivial
theorem PySem.W.Fast.tw3954137958923927698 : True := trivial
theorem PySem.W.Fast.tw11381436342891274705 : True := trivial
theorem PySem.W.Fast.tw11958192704034462402 : True := trivial
theorem PySem.W.Fast.tw6154840556029575811 : True := trivial
theorem PySem.W.Fast.tw14711385308855594663 : True := trivial
theorem PySem.W.Fast.tw6359780043986004867 : True := trivial
theorem PySem.W.Fast.tw1204880128591334021 : True := trivial
theorem PySem.W.Fast.tw1480483012746897613 : True := trivial
theorem PySem.W.Fast.tw6158489839905798468 : True := trivial
theorem PySem.W.Fast.tw1885764595558231500 : True := trivial
theorem PySem.W.Fast.tw2304300410729808644 : True := trivial
theorem PySem.W.Fast.tw15648997906494176769 : True := trivial
theorem PySem.W.Fast.tw7511050170513805118 : True := trivial
theorem PySem.W.Fast.tw12394318057331098967 : True := trivial
theorem PySem.W.Fast.tw3286073573105331290 : True := trivial
theorem PySem.W.Fast.tw3182401828276383611 : True := trivial
theorem PySem.W.Fast.tw12686352836852065901 : True := trivial
theorem PySem.W.Fast.tw9943839418484043225 : True := trivial
theorem PySem.W.Fast.tw8179942721851793256 : True := trivial
theorem PySem.W.Fast.tw11166471148223864272 : True := trivial
theorem PySem.W.Fast.tw2920618792411232545 : True := trivial
theorem PySem.W.Fast.tw11373983302108376799 : True := trivial
theorem PySem.W.Fast.tw11603774509369367545 : True := trivial
theorem PySem.W.Fast.tw13922365589810332477 : True := trivial
theorem PySem.W.Fast.tw12152262867843815776 : True := trivial
theorem PySem.W.Fast.tw14773763410658470615 : True := trivial
theorem PySem.W.Fast.tw14842534253389256512 : True := trivial
theorem PySem.W.Fast.tw14054713151874715118 : True := trivial
theorem PySem.W.Fast.tw5533633423679900592 : True := trivial
theorem PySem.W.Fast.tw15496990556717493091 : True := trivial
theorem PySem.W.Fast.tw8186745392359221013 : True := trivial
theorem PySem.W.Fast.tw12373415494887936829 : True := trivial
theorem PySem.W.Fast.tw723070047625194794 : True := trivial
theorem PySem.W.Fast.tw18205537457158187402 : True := trivial
theorem PySem.W.Fast.tw5565819056246289220 : True := trivial
theorem PySem.W.Fast.tw3613290600166534206 : True := trivial
theorem PySem.W.Fast.tw15624877461086210325 : True := trivial
theorem PySem.W.Fast.tw11754864852599641580 : True := trivial
theorem PySem.W.Fast.tw13191329547526853045 : True := trivial
theorem PySem.W.Fast.tw11695284634172904164 : True := trivial
theorem PySem.W.Fast.tw12529341688173804115 : True := trivial
theorem PySem.W.Fast.tw8197364927708472783 : True := trivial
theorem PySem.W.Fast.tw16692834998363077807 : True := trivial
theorem PySem.W.Fast.tw13902587316270124424 : True := trivial
theorem PySem.W.Fast.tw8245790106080504966 : True := trivial
theorem PySem.W.Fast.tw11796570155684538557 : True := trivial
theorem PySem.W.Fast.tw10276354660278698061 : True := trivial
theorem PySem.W.Fast.tw5411281202452478254 : True := trivial
theorem PySem.W.Fast.tw15173482696088951078 : True := trivial
theorem PySem.W.Fast.tw9428847926938726806 : True := trivial
theorem PySem.W.Fast.tw8367301666717539784 : True := trivial
theorem PySem.W.Fast.tw16016995993832386639 : True := trivial
theorem PySem.W.Fast.tw4211954420672051488 : True := trivial
theorem PySem.W.Fast.tw5854235546154984412 : True := trivial
theorem PySem.W.Fast.tw18084186126853712006 : True := trivial
theorem PySem.W.Fast.tw5833674459893386300 : True := trivial
theorem PySem.W.Fast.tw15296176681344482340 : True := trivial
theorem PySem.W.Fast.tw1571174336539023106 : True := trivial
theorem PySem.W.Fast.tw18201645818660652015 : True := trivial
theorem PySem.W.Fast.tw2679879289091852041 : True := trivial
theorem PySem.W.Fast.tw16966235342486925123 : True := trivial
theorem PySem.W.Fast.tw2403497701636393295 : True := trivial
theorem PySem.W.Fast.tw849092348790292504 : True := trivial
theorem PySem.W.Fast.tw12109213585371596196 : True := trivial
theorem PySem.W.Fast.tw3977205207794170991 : True := trivial
theorem PySem.W.Fast.tw12803708173472375964 : True := trivial
theorem PySem.W.Fast.tw5337602574571287728 : True := trivial
theorem PySem.W.Fast.tw18226239240164295168 : True := trivial
theorem PySem.W.Fast.tw16188046863021881807 : True := trivial
theorem PySem.W.Fast.tw10218534963082904908 : True := trivial
theorem PySem.W.Fast.tw13186613975574746333 : True := trivial
theorem PySem.W.Fast.tw17369923552079226304 : True := trivial
theorem PySem.W.Fast.tw18442544666967404966 : True := trivial
theorem PySem.W.Fast.tw3802562401163862830 : True := trivial
theorem PySem.W.Fast.tw17941107612023263962 : True := trivial
theorem PySem.W.Fast.tw6033486529530045008 : True := trivial
theorem PySem.W.Fast.tw9630864575714396310 : True := trivial
theorem PySem.W.Fast.tw4415406936998715325 : True := trivial
theorem PySem.W.Fast.tw1508792296216571606 : True := trivial
theorem PySem.W.Fast.tw368717765941710637 : True := trivial
theorem PySem.W.Fast.tw10521065566308913391 : True := trivial
theorem PySem.W.Fast.tw6042315616499333 : True := trivial
theorem PySem.W.Fast.tw10833608608074289545 : True := trivial
theorem PySem.W.Fast.tw12149189505151649334 : True := trivial
theorem PySem.W.Fast.tw5140251029839551210 : True := trivial
theorem PySem.W.Fast.tw6755058860318496227 : True := trivial
theorem PySem.W.Fast.tw3225036138665676841 : True := trivial
theorem PySem.W.Fast.tw2868640023891496574 : True := trivial
theorem PySem.W.Fast.tw3713218948853622921 : True := trivial
theorem PySem.W.Fast.tw2831399569338362317 : True := trivial
theorem PySem.W.Fast.tw9301877749410680483 : True := trivial
theorem PySem.W.Fast.tw10752906212078149646 : True := trivial
theorem PySem.W.Fast.tw9593284233781569946 : True := trivial
theorem PySem.W.Fast.tw10502587478422583220 : True := trivial
theorem PySem.W.Fast.tw11548975140638433851 : True := trivial
theorem PySem.W.Fast.tw12282174592912631889 : True := trivial
theorem PySem.W.Fast.tw9409382094854119094 : True := trivial
theorem PySem.W.Fast.tw6400587099196834479 : True := trivial
theorem PySem.W.Fast.tw4520510258599820197 : True := trivial
theorem PySem.W.Fast.tw4174129986216312817 : True := trivial
theorem PySem.W.Fast.tw1175158666283644872 : True := trivial
theorem PySem.W.Fast.tw12515450000118326096 : True := trivial
theorem PySem.W.Fast.tw2771700824472662494 : True := trivial
theorem PySem.W.Fast.tw6023342428860811808 : True := trivial
theorem PySem.W.Fast.tw3399272864852495413 : True := trivial
theorem PySem.W.Fast.tw13380823484608433482 : True := trivial
theorem PySem.W.Fast.tw11409567175745726563 : True := trivial
theorem PySem.W.Fast.tw7793740731506630316 : True := trivial
theorem PySem.W.Fast.tw10915611727234492884 : True := trivial
theorem PySem.W.Fast.tw7687963830968298386 : True := trivial
theorem PySem.W.Fast.tw4012880795552990854 : True := trivial
theorem PySem.W.Fast.tw10154731699533747639 : True := trivial
theorem PySem.W.Fast.tw4876929326108389967 : True := trivial
theorem PySem.W.Fast.tw13761970369560565071 : True := trivial
theorem PySem.W.Fast.tw17630101282731763861 : True := trivial
theorem PySem.W.Fast.tw9083567416746738321 : True := trivial
theorem PySem.W.Fast.tw348252696927484497 : True := trivial
theorem PySem.W.Fast.tw9943800986873255599 : True := trivial
theorem PySem.W.Fast.tw566364907742545147 : True := trivial
theorem PySem.W.Fast.tw13745007775922007425 : True := trivial
theorem PySem.W.Fast.tw12534637405794140922 : True := trivial
theorem PySem.W.Fast.tw1655943562774753924 : True := trivial
theorem PySem.W.Fast.tw10719838910112510726 : True := trivial
theorem PySem.W.Fast.tw3768387897485380654 : True := trivial
theorem PySem.W.Fast.tw11013296450932987534 : True := trivial
theorem PySem.W.Fast.tw700611297343319529 : True := trivial
theorem PySem.W.Fast.tw10354806161723144158 : True := trivial
theorem PySem.W.Fast.tw16432884184084583849 : True := trivial
theorem PySem.W.Fast.tw1975266223526981 : True := trivial
theorem PySem.W.Fast.tw11282521653396122398 : True := trivial
theorem PySem.W.Fast.tw9076810759269267336 : True := trivial
theorem PySem.W.Fast.tw15002296654073901895 : True := trivial
theorem PySem.W.Fast.tw9406858455855791036 : True := trivial
theorem PySem.W.Fast.tw11068855414160364586 : True := trivial
theorem PySem.W.Fast.tw11320325722630185827 : True := trivial
theorem PySem.W.Fast.tw2014395399624535501 : True := trivial
theorem PySem.W.Fast.tw16641845402448742126 : True := trivial
theorem PySem.W.Fast.tw5565643947747237092 : True := trivial
theorem PySem.W.Fast.tw4561375280861408611 : True := trivial
theorem PySem.W.Fast.tw6886025773527296685 : True := trivial
theorem PySem.W.Fast.tw11681281846986692763 : True := trivial
theorem PySem.W.Fast.tw2397106661007757178 : True := trivial
theorem PySem.W.Fast.tw12009841637109617722 : True := trivial
theorem PySem.W.Fast.tw1641744153767528703 : True := trivial
theorem PySem.W.Fast.tw15567325563789792518 : True := trivial
theorem PySem.W.Fast.tw16623796085316681821 : True := trivial
theorem PySem.W.Fast.tw8321633360251947348 : True := trivial
theorem PySem.W.Fast.tw139847907029413417 : True := trivial
theorem PySem.W.Fast.tw13901597283069145014 : True := trivial
theorem PySem.W.Fast.tw4494260206014998910 : True := trivial
theorem PySem.W.Fast.tw13274452712242242019 : True := trivial
theorem PySem.W.Fast.tw17982288811198506045 : True := trivial
theorem PySem.W.Fast.tw9980232913371346942 : True := trivial
theorem PySem.W.Fast.tw28510251636366142 : True := trivial
theorem PySem.W.Fast.tw8039412535044594793 : True := trivial
theorem PySem.W.Fast.tw15394324497738295980 : True := trivial
theorem PySem.W.Fast.tw15130427023386169333 : True := trivial
theorem PySem.W.Fast.tw13282137070731426253 : True := trivial
theorem PySem.W.Fast.tw1860197310567751927 : True := trivial
theorem PySem.W.Fast.tw8775202758678555039 : True := trivial
theorem PySem.W.Fast.tw5418075046549263478 : True := trivial
theorem PySem.W.Fast.tw17784652723387490927 : True := trivial
theorem PySem.W.Fast.tw3732106772106669564 : True := trivial
theorem PySem.W.Fast.tw1287234599991215550 : True := trivial
theorem PySem.W.Fast.tw6007204425750901459 : True := trivial
theorem PySem.W.Fast.tw13170669554508894353 : True := trivial
theorem PySem.W.Fast.tw13057953760180760814 : True := trivial
theorem PySem.W.Fast.tw11923875460951682882 : True := trivial
theorem PySem.W.Fast.tw17770703152720783132 : True := trivial
theorem PySem.W.Fast.tw13476732783469868665 : True := trivial
theorem PySem.W.Fast.tw14112858161126616383 : True := trivial
theorem PySem.W.Fast.tw6463545700788671940 : True := trivial
theorem PySem.W.Fast.tw13289681600275006855 : True := trivial
theorem PySem.W.Fast.tw4167926437933987569 : True := trivial
theorem PySem.W.Fast.tw3318412506913486406 : True := trivial
theorem PySem.W.Fast.tw16231689724195022726 : True := trivial
theorem PySem.W.Fast.tw17225455698871630423 : True := trivial
theorem PySem.W.Fast.tw9334750286895172238 : True := trivial
theorem PySem.W.Fast.tw1723046474182092096 : True := trivial
theorem PySem.W.Fast.tw10085147532274127683 : True := trivial
theorem PySem.W.Fast.tw2782630574198725725 : True := trivial
theorem PySem.W.Fast.tw13755681748566419808 : True := trivial
theorem PySem.W.Fast.tw11224641264171833318 : True := trivial
theorem PySem.W.Fast.tw11118559240115663643 : True := trivial
theorem PySem.W.Fast.tw7105701430767915749 : True := trivial
theorem PySem.W.Fast.tw11112651686506058897 : True := trivial
theorem PySem.W.Fast.tw17668839860649259170 : True := trivial
theorem PySem.W.Fast.tw8273223055887331954 : True := trivial
theorem PySem.W.Fast.tw13772348727178272415 : True := trivial
theorem PySem.W.Fast.tw8705559163222018099 : True := trivial
theorem PySem.W.Fast.tw1952388055140592923 : True := trivial
theorem PySem.W.Fast.tw14279726664278734713 : True := trivial
theorem PySem.W.Fast.tw15539453470023627876 : True := trivial
theorem PySem.W.Fast.tw8318175595343753833 : True := trivial
theorem PySem.W.Fast.tw6662459924628953906 : True := trivial
theorem PySem.W.Fast.tw14356130563524019563 : True := trivial
theorem PySem.W.Fast.tw3950247333771383072 : True := trivial
theorem PySem.W.Fast.tw2257037900474784750 : True := trivial
theorem PySem.W.Fast.tw14416785117669626339 : True := trivial
theorem PySem.W.Fast.tw17425118556609884993 : True := trivial
theorem PySem.W.Fast.tw1224844885510847017 : True := trivial
theorem PySem.W.Fast.tw7218982398191526219 : True := trivial
theorem PySem.W.Fast.tw12466834065499407518 : True := trivial
theorem PySem.W.Fast.tw10691149804290642554 : True := trivial
theorem PySem.W.Fast.tw13240759534195726376 : True := trivial
theorem PySem.W.Fast.tw8253598333589043800 : True := trivial
theorem PySem.W.Fast.tw16727572815044603421 : True := trivial
theorem PySem.W.Fast.tw15001542045206435111 : True := trivial
theorem PySem.W.Fast.tw7990829606911319609 : True := trivial
theorem PySem.W.Fast.tw18405133105370887939 : True := trivial
theorem PySem.W.Fast.tw13266897101019383578 : True := trivial
theorem PySem.W.Fast.tw1526732688662390631 : True := trivial
theorem PySem.W.Fast.tw12318181287649230223 : True := trivial
theorem PySem.W.Fast.tw5834218072058930368 : True := trivial
theorem PySem.W.Fast.tw10928338334069088100 : True := trivial
theorem PySem.W.Fast.tw7815546129772879733 : True := trivial
theorem PySem.W.Fast.tw16972822106505136792 : True := trivial
theorem PySem.W.Fast.tw3137240175915955623 : True := trivial
theorem PySem.W.Fast.tw13507489559325161777 : True := trivial
theorem PySem.W.Fast.tw7497623947341279631 : True := trivial
theorem PySem.W.Fast.tw16504360121914182695 : True := trivial
theorem PySem.W.Fast.tw2350005442539537178 : True := trivial
theorem PySem.W.Fast.tw5621242765434246358 : True := trivial
theorem PySem.W.Fast.tw6539107460286962082 : True := trivial
theorem PySem.W.Fast.tw8588017468551660495 : True := trivial
theorem PySem.W.Fast.tw10226215490520128679 : True := trivial
theorem PySem.W.Fast.tw3176511004946872983 : True := trivial
theorem PySem.W.Fast.tw2480406696315768639 : True := trivial
theorem PySem.W.Fast.tw690982799938212872 : True := trivial
theorem PySem.W.Fast.tw9056529740290063900 : True := trivial
theorem PySem.W.Fast.tw539975390785851791 : True := trivial
theorem PySem.W.Fast.tw12324302971377650306 : True := trivial
theorem PySem.W.Fast.tw12231122505122495885 : True := trivial
theorem PySem.W.Fast.tw15800993849704412986 : True := trivial
theorem PySem.W.Fast.tw8297969718205424210 : True := trivial
theorem PySem.W.Fast.tw9024855923113309208 : True := trivial
theorem PySem.W.Fast.tw9963317648041730808 : True := trivial
theorem PySem.W.Fast.tw4042977286898252792 : True := trivial
theorem PySem.W.Fast.tw11464208494827343145 : True := trivial
theorem PySem.W.Fast.tw10468905211706907983 : True := trivial
theorem PySem.W.Fast.tw13351554345932342355 : True := trivial
theorem PySem.W.Fast.tw16445286821920953355 : True := trivial
theorem PySem.W.Fast.tw16724748568333990351 : True := trivial
theorem PySem.W.Fast.tw1785664447421645483 : True := trivial
theorem PySem.W.Fast.tw2435376394969441565 : True := trivial
theorem PySem.W.Fast.tw12166653472497139866 : True := trivial
theorem PySem.W.Fast.tw14506730652808750300 : True := trivial
theorem PySem.W.Fast.tw8525954847340294748 : True := trivial
theorem PySem.W.Fast.tw15029169888690376104 : True := trivial
theorem PySem.W.Fast.tw7495551665157835934 : True := trivial
theorem PySem.W.Fast.tw2753127477843045566 : True := trivial
theorem PySem.W.Fast.tw11286942325930854808 : True := trivial
theorem PySem.W.Fast.tw4676288420491787705 : True := trivial
theorem PySem.W.Fast.tw7281116418732864063 : True := trivial
theorem PySem.W.Fast.tw16383845797341599896 : True := trivial
theorem PySem.W.Fast.tw8679043453910790772 : True := trivial
theorem PySem.W.Fast.tw5473061729431658592 : True := trivial
theorem PySem.W.Fast.tw7699256705749677252 : True := trivial
theorem PySem.W.Fast.tw17052175293645933923 : True := trivial
theorem PySem.W.Fast.tw11368079620097274458 : True := trivial
theorem PySem.W.Fast.tw7663087853796464152 : True := trivial
theorem PySem.W.Fast.tw16568664483922362431 : True := trivial
theorem PySem.W.Fast.tw12082793831917708886 : True := trivial
theorem PySem.W.Fast.tw6179260153267365739 : True := trivial
theorem PySem.W.Fast.tw1902477940015643153 : True := trivial
theorem PySem.W.Fast.tw14437064443956052370 : True := trivial
theorem PySem.W.Fast.tw7513517243515977535 : True := trivial
theorem PySem.W.Fast.tw13872369953513319620 : True := trivial
theorem PySem.W.Fast.tw1579446138687724121 : True := trivial
theorem PySem.W.Fast.tw15477582070715753260 : True := trivial
theorem PySem.W.Fast.tw14066605587693110849 : True := trivial
theorem PySem.W.Fast.tw10522296453898316645 : True := trivial
theorem PySem.W.Fast.tw7165353098333033450 : True := trivial
theorem PySem.W.Fast.tw7295969529839243882 : True := trivial
theorem PySem.W.Fast.tw8533798087445778058 : True := trivial
theorem PySem.W.Fast.tw5996497905015666770 : True := trivial
theorem PySem.W.Fast.tw8564553316856547186 : True := trivial
theorem PySem.W.Fast.tw3998251716013018783 : True := trivial
theorem PySem.W.Fast.tw6091026615560670470 : True := trivial
theorem PySem.W.Fast.tw9097022059967696165 : True := trivial
theorem PySem.W.Fast.tw5641327032086005967 : True := trivial
theorem PySem.W.Fast.tw17786161892510112791 : True := trivial
theorem PySem.W.Fast.tw16182903876396557748 : True := trivial
theorem PySem.W.Fast.tw8273267374516381995 : True := trivial
theorem PySem.W.Fast.tw11142016774860736833 : True := trivial
theorem PySem.W.Fast.tw15689767086840875840 : True := trivial
theorem PySem.W.Fast.tw9097664555944438026 : True := trivial
theorem PySem.W.Fast.tw2012191893858731424 : True := trivial
theorem PySem.W.Fast.tw9592204374055913711 : True := trivial
theorem PySem.W.Fast.tw180096293938971905 : True := trivial
theorem PySem.W.Fast.tw6609013051392118868 : True := trivial
theorem PySem.W.Fast.tw1200556952616546982 : True := trivial
theorem PySem.W.Fast.tw13736919742043391607 : True := trivial
theorem PySem.W.Fast.tw1741745893503066957 : True := trivial
theorem PySem.W.Fast.tw5487520137684735642 : True := trivial
theorem PySem.W.Fast.tw19605399320849054 : True := trivial
theorem PySem.W.Fast.tw17204941478267437338 : True := trivial
theorem PySem.W.Fast.tw814442861082894314 : True := trivial
theorem PySem.W.Fast.tw3470258131479558920 : True := trivial
theorem PySem.W.Fast.tw16837450504306311388 : True := trivial
theorem PySem.W.Fast.tw14360881083903906678 : True := trivial
theorem PySem.W.Fast.tw5270406533870079624 : True := trivial
theorem PySem.W.Fast.tw10133985424328167722 : True := trivial
theorem PySem.W.Fast.tw8660589665841379287 : True := trivial
theorem PySem.W.Fast.tw14293103573702963482 : True := trivial
theorem PySem.W.Fast.tw7997280280499889942 : True := trivial
theorem PySem.W.Fast.tw18096699584745542021 : True := trivial
theorem PySem.W.Fast.tw16544911790788474804 : True := trivial
theorem PySem.W.Fast.tw1169142560863334303 : True := trivial
theorem PySem.W.Fast.tw5369118061183434682 : True := trivial
theorem PySem.W.Fast.tw2100525199213139239 : True := trivial
theorem PySem.W.Fast.tw2788458661569339422 : True := trivial
theorem PySem.W.Fast.tw5364240234381802478 : True := trivial
theorem PySem.W.Fast.tw13230222297981294588 : True := trivial
theorem PySem.W.Fast.tw8405746902645333844 : True := trivial
theorem PySem.W.Fast.tw15986628232221249403 : True := trivial
theorem PySem.W.Fast.tw15665309918700990522 : True := trivial
theorem PySem.W.Fast.tw14814874534159336942 : True := trivial
theorem PySem.W.Fast.tw6681961253621615585 : True := trivial
theorem PySem.W.Fast.tw5509100253900568569 : True := trivial
theorem PySem.W.Fast.tw9046599630377382147 : True := trivial
theorem PySem.W.Fast.tw11687086919598591591 : True := trivial
theorem PySem.W.Fast.tw12249355928386681090 : True := trivial
theorem PySem.W.Fast.tw4625665312804741687 : True := trivial
theorem PySem.W.Fast.tw8983915219037157716 : True := trivial
theorem PySem.W.Fast.tw11687916975595860400 : True := trivial
theorem PySem.W.Fast.tw9240263187737473736 : True := trivial
theorem PySem.W.Fast.tw6492189817127293873 : True := trivial
theorem PySem.W.Fast.tw15607838294262804478 : True := trivial
theorem PySem.W.Fast.tw3688842553969700352 : True := trivial
theorem PySem.W.Fast.tw18400916039049780827 : True := trivial
theorem PySem.W.Fast.tw3675586099474506145 : True := trivial
theorem PySem.W.Fast.tw14897335435424938376 : True := trivial
theorem PySem.W.Fast.tw17914846856363945465 : True := trivial
theorem PySem.W.Fast.tw293343601181822027 : True := trivial
theorem PySem.W.Fast.tw17599830612978254601 : True := trivial
theorem PySem.W.Fast.tw17565273585964582487 : True := trivial
theorem PySem.W.Fast.tw15618245757728304306 : True := trivial
theorem PySem.W.Fast.tw17965263048332283939 : True := trivial
theorem PySem.W.Fast.tw8394561888602317703 : True := trivial
theorem PySem.W.Fast.tw12414038228743510717 : True := trivial
theorem PySem.W.Fast.tw5431498887179030414 : True := trivial
theorem PySem.W.Fast.tw4040879449373072473 : True := trivial
theorem PySem.W.Fast.tw18352226681671121112 : True := trivial
theorem PySem.W.Fast.tw575484971436828921 : True := trivial
theorem PySem.W.Fast.tw10830967679678131013 : True := trivial
theorem PySem.W.Fast.tw9167034603492424611 : True := trivial
theorem PySem.W.Fast.tw13315353394123137020 : True := trivial
theorem PySem.W.Fast.tw9796665278722716416 : True := trivial
theorem PySem.W.Fast.tw5946334923534201757 : True := trivial
theorem PySem.W.Fast.tw14717798170657167443 : True := trivial
theorem PySem.W.Fast.tw4392712422959270999 : True := trivial
theorem PySem.W.Fast.tw8294706553872661015 : True := trivial
theorem PySem.W.Fast.tw1113641598782181492 : True := trivial
theorem PySem.W.Fast.tw5793162466782971182 : True := trivial
theorem PySem.W.Fast.tw10310984477533386946 : True := trivial
theorem PySem.W.Fast.tw16545553653966393404 : True := trivial
theorem PySem.W.Fast.tw1899365727183519162 : True := trivial
theorem PySem.W.Fast.tw9722053841817622972 : True := trivial
theorem PySem.W.Fast.tw7744948041095849904 : True := trivial
theorem PySem.W.Fast.tw3732610052937238279 : True := trivial
theorem PySem.W.Fast.tw14238039329277347558 : True := trivial
theorem PySem.W.Fast.tw5704686009027105171 : True := trivial
theorem PySem.W.Fast.tw11990395451516683454 : True := trivial
theorem PySem.W.Fast.tw2449134289651138752 : True := trivial
theorem PySem.W.Fast.tw4450048690960215901 : True := trivial
theorem PySem.W.Fast.tw4413043741175842593 : True := trivial
theorem PySem.W.Fast.tw3726987384457045012 : True := trivial
theorem PySem.W.Fast.tw4973393755349427334 : True := trivial
theorem PySem.W.Fast.tw8841268703047844203 : True := trivial
theorem PySem.W.Fast.tw3892488652994230725 : True := trivial
theorem PySem.W.Fast.tw12293568554651042599 : True := trivial
theorem PySem.W.Fast.tw14897149740506380731 : True := trivial
theorem PySem.W.Fast.tw13694293170813419256 : True := trivial
theorem PySem.W.Fast.tw18393731074476163202 : True := trivial
theorem PySem.W.Fast.tw18129532349457473372 : True := trivial
theorem PySem.W.Fast.tw169572064634515832 : True := trivial
theorem PySem.W.Fast.tw5242134318944572451 : True := trivial
theorem PySem.W.Fast.tw14814337315392300801 : True := trivial
theorem PySem.W.Fast.tw12148937716619681660 : True := trivial
theorem PySem.W.Fast.tw3006109372387886565 : True := trivial
theorem PySem.W.Fast.tw16856394035432631882 : True := trivial
theorem PySem.W.Fast.tw16427522921973343197 : True := trivial
theorem PySem.W.Fast.tw7816790743149853113 : True := trivial
theorem PySem.W.Fast.tw18594443308867980 : True := trivial
theorem PySem.W.Fast.tw6421445596293753288 : True := trivial
theorem PySem.W.Fast.tw12106012798795597232 : True := trivial
theorem PySem.W.Fast.tw5873117589647620098 : True := trivial
theorem PySem.W.Fast.tw15115309204976505579 : True := trivial
theorem PySem.W.Fast.tw4192615093431443885 : True := trivial
theorem PySem.W.Fast.tw16135768852268258815 : True := trivial
theorem PySem.W.Fast.tw10635115266410747773 : True := trivial
theorem PySem.W.Fast.tw10725012061085339252 : True := trivial
theorem PySem.W.Fast.tw8425278716246969218 : True := trivial
theorem PySem.W.Fast.tw10460522259324576474 : True := trivial
theorem PySem.W.Fast.tw2690960945625714126 : True := trivial
theorem PySem.W.Fast.tw8002230468534469504 : True := trivial
theorem PySem.W.Fast.tw8131666124783789880 : True := trivial
theorem PySem.W.Fast.tw12346699361317375600 : True := trivial
theorem PySem.W.Fast.tw6438989268633196641 : True := trivial
theorem PySem.W.Fast.tw14951163584991364293 : True := trivial
theorem PySem.W.Fast.tw3079050378141044368 : True := trivial
theorem PySem.W.Fast.tw8279890295309127473 : True := trivial
theorem PySem.W.Fast.tw3110631694643809295 : True := trivial
theorem PySem.W.Fast.tw13714841252917686865 : True := trivial
theorem PySem.W.Fast.tw11462801377451984883 : True := trivial
theorem PySem.W.Fast.tw1102120710291510795 : True := trivial
theorem PySem.W.Fast.tw4507622188838940311 : True := trivial
theorem PySem.W.Fast.tw12680388180844729108 : True := trivial
theorem PySem.W.Fast.tw17031261137533081652 : True := trivial
theorem PySem.W.Fast.tw2360413882602111419 : True := trivial
theorem PySem.W.Fast.tw14997977433805032907 : True := trivial
theorem PySem.W.Fast.tw5848872135119556941 : True := trivial
theorem PySem.W.Fast.tw7083750809698023797 : True := trivial
theorem PySem.W.Fast.tw7478788883005334880 : True := trivial
theorem PySem.W.Fast.tw4330219598944909646 : True := trivial
theorem PySem.W.Fast.tw1192487340136037737 : True := trivial
theorem PySem.W.Fast.tw16035610398896308350 : True := trivial
theorem PySem.W.Fast.tw211263744676224197 : True := trivial
theorem PySem.W.Fast.tw12080394977766177945 : True := trivial
theorem PySem.W.Fast.tw3036685903845677124 : True := trivial
theorem PySem.W.Fast.tw6241526826187766808 : True := trivial
theorem PySem.W.Fast.tw16113429386693679900 : True := trivial
theorem PySem.W.Fast.tw16486994753685475386 : True := trivial
theorem PySem.W.Fast.tw11005740629809237229 : True := trivial
theorem PySem.W.Fast.tw17582875207007018698 : True := trivial
theorem PySem.W.Fast.tw15598497964639885527 : True := trivial
theorem PySem.W.Fast.tw11247566630125315187 : True := trivial
theorem PySem.W.Fast.tw17829786849681029544 : True := trivial
theorem PySem.W.Fast.tw4614148568122874048 : True := trivial
theorem PySem.W.Fast.tw6470898504500572890 : True := trivial
theorem PySem.W.Fast.tw16617972903682377362 : True := trivial
theorem PySem.W.Fast.tw3091118607110573255 : True := trivial
theorem PySem.W.Fast.tw11260117846329782386 : True := trivial
theorem PySem.W.Fast.tw2105805069606845418 : True := trivial
theorem PySem.W.Fast.tw12436528105588739147 : True := trivial
theorem PySem.W.Fast.tw6010829016723786324 : True := trivial
theorem PySem.W.Fast.tw10887851218538692120 : True := trivial
theorem PySem.W.Fast.tw4446353035568782318 : True := trivial
theorem PySem.W.Fast.tw2727249849846001306 : True := trivial
theorem PySem.W.Fast.tw35196274085941753 : True := trivial
theorem PySem.W.Fast.tw15871512662206651619 : True := trivial
theorem PySem.W.Fast.tw1050380162637744276 : True := trivial
theorem PySem.W.Fast.tw2721675359057017519 : True := trivial
theorem PySem.W.Fast.tw8944497055432135810 : True := trivial
theorem PySem.W.Fast.tw8047511660443730045 : True := trivial
theorem PySem.W.Fast.tw2924412528548492649 : True := trivial
theorem PySem.W.Fast.tw13585430217478878396 : True := trivial
theorem PySem.W.Fast.tw9708808686144344145 : True := trivial
theorem PySem.W.Fast.tw1137010774132007897 : True := trivial
theorem PySem.W.Fast.tw116649329809828187 : True := trivial
theorem PySem.W.Fast.tw15676808656792264282 : True := trivial
theorem PySem.W.Fast.tw4733723373865477416 : True := trivial
theorem PySem.W.Fast.tw1928068738700904225 : True := trivial
theorem PySem.W.Fast.tw11595215647621275733 : True := trivial
theorem PySem.W.Fast.tw7642723572769196027 : True := trivial
theorem PySem.W.Fast.tw14540850520504299830 : True := trivial
theorem PySem.W.Fast.tw5462187122906347951 : True := trivial
theorem PySem.W.Fast.tw9149737676680061578 : True := trivial
theorem PySem.W.Fast.tw1312394371506520458 : True := trivial
theorem PySem.W.Fast.tw14284785615764736211 : True := trivial
theorem PySem.W.Fast.tw14736852484136466272 : True := trivial
theorem PySem.W.Fast.tw389264625878840204 : True := trivial
theorem PySem.W.Fast.tw13705562238001887296 : True := trivial
theorem PySem.W.Fast.tw14859902955085311372 : True := trivial
theorem PySem.W.Fast.tw5333022605664530680 : True := trivial
theorem PySem.W.Fast.tw11011916252390479256 : True := trivial
theorem PySem.W.Fast.tw10175241880253826077 : True := trivial
theorem PySem.W.Fast.tw318408630869473237 : True := trivial
theorem PySem.W.Fast.tw16830210878127492263 : True := trivial
theorem PySem.W.Fast.tw14813552766374619452 : True := trivial
theorem PySem.W.Fast.tw5977449124070885008 : True := trivial
theorem PySem.W.Fast.tw10283334729970152974 : True := trivial
theorem PySem.W.Fast.tw7503073798405275957 : True := trivial
theorem PySem.W.Fast.tw17685271861393804120 : True := trivial
theorem PySem.W.Fast.tw5446365318007608916 : True := trivial
theorem PySem.W.Fast.tw6684356201469475275 : True := trivial
theorem PySem.W.Fast.tw9779006565845753845 : True := trivial
theorem PySem.W.Fast.tw9291987391797225179 : True := trivial
theorem PySem.W.Fast.tw746207633243663334 : True := trivial
theorem PySem.W.Fast.tw17567324907713255123 : True := trivial
theorem PySem.W.Fast.tw82084656920357523 : True := trivial
theorem PySem.W.Fast.tw16591120777718325723 : True := trivial
theorem PySem.W.Fast.tw3336034594179370553 : True := trivial
theorem PySem.W.Fast.tw2300469120980141300 : True := trivial
theorem PySem.W.Fast.tw7782049316970880824 : True := trivial
theorem PySem.W.Fast.tw7069304982556866435 : True := trivial
theorem PySem.W.Fast.tw13059189247812744009 : True := trivial
theorem PySem.W.Fast.tw376351235489899210 : True := trivial
theorem PySem.W.Fast.tw17845204628324409531 : True := trivial
theorem PySem.W.Fast.tw8226581989822808639 : True := trivial
theorem PySem.W.Fast.tw212245981639255402 : True := trivial
theorem PySem.W.Fast.tw8847166695610942993 : True := trivial
theorem PySem.W.Fast.tw4816736719531525170 : True := trivial
theorem PySem.W.Fast.tw9931467887395028687 : True := trivial
theorem PySem.W.Fast.tw17018102459853266120 : True := trivial
theorem PySem.W.Fast.tw6077490511442074935 : True := trivial
theorem PySem.W.Fast.tw2287308613328786340 : True := trivial
theorem PySem.W.Fast.tw10220792495075966609 : True := trivial
theorem PySem.W.Fast.tw14620462759807873147 : True := trivial
theorem PySem.W.Fast.tw3334499819492715228 : True := trivial
theorem PySem.W.Fast.tw1788451842852366203 : True := trivial
theorem PySem.W.Fast.tw3268077329153002699 : True := trivial
open PySem PySem.W PyProof.Rows
set_option maxRecDepth 100000 in
set_option maxHeartbeats 0 in
theorem PySem.Challenge.cw_evernever_k05_written_holds : PySem.Challenge.rw_evernever_k05_written.Holds := by
  w_on; o_law; k_head; (case hw => w_witness2)
  k_fill
  refine L2.walk_ofK (l := PySem.Challenge.rw_evernever_k05_written) (n := 63) (k := 70) (x := "_law_script") (CX := L2.CX0) (sp := LW.spLaw) rfl (by decide) rfl ⟨rfl, by decide, by decide⟩ (fun w h Y => PySem.W.kIn_of Y) ?F ?S ?C
  case F =>
    intro w mg fa h KX G hmg
    have T : ∃ t, LW.Txt (L2.KOf KX) mg t := by
      dsimp only [L2.KOf]
      refine' LW.txt_mk KX G ?a_bracketed ?a__law_cell_at ?a__law_fresh ?a__law_letters ?a__law_name ?a__law_names ?a__law_tree ?a__law_made ?a__law_rank ?a__law_line ?a_law ?a_Formula ?a_Lamp ?a_Sure ?a_Not ?a_Joined ?a_And ?a_Either ?a_Or ?e_Formula_looseness ?e_Lamp_init ?e_Lamp_lamps ?e_Lamp_shown ?e_Lamp_looseness ?e_Sure_init ?e_Sure_lamps ?e_Sure_shown ?e_Sure_looseness ?e_Not_init ?e_Not_lamps ?e_Not_shown ?e_Not_looseness ?e_Joined_init ?e_Joined_lamps ?e_Joined_shown ?e_Joined_looseness ?e_And_looseness ?e_And_between ?e_And_init ?e_And_lamps ?e_And_shown ?e_Either_looseness ?e_Either_between ?e_Either_init ?e_Either_lamps ?e_Either_shown ?e_Or_looseness ?e_Or_between ?e_Or_init ?e_Or_lamps ?e_Or_shown ?l_bracketed ?c_bracketed ?k_bracketed ?l__law_cell_at ?c__law_cell_at ?k__law_cell_at ?l__law_fresh ?c__law_fresh ?k__law_fresh ?l__law_letters ?c__law_letters ?k__law_letters ?l__law_name ?c__law_name ?k__law_name ?l__law_names ?c__law_names ?k__law_names ?l__law_tree ?c__law_tree ?k__law_tree ?l__law_made ?c__law_made ?k__law_made ?l__law_rank ?c__law_rank ?k__law_rank ?l__law_line ?c__law_line ?k__law_line ?l_law ?c_law ?k_law ?l_Formula_looseness ?c_Formula_looseness ?k_Formula_looseness ?i_Formula_looseness ?l_Lamp_init ?c_Lamp_init ?k_Lamp_init ?i_Lamp_init ?l_Lamp_lamps ?c_Lamp_lamps ?k_Lamp_lamps ?i_Lamp_lamps ?l_Lamp_shown ?c_Lamp_shown ?k_Lamp_shown ?i_Lamp_shown ?l_Sure_init ?c_Sure_init ?k_Sure_init ?i_Sure_init ?l_Sure_lamps ?c_Sure_lamps ?k_Sure_lamps ?i_Sure_lamps ?l_Sure_shown ?c_Sure_shown ?k_Sure_shown ?i_Sure_shown ?l_Not_init ?c_Not_init ?k_Not_init ?i_Not_init ?l_Not_lamps ?c_Not_lamps ?k_Not_lamps ?i_Not_lamps ?l_Not_shown ?c_Not_shown ?k_Not_shown ?i_Not_shown ?l_Joined_init ?c_Joined_init ?k_Joined_init ?i_Joined_init ?l_Joined_lamps ?c_Joined_lamps ?k_Joined_lamps ?i_Joined_lamps ?l_Joined_shown ?c_Joined_shown ?k_Joined_shown ?i_Joined_shown ?l_And_looseness ?c_And_looseness ?k_And_looseness ?i_And_looseness ?l_And_between ?c_And_between ?k_And_between ?i_And_between ?l_Either_looseness ?c_Either_looseness ?k_Either_looseness ?i_Either_looseness ?l_Either_between ?c_Either_between ?k_Either_between ?i_Either_between ?l_Or_looseness ?c_Or_looseness ?k_Or_looseness ?i_Or_looseness ?l_Or_between ?c_Or_between ?k_Or_between ?i_Or_between ?pg_Formula ?hd_Formula ?po_Formula ?sa_Formula ?kc_Formula ?ha_Formula ?hm_Formula ?n_Formula_at ?n_Formula_truth ?n_Formula_part ?n_Formula_parts ?pg_Lamp ?hd_Lamp ?po_Lamp ?sa_Lamp ?kc_Lamp ?ha_Lamp ?hm_Lamp ?mk_Lamp ?n_Lamp_at ?n_Lamp_truth ?n_Lamp_part ?n_Lamp_parts ?pg_Sure ?hd_Sure ?po_Sure ?sa_Sure ?kc_Sure ?ha_Sure ?hm_Sure ?mk_Sure ?n_Sure_at ?n_Sure_truth ?n_Sure_part ?n_Sure_parts ?pg_Not ?hd_Not ?po_Not ?sa_Not ?kc_Not ?ha_Not ?hm_Not ?mk_Not ?n_Not_at ?n_Not_truth ?n_Not_part ?n_Not_parts ?pg_Joined ?hd_Joined ?po_Joined ?sa_Joined ?kc_Joined ?ha_Joined ?hm_Joined ?mk_Joined ?n_Joined_at ?n_Joined_truth ?n_Joined_part ?n_Joined_parts ?pg_And ?hd_And ?po_And ?sa_And ?kc_And ?ha_And ?hm_And ?mk_And ?n_And_at ?n_And_truth ?n_And_part ?n_And_parts ?pg_Either ?hd_Either ?po_Either ?sa_Either ?kc_Either ?ha_Either ?hm_Either ?mk_Either ?n_Either_at ?n_Either_truth ?n_Either_part ?n_Either_parts ?pg_Or ?hd_Or ?po_Or ?sa_Or ?kc_Or ?ha_Or ?hm_Or ?mk_Or ?n_Or_at ?n_Or_truth ?n_Or_part ?n_Or_parts ?nd_ ?hn_ ?htk_ ?b_len ?b_range ?b_isinstance ?b_int ?b_bool ?b_str ?b_list ?b_tuple ?b_dict ?b_set ?b_sorted ?b_max ?b_min ?b_sum ?b_any ?b_all ?b_abs ?b_reversed ?b_enumerate ?b_zip
      (case a_bracketed => k_is)
      (case a__law_cell_at => k_is)
      (case a__law_fresh => k_is)
      (case a__law_letters => k_is)
      (case a__law_name => k_is)
      (case a__law_names => k_is)
      (case a__law_tree => k_is)
      (case a__law_made => k_is)
      (case a__law_rank => k_is)
      (case a__law_line => k_is)
      (case a_law => k_is)
      (case a_Formula => k_is)
      (case a_Lamp => k_is)
      (case a_Sure => k_is)
      (case a_Not => k_is)
      (case a_Joined => k_is)
      (case a_And => k_is)
      (case a_Either => k_is)
      (case a_Or => k_is)
      (case e_Formula_looseness => k_is)
      (case e_Lamp_init => k_is)
      (case e_Lamp_lamps => k_is)
      (case e_Lamp_shown => k_is)
      (case e_Lamp_looseness => k_is)
      (case e_Sure_init => k_is)
      (case e_Sure_lamps => k_is)
      (case e_Sure_shown => k_is)
      (case e_Sure_looseness => k_is)
      (case e_Not_init => k_is)
      (case e_Not_lamps => k_is)
      (case e_Not_shown => k_is)
      (case e_Not_looseness => k_is)
      (case e_Joined_init => k_is)
      (case e_Joined_lamps => k_is)
      (case e_Joined_shown => k_is)
      (case e_Joined_looseness => k_is)
      (case e_And_looseness => k_is)
      (case e_And_between => k_is)
      (case e_And_init => k_is)
      (case e_And_lamps => k_is)
      (case e_And_shown => k_is)
      (case e_Either_looseness => k_is)
      (case e_Either_between => k_is)
      (case e_Either_init => k_is)
      (case e_Either_lamps => k_is)
      (case e_Either_shown => k_is)
      (case e_Or_looseness => k_is)
      (case e_Or_between => k_is)
      (case e_Or_init => k_is)
      (case e_Or_lamps => k_is)
      (case e_Or_shown => k_is)
      (case l_bracketed => k_is)
      (case c_bracketed => k_is)
      (case k_bracketed => k_is)
      (case l__law_cell_at => k_is)
      (case c__law_cell_at => k_is)
      (case k__law_cell_at => k_is)
      (case l__law_fresh => k_is)
      (case c__law_fresh => k_is)
      (case k__law_fresh => k_is)
      (case l__law_letters => k_is)
      (case c__law_letters => k_is)
      (case k__law_letters => k_is)
      (case l__law_name => k_is)
      (case c__law_name => k_is)
      (case k__law_name => k_is)
      (case l__law_names => k_is)
      (case c__law_names => k_is)
      (case k__law_names => k_is)
      (case l__law_tree => k_is)
      (case c__law_tree => k_is)
      (case k__law_tree => k_is)
      (case l__law_made => k_is)
      (case c__law_made => k_is)
      (case k__law_made => k_is)
      (case l__law_rank => k_is)
      (case c__law_rank => k_is)
      (case k__law_rank => k_is)
      (case l__law_line => k_is)
      (case c__law_line => k_is)
      (case k__law_line => k_is)
      (case l_law => k_is)
      (case c_law => k_is)
      (case k_law => k_is)
      (case l_Formula_looseness => k_is)
      (case c_Formula_looseness => k_is)
      (case k_Formula_looseness => k_is)
      (case i_Formula_looseness => k_is)
      (case l_Lamp_init => k_is)
      (case c_Lamp_init => k_is)
      (case k_Lamp_init => k_is)
      (case i_Lamp_init => k_is)
      (case l_Lamp_lamps => k_is)
      (case c_Lamp_lamps => k_is)
      (case k_Lamp_lamps => k_is)
      (case i_Lamp_lamps => k_is)
      (case l_Lamp_shown => k_is)
      (case c_Lamp_shown => k_is)
      (case k_Lamp_shown => k_is)
      (case i_Lamp_shown => k_is)
      (case l_Sure_init => k_is)
      (case c_Sure_init => k_is)
      (case k_Sure_init => k_is)
      (case i_Sure_init => k_is)
      (case l_Sure_lamps => k_is)
      (case c_Sure_lamps => k_is)
      (case k_Sure_lamps => k_is)
      (case i_Sure_lamps => k_is)
      (case l_Sure_shown => k_is)
      (case c_Sure_shown => k_is)
      (case k_Sure_shown => k_is)
      (case i_Sure_shown => k_is)
      (case l_Not_init => k_is)
      (case c_Not_init => k_is)
      (case k_Not_init => k_is)
      (case i_Not_init => k_is)
      (case l_Not_lamps => k_is)
      (case c_Not_lamps => k_is)
      (case k_Not_lamps => k_is)
      (case i_Not_lamps => k_is)
      (case l_Not_shown => k_is)
      (case c_Not_shown => k_is)
      (case k_Not_shown => k_is)
      (case i_Not_shown => k_is)
      (case l_Joined_init => k_is)
      (case c_Joined_init => k_is)
      (case k_Joined_init => k_is)
      (case i_Joined_init => k_is)
      (case l_Joined_lamps => k_is)
      (case c_Joined_lamps => k_is)
      (case k_Joined_lamps => k_is)
      (case i_Joined_lamps => k_is)
      (case l_Joined_shown => k_is)
      (case c_Joined_shown => k_is)
      (case k_Joined_shown => k_is)
      (case i_Joined_shown => k_is)
      (case l_And_looseness => k_is)
      (case c_And_looseness => k_is)
      (case k_And_looseness => k_is)
      (case i_And_looseness => k_is)
      (case l_And_between => k_is)
      (case c_And_between => k_is)
      (case k_And_between => k_is)
      (case i_And_between => k_is)
      (case l_Either_looseness => k_is)
      (case c_Either_looseness => k_is)
      (case k_Either_looseness => k_is)
      (case i_Either_looseness => k_is)
      (case l_Either_between => k_is)
      (case c_Either_between => k_is)
      (case k_Either_between => k_is)
      (case i_Either_between => k_is)
      (case l_Or_looseness => k_is)
      (case c_Or_looseness => k_is)
      (case k_Or_looseness => k_is)
      (case i_Or_looseness => k_is)
      (case l_Or_between => k_is)
      (case c_Or_between => k_is)
      (case k_Or_between => k_is)
      (case i_Or_between => k_is)
      (case pg_Formula => k_is)
      (case hd_Formula => k_is)
      (case po_Formula => k_is)
      (case sa_Formula => k_is)
      (case kc_Formula => k_is)
      (case ha_Formula => k_is)
      (case hm_Formula => k_is)
      (case n_Formula_at => k_is)
      (case n_Formula_truth => k_is)
      (case n_Formula_part => k_is)
      (case n_Formula_parts => k_is)
      (case pg_Lamp => k_is)
      (case hd_Lamp => k_is)
      (case po_Lamp => k_is)
      (case sa_Lamp => k_is)
      (case kc_Lamp => k_is)
      (case ha_Lamp => k_is)
      (case hm_Lamp => k_is)
      (case mk_Lamp => k_is)
      (case n_Lamp_at => k_is)
      (case n_Lamp_truth => k_is)
      (case n_Lamp_part => k_is)
      (case n_Lamp_parts => k_is)
      (case pg_Sure => k_is)
      (case hd_Sure => k_is)
      (case po_Sure => k_is)
      (case sa_Sure => k_is)
      (case kc_Sure => k_is)
      (case ha_Sure => k_is)
      (case hm_Sure => k_is)
      (case mk_Sure => k_is)
      (case n_Sure_at => k_is)
      (case n_Sure_truth => k_is)
      (case n_Sure_part => k_is)
      (case n_Sure_parts => k_is)
      (case pg_Not => k_is)
      (case hd_Not => k_is)
      (case po_Not => k_is)
      (case sa_Not => k_is)
      (case kc_Not => k_is)
      (case ha_Not => k_is)
      (case hm_Not => k_is)
      (case mk_Not => k_is)
      (case n_Not_at => k_is)
      (case n_Not_truth => k_is)
      (case n_Not_part => k_is)
      (case n_Not_parts => k_is)
      (case pg_Joined => k_is)
      (case hd_Joined => k_is)
      (case po_Joined => k_is)
      (case sa_Joined => k_is)
      (case kc_Joined => k_is)
      (case ha_Joined => k_is)
      (case hm_Joined => k_is)
      (case mk_Joined => k_is)
      (case n_Joined_at => k_is)
      (case n_Joined_truth => k_is)
      (case n_Joined_part => k_is)
      (case n_Joined_parts => k_is)
      (case pg_And => k_is)
      (case hd_And => k_is)
      (case po_And => k_is)
      (case sa_And => k_is)
      (case kc_And => k_is)
      (case ha_And => k_is)
      (case hm_And => k_is)
      (case mk_And => k_is)
      (case n_And_at => k_is)
      (case n_And_truth => k_is)
      (case n_And_part => k_is)
      (case n_And_parts => k_is)
      (case pg_Either => k_is)
      (case hd_Either => k_is)
      (case po_Either => k_is)
      (case sa_Either => k_is)
      (case kc_Either => k_is)
      (case ha_Either => k_is)
      (case hm_Either => k_is)
      (case mk_Either => k_is)
      (case n_Either_at => k_is)
      (case n_Either_truth => k_is)
      (case n_Either_part => k_is)
      (case n_Either_parts => k_is)
      (case pg_Or => k_is)
      (case hd_Or => k_is)
      (case po_Or => k_is)
      (case sa_Or => k_is)
      (case kc_Or => k_is)
      (case ha_Or => k_is)
      (case hm_Or => k_is)
      (case mk_Or => k_is)
      (case n_Or_at => k_is)
      (case n_Or_truth => k_is)
      (case n_Or_part => k_is)
      (case n_Or_parts => k_is)
      (case nd_ => decide)
      (case hn_ => k_is)
      (case htk_ => k_is)
      (case b_len => k_is)
      (case b_range => k_is)
      (case b_isinstance => k_is)
      (case b_int => k_is)
      (case b_bool => k_is)
      (case b_str => k_is)
      (case b_list => k_is)
      (case b_tuple => k_is)
      (case b_dict => k_is)
      (case b_set => k_is)
      (case b_sorted => k_is)
      (case b_max => k_is)
      (case b_min => k_is)
      (case b_sum => k_is)
      (case b_any => k_is)
      (case b_all => k_is)
      (case b_abs => k_is)
      (case b_reversed => k_is)
      (case b_enumerate => k_is)
      (case b_zip => k_is)
    obtain ⟨t, T⟩ := T
    have e0 := hmg.symm.trans T.m_law
    cases e0
    exact ⟨_, T.bl, fun base _ _ => LW.ok_law T⟩
  case S => exact fun K H a ns hl hO hS => ⟨a, ns, rfl, hS, hl, hO, fun _ => rfl⟩
  case C => exact fun _ _ _ _ z => z
#print axioms PySem.Challenge.cw_evernever_k05_written_holds

