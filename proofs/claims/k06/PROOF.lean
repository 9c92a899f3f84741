import PyProof.Rows.All
import Wide.All
import OpenK.AllK
import Wide.FinOn
import Lean
import PyProof.EqAt
import PyProof.EqKinds
import PyProof.TupleCall
import PyProof.P3Eq
import PyProof.NeKinds
import KE.KRevIter
import PyProof.EnumMake
import PyProof.EnumFor
import PyProof.Draws
import PyProof.ZipIter
import PyProof.ConsumeWalk
import PyProof.RaisesMany
import PyProof.ExcClass3
import PyProof.ExcBaseAll.ValueError
import PyProof.RulesAs
import PyProof.ExcAttrAll.ValueError
import PyProof.ReprStr
import PyProof.PassesOwn
import PyProof.ToksMono
import PyProof.DictItems
import PyProof.MeetsIn
import PyProof.StrCalls6
import PyProof.StrCalls2
import PyProof.StrBlock2
import PyProof.StrLawsWords
import PyProof.StrLawsTight
import PyProof.StrLawsChain
import PyProof.ListRange
import PyProof.NsDelKeeps
import PyProof.P3In
import PyProof.DictWalks
import KE.KDictList
import PyProof.Rows.StrInSeq3
import PySem.Challenge.RW_evernever_k06_read
set_option Elab.async false
set_option linter.all false
set_option maxRecDepth 100000
set_option maxHeartbeats 4000000
set_option maxRecDepth 100000
namespace L2
open PySem PySem.Spec PyProof.Rows
abbrev Key:=Sum Int Str
def ZHp:Key→Value→Bool
 | .inl k,v=>Value.isInt k v
 | .inr x,v=>Value.isStrOf x v
def keyH (w:World):Key→Int
 | .inl k=>hashInt k
 | .inr x=>hashStr w x
theorem Zdb:∀ {k:Key} {v:Value},ZHp k v=true→(∃ i t,k=Sum.inl i∧v=Value.int i t)∨(∃ x t,k=Sum.inr x∧v=Value.str x t)
 | .inl i,v,h=>by
  obtain ⟨t,e⟩ :=Value.isInt_shape (k:=i) (v:=v) h
  exact .inl ⟨i,t,rfl,e⟩
 | .inr x,v,h=>by
  obtain ⟨t,e⟩ :=Value.isStrOf_shape (x:=x) (v:=v) h
  exact .inr ⟨x,t,rfl,e⟩
theorem ZI3 (i:Int) (t:Tok):ZHp (.inl i) (.int i t)=true:=by simp [ZHp,Value.isInt]
theorem ZI4 (x:Str) (t:Tok):ZHp (.inr x) (.str x t)=true:=by simp [ZHp,Value.isStrOf]
theorem ZPp (a b:Int):decide ((Sum.inl a:Key)=Sum.inl b)=(a == b):=by
 by_cases e:a=b
 ·subst e; simp
 ·have h : ¬ (Sum.inl a:Key)=Sum.inl b:=fun q=>e (Sum.inl.inj q)
  rw [decide_eq_false h]
  exact (beq_eq_false_iff_ne.mpr e).symm
theorem ZPs (a b:Str):decide ((Sum.inr a:Key)=Sum.inr b)=decide (a=b):=by
 by_cases e:a=b
 ·subst e; simp
 ·have h : ¬ (Sum.inr a:Key)=Sum.inr b:=fun q=>e (Sum.inr.inj q)
  rw [decide_eq_false h,decide_eq_false e]
theorem ZPq (a:Int) (b:Str):decide ((Sum.inl a:Key)=Sum.inr b)=false:=decide_eq_false (fun q=>nomatch q)
theorem ZPr (a:Str) (b:Int):decide ((Sum.inr a:Key)=Sum.inl b)=false:=decide_eq_false (fun q=>nomatch q)
def ZdL (prog:Program) (w:World):PySem.KeyKind prog w Key where
 is:=ZHp
 hash:=keyH w
 inj:=fun v a b ha hb=>by
  rcases Zdb ha with ⟨i,t,rfl,rfl⟩ | ⟨x,t,rfl,rfl⟩
  ·rcases Zdb hb with ⟨j,u,rfl,e⟩ | ⟨y,u,rfl,e⟩
   ·injection e with e1 _; rw [e1]
   ·exact nomatch e
  ·rcases Zdb hb with ⟨j,u,rfl,e⟩ | ⟨y,u,rfl,e⟩
   ·exact nomatch e
   ·injection e with e1 _; rw [e1]
 byValue:=fun k v h=>by
  rcases Zdb h with ⟨i,t,rfl,rfl⟩ | ⟨x,t,rfl,rfl⟩ <;> rfl
 pyHash:=fun hv h=>by
  rcases Zdb hv with ⟨i,t,rfl,rfl⟩ | ⟨x,t,rfl,rfl⟩
  ·exact wpAny_pyHash_int h
  ·exact wpAny_pyHash_str h
 eqBool:=fun hu hv h=>by
  rcases Zdb hu with ⟨i,t,rfl,rfl⟩ | ⟨x,t,rfl,rfl⟩
  ·rcases Zdb hv with ⟨j,u,rfl,rfl⟩ | ⟨y,u,rfl,rfl⟩
   ·rw [ZPp] at h; exact wpAny_eqBool_int h
   ·rw [ZPq] at h; exact SeqAt.EqAt.int_str i t y u _ _ _ _ h
  ·rcases Zdb hv with ⟨j,u,rfl,rfl⟩ | ⟨y,u,rfl,rfl⟩
   ·rw [ZPr] at h; exact SeqAt.EqAt.str_int x t j u _ _ _ _ h
   ·rw [ZPs] at h; exact wpAny_eqBool_str h
 «strs»:=fun k x t v h=>by
  rcases Zdb h with ⟨i,u,rfl,e⟩ | ⟨y,u,rfl,e⟩
  ·exact nomatch e
  ·injection e with e1 _
   subst e1
   cases v <;> rfl
theorem ZE4 (prog:Program) (w:World) (i:Int) (t:Tok):(ZdL prog w).is (.inl i) (.int i t)=true:=ZI3 i t
theorem ZE5 (prog:Program) (w:World) (x:Str) (t:Tok):(ZdL prog w).is (.inr x) (.str x t)=true:=ZI4 x t
end L2
namespace L2
open PySem PySem.Spec PyProof.Rows
inductive V where
 | non | bl (b:Bool) | int (i:Int) | str (x:Str) | byt (b:Array UInt8) | flt (b:UInt64) | ref (a:Addr) | ty (n:String)
 deriving DecidableEq
def RelV:V→Value→Prop
 | .non,u=>u=Value.none
 | .bl b,u=>u=Value.bool b
 | .int i,u=>∃ t,u=Value.int i t
 | .str x,u=>∃ t,u=Value.str x t
 | .byt b,u=>∃ t,u=Value.bytes b t
 | .flt b,u=>∃ t,u=Value.float b t
 | .ref a,u=>u=Value.ref a
 | .ty n,u=>u=Value.type n
abbrev Vals:List V→List Value→Prop:=Paired RelV
theorem Vals.length {xs:List V} {us:List Value} (r:Vals xs us):xs.length=us.length:=Paired.length r
theorem Vals.get:∀ {xs:List V} {us:List Value} {i:Nat} {x:V},Vals xs us→xs[i]?=some x→∃ u,us[i]?=some u∧RelV x u
 | _,_,_,_,.nil,e=>by simp at e
 | _,_,0,_,.cons r _,e=>by simp at e; subst e; exact ⟨_,rfl,r⟩
 | _,_,i + 1,x,.cons _ t,e=>by
  obtain ⟨u,h1,h2⟩ :=Vals.get (i:=i) (x:=x) t (by simpa using e)
  exact ⟨u,by simpa using h1,h2⟩
theorem Vals.append:∀ {xs ys:List V} {us ws:List Value},Vals xs us→Vals ys ws→Vals (xs ++ ys) (us ++ ws)
 | _,_,_,_,.nil,s=>s
 | _,_,_,_,.cons r t,s=>.cons r (Vals.append t s)
theorem Vals.take:∀ {xs:List V} {us:List Value} (n:Nat),Vals xs us→Vals (xs.take n) (us.take n)
 | _,_,0,_=>.nil
 | _,_,_ + 1,.nil=>.nil
 | _,_,n + 1,.cons r t=>.cons r (Vals.take n t)
theorem Vals.drop:∀ {xs:List V} {us:List Value} (n:Nat),Vals xs us→Vals (xs.drop n) (us.drop n)
 | _,_,0,r=>r
 | _,_,_ + 1,.nil=>.nil
 | _,_,n + 1,.cons _ t=>Vals.drop n t
def RelO:Option V→Option Value→Prop
 | some v,some u=>RelV v u
 | none,none=>True
 | _,_=>False
def KV {κ:Type}:List (κ × V)→List (κ × Value)→Prop:=Paired fun (p:κ × V) (q:κ × Value)=>p.1=q.1∧RelV p.2 q.2
def kV:Key→V
 | .inl i=>.int i
 | .inr x=>.str x
inductive HO where
 | lst (xs:List V)
 | tup (xs:List V)
 | dK (kvs:List (Key × V)) | dT (kvs:List (List Key × V))
 | set (S:Int→Bool) (n:Nat)
 | ins (C dx:Addr) (fs:List (Str × V))
 | own (x:Addr)
 | xd (fs:List (Str × V))
 | met (f x:Addr)
 | rng (lo hi:Int)
 | frz (o:Obj) (u:HO)
 | tbl (ps:Array Value)
 | ext (φ:Heap→Prop)
abbrev Hp:=Addr→Option HO
def upd (H:Hp) (a:Addr) (o:HO):Hp:=fun b=>if b=a then some o else H b
theorem ZaV {H:Hp} {a:Addr} {o:HO}:upd H a o a=some o:=by unfold upd; rw [if_pos rfl]
theorem ZbG {H:Hp} {a b:Addr} {o:HO} (h:b ≠ a):upd H a o b=H b:=by unfold upd; rw [if_neg h]
theorem ZOD {H:Hp} {a:Addr} {o u:HO}:upd (upd H a o) a u=upd H a u:=by
 funext b; unfold upd; split <;> rfl
theorem ZgI {H:Hp} {a b:Addr} {o u:HO} (h:H a=some o) (h':H b=some u) (d:o ≠ u):a ≠ b:=by
 intro e; subst e; rw [h] at h'; exact d (Option.some.inj h')
theorem Zat {H:Hp} {a b:Addr} {o:HO} (h:H a=some o) (h':H b=none):a ≠ b:=by
 intro e; subst e; rw [h] at h'; cases h'
section
variable (P:Program) (w:World)
def Zd8 (H:Hp) (h:Heap) (a:Addr):HO→Prop
 | .lst xs=>xs.length≤sizeLine∧∃ (its:List Value) (n:Nat),Vals xs its∧h.get? a=some { cls:=.type "list",data:=.seq its.toArray n }
 | .tup xs=>xs.length≤sizeLine∧∃ its:List Value,Vals xs its∧IsTup h a its.toArray
 | .dK kvs=>kvs.length≤sizeLine∧(a == sysModules)=false∧∃ vs,KV kvs vs∧h.DictOf (ZdL P w) a vs
 | .dT kvs=>kvs.length≤sizeLine∧(a == sysModules)=false∧∃ xs:List (List Key × Addr × Value),
   Paired (fun (p:List Key × V) (q:List Key × Addr × Value)=>p.1=q.1∧H q.2.1=some (.tup (p.1.map kV))∧RelV p.2 q.2.2) kvs xs∧
   ∃ o es ep,h.get? a=some o∧o.ExactDict∧o.data=.dict es ep∧es.toList=xs.map (entryOfKey (tupleKind (ZdL P w)))∧(xs.map (·.1)).Nodup
 | .set S n=>h.SetOf (intKind P w) a S n
 | .ins C dx fs=>H dx=some (.own a)∧fs.length≤1000∧dx ≠ a∧h.get? a=some (PySem.W.instObj C dx)∧
   ∃ mA,h.Ns1 dx mA∧(∀ f,RelO (fs.lookup f) (mA f))∧PySem.Within mA (fs.map (·.1))
 | .own _=>∃ o,h.get? a=some o
 | .xd fs=>∃ mA,h.Ns1 a mA∧∀ f,RelO (fs.lookup f) (mA f)
 | .rng lo hi=>∃ t u v,h.get? a=some { cls:=.type "range",data:=.fields #[.int lo t,.int hi u,.int 1 v] }
 | .frz o u=>h.get? a=some o∧Zd8 H h a u
 | .tbl ps=>h.get? a=some { cls:=.none,data:=.fields ps }
 | .met f x=>h.get? a=some (PySem.W.methodObj (.ref f) (.ref x))
 | .ext φ=>φ h∧(∃ o,h.get? a=some o)∧∀ h1 h2:Heap,φ h1→(∀ o,h1.get? a=some o→h2.get? a=some o)→φ h2
def HOk (H:Hp) (h:Heap):Prop:=∀ a o,H a=some o→Zd8 P w H h a o
end
section
variable {P:Program} {w:World} {H H':Hp} {h h':Heap} {a:Addr} {o:HO}
theorem Zd8.lt (x:Zd8 P w H h a o):a < h.objs.size:=by
 cases o with
 | lst xs=>obtain ⟨_,_,_,_,e⟩ :=x; exact Heap.lt_size e
 | tup xs=>obtain ⟨_,_,_,p⟩ :=x; exact p.lt
 | dK kvs=>obtain ⟨_,_,_,_,o,_,_,e,_⟩ :=x; exact Heap.lt_size e
 | dT kvs=>obtain ⟨_,_,_,_,o,_,_,e,_⟩ :=x; exact Heap.lt_size e
 | set S n=>obtain ⟨o,_,_,_,e,_⟩ :=x; exact Heap.lt_size e
 | ins C dx fs=>obtain ⟨_,_,_,e,_⟩ :=x; exact Heap.lt_size e
 | own y=>obtain ⟨_,e⟩ :=x; exact Heap.lt_size e
 | xd fs=>obtain ⟨_,⟨_,_,_,e,_⟩,_⟩ :=x; exact Heap.lt_size e
 | rng lo hi=>obtain ⟨_,_,_,e⟩ :=x; exact Heap.lt_size e
 | frz ob u=>obtain ⟨e,_⟩ :=x; exact Heap.lt_size e
 | tbl ps=>exact Heap.lt_size (show h.get? a=some _ from x)
 | met f y=>exact Heap.lt_size (show h.get? a=some _ from x)
 | ext φ=>obtain ⟨_,⟨_,e⟩,_⟩ :=x; exact Heap.lt_size e
theorem Paired.mapP {α β:Type} {F G:α→β→Prop}:∀ {l₁:List α} {l₂:List β},Paired F l₁ l₂→(∀ a b,F a b→G a b)→Paired G l₁ l₂
 | _,_,.nil,_=>.nil
 | _,_,.cons r t,f=>.cons (f _ _ r) (Paired.mapP t f)
theorem Zd8.stay (x:Zd8 P w H h a o) (k:∀ b u,(b=a∨H b=some (.own a))→h.get? b=some u→h'.get? b=some u)
  (ho:∀ b,H b=some (.own a)→H' b=some (.own a)) (ht:∀ b xs,H b=some (.tup xs)→H' b=some (.tup xs)):Zd8 P w H' h' a o:=by
 induction o with
 | lst xs=>obtain ⟨z,its,n,r,e⟩ :=x; exact ⟨z,its,n,r,k _ _ (.inl rfl) e⟩
 | tup xs=>obtain ⟨z,its,r,ob,e,c⟩ :=x; exact ⟨z,its,r,ob,k _ _ (.inl rfl) e,c⟩
 | dK kvs=>obtain ⟨z,y,vs,r,ob,es,ep,e,c⟩ :=x; exact ⟨z,y,vs,r,ob,es,ep,k _ _ (.inl rfl) e,c⟩
 | dT kvs=>
  obtain ⟨z,y,xs,r,ob,es,ep,e,c⟩ :=x
  exact ⟨z,y,xs,Paired.mapP r fun p q z=>⟨z.1,ht _ _ z.2.1,z.2.2⟩,ob,es,ep,k _ _ (.inl rfl) e,c⟩
 | set S n=>obtain ⟨ob,es,ep,t,e,c⟩ :=x; exact ⟨ob,es,ep,t,k _ _ (.inl rfl) e,c⟩
 | ins C dx fs=>
  obtain ⟨d,z,ne,e,mA,⟨od,es,ep,e2,c⟩,r⟩ :=x
  exact ⟨ho _ d,z,ne,k _ _ (.inl rfl) e,mA,⟨od,es,ep,k _ _ (.inr d) e2,c⟩,r⟩
 | own y=>obtain ⟨ob,e⟩ :=x; exact ⟨ob,k _ _ (.inl rfl) e⟩
 | xd fs=>obtain ⟨mA,⟨od,es,ep,e,c⟩,r⟩ :=x; exact ⟨mA,⟨od,es,ep,k _ _ (.inl rfl) e,c⟩,r⟩
 | rng lo hi=>obtain ⟨t,u,v,e⟩ :=x; exact ⟨t,u,v,k _ _ (.inl rfl) e⟩
 | frz ob u ih=>obtain ⟨e,q⟩ :=x; exact ⟨k _ _ (.inl rfl) e,ih q⟩
 | tbl ps=>
  have e:h.get? a=some { cls:=.none,data:=.fields ps }:=x
  show h'.get? a=some { cls:=.none,data:=.fields ps }
  exact k a _ (.inl rfl) e
 | met f y=>
  have e:h.get? a=some (PySem.W.methodObj (.ref f) (.ref y)):=x
  show h'.get? a=some (PySem.W.methodObj (.ref f) (.ref y))
  exact k a _ (.inl rfl) e
 | ext φ=>obtain ⟨p,⟨o,e⟩,st⟩ :=x; exact ⟨st _ _ p fun o q=>k _ _ (.inl rfl) q,⟨o,k _ _ (.inl rfl) e⟩,st⟩
theorem HOk.lt (x:HOk P w H h) (e:H a=some o):a < h.objs.size:=(x a o e).lt
theorem HOk.fresh (x:HOk P w H h) (e:h.objs.size≤a):H a=none:=by
 cases q:H a with
 | none=>rfl
 | some u=>exact absurd (Nat.lt_of_lt_of_le (x.lt q) e) (Nat.lt_irrefl _)
theorem HOk.kept (x:HOk P w H h) (k:∀ b u,h.get? b=some u→h'.get? b=some u):HOk P w H h':=fun a o e=>
 (x a o e).stay (fun b u _ q=>k b u q) (fun _ q=>q) fun _ _ q=>q
theorem HOk.laid (x:HOk P w H h) (k:∀ b u,h.get? b=some u→h'.get? b=some u) (hp:h.objs.size≤a) (new:Zd8 P w (upd H a o) h' a o):HOk P w (upd H a o) h':=fun b u e=>by
 have hn:=x.fresh hp
 by_cases hb:b=a
 ·subst hb; rw [ZaV] at e; cases e; exact new
 ·rw [ZbG hb] at e
  exact (x b u e).stay (fun c v _ q=>k c v q) (fun c q=>by rw [ZbG (Zat q hn)]; exact q) fun c xs q=>by rw [ZbG (Zat q hn)]; exact q
end
def Rd (H:Hp) (a:Addr) (u:HO):Prop:=H a=some u∨∃ o,H a=some (.frz o u)
theorem Rd.ok {P:Program} {w:World} {H:Hp} {h:Heap} {a:Addr} {u:HO} (r:Rd H a u) (x:HOk P w H h):Zd8 P w H h a u:=by
 rcases r with r | ⟨o,r⟩
 ·exact x a u r
 ·obtain ⟨_,q⟩ :=x a _ r
  exact q
def Mut:Option HO→Prop
 | some (.lst _)=>True
 | some (.dK _)=>True
 | some (.dT _)=>True
 | some (.set _ _)=>True
 | some (.ins _ _ _)=>True
 | some (.ext _)=>True
 | _=>False
section
variable {P:Program} {w:World} {H:Hp} {h h':Heap} {x e:Addr} {o':HO}
theorem HOk.write (ok:HOk P w H h) (mu:Mut (H x)) (he:e=x∨H e=some (.own x)) (k:∀ b u,b ≠ e→h.get? b=some u→h'.get? b=some u) (heo:∃ u,h'.get? e=some u)
  (new:Zd8 P w (upd H x o') h' x o'):HOk P w (upd H x o') h':=fun b u q=>by
 have nown:∀ c y,H c=some (.own y)→c ≠ x:=fun c y r z=>by subst z; rw [r] at mu; exact mu
 have ntup:∀ c xs,H c=some (.tup xs)→c ≠ x:=fun c xs r z=>by subst z; rw [r] at mu; exact mu
 by_cases hb:b=x
 ·subst hb; rw [ZaV] at q; cases q; exact new
 ·rw [ZbG hb] at q
  by_cases hbe:b=e
  ·have q':H b=some (.own x):=by
    rcases he with z | z
    ·exact absurd (hbe.trans z) hb
    ·rw [hbe]; exact z
   rw [q] at q'; cases q'
   obtain ⟨v,hv⟩ :=heo
   exact ⟨v,by rw [hbe]; exact hv⟩
  ·refine (ok b u q).stay (fun c v hc r=>k c v ?_ r) (fun c r=>by rw [ZbG (nown c b r)]; exact r) fun c xs r=>by rw [ZbG (ntup c xs r)]; exact r
   rcases hc with rfl | hc
   ·exact hbe
   ·rintro rfl
    rcases he with z | z
    ·exact nown c b hc z
    ·rw [hc] at z; cases z; exact hb rfl
end
structure Un (fs ex:List Addr) (H H':Hp) (h h':Heap):Prop where
 keep:∀ b o,h.get? b=some o→H b=none→b ∉ fs→b ∉ ex→h'.get? b=some o
 slot:∀ b o,h.get? b=some o→H b=none→b ∈ fs→b ∉ ex→∃ sl,h'.get? b=some { o with slots:=sl }
 free:∀ b o,h.get? b=some o→H b=none→b ∉ ex→H' b=none
 there:∀ b o,h.get? b=some o→b ∉ ex→∃ o',h'.get? b=some o'
 tups:∀ b xs,H b=some (.tup xs)→H' b=some (.tup xs)
 frzs:∀ b o u,H b=some (.frz o u)→H' b=some (.frz o u)
 tbls:∀ b ps,H b=some (.tbl ps)→∃ more,H' b=some (.tbl (ps ++ more))
section
variable {fs fs' ex ex':List Addr} {H H1 H2:Hp} {h h1 h2 h':Heap} {a x e:Addr} {o:HO}
theorem Un.any (u:Un fs ex H H1 h h1) {b:Addr} {ob:Obj} (q:h.get? b=some ob) (n:H b=none) (hx:b ∉ ex):∃ sl,h1.get? b=some { ob with slots:=sl }:=by
 by_cases hb:b ∈ fs
 ·exact u.slot b ob q n hb hx
 ·exact ⟨ob.slots,u.keep b ob q n hb hx⟩
theorem Un.kept (k:∀ b u,h.get? b=some u→h'.get? b=some u):Un fs ex H H h h':=
 ⟨fun b ob q _ _ _=>k b ob q,fun b ob q _ _ _=>⟨ob.slots,k b ob q⟩,fun _ _ _ n _=>n,fun b ob q _=>⟨ob,k b ob q⟩,fun _ _ q=>q,fun _ _ _ q=>q,fun _ ps q=>⟨#[],by rw [q]; simp⟩⟩
theorem Un.refl:Un fs ex H H h h:=Un.kept fun _ _ q=>q
theorem Un.laid (k:∀ b u,h.get? b=some u→h'.get? b=some u) (hp:h.objs.size≤a) (hn:H a=none):Un fs ex H (upd H a o) h h' where
 keep:=fun b u q _ _ _=>k b u q
 slot:=fun b u q _ _ _=>⟨u.slots,k b u q⟩
 free:=fun b u q n _=>by rw [ZbG (Nat.ne_of_lt (Nat.lt_of_lt_of_le (Heap.lt_size q) hp))]; exact n
 there:=fun b u q _=>⟨u,k b u q⟩
 tups:=fun b xs q=>by rw [ZbG (Zat q hn)]; exact q
 frzs:=fun b u xs q=>by rw [ZbG (Zat q hn)]; exact q
 tbls:=fun b ps q=>⟨#[],by rw [ZbG (Zat q hn),q]; simp⟩
theorem Un.write (mu:Mut (H x)) (he:e=x∨H e=some (.own x)) (k:∀ b u,b ≠ e→h.get? b=some u→h'.get? b=some u) (heo:∃ u,h'.get? e=some u):Un fs ex H (upd H x o) h h':=by
 have hx:∀ b,H b=none→b ≠ x:=fun b n z=>by subst z; rw [n] at mu; exact mu
 have hb:∀ b,H b=none→b ≠ e:=fun b n z=>by
  subst z
  rcases he with r | r
  ·exact hx b n r
  ·rw [n] at r; cases r
 have hm:∀ b u,H b=some u→¬ Mut (some u)→b ≠ x:=fun b u q nm z=>by subst z; rw [q] at mu; exact nm mu
 refine ⟨fun b u q n _ _=>k b u (hb b n) q,fun b u q n _ _=>⟨u.slots,k b u (hb b n) q⟩,fun b u q n _=>by rw [ZbG (hx b n)]; exact n,fun b u q _=>?_,
  fun b xs q=>by rw [ZbG (hm b _ q fun z=>z)]; exact q,fun b u xs q=>by rw [ZbG (hm b _ q fun z=>z)]; exact q,fun b ps q=>⟨#[],by rw [ZbG (hm b _ q fun z=>z),q]; simp⟩⟩
 by_cases hbe:b=e
 ·subst hbe; exact heo
 ·exact ⟨u,k b u hbe q⟩
end
def trk (h:Heap) (H:Hp):List Addr:=(List.range h.objs.size).filter fun a=>(H a).isSome
def hidT (h:Heap) (H:Hp):Heap:=PySem.W.hideAll h (trk h H)
theorem ZIF (h:Heap) (H:Hp):(hidT h H).objs.size=h.objs.size:=PySem.W.hideAll_size _ _
theorem ZK0 {h:Heap} {H:Hp} {b:Addr} {o:Obj} (e:h.get? b=some o) (n:H b=none):(hidT h H).get? b=some o:=
 PySem.W.hideAll_get _ e fun hm=>by
  have q:(H b).isSome=true:=(List.mem_filter.mp hm).2
  rw [n] at q; simp at q
theorem ZNY {h:Heap} {H:Hp} {b:Addr} {o:Obj} (e:(hidT h H).get? b=some o):h.get? b=some o∧H b=none:=by
 have e':h.get? b=some o:=PySem.W.of_hideAll (trk h H) e
 refine ⟨e',?_⟩
 cases q:H b with
 | none=>rfl
 | some x=>
  have hm:b ∈ trk h H:=List.mem_filter.mpr ⟨List.mem_range.mpr (Heap.lt_size e'),by simp [q]⟩
  have z:(hidT h H).get? b=none:=PySem.W.hideAll_none (trk h H) hm
  rw [z] at e; cases e
end L2
namespace L2
open PySem PySem.Spec PyProof.Rows
structure Mod (K:PySem.W.Frag) (mg:Str→Option Value) (base:Heap):Prop where
 kin:K.In base
 glob:base.Ns mainGlobals mg
 blt:∃ mb,base.Ns builtinsNs mb∧∀ x:Str,x ≠ "__name__"→mb x=bootBuiltins x
 nolimit:base.NoLimit
structure Cx where
 prog:Program
 w:World
 K:PySem.W.Frag
 mg:Str→Option Value
 base:Heap
 A:Around
 N:List Str
 s₀:Shared
 H₀:Hp
 env:Env
 outer:List Env
 stack:List Env
 ex:List Addr
 fn:Str→Bool
 calm:Bool
 pn:List (Addr × Obj)
 xe:Value→Shared→Prop
def frs (l:List Env):List Addr:=l.filterMap (·.frame)
abbrev Cx.fs (X:Cx):List Addr:=frs X.outer
def Vis (sc:Scope) (x:Str):Prop:=sc.names.lookup x=some .local∨sc.names.lookup x=some .cell∨sc.names.lookup x=some .free
def Loc (sc:Scope) (x:Str):Prop:=sc.names.lookup x=some .local∨sc.names.lookup x=some .cell
def Look (env:Env) (h:Heap) (m:Str→Option Value) (x:Str) (u:Value):Prop:=
 (env.kindOf x=some .local∧m x=some u)∨((env.kindOf x=some .cell∨env.kindOf x=some .free)∧∃ c,env.cells.lookup x=some c∧h.IsCell c (some u))
structure Cx.Ok (X:Cx):Prop where
 mod:Mod X.K X.mg X.base
 kind:X.env.scope.kind=.function
 glob:X.env.globals=mainGlobals
 blt:X.env.builtins=builtinsNs
 above:X.s₀.heap.objs.size≤X.env.locals
 inj:∀ x y c,X.env.cells.lookup x=some c→X.env.cells.lookup y=some c→x=y
 has:∀ x,(X.env.kindOf x=some .cell∨X.env.kindOf x=some .free)→∃ c,X.env.cells.lookup x=some c
 cab:∀ x c,X.fn x=true→X.env.cells.lookup x=some c→X.s₀.heap.objs.size≤c
 hd:X.calm=true→X.A.handled=none
 frames:X.A.frames=some X.stack
 stk:X.stack=X.outer∨(X.stack=X.env :: X.outer∧X.env.frame=some X.env.locals)
 exf:∀ b ∈ X.ex,b ≠ X.env.locals∧∀ x c,X.env.cells.lookup x=some c→c ≠ b
 bs:∀ b o,X.base.get? b=some o→X.s₀.heap.get? b=some o∧X.H₀ b=none
 bsz:X.base.objs.size≤X.s₀.heap.objs.size
 noex:∀ b o,X.base.get? b=some o→b ∉ X.ex
 exfs:∀ b ∈ X.ex,b ∉ X.fs
 funs:X.s₀.heap.FunFrames X.base X.outer
 frf:∀ b ∈ X.fs,X.H₀ b=none
structure Inv (X:Cx) (pins:List (Addr × Obj)) (σ:List (Option V)) (H:Hp) (s:Shared):Prop where
 ok:X.Ok
 os:s.os=X.s₀.os
 bare:AllBare s.gens
 base:Un X.fs X.ex X.H₀ H X.s₀.heap s.heap
 loc:∃ m,s.heap.Ns X.env.locals m∧∀ (i:Nat) (x:Str) (v:V),X.N[i]?=some x→σ[i]?=some (some v)→Vis X.env.scope x→∃ u,RelV v u∧Look X.env s.heap m x u
 cell:∀ x c,X.env.cells.lookup x=some c→∃ v,s.heap.IsCell c v
 free:H X.env.locals=none
 freeC:∀ x c,X.env.cells.lookup x=some c→H c=none
 pin:∀ p ∈ X.pn ++ pins,s.heap.get? p.1=some p.2∧H p.1=none∧p.1 ≠ X.env.locals∧p.1 ∉ X.fs∧∀ v,p.2.data ≠ .cell v
 hok:HOk X.prog X.w H s.heap
 len:σ.length=X.N.length
section
variable {X:Cx} {pins:List (Addr × Obj)} {σ:List (Option V)} {H H':Hp} {s:Shared} {h':Heap}
theorem Cx.Ok.nofr (ok:X.Ok) {b:Addr} {o:Obj} (e:X.base.get? b=some o):b ∉ X.fs:=fun hb=>by
 have:=(ok.funs.mem hb).1
 rw [e] at this; cases this
theorem Inv.bs (I:Inv X pins σ H s):∀ b o,X.base.get? b=some o→s.heap.get? b=some o∧H b=none:=fun b o e=>
 ⟨I.base.keep b o (I.ok.bs b o e).1 (I.ok.bs b o e).2 (I.ok.nofr e) (I.ok.noex b o e),I.base.free b o (I.ok.bs b o e).1 (I.ok.bs b o e).2 (I.ok.noex b o e)⟩
theorem Inv.bk (I:Inv X pins σ H s):∀ b o,X.base.get? b=some o→s.heap.get? b=some o:=fun b o e=>(I.bs b o e).1
theorem Inv.mod (I:Inv X pins σ H s):Mod X.K X.mg X.base:=I.ok.mod
theorem Inv.kIn (I:Inv X pins σ H s):X.K.In s.heap:=I.ok.mod.kin.keeps I.bk
theorem Inv.lt (I:Inv X pins σ H s):X.env.locals < s.heap.objs.size:=let ⟨_,hn,_⟩ :=I.loc; hn.lt
theorem Inv.sz (I:Inv X pins σ H s):X.s₀.heap.objs.size≤s.heap.objs.size:=Nat.le_trans I.ok.above (Nat.le_of_lt I.lt)
theorem Inv.nofs (I:Inv X pins σ H s) {a:Addr} (h:s.heap.objs.size≤a):a ∉ X.fs:=fun hb=>by
 obtain ⟨_,o,ho,_⟩ :=I.ok.funs.mem hb
 exact absurd (Nat.lt_of_lt_of_le (Heap.lt_size ho) (Nat.le_trans I.sz h)) (Nat.lt_irrefl _)
theorem Inv.cne (I:Inv X pins σ H s):∀ x c,X.env.cells.lookup x=some c→c ≠ X.env.locals:=fun x c e z=>by
 obtain ⟨v,o,ho,hd⟩ :=I.cell x c e
 obtain ⟨m,⟨o',es,ep,ho',hd',_⟩,_⟩ :=I.loc
 rw [z,ho'] at ho; cases ho; rw [hd'] at hd; cases hd
theorem Inv.funs (I:Inv X pins σ H s):s.heap.FunFrames X.base X.outer:=by
 have all:∀ (l:List Env),(∀ b ∈ frs l,b ∈ X.fs)→X.s₀.heap.FunFrames X.base l→s.heap.FunFrames X.base l:=by
  intro l
  induction l with
  | nil=>intro _ _; trivial
  | cons env r ih=>
   intro hs hl
   obtain ⟨hk,⟨L,o,hf,hn,ho,hd⟩,hr⟩ :=hl
   have hL:L ∈ X.fs:=hs L (by unfold frs; rw [List.filterMap_cons,hf]; exact List.mem_cons_self)
   obtain ⟨sl,e⟩ :=I.base.slot L o ho (I.ok.frf L hL) hL fun z=>I.ok.exfs L z hL
   exact ⟨hk,⟨L,_,hf,hn,e,hd⟩,ih (fun b hb=>hs b (by unfold frs; rw [List.filterMap_cons,hf]; exact List.mem_cons_of_mem _ hb)) hr⟩
 exact all X.outer (fun _ hb=>hb) I.ok.funs
theorem Inv.stack (I:Inv X pins σ H s):s.heap.FunFrames X.base X.stack:=by
 rcases I.ok.stk with e | ⟨e,hf⟩
 ·rw [e]; exact I.funs
 ·rw [e]
  obtain ⟨m,hn,_⟩ :=I.loc
  refine .cons (by rw [I.ok.kind]; decide) hf hn ?_ I.funs
  exact Heap.get?_none_of_le (Nat.le_trans I.ok.bsz I.ok.above)
theorem Inv.stkSub (I:Inv X pins σ H s):∀ b ∈ frs X.stack,b ∈ X.env.locals :: X.fs:=fun b hb=>by
 rcases I.ok.stk with e | ⟨e,hf⟩
 ·rw [e] at hb; exact List.mem_cons_of_mem _ hb
 ·rw [e] at hb
  unfold frs at hb
  rw [List.filterMap_cons,hf] at hb
  exact hb
theorem Inv.stkFree (I:Inv X pins σ H s):∀ b ∈ frs X.stack,H b=none:=fun b hb=>by
 rcases List.mem_cons.mp (I.stkSub b hb) with e | hb
 ·rw [e]; exact I.free
 ·obtain ⟨_,o,ho,_⟩ :=I.ok.funs.mem hb
  exact I.base.free b o ho (I.ok.frf b hb) fun z=>I.ok.exfs b z hb
theorem Inv.step {g':Array GenState} {t':Nat} {d':Drawn} {ch:List Addr} (I:Inv X pins σ H s)
  (hch:∀ b ∈ ch,(b ∈ X.ex∨X.s₀.heap.objs.size≤b)∧b ≠ X.env.locals∧(∀ x c,X.env.cells.lookup x=some c→c ≠ b)∧∀ p ∈ X.pn ++ pins,p.1 ≠ b)
  (keep:∀ b o,b ≠ X.env.locals→b ∉ X.fs→b ∉ ch→s.heap.get? b=some o→H b=none→h'.get? b=some o)
  (slot:∀ b o,b ≠ X.env.locals→b ∈ X.fs→b ∉ ch→s.heap.get? b=some o→H b=none→∃ sl,h'.get? b=some { o with slots:=sl }) (free:∀ b o,b ∉ ch→s.heap.get? b=some o→H b=none→H' b=none)
  (there:∀ b o,b ∉ ch→s.heap.get? b=some o→∃ o',h'.get? b=some o')
  (tups:∀ b xs,H b=some (.tup xs)→H' b=some (.tup xs)) (frzs:∀ b o u,H b=some (.frz o u)→H' b=some (.frz o u)) (tbls:∀ b ps,H b=some (.tbl ps)→∃ more,H' b=some (.tbl (ps ++ more)))
  (ns:∀ m,s.heap.Ns X.env.locals m→h'.Ns X.env.locals m) (hok:HOk X.prog X.w H' h') (hg:AllBare g') :
  Inv X pins σ H' { s with heap:=h',gens:=g',drawn:=d',toks:=t' }:=by
 have neL:∀ b o,X.s₀.heap.get? b=some o→b ≠ X.env.locals:=fun b o e=>Nat.ne_of_lt (Nat.lt_of_lt_of_le (Heap.lt_size e) I.ok.above)
 have neC:∀ b o,X.s₀.heap.get? b=some o→b ∉ X.ex→b ∉ ch:=fun b o e hx hb=>by
  rcases (hch b hb).1 with z | z
  ·exact hx z
  ·exact absurd (Nat.lt_of_lt_of_le (Heap.lt_size e) z) (Nat.lt_irrefl _)
 have cellK:∀ x c,X.env.cells.lookup x=some c→∀ v,s.heap.IsCell c v→h'.IsCell c v:=fun x c e v ⟨o,ho,hd⟩ =>by
  have nch:c ∉ ch:=fun z=>(hch c z).2.2.1 x c e rfl
  by_cases hc:c ∈ X.fs
  ·obtain ⟨sl,q⟩ :=slot c o (I.cne x c e) hc nch ho (I.freeC x c e)
   exact ⟨_,q,hd⟩
  ·exact ⟨o,keep c o (I.cne x c e) hc nch ho (I.freeC x c e),hd⟩
 refine ⟨I.ok,I.os,hg,⟨fun b o e n hb hx=>?_,fun b o e n hb hx=>?_,fun b o e n hx=>?_,fun b o e hx=>?_,fun b xs e=>tups b xs (I.base.tups b xs e),fun b o xs e=>frzs b o xs (I.base.frzs b o xs e),fun b ps e=>?_⟩,?_,fun x c e=>?_,?_,fun x c e=>?_,fun p hp=>?_,hok,I.len⟩
 ·exact keep b o (neL b o e) hb (neC b o e hx) (I.base.keep b o e n hb hx) (I.base.free b o e n hx)
 ·obtain ⟨sl,e1⟩ :=I.base.slot b o e n hb hx
  obtain ⟨sl',e2⟩ :=slot b _ (neL b o e) hb (neC b o e hx) e1 (I.base.free b o e n hx)
  exact ⟨sl',e2⟩
 ·obtain ⟨o',e1⟩ :=I.base.there b o e hx
  exact free b o' (neC b o e hx) e1 (I.base.free b o e n hx)
 ·obtain ⟨o',e1⟩ :=I.base.there b o e hx
  exact there b o' (neC b o e hx) e1
 ·obtain ⟨m1,e1⟩ :=I.base.tbls b ps e
  obtain ⟨m2,e2⟩ :=tbls b _ e1
  exact ⟨m1 ++ m2,by rw [e2,Array.append_assoc]⟩
 ·obtain ⟨m,hn,hl⟩ :=I.loc
  refine ⟨m,ns m hn,fun i x v e1 e2 e3=>?_⟩
  obtain ⟨u,r,l⟩ :=hl i x v e1 e2 e3
  refine ⟨u,r,?_⟩
  rcases l with l | ⟨k,c,e,z⟩
  ·exact .inl l
  ·exact .inr ⟨k,c,e,cellK x c e _ z⟩
 ·obtain ⟨v,z⟩ :=I.cell x c e
  exact ⟨v,cellK x c e v z⟩
 ·obtain ⟨m,⟨o,_,_,ho,_⟩,_⟩ :=I.loc
  exact free _ o (fun z=>(hch _ z).2.1 rfl) ho I.free
 ·obtain ⟨v,o,ho,hd⟩ :=I.cell x c e
  exact free c o (fun z=>(hch c z).2.2.1 x c e rfl) ho (I.freeC x c e)
 ·obtain ⟨e,n,ne,nf,d⟩ :=I.pin p hp
  have nch:p.1 ∉ ch:=fun z=>(hch p.1 z).2.2.2 p hp rfl
  exact ⟨keep p.1 p.2 ne nf nch e n,free p.1 p.2 nch e n,ne,nf,d⟩
theorem Inv.un {t':Nat} (I:Inv X pins σ H s) (u:Un X.fs [] H H' s.heap h') (hok:HOk X.prog X.w H' h'):Inv X pins σ H' { s with heap:=h',toks:=t' }:=by
 obtain ⟨m,⟨o,es,ep,ho,r⟩,_⟩ :=id I.loc
 obtain ⟨sl,hL⟩ :=u.any ho I.free (by simp)
 exact I.step (g':=s.gens) (d':=s.drawn) (ch:=[]) (fun _ z=>nomatch z) (fun b o _ hb _ e n=>u.keep b o e n hb (by simp)) (fun b o _ hb _ e n=>u.slot b o e n hb (by simp)) (fun b o _ e n=>u.free b o e n (by simp)) (fun b o _ e=>u.there b o e (by simp)) u.tups u.frzs u.tbls (fun m' hm=>by
  obtain ⟨o',es',ep',ho',r'⟩ :=hm
  rw [ho] at ho'; cases ho'
  exact ⟨_,es',ep',hL,r'⟩) hok I.bare
theorem Inv.call {g':Array GenState} {t':Nat} {d':Drawn} {ch:List Addr} (I:Inv X pins σ H s) (u:Un (frs X.stack) ch H H' s.heap h') (hok:HOk X.prog X.w H' h') (hg:AllBare g')
  (hch:∀ b ∈ ch,(b ∈ X.ex∨X.s₀.heap.objs.size≤b)∧b ≠ X.env.locals∧(∀ x c,X.env.cells.lookup x=some c→c ≠ b)∧∀ p ∈ X.pn ++ pins,p.1 ≠ b) :
  Inv X pins σ H' { s with heap:=h',gens:=g',drawn:=d',toks:=t' }:=by
 obtain ⟨m,⟨o,es,ep,ho,r⟩,_⟩ :=id I.loc
 obtain ⟨sl,hL⟩ :=u.any ho I.free fun z=>(hch _ z).2.1 rfl
 exact I.step (ch:=ch) hch (fun b o hL hb hc e n=>u.keep b o e n (fun z=>(List.mem_cons.mp (I.stkSub b z)).elim hL hb) hc) (fun b o _ _ hc e n=>u.any e n hc) (fun b o hc e n=>u.free b o e n hc) (fun b o hc e=>u.there b o e hc) u.tups u.frzs u.tbls (fun m' hm=>by
  obtain ⟨o',es',ep',ho',r'⟩ :=hm
  rw [ho] at ho'; cases ho'
  exact ⟨_,es',ep',hL,r'⟩) hok hg
theorem Inv.turned {t':Nat} {it:Addr} (I:Inv X pins σ H s) (k:∀ b o,b ≠ it→s.heap.get? b=some o→h'.get? b=some o) (hn:H it=none) (hL:it ≠ X.env.locals)
  (h1:it ∈ X.ex∨X.s₀.heap.objs.size≤it) (h2:∀ x c,X.env.cells.lookup x=some c→c ≠ it) (h3:∀ p ∈ X.pn ++ pins,p.1 ≠ it):Inv X pins σ H { s with heap:=h',toks:=t' }:=by
 have nit:∀ b u,H b=some u→b ≠ it:=fun b u e z=>by rw [z,hn] at e; cases e
 refine I.step (g':=s.gens) (d':=s.drawn) (ch:=[it]) (fun b hb=>?_) (fun b o _ _ hc e _=>k b o (fun z=>hc (by simp [z])) e) (fun b o _ _ hc e _=>⟨o.slots,k b o (fun z=>hc (by simp [z])) e⟩) (fun _ _ _ _ n=>n)
  (fun b o hc e=>⟨o,k b o (fun z=>hc (by simp [z])) e⟩) (fun _ _ e=>e) (fun _ _ _ e=>e) (fun b ps e=>⟨#[],by rw [e]; simp⟩) (fun m hm=>?_) (fun b u e=>?_) I.bare
 ·have e:b=it:=by simpa using hb
  subst e
  exact ⟨h1,hL,h2,h3⟩
 ·obtain ⟨o,es,ep,ho,r⟩ :=hm
  exact ⟨o,es,ep,k _ o (Ne.symm hL) ho,r⟩
 ·refine (I.hok b u e).stay (fun c v hc q=>k c v ?_ q) (fun _ q=>q) fun _ _ q=>q
  rcases hc with z | z
  ·rw [z]; exact nit b u e
  ·exact nit c _ z
theorem Inv.tok (I:Inv X pins σ H s) (t:Nat):Inv X pins σ H { s with toks:=t }:=I.un (h':=s.heap) (t':=t) Un.refl I.hok
theorem Inv.kept {t':Nat} (I:Inv X pins σ H s) (k:∀ b u,s.heap.get? b=some u→h'.get? b=some u):Inv X pins σ H { s with heap:=h',toks:=t' }:=I.un (Un.kept k) (I.hok.kept k)
theorem Inv.laid {a:Addr} {o:HO} {t':Nat} (I:Inv X pins σ H s) (k:∀ b u,s.heap.get? b=some u→h'.get? b=some u) (hp:s.heap.objs.size≤a) (new:Zd8 X.prog X.w (upd H a o) h' a o) :
  Inv X pins σ (upd H a o) { s with heap:=h',toks:=t' }:=I.un (Un.laid k hp (I.hok.fresh hp)) (I.hok.laid k hp new)
theorem Inv.write {x e:Addr} {o:HO} {t':Nat} (I:Inv X pins σ H s) (mu:Mut (H x)) (he:e=x∨H e=some (.own x)) (k:∀ b u,b ≠ e→s.heap.get? b=some u→h'.get? b=some u) (heo:∃ u,h'.get? e=some u)
  (new:Zd8 X.prog X.w (upd H x o) h' x o):Inv X pins σ (upd H x o) { s with heap:=h',toks:=t' }:=I.un (Un.write mu he k heo) (I.hok.write mu he k heo new)
theorem Inv.pins_of {pins':List (Addr × Obj)} (I:Inv X pins σ H s) (h:∀ p ∈ pins',s.heap.get? p.1=some p.2∧H p.1=none∧p.1 ≠ X.env.locals∧p.1 ∉ X.fs∧∀ v,p.2.data ≠ .cell v):Inv X pins' σ H s:=
 ⟨I.ok,I.os,I.bare,I.base,I.loc,I.cell,I.free,I.freeC,fun p hp=>(List.mem_append.mp hp).elim (fun z=>I.pin p (List.mem_append_left _ z)) (h p),I.hok,I.len⟩
theorem ZAz {N:List Str} (hN:N.Nodup) {i j:Nat} {x:Str} (a:N[i]?=some x) (b:N[j]?=some x):i=j:=by
 obtain ⟨h1,e1⟩ :=List.getElem?_eq_some_iff.mp a
 obtain ⟨h2,e2⟩ :=List.getElem?_eq_some_iff.mp b
 exact (List.getElem_inj hN).mp (e1.trans e2.symm)
theorem ZKg {M:Model} {A:Around} {E:Value→Shared→Prop} {i:Nat} {x:Str} {v:V} {u:Value} {Q:Unit→Shared→Prop} (I:Inv X pins σ H s) (hN:X.N.Nodup) (hi:X.N[i]?=some x) (hx:Loc X.env.scope x) (r:RelV v u)
  (h:∀ s',Inv X pins (σ.set i (some v)) H s'→(∃ a,Heap.SameBut a s.heap s'.heap∧(a=X.env.locals∨X.env.cells.lookup x=some a))→Q () s') (hf:X.fn x=true∨X.env.scope.names.lookup x=some .local:=by first | exact .inl rfl | exact .inr rfl | assumption):wpAny M A (storeName X.env x u) Q E s:=by
 obtain ⟨m,hn,hl⟩ :=id I.loc
 have hcls:(X.env.scope.kind == .class || (X.env.scope.kind == .module && X.env.locals != X.env.globals))=false:=by rw [I.ok.kind]; rfl
 have hiσ:i < σ.length:=by rw [I.len]; exact (List.getElem?_eq_some_iff.mp hi).1
 have cne:=I.cne
 have tracked:∀ {a:Addr} {h':Heap},(∃ o,s.heap.get? a=some o∧H a=none)→Heap.SameBut a s.heap h'→HOk X.prog X.w H h':=fun {a h'} ha hs b ob e=>by
  obtain ⟨_,_,hfree⟩ :=ha
  refine (I.hok b ob e).stay (fun c w' hc q=>(hs.2 c ?_).trans q) (fun _ q=>q) fun _ _ q=>q
  rintro rfl
  rcases hc with rfl | hc
  ·rw [hfree] at e; cases e
  ·rw [hfree] at hc; cases hc
 rcases hx with hk | hk
 ·refine wpAny_storeName_local hk hn (fun h' hn' hs=>?_) hcls
  obtain ⟨oL,_,_,hoL,_⟩ :=id hn
  refine h _ ⟨I.ok,I.os,I.bare,⟨fun b o e n hb hx=>?_,fun b o e n hb hx=>?_,I.base.free,fun b o e hx=>?_,I.base.tups,I.base.frzs,I.base.tbls⟩,⟨_,hn',fun j y v' e1 e2 e3=>?_⟩,fun y c e=>?_,I.free,I.freeC,fun p hp=>?_,tracked ⟨oL,hoL,I.free⟩ hs,by simpa using I.len⟩ ⟨_,hs,.inl rfl⟩
  ·exact (hs.2 b (Nat.ne_of_lt (Nat.lt_of_lt_of_le (Heap.lt_size e) I.ok.above))).trans (I.base.keep b o e n hb hx)
  ·obtain ⟨sl,e1⟩ :=I.base.slot b o e n hb hx
   exact ⟨sl,(hs.2 b (Nat.ne_of_lt (Nat.lt_of_lt_of_le (Heap.lt_size e) I.ok.above))).trans e1⟩
  ·obtain ⟨o',e1⟩ :=I.base.there b o e hx
   exact ⟨o',(hs.2 b (Nat.ne_of_lt (Nat.lt_of_lt_of_le (Heap.lt_size e) I.ok.above))).trans e1⟩
  ·by_cases hj:j=i
   ·subst hj
    rw [hi] at e1; cases e1
    rw [List.getElem?_set_self hiσ] at e2
    cases e2
    exact ⟨u,r,.inl ⟨hk,by simp⟩⟩
   ·rw [List.getElem?_set_ne (Ne.symm hj)] at e2
    obtain ⟨u',r',q⟩ :=hl j y v' e1 e2 e3
    refine ⟨u',r',?_⟩
    rcases q with ⟨k,e⟩ | ⟨k,c,e,z⟩
    ·refine .inl ⟨k,?_⟩
     have:y ≠ x:=fun e=>hj (ZAz hN e1 (e ▸ hi))
     simp [this,e]
    ·exact .inr ⟨k,c,e,z.sameBut hs (cne y c e)⟩
  ·obtain ⟨w',z⟩ :=I.cell y c e
   exact ⟨w',z.sameBut hs (cne y c e)⟩
  ·obtain ⟨e,n,ne,nf,d⟩ :=I.pin p hp
   exact ⟨(hs.2 p.1 ne).trans e,n,ne,nf,d⟩
 ·have hfn:X.fn x=true:=by
   rcases hf with z | z
   ·exact z
   ·rw [z] at hk; cases hk
  obtain ⟨c,hc⟩ :=I.ok.has x (.inl hk)
  obtain ⟨w',z⟩ :=I.cell x c hc
  refine wpAny_storeName_cell I.ok.kind hk hc z (fun h' hc' hs=>?_)
  obtain ⟨oc,hoc,hocd⟩ :=id z
  refine h { s with heap:=h' } ⟨I.ok,I.os,I.bare,⟨fun b o e n hb hx=>?_,fun b o e n hb hx=>?_,I.base.free,fun b o e hx=>?_,I.base.tups,I.base.frzs,I.base.tbls⟩,⟨m,hn.sameBut hs (Ne.symm (cne x c hc)),fun j y v' e1 e2 e3=>?_⟩,fun y c' e=>?_,I.free,I.freeC,fun p hp=>?_,tracked ⟨oc,hoc,I.freeC x c hc⟩ hs,by simpa using I.len⟩ ⟨c,hs,.inr hc⟩
  ·exact (hs.2 b (Nat.ne_of_lt (Nat.lt_of_lt_of_le (Heap.lt_size e) (I.ok.cab x c hfn hc)))).trans (I.base.keep b o e n hb hx)
  ·obtain ⟨sl,e1⟩ :=I.base.slot b o e n hb hx
   exact ⟨sl,(hs.2 b (Nat.ne_of_lt (Nat.lt_of_lt_of_le (Heap.lt_size e) (I.ok.cab x c hfn hc)))).trans e1⟩
  ·obtain ⟨o',e1⟩ :=I.base.there b o e hx
   exact ⟨o',(hs.2 b (Nat.ne_of_lt (Nat.lt_of_lt_of_le (Heap.lt_size e) (I.ok.cab x c hfn hc)))).trans e1⟩
  ·by_cases hj:j=i
   ·subst hj
    rw [hi] at e1; cases e1
    rw [List.getElem?_set_self hiσ] at e2
    cases e2
    exact ⟨u,r,.inr ⟨.inl hk,c,hc,hc'⟩⟩
   ·rw [List.getElem?_set_ne (Ne.symm hj)] at e2
    obtain ⟨u',r',q⟩ :=hl j y v' e1 e2 e3
    refine ⟨u',r',?_⟩
    rcases q with q | ⟨k,c',e,z'⟩
    ·exact .inl q
    ·refine .inr ⟨k,c',e,z'.sameBut hs ?_⟩
     rintro rfl
     exact hj (ZAz hN e1 (I.ok.inj _ _ _ e hc ▸ hi))
  ·by_cases hcc:c'=c
   ·subst hcc; exact ⟨_,hc'⟩
   ·obtain ⟨w2,z2⟩ :=I.cell y c' e
    exact ⟨w2,z2.sameBut hs hcc⟩
  ·obtain ⟨e,n,ne,nf,d⟩ :=I.pin p hp
   refine ⟨(hs.2 p.1 ?_).trans e,n,ne,nf,d⟩
   intro q
   rw [q,hoc] at e
   have q':oc=p.2:=Option.some.inj e
   exact d w' (by rw [← q']; exact hocd)
theorem ZG0 {M:Model} {A:Around} {E:Value→Shared→Prop} {i:Nat} {x:Str} {v:V} {u:Value} {Q:Unit→Shared→Prop} (I:Inv X pins σ H s) (hN:X.N.Nodup) (hi:X.N[i]?=some x) (hx:Loc X.env.scope x) (r:RelV v u)
  (h:∀ s',Inv X pins (σ.set i (some v)) H s'→Q () s') (hf:X.fn x=true∨X.env.scope.names.lookup x=some .local:=by first | exact .inl rfl | exact .inr rfl | assumption):wpAny M A (storeName X.env x u) Q E s:=
 ZKg I hN hi hx r (fun s' I' _=>h s' I') hf
theorem Inv.call' {s':Shared} {ch:List Addr} (I:Inv X pins σ H s) (ho:s'.os=s.os) (u:Un (frs X.stack) ch H H' s.heap s'.heap) (hok:HOk X.prog X.w H' s'.heap) (hg:AllBare s'.gens)
  (hch:∀ b ∈ ch,(b ∈ X.ex∨X.s₀.heap.objs.size≤b)∧b ≠ X.env.locals∧(∀ x c,X.env.cells.lookup x=some c→c ≠ b)∧∀ p ∈ X.pn ++ pins,p.1 ≠ b):Inv X pins σ H' s':=by
 obtain ⟨h',g',d',t',o'⟩ :=s'
 have e:o'=s.os:=ho
 subst e
 exact I.call (g':=g') (t':=t') (d':=d') u hok hg hch
end
abbrev XK:=Value→Option Addr→Hp→Prop
abbrev St:=List (Option V)
abbrev VK:=V→Hp→Prop
abbrev TE:=St→Hp→VK→Prop
abbrev TT:=St→Hp→(Bool→Hp→Prop)→Prop
abbrev TA:=St→Hp→(List V→Hp→Prop)→Prop
structure Ends where
 nx:St→Hp→Prop
 rt:VK
 bk:St→Hp→Prop:=fun _ _=>False
 ct:St→Hp→Prop:=fun _ _=>False
abbrev TS:=Ends→St→Hp→Prop
def EP (X:Cx) (pins:List (Addr × Obj)) (σ:St) (Q:VK) (u:Value) (s':Shared):Prop:=∃ v H',Inv X pins σ H' s'∧RelV v u∧Q v H'
def TP (X:Cx) (pins:List (Addr × Obj)) (σ:St) (Q:Bool→Hp→Prop) (b:Bool) (s':Shared):Prop:=∃ H',Inv X pins σ H' s'∧Q b H'
def AP (X:Cx) (pins:List (Addr × Obj)) (σ:St) (Q:List V→Hp→Prop) (us:List Value) (s':Shared):Prop:=∃ vs H',Inv X pins σ H' s'∧Vals vs us∧Q vs H'
def SP (X:Cx) (pins:List (Addr × Obj)) (D:Ends) (f:Flow) (s':Shared):Prop:=
 match f with
 | .next=>∃ σ' H',Inv X pins σ' H' s'∧D.nx σ' H'
 | .brk=>∃ σ' H',Inv X pins σ' H' s'∧D.bk σ' H'
 | .cont=>∃ σ' H',Inv X pins σ' H' s'∧D.ct σ' H'
 | .ret u=>∃ v σ' H',Inv X pins σ' H' s'∧RelV v u∧D.rt v H'
def PE (X:Cx) (e:Expr) (t:TE):Prop:=
 ∀ (pins:List (Addr × Obj)) (s:Shared) (σ:St) (H:Hp) (Q:VK),Inv X pins σ H s→t σ H Q→wpAny (model X.prog X.w) X.A (eval e X.env) (EP X pins σ Q) X.xe s
def PT (X:Cx) (e:Expr) (t:TT):Prop:=
 ∀ (pins:List (Addr × Obj)) (s:Shared) (σ:St) (H:Hp) (Q:Bool→Hp→Prop),Inv X pins σ H s→t σ H Q→wpAny (model X.prog X.w) X.A (isTrue e X.env (eval e X.env)) (TP X pins σ Q) X.xe s
def PW (X:Cx) (e:Expr) (t:TT):Prop:=
 ∀ (whole:Sem Value) (pins:List (Addr × Obj)) (s:Shared) (σ:St) (H:Hp) (Q:Bool→Hp→Prop),Inv X pins σ H s→t σ H Q→wpAny (model X.prog X.w) X.A (isTrue e X.env whole) (TP X pins σ Q) X.xe s
theorem PW.pt {X:Cx} {e:Expr} {t:TT} (h:PW X e t):PT X e t:=h _
def PA (X:Cx) (es:List Expr) (t:TA):Prop:=
 ∀ (pos:Pos) (pins:List (Addr × Obj)) (s:Shared) (σ:St) (H:Hp) (Q:List V→Hp→Prop),Inv X pins σ H s→t σ H Q→wpAny (model X.prog X.w) X.A (spliced (backTo pos (starEach es X.env))) (AP X pins σ Q) X.xe s
def PS (X:Cx) (st:Stmt) (t:TS):Prop:=
 ∀ (pins:List (Addr × Obj)) (s:Shared) (σ:St) (H:Hp) (D:Ends),Inv X pins σ H s→t D σ H→wpAny (model X.prog X.w) X.A (exec st X.env) (SP X pins D) X.xe s
def PSs (X:Cx) (st:List Stmt) (t:TS):Prop:=
 ∀ (pins:List (Addr × Obj)) (s:Shared) (σ:St) (H:Hp) (D:Ends),Inv X pins σ H s→t D σ H→wpAny (model X.prog X.w) X.A (execs st X.env) (SP X pins D) X.xe s
theorem thn {α:Type} {t:Sem α} {Q Q':α→Shared→Prop} {M:Model} {A:Around} {E:Value→Shared→Prop} {s:Shared} (h:wpAny M A t Q E s) (hQ:∀ a s,Q a s→Q' a s):wpAny M A t Q' E s:=wpAny_mono h hQ fun _ _ x=>x
end L2
namespace L2
open PySem PySem.Spec PyProof.Rows
section
variable {X:Cx}
def tVar (i:Nat):TE:=fun σ H Q=>∃ v,σ[i]?=some (some v)∧Q v H
def tC (v:V):TE:=fun _ H Q=>Q v H
theorem ZPM {i:Nat} {x:Str} {pos:Pos} (hN:X.N[i]?=some x) (hv:Vis X.env.scope x) (hd:(x == ("__debug__" : Str))=false:=by decide) (hcd:(x == ("__classdict__" : Str))=false:=by decide):PE X (.Name x pos) (tVar i):=by
 intro pins s σ H Q I h
 obtain ⟨v,e,h⟩ :=h
 obtain ⟨m,hn,hl⟩ :=I.loc
 obtain ⟨u,r,l⟩ :=hl i x v hN e hv
 have fin:EP X pins σ Q u s:=⟨v,H,I,r,h⟩
 rcases l with ⟨hk,hm⟩ | ⟨hk,c,hc,hcell⟩
 ·exact wpAny_Name (wpAny_loadName_local I.ok.kind hk hn hm fin) hd
 ·rcases hk with hk | hk
  ·exact wpAny_Name (wpAny_loadName_cell I.ok.kind hk hc hcell fin) hd
  ·exact wpAny_Name (wpAny_loadName_free I.ok.kind hk hc hcell fin hcd) hd
theorem Zae {i j pos}:PE X (.Constant (.int i) j pos) (tC (.int i)):=fun _ _ _ H _ I h=>wpAny_Constant_int ⟨.int i,H,I.tok _,⟨_,rfl⟩,h⟩
theorem ZjZ {b j pos}:PE X (.Constant (.bool b) j pos) (tC (.bl b)):=fun _ _ _ H _ I h=>Constant_bool ⟨.bl b,H,I,rfl,h⟩
theorem ZMY {j pos}:PE X (.Constant .none j pos) (tC .non):=fun _ _ _ H _ I h=>Constant_none ⟨.non,H,I,rfl,h⟩
theorem Zal {x j pos}:PE X (.Constant (.str x) j pos) (tC (.str x)):=fun _ _ _ H _ I h=>Calls.Constant_str ⟨.str x,H,I.tok _,⟨_,rfl⟩,h⟩
def Gl (X:Cx) (x:Str):Prop:=X.env.kindOf x=some .globalImplicit
theorem ZxO {E:Value→Shared→Prop} {pins:List (Addr × Obj)} {s:Shared} {σ:St} {H:Hp} {x:Str} {u:Value} {pos:Pos} {Q:Value→Shared→Prop} (I:Inv X pins σ H s) (hg:Gl X x) (hm:X.mg x=some u) (h:Q u s)
  (hd:(x == ("__debug__" : Str))=false:=by decide):wpAny (model X.prog X.w) X.A (eval (.Name x pos) X.env) Q E s:=
 Calls.Name_function_global I.ok.kind hg (Calls.loadGlobal_global (by rw [I.ok.glob]; exact I.mod.glob.keeps I.bk) hm h) hd
theorem Zvx {E:Value→Shared→Prop} {pins:List (Addr × Obj)} {s:Shared} {σ:St} {H:Hp} {x:Str} {u:Value} {pos:Pos} {Q:Value→Shared→Prop} (I:Inv X pins σ H s) (hg:Gl X x) (hm:X.mg x=none) (hv:bootBuiltins x=some u) (h:Q u s)
  (hn:x ≠ "__name__":=by decide) (hd:(x == ("__debug__" : Str))=false:=by decide):wpAny (model X.prog X.w) X.A (eval (.Name x pos) X.env) Q E s:=by
 obtain ⟨mb,h1,h2⟩ :=I.mod.blt
 exact Calls.Name_function_global I.ok.kind hg (Calls.loadGlobal_builtin (by rw [I.ok.glob]; exact I.mod.glob.keeps I.bk) hm (by rw [I.ok.blt]; exact h1.keeps I.bk) ((h2 x hn).trans hv) h) hd
theorem Za9 {x:Str} {v:V} {u:Value} {pos:Pos} (hg:Gl X x) (hm:X.mg x=some u) (r:RelV v u) (hd:(x == ("__debug__" : Str))=false:=by decide):PE X (.Name x pos) (tC v):=
 fun _ _ _ H _ I h=>ZxO I hg hm ⟨v,H,I,r,h⟩ hd
theorem ZnP {x:Str} {v:V} {u:Value} {pos:Pos} (hg:Gl X x) (hm:X.mg x=none) (hv:bootBuiltins x=some u) (r:RelV v u) (hn:x ≠ "__name__":=by decide) (hd:(x == ("__debug__" : Str))=false:=by decide):PE X (.Name x pos) (tC v):=
 fun _ _ _ H _ I h=>Zvx I hg hm hv ⟨v,H,I,r,h⟩ hn hd
variable {a b:Expr} {ta tb:TE} {pos:Pos}
variable {tA tB':TT} {rest:List Expr}
def tAnd (t u:TT):TT:=fun σ H Q=>t σ H fun c H1=>if c=true then u σ H1 Q else Q false H1
def tOr (t u:TT):TT:=fun σ H Q=>t σ H fun c H1=>if c=true then Q true H1 else u σ H1 Q
def tNot (t:TT):TT:=fun σ H Q=>t σ H fun c H1=>Q (!c) H1
theorem Zfw (ha:PT X a tA):PW X (.BoolOp .And [a] pos) tA:=by
 intro wh pins s σ H Q I h
 refine isTrue_and (thn (ha pins s σ H Q I h) fun c s1 e=>?_)
 cases c with
 | true=>exact isTrue_and_nil e
 | false=>exact e
theorem Zj2 (ha:PT X a tA):PW X (.BoolOp .Or [a] pos) tA:=by
 intro wh pins s σ H Q I h
 refine isTrue_or (thn (ha pins s σ H Q I h) fun c s1 e=>?_)
 cases c with
 | false=>exact isTrue_or_nil e
 | true=>exact e
theorem Zgt (ha:PT X a tA) (hb:PW X (.BoolOp .And (b :: rest) pos) tB'):PW X (.BoolOp .And (a :: b :: rest) pos) (tAnd tA tB'):=by
 intro wh pins s σ H Q I h
 refine isTrue_and (thn (ha pins s σ H _ I h) fun c s1 ⟨H1,I1,q1⟩ =>?_)
 cases c with
 | true=>exact hb wh pins s1 σ H1 Q I1 q1
 | false=>exact ⟨H1,I1,q1⟩
theorem Zqy (ha:PT X a tA) (hb:PW X (.BoolOp .Or (b :: rest) pos) tB'):PW X (.BoolOp .Or (a :: b :: rest) pos) (tOr tA tB'):=by
 intro wh pins s σ H Q I h
 refine isTrue_or (thn (ha pins s σ H _ I h) fun c s1 ⟨H1,I1,q1⟩ =>?_)
 cases c with
 | true=>exact ⟨H1,I1,q1⟩
 | false=>exact hb wh pins s1 σ H1 Q I1 q1
theorem ZnY (ha:PT X a tA):PT X (.UnaryOp .Not a pos) (tNot tA):=by
 intro pins s σ H Q I h
 exact isTrue_not (ha pins s σ H (fun c H1=>Q (!c) H1) I h)
def tIf (t:TT) (ta tb:TE):TE:=fun σ H Q=>t σ H fun c H1=>if c=true then ta σ H1 Q else tb σ H1 Q
theorem ZoD {c:Expr} (hc:PT X c tA) (ha:PE X a ta) (hb:PE X b tb):PE X (.IfExp c a b pos) (tIf tA ta tb):=by
 intro pins s σ H Q I h
 refine wpAny_IfExp (thn (hc pins s σ H _ I h) fun d s1 ⟨H1,I1,q1⟩ =>?_)
 cases d with
 | true=>exact ha pins s1 σ H1 Q I1 q1
 | false=>exact hb pins s1 σ H1 Q I1 q1
end
end L2
namespace L2
open PySem PySem.Spec PyProof.Rows
def SqL (K:PySem.W.Frag) (H:Hp) (a:Addr) (xs:List V):Prop:=
 Rd H a (.lst xs)∨
  ∃ (o:Obj) (its:Array Value) (n:Nat),K.lookup a=some o∧o.cls=.type "list"∧o.dict=none∧o.data=.seq its n∧its.size≤sizeLine∧Vals xs its.toList
def SqT (K:PySem.W.Frag) (H:Hp) (a:Addr) (xs:List V):Prop:=
 Rd H a (.tup xs)∨
  ∃ (o:Obj) (its:Array Value) (n:Nat),K.lookup a=some o∧o.cls=.type "tuple"∧o.data=.seq its n∧its.size≤sizeLine∧Vals xs its.toList
def absV:Value→Option V
 | .none=>some .non
 | .bool b=>some (.bl b)
 | .int i _=>some (.int i)
 | .str x _=>some (.str x)
 | .bytes b _=>some (.byt b)
 | .float b _=>some (.flt b)
 | .ref a=>some (.ref a)
 | .type n=>some (.ty n)
 | _=>none
theorem RelV.abs {x:V} {u:Value} (r:RelV x u):absV u=some x:=by
 cases x with
 | non=>cases r; rfl
 | bl _=>cases r; rfl
 | int _=>obtain ⟨t,rfl⟩ :=r; rfl
 | str _=>obtain ⟨t,rfl⟩ :=r; rfl
 | byt _=>obtain ⟨t,rfl⟩ :=r; rfl
 | flt _=>obtain ⟨t,rfl⟩ :=r; rfl
 | ref _=>cases r; rfl
 | ty _=>cases r; rfl
theorem RelV.inj {x y:V} {u:Value} (r:RelV x u) (q:RelV y u):x=y:=Option.some.inj (r.abs.symm.trans q.abs)
theorem Vals.inj:∀ {xs ys:List V} {us:List Value},Vals xs us→Vals ys us→xs=ys
 | _,_,_,.nil,.nil=>rfl
 | _,_,_,.cons r t,.cons r' t'=>by rw [r.inj r',Vals.inj t t']
section
variable {X:Cx} {pins:List (Addr × Obj)} {σ:St} {H:Hp} {s:Shared} {a:Addr} {xs ys:List V}
theorem SqL.of {K:PySem.W.Frag} (h:H a=some (.lst xs)):SqL K H a xs:=.inl (.inl h)
theorem SqT.of {K:PySem.W.Frag} (h:H a=some (.tup xs)):SqT K H a xs:=.inl (.inl h)
theorem Inv.list (I:Inv X pins σ H s) (h:SqL X.K H a xs):∃ its:List Value,Vals xs its∧PlainL s.heap a its.toArray∧xs.length≤sizeLine:=by
 rcases h with h | ⟨o,its,n,hk,hc,hd,hs,hz,r⟩
 ·obtain ⟨z,its,n,r,e⟩ :=h.ok I.hok
  exact ⟨its,r,⟨_,n,e,rfl,rfl,rfl⟩,z⟩
 ·refine ⟨its.toList,r,⟨o,n,I.kIn a o hk,hc,hd,by simpa using hs⟩,?_⟩
  have e:=r.length
  simp only [Array.length_toList] at e
  omega
theorem Inv.tuple (I:Inv X pins σ H s) (h:SqT X.K H a xs):∃ its:List Value,Vals xs its∧IsTup s.heap a its.toArray∧xs.length≤sizeLine:=by
 rcases h with h | ⟨o,its,n,hk,hc,hs,hz,r⟩
 ·obtain ⟨z,its,r,p⟩ :=h.ok I.hok
  exact ⟨its,r,p,z⟩
 ·refine ⟨its.toList,r,⟨o,I.kIn a o hk,hc,n,by simpa using hs⟩,?_⟩
  have e:=r.length
  simp only [Array.length_toList] at e
  omega
theorem Inv.list_inj (I:Inv X pins σ H s) (h:SqL X.K H a xs) (h':SqL X.K H a ys):xs=ys:=by
 obtain ⟨its,r,⟨o,n,e,_,_,d⟩,_⟩ :=I.list h
 obtain ⟨its',r',⟨o',n',e',_,_,d'⟩,_⟩ :=I.list h'
 rw [e] at e'; cases e'
 rw [d] at d'
 injection d' with d1 _
 have:its=its':=by simpa using congrArg Array.toList d1
 subst this
 exact r.inj r'
theorem Inv.tuple_inj (I:Inv X pins σ H s) (h:SqT X.K H a xs) (h':SqT X.K H a ys):xs=ys:=by
 obtain ⟨its,r,⟨o,e,_,n,d⟩,_⟩ :=I.tuple h
 obtain ⟨its',r',⟨o',e',_,n',d'⟩,_⟩ :=I.tuple h'
 rw [e] at e'; cases e'
 rw [d] at d'
 injection d' with d1 _
 have:its=its':=by simpa using congrArg Array.toList d1
 subst this
 exact r.inj r'
end
abbrev Cx.wish (X:Cx) (E:Value→Shared→Prop):Cx:={ X with xe:=E }
abbrev Cx.nox (X:Cx):Cx:=X.wish fun _ _=>False
theorem Cx.Ok.wish {X:Cx} (ok:X.Ok) (E:Value→Shared→Prop):(X.wish E).Ok:=
 ⟨ok.mod,ok.kind,ok.glob,ok.blt,ok.above,ok.inj,ok.has,ok.cab,ok.hd,ok.frames,ok.stk,ok.exf,ok.bs,ok.bsz,ok.noex,ok.exfs,ok.funs,ok.frf⟩
theorem Cx.Ok.unwish {X:Cx} {E:Value→Shared→Prop} (ok:(X.wish E).Ok):X.Ok:=
 ⟨ok.mod,ok.kind,ok.glob,ok.blt,ok.above,ok.inj,ok.has,ok.cab,ok.hd,ok.frames,ok.stk,ok.exf,ok.bs,ok.bsz,ok.noex,ok.exfs,ok.funs,ok.frf⟩
section
variable {X:Cx} {pins:List (Addr × Obj)} {σ:St} {H:Hp} {s:Shared} {E:Value→Shared→Prop}
theorem Inv.wish (I:Inv X pins σ H s) (E:Value→Shared→Prop):Inv (X.wish E) pins σ H s:=⟨I.ok.wish E,I.os,I.bare,I.base,I.loc,I.cell,I.free,I.freeC,I.pin,I.hok,I.len⟩
theorem Inv.unwish (I:Inv (X.wish E) pins σ H s):Inv X pins σ H s:=⟨I.ok.unwish,I.os,I.bare,I.base,I.loc,I.cell,I.free,I.freeC,I.pin,I.hok,I.len⟩
theorem SP.unwish {D:Ends} {f:Flow} {s':Shared} (h:SP (X.wish E) pins D f s'):SP X pins D f s':=by
 cases f with
 | next=>obtain ⟨σ',H',I,q⟩ :=h; exact ⟨σ',H',I.unwish,q⟩
 | brk=>obtain ⟨σ',H',I,q⟩ :=h; exact ⟨σ',H',I.unwish,q⟩
 | cont=>obtain ⟨σ',H',I,q⟩ :=h; exact ⟨σ',H',I.unwish,q⟩
 | ret u=>obtain ⟨v,σ',H',I,r,q⟩ :=h; exact ⟨v,σ',H',I.unwish,r,q⟩
theorem PT.nox {e:Expr} {t:TT} (h:PT X.nox e t):PT X e t:=fun pins s σ H Q I hw=>
 wpAny_mono (h pins s σ H Q (I.wish _) hw) (fun _ _ ⟨H',I',q⟩ =>⟨H',I'.unwish,q⟩) fun _ _ z=>False.elim z
theorem PSs.nox {st:List Stmt} {t:TS} (h:PSs X.nox st t):PSs X st t:=fun pins s σ H D I hw=>
 wpAny_mono (h pins s σ H D (I.wish _) hw) (fun _ _ q=>q.unwish) fun _ _ z=>False.elim z
end
section
variable {X:Cx} {st:Stmt} {rest:List Stmt} {t u:TS} {e:Expr} {te:TE} {pos:Pos}
def ZQf:TS:=fun D σ H=>D.nx σ H
def tSeq (t u:TS):TS:=fun D σ H=>t { D with nx:=u D } σ H
theorem Zaq:PSs X [] ZQf:=fun _ _ σ H _ I h=>wpAny_execs_nil ⟨σ,H,I,h⟩
theorem Zac (h1:PS X st t) (h2:PSs X rest u):PSs X (st :: rest) (tSeq t u):=by
 intro pins s σ H D I h
 refine wpAny_execs_cons (thn (h1 pins s σ H { D with nx:=u D } I h) fun f s1 q=>?_)
 cases f with
 | next=>
  obtain ⟨σ',H',I',q⟩ :=q
  exact h2 pins s1 σ' H' D I' q
 | ret v=>exact q
 | brk=>exact q
 | cont=>exact q
theorem Zad (h1:PS X st t):PSs X [st] t:=by
 intro pins s σ H D I h
 refine wpAny_execs_cons (thn (h1 pins s σ H D I h) fun f s1 q=>?_)
 cases f with
 | next=>exact wpAny_execs_nil q
 | ret v=>exact q
 | brk=>exact q
 | cont=>exact q
theorem Inv.quiet {pins:List (Addr × Obj)} {σ:St} {H:Hp} {s:Shared} (I:Inv X pins σ H s):interactive X.env=false:=by simp [interactive,I.ok.kind]
def ZOz (te:TE):TS:=fun D σ H=>te σ H fun _ H1=>D.nx σ H1
theorem Zcg (he:PE X e te) (hs:swapsWith e none pos.line X.env=pure false:=by rfl):PS X (.Expr e pos) (ZOz te):=by
 intro pins s σ H D I h
 exact wpAny_Expr_any (thn (he pins s σ H _ I h) fun v s1 ⟨x,H1,I1,r1,q1⟩ =>⟨σ,H1,I1,q1⟩) I.quiet hs
def tRet (te:TE):TS:=fun D σ H=>te σ H D.rt
theorem Zam (he:PE X e te):PS X (.Return (some e) pos) (tRet te):=by
 intro pins s σ H D I h
 exact wpAny_Return_some (thn (he pins s σ H _ I h) fun v s1 ⟨x,H1,I1,r1,q1⟩ =>⟨x,σ,H1,I1,r1,q1⟩)
def tIfS (c:TT) (t u:TS):TS:=fun D σ H=>c σ H fun b H1=>if b=true then t D σ H1 else u D σ H1
theorem ZaI {c:Expr} {a b:List Stmt} {tc:TT} (hc:PT X c tc) (ha:PSs X a t) (hb:PSs X b u):PS X (.If c a b pos) (tIfS tc t u):=by
 intro pins s σ H D I h
 refine wpAny_If (thn (hc pins s σ H _ I h) fun d s1 ⟨H1,I1,q1⟩ =>?_)
 cases d with
 | true=>exact ha pins s1 σ H1 D I1 q1
 | false=>exact hb pins s1 σ H1 D I1 q1
end
abbrev TG:=V→St→Hp→(St→Hp→Prop)→Prop
def PG (X:Cx) (target:Expr) (t:TG):Prop:=
 ∀ (pins:List (Addr × Obj)) (s:Shared) (σ:St) (H:Hp) (v:V) (u:Value) (Q:St→Hp→Prop),Inv X pins σ H s→RelV v u→t v σ H Q→
  wpAny (model X.prog X.w) X.A (assign target X.env u) (fun _ s'=>∃ σ' H',Inv X pins σ' H' s'∧Q σ' H') X.xe s
section
variable {X:Cx} {pos:Pos}
def ZCJ (i:Nat):TG:=fun v σ H Q=>Q (σ.set i (some v)) H
theorem ZJN {i:Nat} {x:Str} (hN:X.N.Nodup) (hi:X.N[i]?=some x) (hx:Loc X.env.scope x) (hf:X.fn x=true∨X.env.scope.names.lookup x=some .local:=by first | exact .inl rfl | exact .inr rfl | assumption):PG X (.Name x pos) (ZCJ i):=by
 intro pins s σ H v u Q I r h
 exact wpAny_assign_Name (ZG0 I hN hi hx r (fun s' I'=>⟨_,H,I',h⟩) hf)
def tAsg (te:TE) (g:TG):TS:=fun D σ H=>te σ H fun x H1=>g x σ H1 D.nx
theorem ZPO {i:Nat} {x:Str} {e:Expr} {te:TE} {pos':Pos} (hN:X.N.Nodup) (hi:X.N[i]?=some x) (hx:Loc X.env.scope x) (he:PE X e te) (hs:swapsWith e (some (.Name x pos')) pos.line X.env=pure false:=by rfl) (hf:X.fn x=true∨X.env.scope.names.lookup x=some .local:=by first | exact .inl rfl | exact .inr rfl | assumption) :
  PS X (.Assign [.Name x pos'] e pos) (tAsg te (ZCJ i)):=by
 intro pins s σ H D I h
 refine wpAny_Assign_Name (thn (he pins s σ H _ I h) fun v s1 ⟨y,H1,I1,r1,q1⟩ =>?_) hs
 exact ZG0 I1 hN hi hx r1 (fun s2 I2=>⟨_,H1,I2,q1⟩) hf
end
section
variable {X:Cx} {pos:Pos}
def ZQj (c:TT) (tb:TS):TS:=fun D σ H=>∃ W:Nat→St→Hp→Prop,(∃ m,W m σ H)∧∀ m σ H,W m σ H→
 c σ H fun b H1=>if b=true then ∃ N:St→Hp→Prop,(∀ σ' H',N σ' H'→∃ m',m' < m∧W m' σ' H')∧tb { D with nx:=N,ct:=N,bk:=D.nx } σ H1 else D.nx σ H1
theorem ZGN {c:Expr} {body:List Stmt} {tc:TT} {tb:TS} (hp:PassesOwn (model X.prog X.w) X.A X.env X.xe) (hc:PT X c tc) (hb:PSs X body tb):PS X (.While c body [] pos) (ZQj tc tb):=by
 intro pins s σ H D I h
 obtain ⟨W,⟨m0,w0⟩,turn⟩ :=h
 refine wpAny_While (codeAny_whileLoop (fun n s'=>∃ σ' H',Inv X pins σ' H' s'∧W n σ' H') ?_ m0 ⟨σ,H,I,w0⟩)
 rintro n s1 ⟨σ1,H1,I1,w1⟩
 refine wpAny_passesOwn hp (thn (hc pins s1 σ1 H1 _ I1 (turn n σ1 H1 w1)) fun b s2 ⟨H2,I2,q2⟩ =>?_)
 cases b with
 | true=>
  obtain ⟨N,hN,q2⟩ :=q2
  rw [if_pos rfl]
  refine wpAny_passesOwn hp (thn (hb pins s2 σ1 H2 _ I2 q2) fun f s3 q3=>?_)
  cases f with
  | next=>
   obtain ⟨σ3,H3,I3,n3⟩ :=q3
   obtain ⟨m',hm,w3⟩ :=hN σ3 H3 n3
   exact ⟨m',hm,σ3,H3,I3,w3⟩
  | cont=>
   obtain ⟨σ3,H3,I3,n3⟩ :=q3
   obtain ⟨m',hm,w3⟩ :=hN σ3 H3 n3
   exact ⟨m',hm,σ3,H3,I3,w3⟩
  | brk=>exact q3
  | ret v=>exact q3
 | false=>
  rw [if_neg Bool.false_ne_true]
  exact wpAny_execs_nil ⟨σ1,H2,I2,q2⟩
end
structure It where
 go:Nat→Hp→Prop
 yld:Nat→Hp→V→Hp→Prop
 stop:Nat→Hp→Prop
def FpOk (X:Cx) (pins:List (Addr × Obj)) (H:Hp) (b:Addr):Prop:=
 H b=none∧b ≠ X.env.locals∧b ∉ X.fs∧(b ∈ X.ex∨X.s₀.heap.objs.size≤b)∧(∀ x c,X.env.cells.lookup x=some c→c ≠ b)∧∀ p ∈ X.pn ++ pins,p.1 ≠ b
theorem Inv.fpOk {X:Cx} {pins:List (Addr × Obj)} {σ:St} {H H':Hp} {s:Shared} {b:Addr} (I:Inv X pins σ H s) (hb:s.heap.objs.size≤b) (hn:H' b=none):FpOk X pins H' b:=by
 refine ⟨hn,Nat.ne_of_gt (Nat.lt_of_lt_of_le I.lt hb),I.nofs hb,.inr (Nat.le_trans I.sz hb),fun x c e z=>?_,fun p hp z=>?_⟩
 ·obtain ⟨v,q⟩ :=I.cell x c e
  exact absurd (Nat.lt_of_lt_of_le q.lt (by rw [z]; exact hb)) (Nat.lt_irrefl _)
 ·exact absurd (Nat.lt_of_lt_of_le (Heap.lt_size (I.pin p hp).1) (by rw [z]; exact hb)) (Nat.lt_irrefl _)
structure Turn (P:Program) (w:World) (K:PySem.W.Frag) (tg:Expr) (J:It) (fp:List Addr) (it:Addr) (tn:Nat→Heap→Prop):Prop where
 mem:it ∈ fp
 obj:∀ i h,tn i h→∀ b ∈ fp,∃ o,h.get? b=some o∧∀ v,o.data ≠ .cell v
 keep:∀ i h h',tn i h→(∀ b ∈ fp,∀ o,h.get? b=some o→h'.get? b=some o)→tn i h'
 item:∀ (X:Cx),X.prog=P→X.w=w→X.K=K→X.calm=true→∀ (i:Nat) (pins:List (Addr × Obj)) (s:Shared) (σ:St) (H:Hp) (E:Value→Shared→Prop),Inv X pins σ H s→(∀ b ∈ fp,FpOk X pins H b)→tn i s.heap→J.go i H→
  wpAny (model P w) X.A (pyNext (.ref it)) (fun r s1=>∃ u,r=some u∧
   wpAny (model P w) X.A (letOwnedTupleGo tg (.ref it) u) (fun _ s2=>∃ x H',Inv X pins σ H' s2∧RelV x u∧J.yld i H x H'∧tn (i + 1) s2.heap∧∀ b ∈ fp,H' b=none) E s1) E s
 done:∀ (X:Cx),X.prog=P→X.w=w→X.K=K→X.calm=true→∀ (i:Nat) (pins:List (Addr × Obj)) (s:Shared) (σ:St) (H:Hp) (E:Value→Shared→Prop),Inv X pins σ H s→(∀ b ∈ fp,FpOk X pins H b)→tn i s.heap→J.stop i H→
  wpAny (model P w) X.A (pyNext (.ref it)) (fun r s1=>r=none∧Inv X pins σ H s1) E s
 self:∀ (A:Around) (i:Nat) (s:Shared) (Q:Value→Shared→Prop) (E:Value→Shared→Prop),tn i s.heap→Q (.ref it) s→wpAny (model P w) A (pyIter (.ref it)) Q E s
abbrev TI:=St→Hp→(It→Hp→Prop)→Prop
def PIE (X:Cx) (pins:List (Addr × Obj)) (σ:St) (tg:Expr) (R:It→Hp→Prop) (itv:Value) (s2:Shared):Prop:=
 ∃ (it:Addr) (fp:List Addr) (tn:Nat→Heap→Prop) (J:It) (H':Hp),itv=.ref it∧Inv X pins σ H' s2∧Turn X.prog X.w X.K tg J fp it tn∧tn 0 s2.heap∧(∀ b ∈ fp,FpOk X pins H' b)∧R J H'
def PI (X:Cx) (tg iter:Expr) (wi:TI):Prop:=
 ∀ (pins:List (Addr × Obj)) (s:Shared) (σ:St) (H:Hp) (R:It→Hp→Prop),Inv X pins σ H s→wi σ H R→
  wpAny (model X.prog X.w) X.A (eval iter X.env) (fun v s1=>wpAny (model X.prog X.w) X.A (pyIter v) (PIE X pins σ tg R) X.xe s1) X.xe s
theorem ZHk {M:Model} {A:Around} {E:Value→Shared→Prop} {s:Shared} {tg:Expr} {it:Addr} {u:Value} {o:Obj} {n:String} {vs:Array Value} {Q:Unit→Shared→Prop} (ho:s.heap.get? it=some o) (hc:o.cls=.type n) (hd:o.data=.fields vs)
  (hn:["enumerate","zip","dict_itemiterator","dict_reverseitemiterator","odict_iterator","itertools.zip_longest","itertools.pairwise"].contains n=false) (hQ:Q () s):wpAny M A (letOwnedTupleGo tg (.ref it) u) Q E s:=by
 unfold letOwnedTupleGo
 cases tg <;> first
  | exact wpAny_pure hQ
  | (cases u <;> first
    | exact wpAny_pure hQ
    | (refine wpAny_bind (wpAny_load ho ?_)
       rw [hc,hd]
       show wpAny M A (if (["enumerate","zip","dict_itemiterator","dict_reverseitemiterator","odict_iterator","itertools.zip_longest","itertools.pairwise"].contains n && vs[0]? == some (rawInt _))=true then _ else _) Q E s
       rw [if_neg (by intro h; rw [hn,Bool.false_and] at h; cases h)]
       exact wpAny_pure hQ))
def Itl (K:PySem.W.Frag) (a:Addr):It:=
 ⟨fun i H=>∃ xs x,SqL K H a xs∧xs[i]?=some x,fun i H x H'=>H'=H∧∀ xs,SqL K H a xs→xs[i]?=some x,fun i H=>∃ xs,SqL K H a xs∧xs.length≤i⟩
def Itt (K:PySem.W.Frag) (a:Addr):It:=
 ⟨fun i H=>∃ xs x,SqT K H a xs∧xs[i]?=some x,fun i H x H'=>H'=H∧∀ xs,SqT K H a xs→xs[i]?=some x,fun i H=>∃ xs,SqT K H a xs∧xs.length≤i⟩
def Itr (lo:Int) (n:Nat):It:=⟨fun i _=>i < n,fun i H x H'=>H'=H∧x=.int (lo + i),fun i _=>n≤i⟩
theorem ZKi {P:Program} {w:World} {K:PySem.W.Frag} {tg:Expr} (a it:Addr):Turn P w K tg (Itl K a) [it] it (fun i h=>h.IsListIter it a i) where
 mem:=by simp
 obj:=fun i h st b hb=>by
  have e:b=it:=by simpa using hb
  subst e
  obtain ⟨o,e,c,d⟩ :=st
  exact ⟨o,e,fun v z=>by rw [d] at z; cases z⟩
 keep:=fun i h h' st k=>st.at fun o e=>k it (by simp) o e
 item:=by
  intro X hP hw hK hc i pins s σ H E I hf st hg
  subst hP hw hK
  obtain ⟨xs,x,hq,hx⟩ :=hg
  obtain ⟨its,rv,p,hz⟩ :=I.list hq
  obtain ⟨u,hu,ru⟩ :=rv.get hx
  obtain ⟨f0,f1,f2,f3,f4,f5⟩ :=hf it (by simp)
  refine wpAny_pyNext_list_item st p.isList (x:=u) (by simpa using hu) fun h' st' sb=>?_
  have I1:Inv X pins σ H { s with heap:=h' }:=I.turned (t':=s.toks) (fun b o hb e=>(sb.2 b hb).trans e) f0 f1 f3 f4 f5
  obtain ⟨o,e,c,d⟩ :=id st'
  exact ⟨u,rfl,ZHk (s:={ s with heap:=h' }) e c d (by decide) ⟨x,H,I1,ru,⟨rfl,fun ys hy=>by rw [I.list_inj hy hq]; exact hx⟩,st',fun b hb=>(hf b hb).1⟩⟩
 done:=by
  intro X hP hw hK hc i pins s σ H E I hf st hg
  subst hP hw hK
  obtain ⟨xs,hq,hx⟩ :=hg
  obtain ⟨its,rv,p,hz⟩ :=I.list hq
  obtain ⟨f0,f1,f2,f3,f4,f5⟩ :=hf it (by simp)
  have hl:=rv.length
  exact wpAny_pyNext_list_end (I.ok.hd hc) st p.isList (by simp; omega) fun h' eb=>⟨rfl,I.turned (t':=s.toks) (fun b o hb e=>eb b o hb e) f0 f1 f3 f4 f5⟩
 self:=fun _ _ _ _ _ st h=>wpAny_pyIter_listiter st h
theorem ZHG {P:Program} {w:World} {K:PySem.W.Frag} {tg:Expr} (a it:Addr):Turn P w K tg (Itt K a) [it] it (fun i h=>h.IsTupleIter it a i) where
 mem:=by simp
 obj:=fun i h st b hb=>by
  have e:b=it:=by simpa using hb
  subst e
  obtain ⟨o,e,c,d⟩ :=st
  exact ⟨o,e,fun v z=>by rw [d] at z; cases z⟩
 keep:=fun i h h' st k=>st.at fun o e=>k it (by simp) o e
 item:=by
  intro X hP hw hK hc i pins s σ H E I hf st hg
  subst hP hw hK
  obtain ⟨xs,x,hq,hx⟩ :=hg
  obtain ⟨its,rv,p,hz⟩ :=I.tuple hq
  obtain ⟨u,hu,ru⟩ :=rv.get hx
  obtain ⟨f0,f1,f2,f3,f4,f5⟩ :=hf it (by simp)
  refine wpAny_pyNext_tuple_item st (show s.heap.IsTuple a its.toArray from p) (x:=u) (by simpa using hu) fun h' st' sb=>?_
  have I1:Inv X pins σ H { s with heap:=h' }:=I.turned (t':=s.toks) (fun b o hb e=>(sb.2 b hb).trans e) f0 f1 f3 f4 f5
  obtain ⟨o,e,c,d⟩ :=id st'
  exact ⟨u,rfl,ZHk (s:={ s with heap:=h' }) e c d (by decide) ⟨x,H,I1,ru,⟨rfl,fun ys hy=>by rw [I.tuple_inj hy hq]; exact hx⟩,st',fun b hb=>(hf b hb).1⟩⟩
 done:=by
  intro X hP hw hK hc i pins s σ H E I hf st hg
  subst hP hw hK
  obtain ⟨xs,hq,hx⟩ :=hg
  obtain ⟨its,rv,p,hz⟩ :=I.tuple hq
  obtain ⟨f0,f1,f2,f3,f4,f5⟩ :=hf it (by simp)
  have hl:=rv.length
  exact wpAny_pyNext_tuple_end (I.ok.hd hc) st (show s.heap.IsTuple a its.toArray from p) (by simp; omega) fun h' eb=>⟨rfl,I.turned (t':=s.toks) (fun b o hb e=>eb b o hb e) f0 f1 f3 f4 f5⟩
 self:=fun _ _ _ _ _ st h=>wpAny_pyIter_tupleiter st h
theorem ZHF {P:Program} {w:World} {K:PySem.W.Frag} {tg:Expr} (it:Addr) (lo:Int) (n:Nat):Turn P w K tg (Itr lo n) [it] it (fun i h=>IsRangeIter h it (lo + (i:Nat) * 1) ((n:Int) - (i:Nat)) 1) where
 mem:=by simp
 obj:=fun i h st b hb=>by
  have e:b=it:=by simpa using hb
  subst e
  exact ⟨_,st,fun v z=>by
   have z':Data.fields _=Data.cell v:=z
   cases z'⟩
 keep:=fun i h h' st k=>k it (by simp) _ st
 item:=by
  intro X hP hw hK hc i pins s σ H E I hf st hg
  subst hP hw hK
  obtain ⟨f0,f1,f2,f3,f4,f5⟩ :=hf it (by simp)
  have W:=Walks.range (prog:=X.prog) (w:=X.w) (I.ok.hd hc) it lo 1 n
  refine W.item i s _ _ hg st fun v h' tk hv st' kk=>?_
  obtain ⟨t,rfl⟩ :=hv
  have I1:Inv X pins σ H { s with heap:=h',toks:=tk }:=I.turned (fun b o hb e=>kk b o (by simpa using hb) e) f0 f1 f3 f4 f5
  refine ⟨_,rfl,ZHk (s:={ s with heap:=h',toks:=tk }) (n:="range_iterator") st' rfl rfl (by decide) ⟨.int (lo + i),H,I1,⟨t,?_⟩,⟨rfl,rfl⟩,st',fun b hb=>(hf b hb).1⟩⟩
  rw [Int.mul_one]
 done:=by
  intro X hP hw hK hc i pins s σ H E I hf st hg
  subst hP hw hK
  obtain ⟨f0,f1,f2,f3,f4,f5⟩ :=hf it (by simp)
  exact wpAny_pyNext_range_end (I.ok.hd hc) st (by have:n≤i:=hg; omega) fun h' eb=>⟨rfl,I.turned (t':=s.toks) (fun b o hb e=>eb b o hb e) f0 f1 f3 f4 f5⟩
 self:=fun _ _ _ _ _ st h=>wpAny_pyIter_rangeiter st h
end L2
namespace L2
open PySem PySem.Spec PyProof.Rows
section
variable {X:Cx} {tg:Expr}
theorem ZLJ {pins:List (Addr × Obj)} {σ:St} {H:Hp} {s:Shared} {R:It→Hp→Prop} {E:Value→Shared→Prop} {lo hi:Int} {t u v:Tok} {tk:Nat} (I:Inv X pins σ H s) (h1 : -(2 ^ 62)≤lo) (h2:lo < 2 ^ 62) (h3 : -(2 ^ 62)≤hi) (h4:hi < 2 ^ 62)
  (q:R (Itr lo (hi - lo).toNat) H):wpAny (model X.prog X.w) X.A (pyIter (.ref s.heap.objs.size)) (PIE X pins σ tg R) E { s with heap:=s.heap.push { cls:=.type "range",data:=.fields #[.int lo t,.int hi u,.int 1 v] },toks:=tk }:=by
 refine wpAny_pyIter_range (IsRange.new ..) (small_one h1 h2 h3 h4) ?_
 have I1:Inv X pins σ H { s with heap:=s.heap.push { cls:=.type "range",data:=.fields #[.int lo t,.int hi u,.int 1 v] },toks:=tk }:=I.kept fun b o e=>Heap.get?_push_of_some _ e
 refine ⟨(s.heap.push { cls:=.type "range",data:=.fields #[.int lo t,.int hi u,.int 1 v] }).objs.size,[(s.heap.push { cls:=.type "range",data:=.fields #[.int lo t,.int hi u,.int 1 v] }).objs.size],_,_,H,rfl,
  I1.kept (t':=tk) fun b o e=>Heap.get?_push_of_some _ e,ZHF _ lo (hi - lo).toNat,?_,fun b hb=>?_,q⟩
 ·have e1:lo + ((0:Nat):Int) * 1=lo:=by simp
  have e2:(((hi - lo).toNat:Nat):Int) - ((0:Nat):Int)=Builtin.Range.rangeSize lo hi 1:=by rw [rangeSize_one]; split <;> omega
  show IsRangeIter _ _ (lo + ((0:Nat):Int) * 1) ((((hi - lo).toNat:Nat):Int) - ((0:Nat):Int)) 1
  rw [e1,e2]
  exact Heap.get?_push_size _ rfl
 ·have e:b=(s.heap.push { cls:=.type "range",data:=.fields #[.int lo t,.int hi u,.int 1 v] }).objs.size:=by simpa using hb
  subst e
  exact I1.fpOk (Nat.le_refl _) (I1.hok.fresh (Nat.le_refl _))
def ZK1 (ta:TA):TI:=fun σ H R=>ta σ H fun vs H1=>∃ j:Int,vs=[.int j]∧-(2 ^ 62)≤j∧j < 2 ^ 62∧R (Itr 0 j.toNat) H1
theorem ZdP {a:Expr} {ta:TA} {p pos:Pos} (hg:Gl X "range") (hm:X.mg "range" = none) (ha:PA X [a] ta) (hs:starEach [a] X.env=[(false,eval a X.env)]:=by rfl):PI X tg (.Call (.Name "range" p) [a] [] pos) (ZK1 ta):=by
 intro pins s σ H R I h
 refine Call_ (Zvx I hg hm boot_range (PyProof.Rows.callWith_type1 (thn (ha pos pins s σ H _ I h) fun us s1 ⟨vs,H1,I1,r1,q1⟩ =>?_) hs rfl))
 obtain ⟨j,e,q1,q2,q⟩ :=q1
 subst e
 cases r1 with
 | cons r rr=>
  cases rr
  obtain ⟨t,rfl⟩ :=r
  exact call_range_1 (ZLJ I1 (by omega) (by omega) q1 q2 (by simpa using q))
def tFor (wi:TI) (g:TG) (tb:TS):TS:=fun D σ H=>wi σ H fun J H1=>∃ W:Nat→Nat→St→Hp→Prop,(∃ m,W 0 m σ H1)∧∀ i m σ H,W i m σ H→
 (J.stop i H∧D.nx σ H)∨(J.go i H∧∃ N:St→Hp→Prop,(∀ σ' H',N σ' H'→∃ m',m' < m∧W (i + 1) m' σ' H')∧∀ x H',J.yld i H x H'→g x σ H' fun σ2 H2=>tb { D with nx:=N,ct:=N,bk:=D.nx } σ2 H2)
def ZDH (fp:List Addr) (h:Heap):List (Addr × Obj):=fp.filterMap fun b=>(h.get? b).map fun o=>(b,o)
theorem ZjO {fp:List Addr} {h:Heap} {b:Addr} {o:Obj} (hb:b ∈ fp) (e:h.get? b=some o):(b,o) ∈ ZDH fp h:=List.mem_filterMap.mpr ⟨b,hb,by rw [e]; rfl⟩
theorem ZJt {fp:List Addr} {h:Heap} {p:Addr × Obj} (hp:p ∈ ZDH fp h):p.1 ∈ fp∧h.get? p.1=some p.2:=by
 obtain ⟨b,hb,e⟩ :=List.mem_filterMap.mp hp
 cases q:h.get? b with
 | none=>rw [q] at e; cases e
 | some o=>
  rw [q] at e
  have e':(b,o)=p:=Option.some.inj e
  subst e'
  exact ⟨hb,q⟩
theorem Inv.pinned {pins:List (Addr × Obj)} {σ:St} {H:Hp} {s:Shared} {fp:List Addr} (I:Inv X pins σ H s) (hf:∀ b ∈ fp,FpOk X pins H b) (ho:∀ b ∈ fp,∃ o,s.heap.get? b=some o∧∀ v,o.data ≠ .cell v):Inv X (pins ++ ZDH fp s.heap) σ H s:=
 I.pins_of fun p hp=>(List.mem_append.mp hp).elim (fun z=>I.pin p (List.mem_append_right _ z)) fun z=>by
  obtain ⟨hb,e⟩ :=ZJt z
  obtain ⟨f0,f1,f2,_⟩ :=hf p.1 hb
  obtain ⟨o,e',d⟩ :=ho p.1 hb
  rw [e] at e'; cases e'
  exact ⟨e,f0,f1,f2,d⟩
theorem Inv.unpinned {pins pl:List (Addr × Obj)} {σ:St} {H:Hp} {s:Shared} (I:Inv X (pins ++ pl) σ H s):Inv X pins σ H s:=I.pins_of fun p hp=>I.pin p (List.mem_append_right _ (List.mem_append_left _ hp))
theorem Zc4 {iter:Expr} {body:List Stmt} {wi:TI} {g:TG} {tb:TS} {pos:Pos} (hp:PassesOwn (model X.prog X.w) X.A X.env X.xe) (hc:X.calm=true) (hi:PI X tg iter wi) (hg:PG X tg g) (hb:PSs X body tb)
  (hs:∀ x,foldedSetIterable iter X.env x=pure x:=by intro _; rfl):PS X (.For tg iter body [] pos) (tFor wi g tb):=by
 intro pins s σ H D I h
 refine wpAny_For (thn (hi pins s σ H _ I h) fun v s1 h1=>thn h1 fun itv s2 h2=>?_) hs
 obtain ⟨it,fp,tn,J,H2,e,I2,T,st2,f2,W,⟨m0,w0⟩,turn⟩ :=h2
 subst e
 have stat:∀ {H':Hp},(∀ b ∈ fp,H' b=none)→∀ b ∈ fp,FpOk X pins H' b:=fun hn b hb=>⟨hn b hb,(f2 b hb).2⟩
 refine codeAny_forLoop_any (fun n s'=>∃ i σ' H',Inv X pins σ' H' s'∧tn i s'.heap∧(∀ b ∈ fp,H' b=none)∧W i n σ' H') ?_ m0 ⟨0,σ,H2,I2,st2,fun b hb=>(f2 b hb).1,w0⟩
 rintro n s3 ⟨i,σ3,H3,I3,st3,fr3,w3⟩
 rcases turn i n σ3 H3 w3 with ⟨stop,qn⟩ | ⟨go,N,hN,step⟩
 ·refine wpAny_passesOwn hp (thn (T.done X rfl rfl rfl hc i pins s3 σ3 H3 X.xe I3 (stat fr3) st3 stop) fun r s4 ⟨hr,I4⟩ =>?_)
  subst hr
  exact wpAny_execs_nil ⟨σ3,H3,I4,qn⟩
 ·refine wpAny_passesOwn hp (thn (T.item X rfl rfl rfl hc i pins s3 σ3 H3 X.xe I3 (stat fr3) st3 go) fun r s4 ⟨u,hr,h4⟩ =>?_)
  subst hr
  refine wpAny_passesOwn hp (thn h4 fun _ s5 ⟨x,H5,I5,r5,y5,st5,fr5⟩ =>?_)
  have I5':=I5.pinned (stat fr5) (T.obj _ _ st5)
  refine wpAny_passesOwn hp (thn (hg _ s5 σ3 H5 x u _ I5' r5 (step x H5 y5)) fun _ s6 ⟨σ6,H6,I6,q6⟩ =>?_)
  refine wpAny_passesOwn hp (thn (hb _ s6 σ6 H6 _ I6 q6) fun f s7 q7=>?_)
  have again:∀ {σ7:St} {H7:Hp},Inv X (pins ++ ZDH fp s5.heap) σ7 H7 s7→N σ7 H7→∃ m,m < n∧∃ i σ' H',Inv X pins σ' H' s7∧tn i s7.heap∧(∀ b ∈ fp,H' b=none)∧W i m σ' H':=fun {σ7 H7} I7 n7=>by
   obtain ⟨m',hm,w7⟩ :=hN σ7 H7 n7
   refine ⟨m',hm,i + 1,σ7,H7,I7.unpinned,T.keep _ _ _ st5 fun b hb o e=>(I7.pin (b,o) (List.mem_append_right _ (List.mem_append_right _ (ZjO hb e)))).1,fun b hb=>?_,w7⟩
   obtain ⟨o,e,d⟩ :=T.obj _ _ st5 b hb
   exact (I7.pin (b,o) (List.mem_append_right _ (List.mem_append_right _ (ZjO hb e)))).2.1
  cases f with
  | next=>obtain ⟨σ7,H7,I7,n7⟩ :=q7; exact again I7 n7
  | cont=>obtain ⟨σ7,H7,I7,n7⟩ :=q7; exact again I7 n7
  | brk=>obtain ⟨σ7,H7,I7,q7⟩ :=q7; exact ⟨σ7,H7,I7.unpinned,q7⟩
  | ret v=>obtain ⟨x7,σ7,H7,I7,r7,q7⟩ :=q7; exact ⟨x7,σ7,H7,I7.unpinned,r7,q7⟩
end
theorem ZKT {K:PySem.W.Frag} {a:Addr} {xs:List V} {g:TG} {tb:TS} {D:Ends} {σ:St} {H:Hp} (Pv:Nat→St→Hp→Prop) (h0:Pv 0 σ H) (hl:∀ i σ H,i≤xs.length→Pv i σ H→SqL K H a xs)
  (hs:∀ i x σ H,xs[i]?=some x→Pv i σ H→g x σ H fun σ2 H2=>tb { D with nx:=Pv (i + 1),ct:=Pv (i + 1),bk:=D.nx } σ2 H2) (hd:∀ σ H,Pv xs.length σ H→D.nx σ H) :
  ∃ W:Nat→Nat→St→Hp→Prop,(∃ m,W 0 m σ H)∧∀ i m σ H,W i m σ H→
   ((Itl K a).stop i H∧D.nx σ H)∨((Itl K a).go i H∧∃ N:St→Hp→Prop,(∀ σ' H',N σ' H'→∃ m',m' < m∧W (i + 1) m' σ' H')∧∀ x H',(Itl K a).yld i H x H'→g x σ H' fun σ2 H2=>tb { D with nx:=N,ct:=N,bk:=D.nx } σ2 H2):=by
 refine ⟨fun i m σ H=>m=xs.length - i∧i≤xs.length∧Pv i σ H,⟨xs.length,by simp,Nat.zero_le _,h0⟩,?_⟩
 rintro i m σ H ⟨rfl,hi,p⟩
 have q:=hl i σ H hi p
 by_cases hlt:i < xs.length
 ·refine .inr ⟨⟨xs,xs[i],q,by simp [hlt]⟩,Pv (i + 1),fun σ' H' p'=>⟨xs.length - (i + 1),by omega,rfl,hlt,p'⟩,fun x H' y=>?_⟩
  obtain ⟨e,y⟩ :=y
  subst e
  exact hs i x σ _ (y xs q) p
 ·have e:i=xs.length:=by omega
  subst e
  exact .inl ⟨⟨xs,q,Nat.le_refl _⟩,hd σ H p⟩
theorem ZNp {K:PySem.W.Frag} {a:Addr} {xs:List V} {g:TG} {tb:TS} {D:Ends} {σ:St} {H:Hp} (Pv:Nat→St→Hp→Prop) (h0:Pv 0 σ H) (hl:∀ i σ H,i≤xs.length→Pv i σ H→SqT K H a xs)
  (hs:∀ i x σ H,xs[i]?=some x→Pv i σ H→g x σ H fun σ2 H2=>tb { D with nx:=Pv (i + 1),ct:=Pv (i + 1),bk:=D.nx } σ2 H2) (hd:∀ σ H,Pv xs.length σ H→D.nx σ H) :
  ∃ W:Nat→Nat→St→Hp→Prop,(∃ m,W 0 m σ H)∧∀ i m σ H,W i m σ H→
   ((Itt K a).stop i H∧D.nx σ H)∨((Itt K a).go i H∧∃ N:St→Hp→Prop,(∀ σ' H',N σ' H'→∃ m',m' < m∧W (i + 1) m' σ' H')∧∀ x H',(Itt K a).yld i H x H'→g x σ H' fun σ2 H2=>tb { D with nx:=N,ct:=N,bk:=D.nx } σ2 H2):=by
 refine ⟨fun i m σ H=>m=xs.length - i∧i≤xs.length∧Pv i σ H,⟨xs.length,by simp,Nat.zero_le _,h0⟩,?_⟩
 rintro i m σ H ⟨rfl,hi,p⟩
 have q:=hl i σ H hi p
 by_cases hlt:i < xs.length
 ·refine .inr ⟨⟨xs,xs[i],q,by simp [hlt]⟩,Pv (i + 1),fun σ' H' p'=>⟨xs.length - (i + 1),by omega,rfl,hlt,p'⟩,fun x H' y=>?_⟩
  obtain ⟨e,y⟩ :=y
  subst e
  exact hs i x σ _ (y xs q) p
 ·have e:i=xs.length:=by omega
  subst e
  exact .inl ⟨⟨xs,q,Nat.le_refl _⟩,hd σ H p⟩
theorem ZCI {lo:Int} {n:Nat} {g:TG} {tb:TS} {D:Ends} {σ:St} {H:Hp} (Pv:Nat→St→Hp→Prop) (h0:Pv 0 σ H)
  (hs:∀ i σ H,i < n→Pv i σ H→g (.int (lo + i)) σ H fun σ2 H2=>tb { D with nx:=Pv (i + 1),ct:=Pv (i + 1),bk:=D.nx } σ2 H2) (hd:∀ σ H,Pv n σ H→D.nx σ H) :
  ∃ W:Nat→Nat→St→Hp→Prop,(∃ m,W 0 m σ H)∧∀ i m σ H,W i m σ H→
   ((Itr lo n).stop i H∧D.nx σ H)∨((Itr lo n).go i H∧∃ N:St→Hp→Prop,(∀ σ' H',N σ' H'→∃ m',m' < m∧W (i + 1) m' σ' H')∧∀ x H',(Itr lo n).yld i H x H'→g x σ H' fun σ2 H2=>tb { D with nx:=N,ct:=N,bk:=D.nx } σ2 H2):=by
 refine ⟨fun i m σ H=>m=n - i∧i≤n∧Pv i σ H,⟨n,by simp,Nat.zero_le _,h0⟩,?_⟩
 rintro i m σ H ⟨rfl,hi,p⟩
 by_cases hlt:i < n
 ·refine .inr ⟨hlt,Pv (i + 1),fun σ' H' p'=>⟨n - (i + 1),by omega,rfl,hlt,p'⟩,fun x H' y=>?_⟩
  obtain ⟨e,y⟩ :=y
  subst e y
  exact hs i σ _ hlt p
 ·have e:i=n:=by omega
  subst e
  exact .inl ⟨Nat.le_refl _,hd σ H p⟩
end L2
namespace L2
open PySem PySem.Spec PyProof.Rows
abbrev R2:=V→V→Hp→VK→Prop
def OpR (X:Cx) (f:Value→Value→Sem Value) (r:R2):Prop:=
 ∀ (pins:List (Addr × Obj)) (s:Shared) (σ:St) (H:Hp) (x y:V) (v u:Value) (Q:VK),Inv X pins σ H s→RelV x v→RelV y u→r x y H Q→
  wpAny (model X.prog X.w) X.A (f v u) (EP X pins σ Q) X.xe s
def UnR (X:Cx) (f:Value→Sem Value) (r:V→Hp→VK→Prop):Prop:=
 ∀ (pins:List (Addr × Obj)) (s:Shared) (σ:St) (H:Hp) (x:V) (v:Value) (Q:VK),Inv X pins σ H s→RelV x v→r x H Q→
  wpAny (model X.prog X.w) X.A (f v) (EP X pins σ Q) X.xe s
def ZlT (X:Cx) (f:Value) (r:List V→Hp→VK→Prop):Prop:=
 ∀ (pins:List (Addr × Obj)) (s:Shared) (σ:St) (H:Hp) (xs:List V) (us:List Value) (Q:VK),Inv X pins σ H s→Vals xs us→r xs H Q→
  wpAny (model X.prog X.w) X.A (call f us) (EP X pins σ Q) X.xe s
def TruR (X:Cx) (r:V→Hp→(Bool→Hp→Prop)→Prop):Prop:=
 ∀ (pins:List (Addr × Obj)) (s:Shared) (σ:St) (H:Hp) (x:V) (v:Value) (Q:Bool→Hp→Prop),Inv X pins σ H s→RelV x v→r x H Q→
  wpAny (model X.prog X.w) X.A (truthy v) (TP X pins σ Q) X.xe s
def tOp (r:R2) (ta tb:TE):TE:=fun σ H Q=>ta σ H fun x H1=>tb σ H1 fun y H2=>r x y H2 Q
def tUn (r:V→Hp→VK→Prop) (ta:TE):TE:=fun σ H Q=>ta σ H fun x H1=>r x H1 Q
def rI (C:Int→Int→Prop) (g:Int→Int→V):R2:=fun x y H Q=>∃ i j,x=.int i∧y=.int j∧C i j∧Q (g i j) H
def rI0 (g:Int→Int→V):R2:=fun x y H Q=>∃ i j,x=.int i∧y=.int j∧Q (g i j) H
def rU (g:Int→V):V→Hp→VK→Prop:=fun x H Q=>∃ i,x=.int i∧Q (g i) H
section
variable {X:Cx} {a b c:Expr} {ta tb tc:TE} {pos:Pos}
theorem binT (ha:PE X a ta) (hb:PE X b tb) {pins:List (Addr × Obj)} {s:Shared} {σ:St} {H:Hp} {R:V→V→Hp→Prop} (I:Inv X pins σ H s)
  (h:ta σ H fun x H1=>tb σ H1 fun y H2=>R x y H2) {Q:Value→Shared→Prop} {f:Value→Value→Sem Value}
  (hf:∀ v u s2 x y H2,Inv X pins σ H2 s2→RelV x v→RelV y u→R x y H2→wpAny (model X.prog X.w) X.A (f v u) Q X.xe s2) :
  wpAny (model X.prog X.w) X.A (eval a X.env) (fun v s₁=>wpAny (model X.prog X.w) X.A (eval b X.env) (fun u s₂=>wpAny (model X.prog X.w) X.A (f v u) Q X.xe s₂) X.xe s₁) X.xe s:=by
 refine thn (ha pins s σ H _ I h) fun v s1 ⟨x,H1,I1,r1,q1⟩ =>?_
 refine thn (hb pins s1 σ H1 _ I1 q1) fun u s2 ⟨y,H2,I2,r2,q2⟩ =>?_
 exact hf v u s2 x y H2 I2 r1 r2 q2
theorem Zau {op:Operator} {r:R2} (ho:OpR X (binaryOp op) r) (ha:PE X a ta) (hb:PE X b tb):PE X (.BinOp a op b pos) (tOp r ta tb):=by
 intro pins s σ H Q I h
 exact wpAny_BinOp (binT ha hb I h fun v u s2 x y H2 I2 rx ry q=>ho pins s2 σ H2 x y v u Q I2 rx ry q)
theorem ZJL {op:UnaryOp} {r:V→Hp→VK→Prop} (ho:UnR X (unaryOp op) r) (ha:PE X a ta):PE X (.UnaryOp op a pos) (tUn r ta):=by
 intro pins s σ H Q I h
 exact UnaryOp_ (thn (ha pins s σ H _ I h) fun v s1 ⟨x,H1,I1,r1,q1⟩ =>ho pins s1 σ H1 x v Q I1 r1 q1)
theorem opI {f:Value→Value→Sem Value} {C:Int→Int→Prop} {g:Int→Int→Int}
  (rule:∀ (i j:Int) (t u:Tok) (s:Shared) (Q:Value→Shared→Prop) (E:Value→Shared→Prop),C i j→Q (.int (g i j) s.toks) { s with toks:=s.toks + 1 }→wpAny (model X.prog X.w) X.A (f (.int i t) (.int j u)) Q E s) :
  OpR X f (rI C fun i j=>.int (g i j)):=by
 intro pins s σ H x y v u Q I rx ry h
 obtain ⟨i,j,rfl,rfl,hc,q⟩ :=h
 obtain ⟨t,rfl⟩ :=rx
 obtain ⟨t',rfl⟩ :=ry
 exact rule i j t t' s _ _ hc ⟨.int (g i j),H,I.tok _,⟨_,rfl⟩,q⟩
theorem opI0 {f:Value→Value→Sem Value} {g:Int→Int→Int}
  (rule:∀ (i j:Int) (t u:Tok) (s:Shared) (Q:Value→Shared→Prop) (E:Value→Shared→Prop),Q (.int (g i j) s.toks) { s with toks:=s.toks + 1 }→wpAny (model X.prog X.w) X.A (f (.int i t) (.int j u)) Q E s) :
  OpR X f (rI0 fun i j=>.int (g i j)):=by
 intro pins s σ H x y v u Q I rx ry h
 obtain ⟨i,j,rfl,rfl,q⟩ :=h
 obtain ⟨t,rfl⟩ :=rx
 obtain ⟨t',rfl⟩ :=ry
 exact rule i j t t' s _ _ ⟨.int (g i j),H,I.tok _,⟨_,rfl⟩,q⟩
theorem opB0 {f:Value→Value→Sem Value} {g:Int→Int→Bool}
  (rule:∀ (i j:Int) (t u:Tok) (s:Shared) (Q:Value→Shared→Prop) (E:Value→Shared→Prop),Q (.bool (g i j)) s→wpAny (model X.prog X.w) X.A (f (.int i t) (.int j u)) Q E s) :
  OpR X f (rI0 fun i j=>.bl (g i j)):=by
 intro pins s σ H x y v u Q I rx ry h
 obtain ⟨i,j,rfl,rfl,q⟩ :=h
 obtain ⟨t,rfl⟩ :=rx
 obtain ⟨t',rfl⟩ :=ry
 exact rule i j t t' s _ _ ⟨.bl (g i j),H,I,rfl,q⟩
def CPow (i j:Int):Prop:=0≤j∧j≤1000000∧i.natAbs < 2 ^ 64
def CMul (i j:Int):Prop:=(-(2 ^ 64) < i∧i < 2 ^ 64)∨(-(2 ^ 64) < j∧j < 2 ^ 64)
theorem CMul.ok {i j:Int} (h:CMul i j):IntMulOk i j:=by
 rcases h with ⟨h1,h2⟩ | ⟨h1,h2⟩
 ·exact .of_left (intBits_le_64 h1 h2)
 ·exact .of_right (intBits_le_64 h1 h2)
theorem ZHH (k:Nat):(0:Int)≤2 ^ k:=by
 rw [two_pow_cast]
 exact Int.natCast_nonneg _
theorem ZPC:OpR X (binaryOp .Add) (rI0 fun i j=>.int (i + j)):=opI0 fun _ _ _ _ _ _ _ q=>add_int q
theorem Zhw:OpR X (binaryOp .Sub) (rI0 fun i j=>.int (i - j)):=opI0 fun _ _ _ _ _ _ _ q=>sub_int q
theorem ZPG:OpR X (binaryOp .Mult) (rI CMul fun i j=>.int (i * j)):=opI fun _ _ _ _ _ _ _ hc q=>mul_int q hc.ok
theorem Zcc:OpR X (binaryOp .Mod) (rI (fun _ j=>0 < j) fun i j=>.int (i % j)):=opI fun i j _ _ _ _ _ hc q=>by
 have h1:(0:Int) < j:=hc
 exact mod_int' (by omega) (by rw [Int.fmod_eq_emod_of_nonneg i (by omega)]; exact q)
theorem Zc2:OpR X (binaryOp .LShift) (rI CPow fun i j=>.int (i * 2 ^ j.toNat)):=opI fun _ _ _ _ _ _ _ hc q=>lshift_int_small hc.1 hc.2.1 hc.2.2 q
theorem ZPJ:OpR X (binaryOp .RShift) (rI (fun _ j=>0≤j) fun i j=>.int (i / 2 ^ j.toNat)):=opI fun i j _ _ _ _ _ hc q=>
 rshift_int hc (by rw [Int.fdiv_eq_ediv_of_nonneg i (ZHH _)]; exact q)
theorem ZzK:OpR X (binaryOp .BitAnd) (rI0 fun i j=>.int (Builtin.bitAnd i j)):=opI0 fun _ _ _ _ _ _ _ q=>and_int q
theorem ZHw:OpR X (binaryOp .BitOr) (rI0 fun i j=>.int (Builtin.bitOr i j)):=opI0 fun _ _ _ _ _ _ _ q=>or_int q
theorem ZzL:OpR X (binaryOp .BitXor) (rI0 fun i j=>.int (Builtin.bitXor i j)):=opI0 fun _ _ _ _ _ _ _ q=>xor_int q
theorem unI {f:Value→Sem Value} {g:Int→Int}
  (rule:∀ (i:Int) (t:Tok) (s:Shared) (Q:Value→Shared→Prop) (E:Value→Shared→Prop),Q (.int (g i) s.toks) { s with toks:=s.toks + 1 }→wpAny (model X.prog X.w) X.A (f (.int i t)) Q E s) :
  UnR X f (rU fun i=>.int (g i)):=by
 intro pins s σ H x v Q I rx h
 obtain ⟨i,rfl,q⟩ :=h
 obtain ⟨t,rfl⟩ :=rx
 exact rule i t s _ _ ⟨.int (g i),H,I.tok _,⟨_,rfl⟩,q⟩
theorem ZEb:UnR X (unaryOp .USub) (rU fun i=>.int (-i)):=unI fun _ _ _ _ _ q=>neg_int q
end
def scal:V→V→Bool
 | .non,.non=>true | .non,.int _=>true | .int _,.non=>true | .non,.bl _=>true | .bl _,.non=>true | .non,.str _=>true | .str _,.non=>true
 | .int _,.int _=>true | .bl _,.bl _=>true | .str _,.str _=>true | .byt _,.byt _=>true
 | .int _,.str _=>true | .str _,.int _=>true | .bl _,.str _=>true | .str _,.bl _=>true
 | _,_=>false
def rEq:R2:=fun x y H Q=>scal x y=true∧Q (.bl (decide (x=y))) H
def rNe:R2:=fun x y H Q=>scal x y=true∧Q (.bl (!decide (x=y))) H
theorem ZIq {i j:Int}:decide (V.int i=V.int j)=(i == j):=by
 rw [Bool.eq_iff_iff]
 simp
theorem ZMl {i j:Bool}:decide (V.bl i=V.bl j)=(i == j):=by
 rw [Bool.eq_iff_iff]
 simp
theorem ZIr {i j:Str}:decide (V.str i=V.str j)=(i == j):=by
 rw [Bool.eq_iff_iff]
 simp
theorem ZIp {i j:Array UInt8}:decide (V.byt i=V.byt j)=(i.toList == j.toList):=by
 rw [Bool.eq_iff_iff]
 cases i
 cases j
 simp
section
variable {X:Cx} {a b c:Expr} {ta tb tc:TE} {pos:Pos}
theorem ZbI {pins:List (Addr × Obj)} {σ:St} {H:Hp} {s:Shared} {Q:VK} {k k':Bool} (I:Inv X pins σ H s) (q:Q (.bl k) H) (e:k=k'):EP X pins σ Q (.bool k') s:=by
 subst e
 exact ⟨.bl k,H,I,rfl,q⟩
theorem ZQH:OpR X (compareOp .Eq) rEq:=by
 intro pins s σ H x y v u Q I rx ry h
 obtain ⟨hs,q⟩ :=h
 cases x with
 | non=>
  cases rx
  cases y with
  | non=>cases ry; exact PySem.EqNone.eq_none_none (ZbI I q (by simp))
  | bl j=>cases ry; exact PySem.EqNone.eq_none_bool (ZbI I q (by simp))
  | int j=>obtain ⟨t',rfl⟩ :=ry; exact PySem.EqNone.eq_none_int (ZbI I q (by simp))
  | str j=>obtain ⟨t',rfl⟩ :=ry; exact PySem.EqNone.eq_none_str (ZbI I q (by simp))
  | _=>exact absurd (show false=true from hs) Bool.false_ne_true
 | bl i=>
  cases rx
  cases y with
  | non=>cases ry; exact PySem.EqNone.eq_bool_none (ZbI I q (by simp))
  | bl j=>cases ry; exact eq_bool (ZbI I q ZMl)
  | str j=>obtain ⟨t',rfl⟩ :=ry; exact PySem.EqMixed.eq_bool_str (ZbI I q (by simp))
  | _=>exact absurd (show false=true from hs) Bool.false_ne_true
 | int i=>
  obtain ⟨t,rfl⟩ :=rx
  cases y with
  | non=>cases ry; exact PySem.EqNone.eq_int_none (ZbI I q (by simp))
  | int j=>obtain ⟨t',rfl⟩ :=ry; exact eq_int (ZbI I q ZIq)
  | str j=>obtain ⟨t',rfl⟩ :=ry; exact PySem.EqMixed.eq_int_str (ZbI I q (by simp))
  | _=>exact absurd (show false=true from hs) Bool.false_ne_true
 | str i=>
  obtain ⟨t,rfl⟩ :=rx
  cases y with
  | non=>cases ry; exact PySem.EqNone.eq_str_none (ZbI I q (by simp))
  | bl j=>cases ry; exact PySem.EqMixed.eq_str_bool (ZbI I q (by simp))
  | int j=>obtain ⟨t',rfl⟩ :=ry; exact PySem.EqMixed.eq_str_int (ZbI I q (by simp))
  | str j=>obtain ⟨t',rfl⟩ :=ry; exact eq_str (ZbI I q ZIr)
  | _=>exact absurd (show false=true from hs) Bool.false_ne_true
 | byt i=>
  obtain ⟨t,rfl⟩ :=rx
  cases y with
  | byt j=>obtain ⟨t',rfl⟩ :=ry; exact PySem.W.eq_bytes (ZbI I q ZIp)
  | _=>exact absurd (show false=true from hs) Bool.false_ne_true
 | _=>cases y <;> exact absurd (show false=true from hs) Bool.false_ne_true
theorem ZQI:OpR X (compareOp .NotEq) rNe:=by
 intro pins s σ H x y v u Q I rx ry h
 obtain ⟨hs,q⟩ :=h
 cases x with
 | non=>
  cases rx
  cases y with
  | non=>cases ry; exact PySem.EqNone.ne_none_none (ZbI I q (by simp))
  | bl j=>cases ry; exact PySem.EqNone.ne_none_bool (ZbI I q (by simp))
  | int j=>obtain ⟨t',rfl⟩ :=ry; exact PySem.EqNone.ne_none_int (ZbI I q (by simp))
  | str j=>obtain ⟨t',rfl⟩ :=ry; exact PySem.EqNone.ne_none_str (ZbI I q (by simp))
  | _=>exact absurd (show false=true from hs) Bool.false_ne_true
 | bl i=>
  cases rx
  cases y with
  | non=>cases ry; exact PySem.EqNone.ne_bool_none (ZbI I q (by simp))
  | bl j=>cases ry; exact ne_bool (ZbI I q (congrArg not ZMl))
  | str j=>obtain ⟨t',rfl⟩ :=ry; exact PySem.EqMixed.ne_bool_str (ZbI I q (by simp))
  | _=>exact absurd (show false=true from hs) Bool.false_ne_true
 | int i=>
  obtain ⟨t,rfl⟩ :=rx
  cases y with
  | non=>cases ry; exact PySem.EqNone.ne_int_none (ZbI I q (by simp))
  | int j=>obtain ⟨t',rfl⟩ :=ry; exact ne_int (ZbI I q (congrArg not ZIq))
  | str j=>obtain ⟨t',rfl⟩ :=ry; exact PySem.EqMixed.ne_int_str (ZbI I q (by simp))
  | _=>exact absurd (show false=true from hs) Bool.false_ne_true
 | str i=>
  obtain ⟨t,rfl⟩ :=rx
  cases y with
  | non=>cases ry; exact PySem.EqNone.ne_str_none (ZbI I q (by simp))
  | bl j=>cases ry; exact PySem.EqMixed.ne_str_bool (ZbI I q (by simp))
  | int j=>obtain ⟨t',rfl⟩ :=ry; exact PySem.EqMixed.ne_str_int (ZbI I q (by simp))
  | str j=>obtain ⟨t',rfl⟩ :=ry; exact ne_str (ZbI I q (congrArg not ZIr))
  | _=>exact absurd (show false=true from hs) Bool.false_ne_true
 | byt i=>
  obtain ⟨t,rfl⟩ :=rx
  cases y with
  | byt j=>obtain ⟨t',rfl⟩ :=ry; exact PySem.W.ne_bytes (ZbI I q (congrArg not ZIp))
  | _=>exact absurd (show false=true from hs) Bool.false_ne_true
 | _=>cases y <;> exact absurd (show false=true from hs) Bool.false_ne_true
theorem ZN5:OpR X (compareOp .Lt) (rI0 fun i j=>.bl (decide (i < j))):=opB0 fun _ _ _ _ _ _ _ q=>lt_int q
theorem ZBj:OpR X (compareOp .Gt) (rI0 fun i j=>.bl (decide (j < i))):=opB0 fun _ _ _ _ _ _ _ q=>gt_int q
theorem ZJA:OpR X (compareOp .GtE) (rI0 fun i j=>.bl (decide (j≤i))):=opB0 fun _ _ _ _ _ _ _ q=>ge_int q
theorem ZJC:OpR X (compareOp .In) (fun x y H Q=>∃ i j,x=.str i∧y=.str j∧Q (.bl (!(Builtin.Str.occurrences j i 0 j.length 1).isEmpty)) H):=by
 intro pins s σ H x y v u Q I rx ry h
 obtain ⟨i,j,rfl,rfl,q⟩ :=h
 obtain ⟨t,rfl⟩ :=rx
 obtain ⟨t',rfl⟩ :=ry
 exact in_str (ZbI I q rfl)
theorem ZPF:OpR X (compareOp .Is) (fun x y H Q=>y=.non∧Q (.bl (decide (x=.non))) H):=by
 intro pins s σ H x y v u Q I rx ry h
 obtain ⟨rfl,q⟩ :=h
 cases ry
 refine is_none_gen (ZbI I q ?_)
 cases x <;> first
  | (cases rx; rfl)
  | (obtain ⟨t,rfl⟩ :=rx; rfl)
theorem ZDE:OpR X (compareOp .NotIn) (fun x y H Q=>∃ i j,x=.str i∧y=.str j∧Q (.bl (!(!(Builtin.Str.occurrences j i 0 j.length 1).isEmpty))) H):=by
 intro pins s σ H x y v u Q I rx ry h
 obtain ⟨i,j,rfl,rfl,q⟩ :=h
 obtain ⟨t,rfl⟩ :=rx
 obtain ⟨t',rfl⟩ :=ry
 exact notIn_str (ZbI I q rfl)
theorem OpR.or {f:Value→Value→Sem Value} {r r':R2} (h:OpR X f r) (h':OpR X f r'):OpR X f (fun x y H Q=>r x y H Q∨r' x y H Q):=by
 intro pins s σ H x y v u Q I rx ry q
 rcases q with q | q
 ·exact h pins s σ H x y v u Q I rx ry q
 ·exact h' pins s σ H x y v u Q I rx ry q
theorem Zap (b:Expr) {op:CmpOp} (h:op ≠ .In:=by decide) (h2:op ≠ .NotIn:=by decide):behindInMarks op b=false:=by
 have e1:(op == CmpOp.In)=false:=by cases op <;> first | rfl | exact absurd rfl h
 have e2:(op == CmpOp.NotIn)=false:=by cases op <;> first | rfl | exact absurd rfl h2
 cases b <;> simp [behindInMarks,e1,e2]
theorem Zyk {op:CmpOp} {r:R2} (ho:OpR X (compareOp op) r) (ha:PE X a ta) (hb:PE X b tb) (hm:behindInMarks op b=false):PE X (.Compare a [op] [b] pos) (tOp r ta tb):=by
 intro pins s σ H Q I h
 exact wpAny_Compare1 (binT ha hb I h fun v u s2 x y H2 I2 rx ry q=>ho pins s2 σ H2 x y v u Q I2 rx ry q) hm
def ZOB (t:TE):TT:=fun σ H Q=>t σ H fun x H'=>∃ k,x=.bl k∧Q k H'
theorem Zah {op:CmpOp} {r:R2} (ho:OpR X (compareOp op) r) (ha:PE X a ta) (hb:PE X b tb) (hm:behindInMarks op b=false):PT X (.Compare a [op] [b] pos) (ZOB (tOp r ta tb)):=by
 intro pins s σ H Q I h
 refine wpAny_isTrue_Compare1 (thn (ha pins s σ H _ I h) fun v s1 ⟨x,H1,I1,r1,q1⟩ =>thn (hb pins s1 σ H1 _ I1 q1) fun u s2 ⟨y,H2,I2,r2,q2⟩ =>
  thn (ho pins s2 σ H2 x y v u _ I2 r1 r2 q2) fun c s3 ⟨z,H3,I3,r3,k,e,q3⟩ =>?_) hm
 subst e
 cases r3
 exact wpAny_truthy_bool ⟨H3,I3,q3⟩
def ZM6 (r r':R2) (ta tb tc:TE):TE:=fun σ H Q=>ta σ H fun x H1=>tb σ H1 fun y H2=>r x y H2 fun z H3=>∃ k,z=.bl k∧
 (if k=true then tc σ H3 fun w' H4=>r' y w' H4 Q else Q (.bl false) H3)
theorem ZLz {op op':CmpOp} {r r':R2} (ho:OpR X (compareOp op) r) (ho':OpR X (compareOp op') r') (ha:PE X a ta) (hb:PE X b tb) (hc:PE X c tc)
  (hm:lastMarks [op,op'] [b,c]=false:=by with_unfolding_all rfl):PE X (.Compare a [op,op'] [b,c] pos) (ZM6 r r' ta tb tc):=by
 intro pins s σ H Q I h
 refine Compare_chain (thn (ha pins s σ H _ I h) fun v s1 ⟨x,H1,I1,r1,q1⟩ =>chain_link (thn (hb pins s1 σ H1 _ I1 q1) fun u s2 ⟨y,H2,I2,r2,q2⟩ =>
  thn (ho pins s2 σ H2 x y v u _ I2 r1 r2 q2) fun d s3 ⟨z,H3,I3,r3,k,e,q3⟩ =>?_)) hm
 subst e
 cases r3
 refine wpAny_truthy_bool ?_
 cases k with
 | false=>exact ite_ff ⟨.bl false,H3,I3,rfl,q3⟩
 | true=>exact ite_tt (chain_last (thn (hc pins s3 σ H3 _ I3 q3) fun w' s4 ⟨z',H4,I4,r4,q4⟩ =>ho' pins s4 σ H4 y z' u w' Q I4 r2 r4 q4))
def TruV (K:PySem.W.Frag) (x:V) (H:Hp) (k:Bool):Prop:=
 match x with
 | .non=>k=false
 | .bl b=>k=b
 | .int i=>k=(i != 0)
 | .str y=>y.length≤sizeLine∧k=((y.length:Int) != 0)
 | .byt y=>y.size≤sizeLine∧k=((y.size:Int) != 0)
 | .ref p=>(∃ xs,SqL K H p xs∧k = !xs.isEmpty)∨(∃ xs,SqT K H p xs∧k = !xs.isEmpty)∨∃ kvs,H p=some (.dK kvs)∧k = !kvs.isEmpty
 | _=>False
theorem ZHn {κ:Type} {kvs:List (κ × V)} {vs:List (κ × Value)} (r:KV kvs vs):(!vs.isEmpty) = !kvs.isEmpty:=by
 cases r <;> rfl
theorem ZzI {xs:List V} {its:List Value} (r:Vals xs its):(!its.toArray.isEmpty) = !xs.isEmpty:=by
 cases r <;> simp
theorem ZCX:(sizeLine:Nat) < 2 ^ 63:=by rw [sizeLine_eq]; decide
theorem ZM9:TruR X (fun x H Q=>∃ k,TruV X.K x H k∧Q k H):=by
 intro pins s σ H x v Q I rx h
 obtain ⟨k,e,q⟩ :=h
 have hl:=ZCX
 have hs:sizeLine=16777216:=sizeLine_eq
 cases x with
 | non=>
  cases rx
  have e':k=false:=e
  subst e'
  exact truthy_none ⟨H,I,q⟩
 | bl b=>
  cases rx
  have e':k=b:=e
  subst e'
  exact wpAny_truthy_bool ⟨H,I,q⟩
 | int i=>
  obtain ⟨t,rfl⟩ :=rx
  have e':k=(i != 0):=e
  subst e'
  exact PySem.P.truthy_int ⟨H,I,q⟩
 | str y=>
  obtain ⟨t,rfl⟩ :=rx
  obtain ⟨hy,e'⟩ : y.length≤sizeLine∧k=((y.length:Int) != 0):=e
  subst e'
  exact PySem.P.truthy_str (by omega) ⟨H,I.tok _,q⟩
 | byt y=>
  obtain ⟨t,rfl⟩ :=rx
  obtain ⟨hy,e'⟩ : y.size≤sizeLine∧k=((y.size:Int) != 0):=e
  subst e'
  exact PySem.W.truthy_bytes (by omega) ⟨H,I.tok _,q⟩
 | ref p=>
  cases rx
  have e':(∃ xs,SqL X.K H p xs∧k = !xs.isEmpty)∨(∃ xs,SqT X.K H p xs∧k = !xs.isEmpty)∨∃ kvs,H p=some (.dK kvs)∧k = !kvs.isEmpty:=e
  rcases e' with ⟨xs,hx,e'⟩ | ⟨xs,hx,e'⟩ | ⟨kvs,hx,e'⟩
  ·subst e'
   obtain ⟨its,r,pl,hz⟩ :=I.list hx
   have hlen:=r.length
   exact wpAny_truthy_list pl.isList (by simp only [List.size_toArray]; omega) ⟨H,I.tok _,by rw [ZzI r]; exact q⟩
  ·subst e'
   obtain ⟨its,r,pl,hz⟩ :=I.tuple hx
   have hlen:=r.length
   exact truthy_tuple pl (by simp only [List.size_toArray]; omega) ⟨H,I.tok _,by rw [ZzI r]; exact q⟩
  ·subst e'
   obtain ⟨hz,hS,vs,r,m⟩ : kvs.length≤sizeLine∧(p == sysModules)=false∧∃ vs,KV kvs vs∧s.heap.DictOf (ZdL X.prog X.w) p vs:=I.hok p _ hx
   have hlen:kvs.length=vs.length:=Paired.length r
   exact wpAny_truthy_dict hS m (by omega) ⟨H,I.tok _,by rw [ZHn r]; exact q⟩
 | _=>exact (show False from e).elim
theorem Zbg (ha:PE X a ta) (he:∀ whole,isTrue a X.env whole=(do let v ← whole; standAt a.pos; holding [v] (truthy v))) :
  PT X a (fun σ H Q=>ta σ H fun x H'=>∃ k,TruV X.K x H' k∧Q k H'):=by
 intro pins s σ H Q I h
 exact isTrue_plain (thn (ha pins s σ H _ I h) fun v s1 ⟨x,H1,I1,r1,q1⟩ =>ZM9 pins s1 σ H1 x v Q I1 r1 q1) (he _)
theorem ZHv:OpR X (binaryOp .Add) (fun x y H Q=>∃ i j,x=.str i∧y=.str j∧i.length + j.length≤sizeLine∧Q (.str (i ++ j)) H):=by
 intro pins s σ H x y v u Q I rx ry h
 obtain ⟨i,j,rfl,rfl,hz,q⟩ :=h
 obtain ⟨t,rfl⟩ :=rx
 obtain ⟨t',rfl⟩ :=ry
 exact add_str (fun t' tk=>⟨.str (i ++ j),H,I.tok _,⟨_,rfl⟩,q⟩) hz
theorem ZFD {x:V} {us:List Value} (r:Vals [x] us):∃ u,us=[u]∧RelV x u:=by
 cases r with
 | cons r1 r2=>cases r2; exact ⟨_,rfl,r1⟩
theorem ZL1 {x y:V} {us:List Value} (r:Vals [x,y] us):∃ u w',us=[u,w']∧RelV x u∧RelV y w':=by
 cases r with
 | cons r1 r2=>
  cases r2 with
  | cons r3 r4=>cases r4; exact ⟨_,_,rfl,r1,r3⟩
theorem ZIc (hc:X.calm=true):ZlT X (.builtin "max") (fun xs H Q=>∃ i j,xs=[.int i,.int j]∧Q (.int (if j > i then j else i)) H):=by
 intro pins s σ H xs us Q I r h
 obtain ⟨i,j,rfl,q⟩ :=h
 obtain ⟨u,w',rfl,⟨t,rfl⟩,⟨t',rfl⟩⟩ :=ZL1 r
 refine max_two_ints (I.ok.hd hc) fun h' tk k=>⟨_,H,I.kept k,?_,q⟩
 by_cases hj:j > i
 ·rw [if_pos hj,if_pos hj]; exact ⟨_,rfl⟩
 ·rw [if_neg hj,if_neg hj]; exact ⟨_,rfl⟩
theorem ZIf (hc:X.calm=true):ZlT X (.builtin "min") (fun xs H Q=>∃ i j,xs=[.int i,.int j]∧Q (.int (if j < i then j else i)) H):=by
 intro pins s σ H xs us Q I r h
 obtain ⟨i,j,rfl,q⟩ :=h
 obtain ⟨u,w',rfl,⟨t,rfl⟩,⟨t',rfl⟩⟩ :=ZL1 r
 refine min_two_ints (I.ok.hd hc) fun h' tk k=>⟨_,H,I.kept k,?_,q⟩
 by_cases hj:j < i
 ·rw [if_pos hj,if_pos hj]; exact ⟨_,rfl⟩
 ·rw [if_neg hj,if_neg hj]; exact ⟨_,rfl⟩
theorem ZIb:ZlT X (.type "int") (fun xs H Q=>(∃ i,xs=[.int i]∧Q (.int i) H)∨∃ k,xs=[.bl k]∧Q (.int (if k then 1 else 0)) H):=by
 intro pins s σ H xs us Q I r h
 rcases h with ⟨i,rfl,q⟩ | ⟨k,rfl,q⟩
 ·obtain ⟨u,rfl,t,rfl⟩ :=ZFD r
  exact call_int_int ⟨.int i,H,I,⟨_,rfl⟩,q⟩
 ·obtain ⟨u,rfl,r1⟩ :=ZFD r
  cases r1
  exact call_int_bool ⟨.int (if k then 1 else 0),H,I.tok _,⟨_,rfl⟩,q⟩
def LenV (K:PySem.W.Frag) (x:V) (H:Hp) (n:Nat):Prop:=
 match x with
 | .str y=>y.length≤sizeLine∧n=y.length
 | .byt y=>y.size≤sizeLine∧n=y.size
 | .ref p=>(∃ xs,SqL K H p xs∧n=xs.length)∨∃ xs,SqT K H p xs∧n=xs.length
 | _=>False
theorem ZKM:ZlT X (.builtin "len") (fun xs H Q=>∃ x n,xs=[x]∧LenV X.K x H n∧Q (.int n) H):=by
 intro pins s σ H xs us Q I r h
 obtain ⟨x,n,rfl,e,q⟩ :=h
 obtain ⟨u,rfl,rx⟩ :=ZFD r
 have hl:=ZCX
 have hs:sizeLine=16777216:=sizeLine_eq
 cases x with
 | str y=>
  obtain ⟨t,rfl⟩ :=rx
  obtain ⟨hy,e'⟩ : y.length≤sizeLine∧n=y.length:=e
  subst e'
  exact len_str (by omega) ⟨.int _,H,I.tok _,⟨_,rfl⟩,q⟩
 | byt y=>
  obtain ⟨t,rfl⟩ :=rx
  obtain ⟨hy,e'⟩ : y.size≤sizeLine∧n=y.size:=e
  subst e'
  exact PySem.W.len_bytes (by omega) ⟨.int _,H,I.tok _,⟨_,rfl⟩,q⟩
 | ref p=>
  cases rx
  have e':(∃ xs,SqL X.K H p xs∧n=xs.length)∨∃ xs,SqT X.K H p xs∧n=xs.length:=e
  rcases e' with ⟨xs,hx,e'⟩ | ⟨xs,hx,e'⟩
  ·subst e'
   obtain ⟨its,r',pl,hz⟩ :=I.list hx
   have hlen:=r'.length
   exact Calls.call_len_list pl.isList (by simp only [List.size_toArray]; omega) ⟨.int xs.length,H,I.tok _,⟨_,by simp only [List.size_toArray]; rw [hlen]⟩,q⟩
  ·subst e'
   obtain ⟨its,r',pl,hz⟩ :=I.tuple hx
   have hlen:=r'.length
   exact len_tuple pl (by simp only [List.size_toArray]; omega) ⟨.int xs.length,H,I.tok _,⟨_,by simp only [List.size_toArray]; rw [hlen]⟩,q⟩
 | _=>exact (show False from e).elim
end
end L2
namespace L2
open PySem PySem.Spec PyProof.Rows
structure ObjM (h:Heap) (x dx C:Addr) (mA:Str→Option Value):Prop where
 obj:h.get? x=some (PySem.W.instObj C dx)
 ns:h.Ns1 dx mA
 ne:dx ≠ x
theorem ZI9 {h:Heap} {dx:Addr} {mA:Str→Option Value} (n:h.Ns1 dx mA):∃ od,h.get? dx=some od∧∀ name,PySem.W.lookIn name od=some (mA name):=by
 obtain ⟨o,es,ep,ho,hd,hk,_,hm⟩ :=n
 refine ⟨o,ho,fun name=>?_⟩
 have e:=hm name
 unfold nsFind findBy at e
 rw [← Array.find?_toList] at e
 unfold PySem.W.lookIn
 rw [hd]
 dsimp only
 split
 ·rename_i y q
  rw [q] at e
  exact congrArg some e
 ·rename_i q
  rw [q] at e
  have a:es.toList.any (·.refKey)=false:=by
   rw [List.any_eq_false]
   intro y hy
   obtain ⟨z,t,hkey⟩ :=hk y (Array.mem_toList_iff.mp hy)
   simp [DictEntry.refKey,hkey]
  have a' : ¬ es.toList.any (·.refKey)=true:=by rw [a]; exact Bool.false_ne_true
  rw [if_neg a']
  exact congrArg some e
theorem ObjM.look {h:Heap} {x dx C:Addr} {mA:Str→Option Value} (I:ObjM h x dx C mA):∃ od,PySem.W.InstAt h x (PySem.W.instObj C dx) C (some od)∧∀ name,PySem.W.lookIn name od=some (mA name):=
 let ⟨od,ho,hl⟩ :=ZI9 I.ns
 ⟨od,⟨I.obj,rfl,rfl,ho⟩,hl⟩
section
variable {prog:Program} {w:World} {A:Around} {E:Value→Shared→Prop} {s:Shared} {K:PySem.W.Frag} {x dx C f:Addr} {mA:Str→Option Value} {name:Str} {v:Value}
theorem ZNs {expr:Bool} {Q:Value→Shared→Prop} (X:K.In s.heap) (I:ObjM s.heap x dx C mA) (hg:PySem.W.plainGet K C name=true) (hh:PySem.W.hasDictIn K C=true)
  (ha:PySem.W.findIn K (.ref C) name=some none) (hv:mA name=some v) (hv':PySem.W.handedIn v=true) (h:Q v { s with toks:=s.toks + 1 }) :
  wpAny (model prog w) A (getAttr (.ref x) name expr) Q E s:=by
 obtain ⟨od,J,hl⟩ :=I.look
 exact PySem.W.get_value X J (PySem.W.plainGet_of hg).1 (PySem.W.findObj_own hh ha rfl (by rw [hl,hv])) hv' h
theorem ZKV {pl:Sem Bool} {Q:Value × List Value→Shared→Prop} (X:K.In s.heap) (I:ObjM s.heap x dx C mA) (hg:PySem.W.plainGet K C name=true)
  (hf:PySem.W.findIn K (.ref C) name=some (some (.ref f))) (ht:PySem.W.isFn K (.ref f)=true) (hv:mA name=none) (h:Q (.ref f,[.ref x]) s) :
  wpAny (model prog w) A (getMethod (.ref x) name pl) Q E s:=by
 obtain ⟨od,J,hl⟩ :=I.look
 exact PySem.W.method_fn X J (PySem.W.plainGet_of hg).1 (PySem.W.plainGet_of hg).2 hf (beq_iff_eq.mp ht) (by show (PySem.W.lookIn name od).map (·.isSome)=some false; rw [hl,hv]; rfl) h
theorem ZOm {ns:List Str} {Q:Unit→Shared→Prop} (X:K.In s.heap) (I:ObjM s.heap x dx C mA)
  (hs:PySem.W.findIn K (.ref C) "__setattr__" = some (some (.builtin "object.__setattr__"))) (hp:PySem.W.plainOver K C=true) (ht:PySem.W.takerIn K C name=some none) (hh:PySem.W.hasDictIn K C=true)
  (hw:PySem.Within mA ns) (hsz:ns.length≤sizeLine)
  (h:∀ h',ObjM h' x dx C (fun y=>if y=name then some v else mA y)→Heap.SameBut dx s.heap h'→Q () { s with heap:=h',toks:=s.toks + 2 }) :
  wpAny (model prog w) A (setAttr (.ref x) name v) Q E s:=by
 obtain ⟨od,J,hl⟩ :=I.look
 refine PySem.W.set_plain X J hs (PySem.W.osa_open (s:={ s with toks:=s.toks + 1 }) (r:=none) X J hp ht fun b=>?_)
 obtain ⟨cd,hc,hd'⟩ :=PySem.W.any_some hh
 have hx:s.heap.get? x=some ⟨.ref C,some dx,.plain,#[]⟩ :=I.obj
 refine wpAny_bind (wpAny_pure (wpAny_bind (wpAny_bind (wpAny_loadPart hx (wpAny_bind (PySem.W.Looks.here (s:={ s with toks:=s.toks + 1 }) (PySem.W.looks_clsIn X hc) ?_))))))
 rw [hd']
 refine wpAny_pure (a:=some dx) (wpAny_bind (wpAny_pure (wpAny_bind ?_)))
 refine wpAny_nsSet1 (s:={ s with toks:=s.toks + 1 }) I.ns fun h' hn2 hs2=>?_
 obtain ⟨oD,esD,epD,hoD,hdD,hcD⟩ :=hn2.count (PySem.Within.cons name v hw)
 refine wpAny_bind (wpAny_lookBehind hoD (by rw [hdD]; exact pastItsLine_dict (Nat.le_trans hcD (by rw [List.length_cons]; omega))) ?_)
 exact wpAny_pure (h _ ⟨(hs2.2 _ (Ne.symm I.ne)).trans I.obj,hn2,I.ne⟩ hs2)
theorem ZLj {R:Result→Shared→Prop} {vs:List Value} {kw:List (Str × Value)} (X:K.In s.heap) (hm:PySem.W.makesIn K C=true)
  (hi:PySem.W.findIn K (.ref C) "__init__" = some (some (.ref f))) (hf:PySem.W.typeIn K (.ref f)=some (.type "function"))
  (h:codeAny (model prog w) (A.under (.builtin "type.__call__" ⟨.ref C :: vs,kw⟩)) (.call (.ref f) ⟨.ref (s.heap.objs.size + 1) :: vs,kw⟩) (PySem.W.InitBack (s.heap.objs.size + 1) R)
   { s with heap:=(s.heap.push PySem.W.emptyDict).push (PySem.W.instObj C s.heap.objs.size) }) :
  codeAny (model prog w) A (.call (.ref C) ⟨vs,kw⟩) R s:=by
 obtain ⟨hh,g,d,t,os⟩ :=s
 exact PySem.W.make_core (PySem.W.makes_of X hm) (PySem.W.looks_findIn X hi) (fun self=>PySem.W.bind_fn X self hf) (.inl rfl) h
end
def putF (f:Str) (v:V):List (Str × V)→List (Str × V)
 | []=>[(f,v)]
 | (g,x) :: r=>if g=f then (g,v) :: r else (g,x) :: putF f v r
theorem Zk9 (f g:Str) (v:V):∀ fs:List (Str × V),(putF f v fs).lookup g=if g=f then some v else fs.lookup g
 | []=>by
  show List.lookup g [(f,v)]=_
  by_cases h:g=f
  ·have hb:(g == f)=true:=beq_iff_eq.mpr h
   simp only [List.lookup,hb,if_pos h]
  ·have hb:(g == f)=false:=beq_eq_false_iff_ne.mpr h
   simp only [List.lookup,hb,if_neg h]
 | (k,x) :: r=>by
  have ih:=Zk9 f g v r
  rw [show putF f v ((k,x) :: r)=(if k=f then (k,v) :: r else (k,x) :: putF f v r) from rfl]
  by_cases hk:k=f
  ·rw [if_pos hk]
   by_cases h:g=k
   ·have hb:(g == k)=true:=beq_iff_eq.mpr h
    simp only [List.lookup,hb,if_pos (h.trans hk)]
   ·have hb:(g == k)=false:=beq_eq_false_iff_ne.mpr h
    simp only [List.lookup,hb,if_neg (fun e:g=f=>h (e.trans hk.symm))]
  ·rw [if_neg hk]
   by_cases h:g=k
   ·have hb:(g == k)=true:=beq_iff_eq.mpr h
    simp only [List.lookup,hb,if_neg (fun e:g=f=>hk (h.symm.trans e))]
   ·have hb:(g == k)=false:=beq_eq_false_iff_ne.mpr h
    simp only [List.lookup,hb]
    exact ih
theorem ZxL (f:Str) (v:V):∀ fs:List (Str × V),f ∈ (putF f v fs).map (·.1)∧∀ g,g ∈ fs.map (·.1)→g ∈ (putF f v fs).map (·.1)
 | []=>⟨by simp [putF],fun g h=>by simp at h⟩
 | (k,x) :: r=>by
  obtain ⟨i1,i2⟩ :=ZxL f v r
  rw [show putF f v ((k,x) :: r)=(if k=f then (k,v) :: r else (k,x) :: putF f v r) from rfl]
  by_cases hk:k=f
  ·rw [if_pos hk]
   subst hk
   exact ⟨by simp,fun g h=>by simpa using h⟩
  ·rw [if_neg hk]
   refine ⟨?_,fun g h=>?_⟩
   ·rw [List.map_cons]
    exact List.mem_cons_of_mem _ i1
   ·rw [List.map_cons] at h ⊢
    rcases List.mem_cons.mp h with e | e
    ·exact List.mem_cons.mpr (.inl e)
    ·exact List.mem_cons_of_mem _ (i2 g e)
theorem ZxQ (f:Str) (v:V):∀ fs:List (Str × V),(putF f v fs).length≤fs.length + 1
 | []=>by simp [putF]
 | (k,x) :: r=>by
  have ih:=ZxQ f v r
  rw [show putF f v ((k,x) :: r)=(if k=f then (k,v) :: r else (k,x) :: putF f v r) from rfl]
  by_cases hk:k=f
  ·rw [if_pos hk,List.length_cons,List.length_cons]; omega
  ·rw [if_neg hk,List.length_cons,List.length_cons]; omega
theorem RelO.some_of {v:V} {o:Option Value} (r:RelO (some v) o):∃ u,o=some u∧RelV v u:=by
 cases o with
 | none=>exact (show False from r).elim
 | some u=>exact ⟨u,rfl,r⟩
theorem RelO.none_of {o:Option Value} (r:RelO none o):o=none:=by
 cases o with
 | none=>rfl
 | some u=>exact (show False from r).elim
theorem ZIE {v:V} {u:Value} (r:RelV v u):PySem.W.handedIn u=true:=by
 cases v with
 | non=>cases (show u=Value.none from r); rfl
 | bl b=>cases (show u=Value.bool b from r); rfl
 | int i=>obtain ⟨t,e⟩ :=(show ∃ t,u=Value.int i t from r); cases e; rfl
 | str x=>obtain ⟨t,e⟩ :=(show ∃ t,u=Value.str x t from r); cases e; rfl
 | byt b=>obtain ⟨t,e⟩ :=(show ∃ t,u=Value.bytes b t from r); cases e; rfl
 | flt b=>obtain ⟨t,e⟩ :=(show ∃ t,u=Value.float b t from r); cases e; rfl
 | ref a=>cases (show u=Value.ref a from r); rfl
 | ty n=>cases (show u=Value.type n from r); rfl
section
variable {P:Program} {w:World} {H H':Hp} {h h':Heap} {a C dx:Addr} {fs fs':List (Str × V)}
theorem ZAm (hok:HOk P w H h) (e:H a=some (.ins C dx fs)):∃ mA,ObjM h a dx C mA∧(∀ f,RelO (fs.lookup f) (mA f))∧PySem.Within mA (fs.map (·.1))∧fs.length≤1000∧H dx=some (.own a):=by
 obtain ⟨d,z,ne,ob,mA,n,r,q⟩ :=(show Zd8 P w H h a (.ins C dx fs) from hok a _ e)
 exact ⟨mA,⟨ob,n,ne⟩,r,q,z,d⟩
end
structure Cls (K:PySem.W.Frag) (C:Addr):Prop where
 pg:PySem.W.plainGet K C Str.empty=true
 hd:PySem.W.hasDictIn K C=true
 po:PySem.W.plainOver K C=true
 sa:PySem.W.findIn K (.ref C) "__setattr__" = some (some (.builtin "object.__setattr__"))
theorem Cls.get {K:PySem.W.Frag} {C:Addr} (c:Cls K C) (f:Str):PySem.W.plainGet K C f=true:=c.pg
def ZaB (K:PySem.W.Frag) (C:Addr) (f:Str):Prop:=PySem.W.findIn K (.ref C) f=some none
theorem ZaB.taker {K:PySem.W.Frag} {C:Addr} {f:Str} (n:ZaB K C f):PySem.W.takerIn K C f=some none:=by
 unfold PySem.W.takerIn
 rw [show PySem.W.findIn K (.ref C) f=some none from n]
 rfl
structure Meth (K:PySem.W.Frag) (C:Addr) (m:Str) (f:Addr):Prop where
 at_:PySem.W.findIn K (.ref C) m=some (some (.ref f))
 fn:PySem.W.isFn K (.ref f)=true
 kp:PySem.W.keepIn K (.ref f)=true
section
variable {X:Cx} {pins:List (Addr × Obj)} {σ:St} {H:Hp} {s:Shared} {a C dx:Addr} {fs:List (Str × V)} {f:Str} {v:V} {A:Around} {E:Value→Shared→Prop}
theorem ZHj {b:Bool} {Q:Value→Shared→Prop} (I:Inv X pins σ H s) (e:H a=some (.ins C dx fs)) (c:Cls X.K C) (n:ZaB X.K C f) (l:fs.lookup f=some v)
  (h:∀ u s',Inv X pins σ H s'→RelV v u→Q u s'):wpAny (model X.prog X.w) A (getAttr (.ref a) f b) Q E s:=by
 obtain ⟨mA,O,r,_,_,_⟩ :=ZAm I.hok e
 obtain ⟨u,hu,ru⟩ :=RelO.some_of (v:=v) (o:=mA f) (by rw [← l]; exact r f)
 exact ZNs I.kIn O (c.get f) c.hd n hu (ZIE ru) (h u _ (I.tok _) ru)
theorem Ztq {m:Str} {g:Addr} {pl:Sem Bool} {Q:Value × List Value→Shared→Prop} (I:Inv X pins σ H s) (e:H a=some (.ins C dx fs)) (c:Cls X.K C) (k:Meth X.K C m g) (l:fs.lookup m=none)
  (h:Q (.ref g,[.ref a]) s):wpAny (model X.prog X.w) A (getMethod (.ref a) m pl) Q E s:=by
 obtain ⟨mA,O,r,_,_,_⟩ :=ZAm I.hok e
 have hn:mA m=none:=RelO.none_of (by rw [← l]; exact r m)
 exact ZKV I.kIn O (c.get m) k.at_ k.fn hn h
theorem ZHC {y:V} {u:Value} {Q:Unit→Shared→Prop} (I:Inv X pins σ H s) (e:H a=some (.ins C dx fs)) (c:Cls X.K C) (n:ZaB X.K C f) (hl:fs.length < 1000) (ry:RelV y u)
  (h:∀ s',Inv X pins σ (upd H a (.ins C dx (putF f y fs))) s'→Q () s'):wpAny (model X.prog X.w) A (setAttr (.ref a) f u) Q E s:=by
 obtain ⟨mA,O,r,wi,_,ho⟩ :=ZAm I.hok e
 have hz:(fs.map (·.1)).length≤sizeLine:=by rw [List.length_map,sizeLine_eq]; omega
 refine ZOm I.kIn O c.sa c.po n.taker c.hd wi hz fun h' O' sb=>h _ ?_
 have hd:∃ o,h'.get? dx=some o:=let ⟨o,_,_,e',_⟩ :=O'.ns; ⟨o,e'⟩
 refine I.write (x:=a) (e:=dx) (by rw [e]; exact True.intro) (.inr ho) (fun b q hb z=>(sb.2 b hb).trans z) hd ?_
 refine ⟨by rw [ZbG O.ne]; exact ho,?_,O.ne,O'.obj,_,O'.ns,fun g=>?_,fun g hg=>?_⟩
 ·have:=ZxQ f y fs; omega
 ·show RelO ((putF f y fs).lookup g) (if g=f then some u else mA g)
  rw [Zk9]
  by_cases q:g=f
  ·rw [if_pos q,if_pos q]; exact ry
  ·rw [if_neg q,if_neg q]; exact r g
 ·by_cases q:g=f
  ·rw [q]; exact (ZxL f y fs).1
  ·refine (ZxL f y fs).2 g (wi g fun z=>hg ?_)
   show (if g=f then some u else mA g)=none
   rw [if_neg q]; exact z
theorem Inv.made (I:Inv X pins σ H s):Inv X pins σ (upd (upd H s.heap.objs.size (.own (s.heap.objs.size + 1))) (s.heap.objs.size + 1) (.ins C s.heap.objs.size []))
  { s with heap:=(s.heap.push PySem.W.emptyDict).push (PySem.W.instObj C s.heap.objs.size) }:=by
 have e1:(s.heap.push PySem.W.emptyDict).get? s.heap.objs.size=some PySem.W.emptyDict:=Heap.get?_push_size s.heap rfl
 have e2:((s.heap.push PySem.W.emptyDict).push (PySem.W.instObj C s.heap.objs.size)).get? (s.heap.objs.size + 1)=some (PySem.W.instObj C s.heap.objs.size):=by
  have:=Heap.get?_push_size (s.heap.push PySem.W.emptyDict) (o:=PySem.W.instObj C s.heap.objs.size) rfl
  rwa [Heap.size_push] at this
 have e3:(s.heap.push PySem.W.emptyDict).Ns s.heap.objs.size (fun _=>none):=⟨PySem.W.emptyDict,#[],_,e1,rfl,(fun e he=>absurd he (by simp)),fun _=>rfl⟩
 have I1:=I.laid (a:=s.heap.objs.size) (o:=.own (s.heap.objs.size + 1)) (h':=s.heap.push PySem.W.emptyDict) (t':=s.toks) (fun b u q=>Heap.get?_push_of_some _ q) (Nat.le_refl _) ⟨_,e1⟩
 refine I1.laid (a:=s.heap.objs.size + 1) (o:=.ins C s.heap.objs.size []) (t':=s.toks) (fun b u q=>Heap.get?_push_of_some _ q) (Nat.le_of_eq (Heap.size_push _ _)) ?_
 have ne:s.heap.objs.size ≠ s.heap.objs.size + 1:=Nat.ne_of_lt (Nat.lt_succ_self _)
 refine ⟨by rw [ZbG ne,ZaV],Nat.zero_le _,ne,e2,fun _=>none,(Heap.Ns1.of_empty e3).at fun o q=>Heap.get?_push_of_some _ q,fun _=>True.intro,fun y hy=>absurd rfl hy⟩
theorem ZNi {prog:Program} {w:World} {env:Env} {e:Expr} {f:Str} {pos:Pos} {s:Shared} {Q:Value→Shared→Prop} (hb:attributeBase e f env (eval e env)=eval e env)
  (h:wpAny (model prog w) A (eval e env) (fun o s₁=>wpAny (model prog w) A (getAttr o f true) Q E s₁) E s):wpAny (model prog w) A (eval (.Attribute e f pos) env) Q E s:=
 Attribute_any_ h (by rw [arm_eval_Attribute,hb])
end
def tFld (K:PySem.W.Frag) (ta:TE) (f:Str):TE:=fun σ H Q=>ta σ H fun x H1=>∃ a C dx fs v,x=.ref a∧H1 a=some (.ins C dx fs)∧Cls K C∧ZaB K C f∧fs.lookup f=some v∧Q v H1
def sFld (K:PySem.W.Frag) (ta tv:TE) (f:Str):TS:=fun D σ H=>tv σ H fun y H1=>ta σ H1 fun x H2=>∃ a C dx fs,x=.ref a∧H2 a=some (.ins C dx fs)∧Cls K C∧ZaB K C f∧fs.length < 1000∧
 D.nx σ (upd H2 a (.ins C dx (putF f y fs)))
section
variable {X:Cx} {o e value:Expr} {f:Str} {pos pos' tpos:Pos} {ta tv:TE}
theorem ZbR (he:PE X e ta) (hb:attributeBase e f X.env (eval e X.env)=eval e X.env):PE X (.Attribute e f pos) (tFld X.K ta f):=by
 intro pins s σ H Q I h
 refine ZNi hb (thn (he pins s σ H _ I h) fun u s1 ⟨x,H1,I1,rx,a,C,dx,fs,v,ex,ea,c,n,l,q⟩ =>?_)
 subst ex
 obtain rfl:u=Value.ref a:=rx
 exact ZHj I1 ea c n l fun u' s2 I2 ru=>⟨v,H1,I2,ru,q⟩
theorem ZhA (ha:PE X o ta) (hv:PE X value tv) (hs:swapsWith value (some (.Attribute o f pos')) pos.line X.env=pure false):PS X (.Assign [.Attribute o f pos'] value pos) (sFld X.K ta tv f):=by
 intro pins s σ H D I h
 refine plainObj_wpAny_Assign_Attribute (thn (hv pins s σ H _ I h) fun u s1 ⟨y,H1,I1,ry,q⟩ =>thn (ha pins s1 σ H1 _ I1 q) fun ov s2 ⟨x,H2,I2,rx,a,C,dx,fs,ex,ea,c,n,l,q2⟩ =>?_) hs
 subst ex
 obtain rfl:ov=Value.ref a:=rx
 exact ZHC I2 ea c n l ry fun s3 I3=>⟨σ,_,I3,q2⟩
end
section
variable {X:Cx} {pins:List (Addr × Obj)} {σ:St} {H:Hp} {s:Shared} {A:Around} {E:Value→Shared→Prop} {Q:Value→Shared→Prop} {c:Value} {b:Bool}
inductive TyOf (K:PySem.W.Frag) (H:Hp):V→Value→Prop where
 | non:TyOf K H .non (.type "NoneType")
 | bl (x:Bool):TyOf K H (.bl x) (.type "bool")
 | int (i:Int):TyOf K H (.int i) (.type "int")
 | str (x:Str):TyOf K H (.str x) (.type "str")
 | flt (x:UInt64):TyOf K H (.flt x) (.type "float")
 | lst {a:Addr} {xs:List V} (e:H a=some (.lst xs)):TyOf K H (.ref a) (.type "list")
 | frz {a:Addr} {o:Obj} {xs:List V} (e:H a=some (.frz o (.lst xs))):TyOf K H (.ref a) (.type "list")
 | tup {a:Addr} {xs:List V} (e:H a=some (.tup xs)):TyOf K H (.ref a) (.type "tuple")
 | dK {a:Addr} {kvs:List (Key × V)} (e:H a=some (.dK kvs)):TyOf K H (.ref a) (.type "dict")
 | dT {a:Addr} {kvs:List (List Key × V)} (e:H a=some (.dT kvs)):TyOf K H (.ref a) (.type "dict")
 | ins {a C dx:Addr} {fs:List (Str × V)} (e:H a=some (.ins C dx fs)) (cl:Cls K C) (ha:PySem.W.findIn K (.ref C) "__class__" = some (some (.builtin "object.__class__")))
   (hn:PySem.W.specialIn K (.builtin "object.__class__") "__get__" = some (some (.builtin "getset_descriptor.__get__"))) (htk:PySem.W.takesIn K (.builtin "object.__class__")=some true)
   (hm:PySem.W.mroIn K C (.type "object")=some true):TyOf K H (.ref a) (.ref C)
theorem ZCR {x:V} {u t:Value} (I:Inv X pins σ H s) (rx:RelV x u) (ty:TyOf X.K H x t) (e:PySem.W.kitOne X.K t c=some b) (h:∀ tk,Q (.bool b) { s with toks:=tk }) :
  wpAny (model X.prog X.w) A (call (.builtin "isinstance") [u,c]) Q E s:=by
 cases ty with
 | non=>cases (show u=Value.none from rx); exact PySem.W.kia_one PySem.W.kitx_none I.kIn True.intro e (fun z=>nomatch z) h
 | bl y=>cases (show u=Value.bool y from rx); exact PySem.W.kia_one PySem.W.kitx_bool I.kIn True.intro e (fun z=>nomatch z) h
 | int i=>obtain ⟨t,q⟩ :=(show ∃ t,u=Value.int i t from rx); cases q; exact PySem.W.kia_one PySem.W.kitx_int I.kIn True.intro e (fun z=>nomatch z) h
 | str y=>obtain ⟨t,q⟩ :=(show ∃ t,u=Value.str y t from rx); cases q; exact PySem.W.kia_one PySem.W.kitx_str I.kIn True.intro e (fun z=>nomatch z) h
 | flt y=>obtain ⟨t,q⟩ :=(show ∃ t,u=Value.float y t from rx); cases q; exact PySem.W.kia_one PySem.W.kitx_float I.kIn True.intro e (fun z=>nomatch z) h
 | @lst a xs ea=>
  cases (show u=Value.ref a from rx)
  obtain ⟨_,_,n,_,h1⟩ :=(show Zd8 X.prog X.w H s.heap a (.lst xs) from I.hok a _ ea)
  exact PySem.W.kia_one PySem.W.kitx_list I.kIn ⟨_,h1,rfl⟩ e (fun z=>nomatch z) h
 | @frz a ob xs ea=>
  cases (show u=Value.ref a from rx)
  obtain ⟨_,_,_,n,_,h1⟩ :=(show Zd8 X.prog X.w H s.heap a (.frz ob (.lst xs)) from I.hok a _ ea)
  exact PySem.W.kia_one PySem.W.kitx_list I.kIn ⟨_,h1,rfl⟩ e (fun z=>nomatch z) h
 | @tup a xs ea=>
  cases (show u=Value.ref a from rx)
  obtain ⟨_,_,_,p⟩ :=(show Zd8 X.prog X.w H s.heap a (.tup xs) from I.hok a _ ea)
  obtain ⟨o,h1,h2,_⟩ :=p
  exact PySem.W.kia_one PySem.W.kitx_tuple I.kIn ⟨o,h1,h2⟩ e (fun z=>nomatch z) h
 | @dK a kvs ea=>
  cases (show u=Value.ref a from rx)
  obtain ⟨_,_,vs,_,p⟩ :=(show Zd8 X.prog X.w H s.heap a (.dK kvs) from I.hok a _ ea)
  obtain ⟨o,es,ep,h1,h2,_⟩ :=p
  exact PySem.W.kia_one PySem.W.kitx_dict I.kIn ⟨o,h1,h2.1⟩ e (fun z=>nomatch z) h
 | @dT a kvs ea=>
  cases (show u=Value.ref a from rx)
  obtain ⟨_,_,xs,_,o,es,ep,h1,h2,_⟩ :=(show Zd8 X.prog X.w H s.heap a (.dT kvs) from I.hok a _ ea)
  exact PySem.W.kia_one PySem.W.kitx_dict I.kIn ⟨o,h1,h2.1⟩ e (fun z=>nomatch z) h
 | @ins a C dx fs ea cl ha hn htk hm=>
  cases (show u=Value.ref a from rx)
  obtain ⟨mA,O,_⟩ :=ZAm I.hok ea
  obtain ⟨od,J,_⟩ :=O.look
  exact PySem.W.kia_one (PySem.W.kitx_own (cl.get _) cl.hd ha hn htk hm) I.kIn J e (fun z=>nomatch z) h
end
end L2
namespace L2
open PySem PySem.Spec PyProof.Rows
structure Room (k:Nat) (A:Around):Prop where
 hd:A.handled=none
 dp:A.depth + 3 * k + 5 < recursionLimit
 un:A.units + 16 * k + 200 < cLine
theorem Room.mono {j k:Nat} {A:Around} (r:Room k A) (h:j≤k):Room j A:=⟨r.hd,by have:=r.dp; omega,by have:=r.un; omega⟩
theorem Room.deeper {k:Nat} {A:Around} (r:Room (k + 1) A) (env:Env):Room k (A.deeper env):=
 ⟨r.hd,by have:=r.dp; show A.depth + 1 + 3 * k + 5 < _; omega,by have:=r.un; show A.units + 3 + 16 * k + 200 < _; omega⟩
theorem ZHr {A:Around} {C:Addr} {us:List Value} {kw:List (Str × Value)}:(A.under (.builtin "type.__call__" ⟨.ref C :: us,kw⟩)).depth=A.depth + 1:=by
 first | rfl | simp [Around.under,Code.weight,Code.isCreation,Code.isGuard,Code.isCaller,Code.frames,Code.isFrame,guardIds]
theorem ZHs {A:Around} {C:Addr} {us:List Value} {kw:List (Str × Value)}:(A.under (.builtin "type.__call__" ⟨.ref C :: us,kw⟩)).units=A.units + 1:=by
 first | rfl | simp [Around.under,Code.cUnits,Code.frames,Code.isFrame]
theorem Room.make {k:Nat} {A:Around} (r:Room (k + 1) A) (C:Addr) (us:List Value) (kw:List (Str × Value)):Room k (A.under (.builtin "type.__call__" ⟨.ref C :: us,kw⟩)):=
 ⟨r.hd,by have:=r.dp; rw [ZHr]; omega,by have:=r.un; rw [ZHs]; omega⟩
theorem Room.depth {k:Nat} {A:Around} (r:Room k A):A.depth < recursionLimit:=by have:=r.dp; omega
theorem Room.units {k:Nat} {A:Around} (r:Room k A):A.units + 64 < cLine:=by have:=r.un; omega
def tNil:TA:=fun _ H Q=>Q [] H
def Zs8 (ta:TE) (tr:TA):TA:=fun σ H Q=>ta σ H fun x H1=>tr σ H1 fun xs H2=>Q (x :: xs) H2
section
variable {X:Cx} {e:Expr} {es:List Expr} {te:TE} {t:TA} {pos:Pos}
theorem Zaf:PA X [] tNil:=fun _ _ _ _ H Q I h=>Calls.spliced_nil ⟨[],H,I,.nil,h⟩
theorem Zaa (ha:PE X e te) (hr:PA X es t) (hs:starEach (e :: es) X.env=(false,eval e X.env) :: starEach es X.env:=by rfl):PA X (e :: es) (Zs8 te t):=by
 intro pos pins s σ H Q I h
 rw [hs]
 show wpAny _ _ (spliced ((false,eval e X.env) :: backTo pos (starEach es X.env))) _ _ s
 refine Calls.spliced_cons (thn (ha pins s σ H _ I h) fun u s1 ⟨x,H1,I1,r1,q1⟩ =>?_)
 exact thn (hr pos pins s1 σ H1 _ I1 q1) fun us s2 ⟨xs,H2,I2,r2,q2⟩ =>⟨x :: xs,H2,I2,.cons r1 r2,q2⟩
def tTup (t:TA):TE:=fun σ H Q=>t σ H fun xs H1=>xs.length≤sizeLine∧∀ p,H1 p=none→Q (.ref p) (upd H1 p (.tup xs))
def tLst (t:TA):TE:=fun σ H Q=>t σ H fun xs H1=>xs.length≤sizeLine∧∀ p,H1 p=none→Q (.ref p) (upd H1 p (.lst xs))
theorem Zhy {x1} (h:PA X es t):PE X (.Tuple es x1 pos) (tTup t):=by
 intro pins s σ H Q I hq
 refine wpAny_Tuple_spliced (thn (h pos pins s σ H _ I hq) fun us s1 ⟨xs,H1,I1,r,z,q⟩ =>⟨by rw [← r.length]; exact z,?_⟩)
 have hf:H1 s1.heap.objs.size=none:=I1.hok.fresh (Nat.le_refl _)
 refine ⟨.ref s1.heap.objs.size,upd H1 s1.heap.objs.size (.tup xs),I1.laid (t':=s1.toks) (fun b u e=>Heap.get?_push_of_some _ e) (Nat.le_refl _) ?_,rfl,q _ hf⟩
 exact ⟨z,us,r,⟨_,Heap.get?_push_size _ rfl,rfl,_,rfl⟩⟩
theorem Za8 (h:PA X es t):PE X (.List es pos) (tLst t):=by
 intro pins s σ H Q I hq
 refine wpAny_List_spliced (thn (h pos pins s σ H _ I hq) fun us s1 ⟨xs,H1,I1,r,z,q⟩ =>⟨by rw [← r.length]; exact z,?_⟩)
 have hf:H1 s1.heap.objs.size=none:=I1.hok.fresh (Nat.le_refl _)
 refine ⟨.ref s1.heap.objs.size,upd H1 s1.heap.objs.size (.lst xs),I1.laid (t':=s1.toks) (fun b u e=>Heap.get?_push_of_some _ e) (Nat.le_refl _) ?_,rfl,q _ hf⟩
 exact ⟨z,us,0,r,Heap.get?_push_size _ rfl⟩
end
abbrev Sp:=List V→Hp→VK→XK→Prop
abbrev CXT:=List Env→Hp→Shared→XK→Value→Shared→Prop
structure Env0 (P:Program) (w:World) (K:PySem.W.Frag) (mg:Str→Option Value) (base:Heap) (A:Around) (outer:List Env) (s:Shared) (H:Hp):Prop where
 frames:A.frames=some outer
 mod:Mod K mg base
 bs:∀ b o,base.get? b=some o→s.heap.get? b=some o∧H b=none
 bsz:base.objs.size≤s.heap.objs.size
 funs:s.heap.FunFrames base outer
 frf:∀ b ∈ frs outer,H b=none
 hok:HOk P w H s.heap
 bare:AllBare s.gens
def CE (outer:List Env) (P:Program) (w:World) (H:Hp) (s:Shared) (Q:VK) (u:Value) (s':Shared):Prop:=
 ∃ v H',s'.os=s.os∧AllBare s'.gens∧Un (frs outer) [] H H' s.heap s'.heap∧HOk P w H' s'.heap∧RelV v u∧Q v H'
def CR (CX:CXT) (outer:List Env) (P:Program) (w:World) (H:Hp) (s:Shared) (Q:VK) (E:XK) (r:Result) (s':Shared):Prop:=
 match r with
 | .ok (.ret u)=>CE outer P w H s Q u s'
 | .ok _=>False
 | .error e=>CX outer H s E e s'
structure FnOk (P:Program) (w:World) (K:PySem.W.Frag) (mg:Str→Option Value) (base:Heap) (CX:CXT) (k:Nat) (f:Addr) (fd:FuncData) (ps:List Str) (sp:Sp):Prop where
 len:∀ vs H Q E,sp vs H Q E→vs.length=ps.length
 run:∀ (A:Around) (outer:List Env) (s:Shared) (H:Hp) (args:Args) (us:List Value) (vs:List V) (Q:VK) (E:XK),Room k A→Env0 P w K mg base A outer s H→BindsTo s fd args (ps.zip us)→Vals vs us→sp vs H Q E→
  codeAny (model P w) A (.call (.ref f) args) (CR CX outer P w H s Q E) s
theorem FnOk.mono {P:Program} {w:World} {K:PySem.W.Frag} {mg:Str→Option Value} {base:Heap} {CX:CXT} {j k:Nat} {f:Addr} {fd:FuncData} {ps:List Str} {sp:Sp} (F:FnOk P w K mg base CX j f fd ps sp) (h:j≤k) :
  FnOk P w K mg base CX k f fd ps sp:=⟨F.len,fun A outer s H args us vs Q E hr=>F.run A outer s H args us vs Q E (hr.mono h)⟩
theorem Env0.make {P:Program} {w:World} {K:PySem.W.Frag} {mg:Str→Option Value} {base:Heap} {A:Around} {outer:List Env} {s:Shared} {H:Hp} (e:Env0 P w K mg base A outer s H) (C:Addr) (us:List Value) (kw:List (Str × Value)) :
  Env0 P w K mg base (A.under (.builtin "type.__call__" ⟨.ref C :: us,kw⟩)) outer s H:=⟨by first | exact e.frames | (simpa [Around.under,Code.envs,Code.isFrame,pushEnvs] using e.frames),e.mod,e.bs,e.bsz,e.funs,e.frf,e.hok,e.bare⟩
section
variable {X:Cx} {pins:List (Addr × Obj)} {σ:St} {H:Hp} {s s':Shared}
theorem Inv.env0 (I:Inv X pins σ H s):Env0 X.prog X.w X.K X.mg X.base X.A X.stack s H:=
 ⟨I.ok.frames,I.ok.mod,I.bs,Nat.le_trans I.ok.bsz I.sz,I.stack,I.stkFree,I.hok,I.bare⟩
theorem Inv.after {Q:VK} {u:Value} (I:Inv X pins σ H s) (h:CE X.stack X.prog X.w H s Q u s'):EP X pins σ Q u s':=by
 obtain ⟨v,H',os,bare,un,hok,r,q⟩ :=h
 obtain ⟨hh,g,d,t,os'⟩ :=s'
 obtain rfl:os'=s.os:=os
 exact ⟨v,H',I.call (h':=hh) (g':=g) (d':=d) (t':=t) (ch:=[]) un hok bare (fun b z=>absurd z (by simp)),r,q⟩
end
def ZOy (sp:Sp) (dvs:List V) (E:XK) (t:TA):TE:=fun σ H Q=>t σ H fun vs H1=>sp (vs ++ dvs) H1 Q E
def ZLZ (C:Addr) (sp:Sp) (dvs:List V) (E:XK) (t:TA):TE:=fun σ H Q=>t σ H fun vs H1=>∀ x dx,H1 x=none→H1 dx=none→dx ≠ x→
 sp (.ref x :: (vs ++ dvs)) (upd (upd H1 dx (.own x)) x (.ins C dx [])) (fun v H2=>v=.non∧Q (.ref x) H2) E
def ZaW (K:PySem.W.Frag) (fd:FuncData) (ps:List Str) (ds:List Value):Prop:=
 ∀ (s:Shared) (us:List Value),K.In s.heap→(us ++ ds).length=ps.length→BindsTo s fd ⟨us,[]⟩ (ps.zip (us ++ ds))
theorem ZaW.all {K:PySem.W.Frag} {fd:FuncData} {ps:List Str} (h:∀ us:List Value,us.length=ps.length→bindArgs fd ⟨us,[]⟩=pure (ps.zip us)):ZaW K fd ps []:=fun s us _ hl=>by
 rw [List.append_nil] at hl ⊢
 exact .of_eq (h us hl)
def ZoV (CX:CXT) (X:Cx) (E:XK):Prop:=∀ (pins:List (Addr × Obj)) (σ:St) (H:Hp) (s:Shared) (e:Value) (s':Shared),Inv X pins σ H s→CX X.stack H s E e s'→X.xe e s'
section
variable {X:Cx} {CX:CXT} {k:Nat} {f C:Addr} {fd:FuncData} {ps:List Str} {sp:Sp} {dvs:List V} {ds:List Value} {E:XK} {x m:Str} {p pos apos:Pos} {e o:Expr} {es:List Expr} {ta:TE} {t:TA}
theorem ZGR {pins:List (Addr × Obj)} {σ:St} {H:Hp} {s:Shared} {Q:VK} {us:List Value} {vs:List V} (F:FnOk X.prog X.w X.K X.mg X.base CX k f fd ps sp) (hr:Room k X.A) (hb:ZaW X.K fd ps ds) (hd:Vals dvs ds) (hx:ZoV CX X E)
  (I:Inv X pins σ H s) (r:Vals vs us) (h:sp (vs ++ dvs) H Q E):wpAny (model X.prog X.w) X.A (call (.ref f) us) (EP X pins σ Q) X.xe s:=by
 have r2:Vals (vs ++ dvs) (us ++ ds):=r.append hd
 have hl:(us ++ ds).length=ps.length:=by rw [← r2.length]; exact F.len _ _ _ _ h
 refine wpAny_call (codeAny_mono (F.run X.A X.stack s H ⟨us,[]⟩ (us ++ ds) (vs ++ dvs) Q E hr I.env0 (hb s us I.kIn hl) r2 h) fun r s' hq=>?_)
 cases r with
 | error e=>exact hx pins σ H s e s' I hq
 | ok fl=>
  cases fl with
  | ret u=>exact I.after hq
  | next=>exact False.elim hq
  | brk=>exact False.elim hq
  | cont=>exact False.elim hq
theorem ZFm (F:FnOk X.prog X.w X.K X.mg X.base CX k f fd ps sp) (hr:Room k X.A) (hg:Gl X x) (hm:X.mg x=some (.ref f)) (hk:PySem.W.keepIn X.K (.ref f)=true) (hb:ZaW X.K fd ps ds) (hd:Vals dvs ds) (hx:ZoV CX X E)
  (ha:PA X (e :: es) t) (hdb:(x == ("__debug__" : Str))=false:=by decide) (he:starEach (e :: es) X.env=(false,eval e X.env) :: starEach es X.env:=by rfl) (hpl:(backTo pos (starEach es X.env)).any (·.1)=false:=by rfl) :
  PE X (.Call (.Name x p) (e :: es) [] pos) (ZOy sp dvs E t):=by
 intro pins s σ H Q I h
 refine wpAny_Call_Name_kw (ZxO I hg hm ?_ hdb)
 refine PySem.W.callWith_K (h₀:=X.base) I.ok.mod.kin hk (thn (ha pos pins s σ H _ I h) fun us s1 ⟨vs,H1,I1,r,q⟩ =>⟨I1.kIn,?_⟩) he hpl
 exact ZGR F hr hb hd hx I1 r q
structure Mk (K:PySem.W.Frag) (C f:Addr):Prop where
 makes:PySem.W.makesIn K C=true
 init:PySem.W.findIn K (.ref C) "__init__" = some (some (.ref f))
 fn:PySem.W.isFn K (.ref f)=true
 kp:PySem.W.keepIn K (.ref C)=true
theorem ZGS {pins:List (Addr × Obj)} {σ:St} {H:Hp} {s:Shared} {Q:VK} {us:List Value} {vs:List V} (M:Mk X.K C f) (F:FnOk X.prog X.w X.K X.mg X.base CX k f fd ps sp) (hr:Room (k + 1) X.A) (hb:ZaW X.K fd ps ds) (hd:Vals dvs ds)
  (hx:ZoV CX X E) (I:Inv X pins σ H s) (r:Vals vs us)
  (h:∀ x dx,H x=none→H dx=none→dx ≠ x→sp (.ref x :: (vs ++ dvs)) (upd (upd H dx (.own x)) x (.ins C dx [])) (fun v H2=>v=.non∧Q (.ref x) H2) E) :
  wpAny (model X.prog X.w) X.A (call (.ref C) us) (EP X pins σ Q) X.xe s:=by
 have hq:=h (s.heap.objs.size + 1) s.heap.objs.size (I.hok.fresh (Nat.le_succ _)) (I.hok.fresh (Nat.le_refl _)) (Nat.ne_of_lt (Nat.lt_succ_self _))
 have I2:=Inv.made (C:=C) I
 have r2:Vals (V.ref (s.heap.objs.size + 1) :: (vs ++ dvs)) (Value.ref (s.heap.objs.size + 1) :: (us ++ ds)):=.cons rfl (r.append hd)
 have hl:(Value.ref (s.heap.objs.size + 1) :: us ++ ds).length=ps.length:=by
  have e:=r2.length
  rw [F.len _ _ _ _ hq] at e
  exact e.symm
 refine wpAny_call (ZLj (f:=f) I.kIn M.makes M.init (beq_iff_eq.mp M.fn) (codeAny_mono (F.run _ X.stack _ _ ⟨Value.ref (s.heap.objs.size + 1) :: us,[]⟩ (Value.ref (s.heap.objs.size + 1) :: (us ++ ds)) _ _ E (hr.make C us [])
  (I2.env0.make C us []) (hb _ (Value.ref (s.heap.objs.size + 1) :: us) I2.kIn hl) r2 hq) fun r s' hq'=>?_))
 cases r with
 | error e=>exact hx pins σ _ _ e s' I2 hq'
 | ok fl=>
  cases fl with
  | ret u=>
   obtain ⟨v,H',I3,rv,ev,q3⟩ :=I2.after hq'
   subst ev
   exact ⟨rv,⟨V.ref (s.heap.objs.size + 1),H',I3,rfl,q3⟩⟩
  | next=>exact False.elim hq'
  | brk=>exact False.elim hq'
  | cont=>exact False.elim hq'
theorem ZOa (M:Mk X.K C f) (F:FnOk X.prog X.w X.K X.mg X.base CX k f fd ps sp) (hr:Room (k + 1) X.A) (hg:Gl X x) (hm:X.mg x=some (.ref C)) (hb:ZaW X.K fd ps ds) (hd:Vals dvs ds) (hx:ZoV CX X E)
  (ha:PA X (e :: es) t) (hdb:(x == ("__debug__" : Str))=false:=by decide) (he:starEach (e :: es) X.env=(false,eval e X.env) :: starEach es X.env:=by rfl) (hpl:(backTo pos (starEach es X.env)).any (·.1)=false:=by rfl) :
  PE X (.Call (.Name x p) (e :: es) [] pos) (ZLZ C sp dvs E t):=by
 intro pins s σ H Q I h
 refine wpAny_Call_Name_kw (ZxO I hg hm ?_ hdb)
 refine PySem.W.callWith_K (h₀:=X.base) I.ok.mod.kin M.kp (thn (ha pos pins s σ H _ I h) fun us s1 ⟨vs,H1,I1,r,q⟩ =>⟨I1.kIn,?_⟩) he hpl
 exact ZGS M F hr hb hd hx I1 r q
theorem ZLA (M:Mk X.K C f) (F:FnOk X.prog X.w X.K X.mg X.base CX k f fd ps sp) (hr:Room (k + 1) X.A) (hg:Gl X x) (hm:X.mg x=some (.ref C)) (hb:ZaW X.K fd ps ds) (hd:Vals dvs ds) (hx:ZoV CX X E)
  (hdb:(x == ("__debug__" : Str))=false:=by decide):PE X (.Call (.Name x p) [] [] pos) (ZLZ C sp dvs E tNil):=by
 intro pins s σ H Q I h
 refine wpAny_Call_Name_kw (ZxO I hg hm ?_ hdb)
 exact PySem.W.callWith_K0 I.kIn M.kp (ZGS (us:=[]) M F hr hb hd hx I .nil h)
end
section
variable {X:Cx} {CX:CXT} {k:Nat} {f C:Addr} {fd:FuncData} {ps ks:List Str} {sp:Sp} {E:XK} {x m:Str} {p pos apos kpos:Pos} {e o:Expr} {es:List Expr} {kws:List Keyword} {te ta:TE} {t tk:TA} {nm:Option Str}
variable {g:List Value→List Value→List Value} {gV:List V→List V→List V}
end
structure FnScope (N P:List Str) (sc:Scope):Prop where
 kind:sc.kind=.function
 co:sc.isCoroutine=false
 gen:sc.isGenerator=false
 nd:N.Nodup
 pre:N.take P.length=P
 par:∀ x ∈ P,sc.names.lookup x=some .local∨sc.names.lookup x=some .cell
 nofree:∀ y ∈ sc.names,y.2 ≠ .free
theorem ZCx {kindOf:Str→Option NameKind} {x:Str}:∀ {binds:List (Str × Value)} {m:Str→Option Value},(∀ v,(x,v) ∉ binds)→bindL kindOf binds m x=m x
 | [],_,_=>rfl
 | (n,v) :: r,m,h=>by
  unfold bindL
  rw [ZCx fun w hw=>h w (List.mem_cons_of_mem _ hw)]
  split
  ·have:x ≠ n:=by rintro rfl; exact h v List.mem_cons_self
   simp [this]
  ·rfl
theorem ZCv {kindOf:Str→Option NameKind} {x:Str}:∀ {binds:List (Str × Value)} {m:Str→Option Value},(∀ v,(x,v) ∉ binds)→bindC kindOf binds m x=m x
 | [],_,_=>rfl
 | (n,v) :: r,m,h=>by
  unfold bindC
  rw [ZCv fun w hw=>h w (List.mem_cons_of_mem _ hw)]
  split
  ·rfl
  ·have:x ≠ n:=by rintro rfl; exact h v List.mem_cons_self
   simp [this]
theorem ZCw {kindOf:Str→Option NameKind} {x:Str} {v:Value}:∀ {P:List Str} {vs:List Value} {i:Nat} {m:Str→Option Value},P.Nodup→P[i]?=some x→vs[i]?=some v→kindOf x=some .local→
  bindL kindOf (P.zip vs) m x=some v
 | [],_,_,_,_,h,_,_=>by simp at h
 | _ :: _,[],_,_,_,_,h,_=>by simp at h
 | p :: P,w :: vs,0,m,nd,h1,h2,hk=>by
  simp at h1 h2; subst h1; subst h2
  show bindL kindOf ((p,w) :: P.zip vs) m p=_
  unfold bindL
  rw [ZCx fun v hv=>(List.nodup_cons.mp nd).1 (List.of_mem_zip hv).1,if_pos hk]
  simp
 | p :: P,w :: vs,i + 1,m,nd,h1,h2,hk=>by
  show bindL kindOf ((p,w) :: P.zip vs) m x=_
  unfold bindL
  exact ZCw (i:=i) (List.nodup_cons.mp nd).2 (by simpa using h1) (by simpa using h2) hk
theorem ZCu {kindOf:Str→Option NameKind} {x:Str} {v:Value}:∀ {P:List Str} {vs:List Value} {i:Nat} {m:Str→Option Value},P.Nodup→P[i]?=some x→vs[i]?=some v→kindOf x ≠ some .local→
  bindC kindOf (P.zip vs) m x=some v
 | [],_,_,_,_,h,_,_=>by simp at h
 | _ :: _,[],_,_,_,_,h,_=>by simp at h
 | p :: P,w :: vs,0,m,nd,h1,h2,hk=>by
  simp at h1 h2; subst h1; subst h2
  show bindC kindOf ((p,w) :: P.zip vs) m p=_
  unfold bindC
  rw [ZCv fun v hv=>(List.nodup_cons.mp nd).1 (List.of_mem_zip hv).1,if_neg hk]
  simp
 | p :: P,w :: vs,i + 1,m,nd,h1,h2,hk=>by
  show bindC kindOf ((p,w) :: P.zip vs) m x=_
  unfold bindC
  exact ZCu (i:=i) (List.nodup_cons.mp nd).2 (by simpa using h1) (by simpa using h2) hk
def start (N:List Str) (vs:List V):St:=vs.map some ++ List.replicate (N.length - vs.length) none
def cxOf (CX:CXT) (P:Program) (w:World) (K:PySem.W.Frag) (mg:Str→Option Value) (base:Heap) (N:List Str) (qual:Str) (scope:Scope) (f:Addr) (cd:Value) (A:Around) (outer:List Env) (s:Shared) (H:Hp) (E:XK):Cx where
 prog:=P
 w:=w
 K:=K
 mg:=mg
 base:=base
 A:=A.deeper (envOfC qual scope s.heap.objs.size f cd)
 N:=N
 s₀:=s
 H₀:=H
 env:=envOfC qual scope s.heap.objs.size f cd
 outer:=outer
 stack:=envOfC qual scope s.heap.objs.size f cd :: outer
 ex:=[]
 calm:=true
 fn:=fun _=>true
 pn:=[]
 xe:=fun e s'=>wpAny (model P w) (A.deeper (envOfC qual scope s.heap.objs.size f cd)) (leaving (envOfC qual scope s.heap.objs.size f cd) e) (fun _ s''=>CX outer H s E e s'') (fun e' s''=>CX outer H s E e' s'') s'
theorem ZF0 {sc:Scope} {n:Nat} {x:Str} (h:sc.names.lookup x=some .cell):∃ c,(cellsFrom n sc.names []).lookup x=some c:=by
 have q:=PySem.W.cellsFrom_some sc.names n [] (.inl h)
 exact Option.isSome_iff_exists.mp q
theorem ZIR {CX:CXT} {P:Program} {w:World} {K:PySem.W.Frag} {mg:Str→Option Value} {base:Heap} {N ps:List Str} {qual:Str} {scope:Scope} {f:Addr} {cd:Value} {A:Around} {outer:List Env} {s s1:Shared} {H:Hp} {E:XK} {us:List Value} {vs:List V}
  (S:FnScope N ps scope) (hd:A.handled=none) (e0:Env0 P w K mg base A outer s H) (hl:vs.length=ps.length) (r:Vals vs us)
  (x:InCallC s s.heap.objs.size (bindL (envOfC qual scope s.heap.objs.size f cd).kindOf (ps.zip us) fun _=>none) (cellsFrom (s.heap.objs.size + 1) scope.names []) (bindC (envOfC qual scope s.heap.objs.size f cd).kindOf (ps.zip us) fun _=>none) s1) :
  Inv (cxOf CX P w K mg base N qual scope f cd A outer s H E) [] (start N vs) H s1:=by
 have hpl:ps.length≤N.length:=by have:=congrArg List.length S.pre; rw [List.length_take] at this; omega
 obtain ⟨h1,tk,rfl,hk⟩ :=x.done
 have noA:∀ b:Addr,b ∉ (cxOf CX P w K mg base N qual scope f cd A outer s H E).ex:=fun b z=>absurd (show b ∈ ([]:List Addr) from z) (by simp)
 refine ⟨⟨e0.mod,S.kind,rfl,rfl,Nat.le_refl _,fun y z c h1 h2=>?_,fun y hy=>?_,fun y c _ h=>?_,fun _=>hd,Around.frames_deeper e0.frames,.inr ⟨rfl,rfl⟩,fun b z=>absurd z (noA b),e0.bs,e0.bsz,fun b _ _=>noA b,fun b z=>absurd z (noA b),e0.funs,e0.frf⟩,
  rfl,e0.bare,Un.kept hk,⟨_,x.toInCall.ns,fun i y v h1 h2 h3=>?_⟩,fun y c h=>⟨_,x.cell y c h⟩,e0.hok.fresh (Nat.le_refl _),fun y c h=>?_,fun p hp=>absurd (show p ∈ ([]:List (Addr × Obj)) from hp) (by simp),e0.hok.kept hk,?_⟩
 ·exact name_of_addr x.apart (PySem.mem_of_lookup h1) (PySem.mem_of_lookup h2)
 ·have hy:scope.names.lookup y=some .cell∨scope.names.lookup y=some .free:=hy
  rcases hy with hy | hy
  ·exact ZF0 hy
  ·exact absurd rfl (S.nofree _ (PySem.mem_of_lookup hy))
 ·exact Nat.le_of_lt (x.above y c (PySem.mem_of_lookup h))
 ·have hi:i < vs.length:=by
   unfold start at h2
   by_cases hi:i < vs.length
   ·exact hi
   ·rw [List.getElem?_append_right (by simpa using hi)] at h2
    rw [List.getElem?_replicate] at h2
    split at h2 <;> cases h2
  have ha:vs[i]?=some v:=by
   unfold start at h2
   rw [List.getElem?_append_left (by simpa using hi),List.getElem?_map] at h2
   cases e:vs[i]? with
   | none=>rw [e] at h2; cases h2
   | some a=>rw [e] at h2; cases h2; rfl
  obtain ⟨u,hu,rv⟩ :=r.get ha
  have hp:ps[i]?=some y:=by
   rw [← S.pre,List.getElem?_take_of_lt (by omega)]; exact h1
  have ndP:ps.Nodup:=by rw [← S.pre]; exact S.nd.sublist (List.take_sublist _ _)
  refine ⟨u,rv,?_⟩
  rcases S.par y (List.mem_of_getElem? hp) with k | k
  ·exact .inl ⟨k,ZCw ndP hp hu k⟩
  ·obtain ⟨c,e⟩ :=ZF0 (n:=s.heap.objs.size + 1) k
   refine .inr ⟨.inl k,c,e,?_⟩
   have q:=x.cell y c e
   rw [ZCu ndP hp hu (by show scope.names.lookup y ≠ _; rw [k]; decide)] at q
   exact q
 ·exact e0.hok.fresh (Nat.le_of_lt (x.above y c (PySem.mem_of_lookup h)))
 ·unfold start
  show _=N.length
  rw [List.length_append,List.length_map,List.length_replicate]
  omega
theorem ZOW {CX:CXT} {P:Program} {w:World} {K:PySem.W.Frag} {mg:Str→Option Value} {base:Heap} {k:Nat} {f:Addr} {name qual:Str} {params:Arguments} {body:List Stmt} {scope:Scope} {dV kV doc pm cdv ct oc:Value} {an od:Option Addr}
  {osl:Array (Option Value)} {N ps:List Str} {sp:Sp} (lk:K.lookup f=some ⟨oc,od,.func (PySem.W.fnOf name qual params body scope dV kV doc pm an cdv ct),osl⟩) (hcd:PySem.W.codeIn K cdv qual=true) (S:FnScope N ps scope)
  (len:∀ vs H Q E,sp vs H Q E→vs.length=ps.length)
  (hbody:∀ (A:Around) (outer:List Env) (s:Shared) (H:Hp) (vs:List V) (Q:VK) (E:XK),Room k (A.deeper (envOfC qual scope s.heap.objs.size f cdv))→sp vs H Q E→
   ∃ t,PSs (cxOf CX P w K mg base N qual scope f cdv A outer s H E) body t∧t { nx:=fun _ H'=>Q .non H',rt:=Q } (start N vs) H) :
  FnOk P w K mg base CX (k + 1) f (PySem.W.fnOf name qual params body scope dV kV doc pm an cdv ct) ps sp:=by
 refine ⟨len,fun A outer s H args us vs Q E hr e0 hb r hsp=>?_⟩
 have hl:=len _ _ _ _ hsp
 have KX:K.In s.heap:=e0.mod.kin.keeps fun b o e=>(e0.bs b o e).1
 have lim:s.heap.NoLimit:=e0.mod.nolimit.keeps fun b o e=>(e0.bs b o e).1
 have hkind:∀ y ∈ ps.zip us,scope.names.lookup y.1=some .local∨(scope.names.lookup y.1=some .cell∧((cellsFrom (s.heap.objs.size + 1) scope.names []).lookup y.1).isSome=true):=fun ⟨n,v⟩ hy=>by
  rcases S.par n (List.of_mem_zip hy).1 with q | q
  ·exact .inl q
  ·exact .inr ⟨q,PySem.W.cellsFrom_some _ _ _ (.inl q)⟩
 refine codeAny_call_function hr.depth (KX _ _ lk) rfl S.co S.gen rfl (PySem.W.codeRec_of KX hcd) (hb _ _ _ _ ?_)
 refine wpAny_newFunctionEnv_cells S.kind hkind fun env he s1 x=>?_
 subst he
 refine ⟨lim.keeps x.toInCall.keep,codeAny_func ?_⟩
 obtain ⟨t,ht,hq⟩ :=hbody A outer s H vs Q E (hr.deeper _) hsp
 have I:Inv (cxOf CX P w K mg base N qual scope f cdv A outer s H E) [] (start N vs) H s1:=ZIR S hr.hd e0 hl r x
 refine wpAny_mono (ht [] s1 (start N vs) H _ I hq) (fun fl s' hs=>?_) fun e s' hs=>hs
 have fin:∀ {σ':St} {H':Hp} {v:V} {u:Value},Inv (cxOf CX P w K mg base N qual scope f cdv A outer s H E) [] σ' H' s'→RelV v u→Q v H'→CE outer P w H s Q u s':=
  fun {σ' H' v u} J rv q=>⟨v,H',J.os,J.bare,J.base,J.hok,rv,q⟩
 cases fl with
 | ret u=>
  obtain ⟨v,σ',H',J,rv,q⟩ :=hs
  exact fin J rv q
 | next=>
  obtain ⟨σ',H',J,q⟩ :=hs
  exact fin (v:=V.non) (u:=Value.none) J rfl q
 | brk=>
  obtain ⟨_,_,_,q⟩ :=hs
  exact False.elim q
 | cont=>
  obtain ⟨_,_,_,q⟩ :=hs
  exact False.elim q
end L2
namespace L2
open PySem PySem.Spec PyProof.Rows
section
variable {X:Cx} {x:Str} {p pos:Pos} {e:Expr} {es:List Expr} {t:TA} {id T:String} {r:List V→Hp→VK→Prop}
def tCB (r:List V→Hp→VK→Prop) (t:TA):TE:=fun σ H Q=>t σ H fun vs H1=>r vs H1 Q
theorem Zax (hc:ZlT X (.builtin id) r) (hg:Gl X x) (hm:X.mg x=none) (hv:bootBuiltins x=some (.builtin id)) (ha:PA X (e :: es) t) (hn:x ≠ "__name__":=by decide) (hdb:(x == ("__debug__" : Str))=false:=by decide)
  (he:starEach (e :: es) X.env=(false,eval e X.env) :: starEach es X.env:=by rfl) (hpl:(backTo pos (starEach es X.env)).any (·.1)=false:=by rfl):PE X (.Call (.Name x p) (e :: es) [] pos) (tCB r t):=by
 intro pins s σ H Q I h
 refine wpAny_Call_Name_kw (Zvx I hg hm hv ?_ hn hdb)
 exact PyProof.Rows.callWith_builtin1 (thn (ha pos pins s σ H _ I h) fun us s1 ⟨vs,H1,I1,r1,q1⟩ =>hc pins s1 σ H1 vs us Q I1 r1 q1) he hpl
theorem Zco (hc:ZlT X (.type T) r) (hg:Gl X x) (hm:X.mg x=none) (hv:bootBuiltins x=some (.type T)) (ha:PA X (e :: es) t) (hn:x ≠ "__name__":=by decide) (hdb:(x == ("__debug__" : Str))=false:=by decide)
  (he:starEach (e :: es) X.env=(false,eval e X.env) :: starEach es X.env:=by rfl) (hpl:(backTo pos (starEach es X.env)).any (·.1)=false:=by rfl):PE X (.Call (.Name x p) (e :: es) [] pos) (tCB r t):=by
 intro pins s σ H Q I h
 refine wpAny_Call_Name_kw (Zvx I hg hm hv ?_ hn hdb)
 exact PyProof.Rows.callWith_type1 (thn (ha pos pins s σ H _ I h) fun us s1 ⟨vs,H1,I1,r1,q1⟩ =>hc pins s1 σ H1 vs us Q I1 r1 q1) he hpl
end
end L2
namespace HT
open PySem PyProof.Rows
section
open PySem.SeqAt
open PySem.AutoSeq1 (wpAny_loadPart')
open PySem.MeetsSeq PySem.MeetsSeq2 PySem.MeetsSeq3
end
section
variable {prog:Program} {w:World} {A:Around} {E:Value→Shared→Prop} {s:Shared}
def sIx (n d:Nat):Option Int→Nat
 | none=>d
 | some v=>if v < 0 then (v + (n:Int)).toNat else min v.toNat n
theorem sIx_none (n d:Nat):sIx n d none=d:=rfl
theorem sIx_nat (n d k:Nat):sIx n d (some (k:Int))=min k n:=by
 show (if (k:Int) < 0 then ((k:Int) + (n:Int)).toNat else min (k:Int).toNat n)=min k n
 rw [if_neg (by omega),Int.toNat_natCast]
theorem ZP3 (n d:Nat) (hd:d≤n) (o:Option Int):sIx n d o≤n:=by
 cases o with
 | none=>exact hd
 | some v=>
  show (if v < 0 then (v + (n:Int)).toNat else min v.toNat n)≤n
  by_cases hv:v < 0
  ·rw [if_pos hv]; omega
  ·rw [if_neg hv]; exact Nat.min_le_right _ _
theorem ZIi (v:Int) (n d:Nat):(if v < 0 then max (v + (n:Int)) 0 else min v (n:Int))=((sIx n d (some v):Nat):Int):=by
 show (if v < 0 then max (v + (n:Int)) 0 else min v (n:Int))=(((if v < 0 then (v + (n:Int)).toNat else min v.toNat n):Nat):Int)
 by_cases hv:v < 0
 ·simp only [if_pos hv]; omega
 ·simp only [if_neg hv]; omega
theorem ZHb (lo hi:Option Int) (n:Nat):Builtin.Slice.sliceAdjust lo hi 1 (n:Int)=(((sIx n 0 lo:Nat):Int),((sIx n n hi:Nat):Int)):=by
 have h1 : ¬ ((1:Int) < 0):=by omega
 unfold Builtin.Slice.sliceAdjust
 simp only [h1,if_false]
 refine Prod.ext ?_ ?_
 ·cases lo with
  | none=>rfl
  | some v=>exact ZIi v n 0
 ·cases hi with
  | none=>rfl
  | some v=>exact ZIi v n n
theorem ZHB (i j:Nat):Builtin.Slice.slicePlaces (i:Int) (j:Int) 1=j - i:=by
 unfold Builtin.Slice.slicePlaces
 have h1:(1:Int) > 0:=by omega
 simp only [h1,if_true,Int.ediv_one]
 split <;> omega
theorem ZzO {v:Value} {o:Option Int} {Q:Option Int→Shared→Prop} (p:IsPart v o) (h:Q o s):wpAny (model prog w) A (Builtin.Slice.slicePartIndex v) Q E s:=by
 cases p with
 | none=>exact slicePart_none h
 | int i t=>exact slicePart_int h
theorem Zwd {sl:Addr} {vl vu:Value} {lo hi:Option Int} {n:Nat} {Q:Int × Int × Nat→Shared→Prop} (hs:s.heap.IsSliceOf sl vl vu .none) (pl:IsPart vl lo) (pu:IsPart vu hi)
  (h:Q (((sIx n 0 lo:Nat):Int),1,sIx n n hi - sIx n 0 lo) s):wpAny (model prog w) A (Builtin.Slice.sliceApplied (.ref sl) (pure (n:Int))) Q E s:=by
 obtain ⟨os,hos,hcs,hds⟩ :=id hs
 unfold Builtin.Slice.sliceApplied Builtin.Slice.sliceFields
 refine wpAny_bind (wpAny_bind (wpAny_field hos hds (x:=vl) rfl (wpAny_bind (wpAny_field hos hds (x:=vu) rfl (wpAny_bind (wpAny_field hos hds (x:=.none) rfl (wpAny_pure ?_)))))))
 refine wpAny_bind (slicePart_none ?_)
 show wpAny _ _ (if ((1:Int) == 0)=true then _ else _) _ _ s
 rw [if_neg (by decide)]
 refine wpAny_bind (ZzO pl (wpAny_bind (ZzO pu (wpAny_bind (wpAny_pure ?_)))))
 show wpAny _ _ (match Builtin.Slice.sliceAdjust lo hi 1 (n:Int) with | (lo,hi)=>pure (lo,(1:Int),Builtin.Slice.slicePlaces lo hi 1)) _ _ s
 rw [ZHb lo hi n]
 show wpAny _ _ (pure (((sIx n 0 lo:Nat):Int),(1:Int),Builtin.Slice.slicePlaces ((sIx n 0 lo:Nat):Int) ((sIx n n hi:Nat):Int) 1)) _ _ s
 rw [ZHB]
 exact wpAny_pure h
theorem ZLC (xs:Array Value) (i k:Nat):((List.range k).filterMap fun (m:Nat)=>xs[((i:Int) + (m:Int) * 1).toNat]?).toArray=((xs.toList.drop i).take k).toArray:=by
 have e:(fun (m:Nat)=>xs[((i:Int) + (m:Int) * 1).toNat]?)=fun m=>xs[i + m]?:=by
  funext m
  have:((i:Int) + (m:Int) * 1).toNat=i + m:=by omega
  rw [this]
 rw [e]
 have:=pick_run xs i k
 rw [List.filterMap_map] at this
 have e2:((fun x=>xs[x]?) ∘ fun x=>i + x)=fun m=>xs[i + m]?:=rfl
 rw [e2] at this
 rw [this]
theorem getItem_tuple_cut {t sl:Addr} {items:Array Value} {vl vu:Value} {lo hi:Option Int} {Q:Value→Shared→Prop} (ht:IsTup s.heap t items) (hs:s.heap.IsSliceOf sl vl vu .none) (pl:IsPart vl lo) (pu:IsPart vu hi)
  (hw : ¬ (sIx items.size 0 lo=0∧sIx items.size items.size hi=items.size))
  (h:Q (.ref s.heap.objs.size) { s with heap:=s.heap.push { cls:=.type "tuple",data:=.seq ((items.toList.drop (sIx items.size 0 lo)).take (sIx items.size items.size hi - sIx items.size 0 lo)).toArray } })
  (hsz:items.size≤sizeLine):wpAny (model prog w) A (getItem (.ref t) (.ref sl)) Q E s:=by
 have htake:sizeOk (.seq ((items.toList.drop (sIx items.size 0 lo)).take (sIx items.size items.size hi - sIx items.size 0 lo)).toArray):=by
  show ((items.toList.drop (sIx items.size 0 lo)).take (sIx items.size items.size hi - sIx items.size 0 lo)).toArray.size≤sizeLine
  rw [List.size_toArray,List.length_take,List.length_drop,Array.length_toList]
  omega
 have hj:sIx items.size items.size hi≤items.size:=ZP3 _ _ (Nat.le_refl _) hi
 obtain ⟨os,hos,hcs,hds⟩ :=id hs
 have hTs:s.TypeIs (.ref sl) "slice":=⟨os,hos,hcs⟩
 unfold getItem
 try with_reducible refine wpAny_holding ?_
 first | refine wpAny_bind (wpAny_pure ?_) | skip
 refine wpAny_bind (wpAny_sequenceKey ht.typeIs (by decide) ?_)
 refine wpAny_bind (wpAny_callSpecial?_slot (name:=Str.ofString "__getitem__") ht.typeIs PyProof.Rows.slot_tuple_getitem
  (wpAny_call_entry PyProof.Rows.slot_tuple_getitem ht.typeIs entry_tuple_getitem ?_ (args_tuple_getitem _ _)))
 show wpAny _ _ (Builtin.Tuple.tupleItemsOf (.ref t) >>= _) _ _ s
 refine wpAny_bind (tupleItemsOf_ ht ?_)
 refine wpAny_bind (wpAny_typeOf hTs ?_)
 rw [if_pos (by decide)]
 refine wpAny_bind (Zwd hs pl pu ?_)
 have hno : ¬ ((((sIx items.size 0 lo:Nat):Int) == 0 && (1:Int) == 1 && (sIx items.size items.size hi - sIx items.size 0 lo) == items.size)=true):=by
  intro q
  rw [Bool.and_eq_true,Bool.and_eq_true] at q
  have q1:((sIx items.size 0 lo:Nat):Int)=0:=eq_of_beq q.1.1
  have q2:sIx items.size items.size hi - sIx items.size 0 lo=items.size:=eq_of_beq q.2
  exact hw ⟨by omega,by omega⟩
 show wpAny _ _ (if (((sIx items.size 0 lo:Nat):Int) == 0 && (1:Int) == 1 && (sIx items.size items.size hi - sIx items.size 0 lo) == items.size)=true then _ else _) _ _ s
 rw [if_neg hno,ZLC]
 first
  | exact wpAny_bind (m:=Builtin.Tuple.tupleExact _) (wpAny_newObj_type (wpAny_pure ⟨_,rfl,wpAny_pure h⟩) htake)
  | exact wpAny_bind (m:=Builtin.Tuple.tupleExact _) (wpAny_newObj_type (wpAny_bind (wpAny_pure (wpAny_pure ⟨_,rfl,wpAny_pure h⟩))) htake)
  | exact wpAny_bind (wpAny_bind (m:=Builtin.Tuple.tupleExact _) (wpAny_newObj_type (wpAny_pure (wpAny_pure ⟨_,rfl,wpAny_pure h⟩)) htake))
  | exact wpAny_bind (wpAny_bind (m:=Builtin.Tuple.tupleExact _) (wpAny_newObj_type (wpAny_pure ⟨_,rfl,wpAny_pure h⟩) htake))
end
end HT
namespace L2
open PySem PySem.Spec PyProof.Rows
abbrev TO:=St→Hp→(Option Int→Hp→Prop)→Prop
def PO (X:Cx) (e:Option Expr) (t:TO):Prop:=
 ∀ (pins:List (Addr × Obj)) (s:Shared) (σ:St) (H:Hp) (Q:Option Int→Hp→Prop),Inv X pins σ H s→t σ H Q→
  wpAny (model X.prog X.w) X.A (evalPart e X.env) (fun u s'=>∃ o H',Inv X pins σ H' s'∧IsPart u o∧Q o H') X.xe s
def ZFB:TO:=fun _ H Q=>Q none H
def ZOA (t:TE):TO:=fun σ H Q=>t σ H fun x H1=>∃ i,x=.int i∧Q (some i) H1
section
variable {X:Cx} {e:Expr} {te:TE} {lo hi:Option Expr} {tl th:TO} {pos p2:Pos}
theorem Zjk:PO X none ZFB:=by
 intro pins s σ H Q I h
 rw [evalPart_none]
 exact wpAny_pure ⟨none,H,I,.none,h⟩
theorem Zfh (h:PE X e te):PO X (some e) (ZOA te):=by
 intro pins s σ H Q I hw
 rw [evalPart_some]
 refine thn (h pins s σ H _ I hw) fun u s1 ⟨x,H1,I1,r1,q1⟩ =>?_
 obtain ⟨i,rfl,q⟩ :=q1
 obtain ⟨t,rfl⟩ :=r1
 exact ⟨some i,H1,I1,.int i t,q⟩
def SlR (X:Cx) (r:V→Option Int→Option Int→Hp→VK→Prop):Prop:=
 ∀ (pins:List (Addr × Obj)) (s:Shared) (σ:St) (H:Hp) (x:V) (v vl vu:Value) (lo hi:Option Int) (sl:Addr) (Q:VK),Inv X pins σ H s→RelV x v→s.heap.IsSliceOf sl vl vu .none→IsPart vl lo→IsPart vu hi→r x lo hi H Q→
  ∃ T id,typeLookup (.type T) "__getitem__" = pure (some (.builtin id))∧s.TypeIs v T∧wpAny (model X.prog X.w) X.A (getItem v (.ref sl)) (EP X pins σ Q) X.xe s
theorem SlR.or {r r':V→Option Int→Option Int→Hp→VK→Prop} (h:SlR X r) (h':SlR X r'):SlR X (fun x lo hi H Q=>r x lo hi H Q∨r' x lo hi H Q):=by
 intro pins s σ H x v vl vu lo hi sl Q I rx hs pl pu q
 rcases q with q | q
 ·exact h pins s σ H x v vl vu lo hi sl Q I rx hs pl pu q
 ·exact h' pins s σ H x v vl vu lo hi sl Q I rx hs pl pu q
def tSl (r:V→Option Int→Option Int→Hp→VK→Prop) (te:TE) (tl th:TO):TE:=fun σ H Q=>te σ H fun x H1=>tl σ H1 fun l H2=>th σ H2 fun u H3=>r x l u H3 Q
theorem Zeq {r:V→Option Int→Option Int→Hp→VK→Prop} (hr:SlR X r) (he:PE X e te) (hl:PO X lo tl) (hu:PO X hi th):PE X (.Subscript e (.Slice lo hi none p2) pos) (tSl r te tl th):=by
 intro pins s σ H Q I h
 refine Subscript_ (thn (he pins s σ H _ I h) fun v s1 ⟨x,H1,I1,r1,q1⟩ =>?_)
 refine wpAny_Slice (thn (hl pins s1 σ H1 _ I1 q1) fun vl s2 ⟨l,H2,I2,pl,q2⟩ =>thn (hu pins s2 σ H2 _ I2 q2) fun vu s3 ⟨u,H3,I3,pu,q3⟩ =>?_)
 rw [evalPart_none]
 refine wpAny_pure ?_
 have I4:Inv X pins σ H3 { s3 with heap:=s3.heap.push { cls:=.type "slice",data:=.fields #[vl,vu,.none] } }:=I3.kept (t':=s3.toks) fun b ob q=>Heap.get?_push_of_some _ q
 obtain ⟨T,id,hT,ht,hg⟩ :=hr pins { s3 with heap:=s3.heap.push { cls:=.type "slice",data:=.fields #[vl,vu,.none] } } σ H3 x v vl vu l u s3.heap.objs.size Q I4 r1 (Heap.IsSliceOf.new ..) pl pu q3
 show wpAny (model X.prog X.w) X.A (subscriptTail e (.Slice lo hi none p2) v (.ref s3.heap.objs.size)) (EP X pins σ Q) X.xe { s3 with heap:=s3.heap.push { cls:=.type "slice",data:=.fields #[vl,vu,.none] } }
 exact tail_any (ops:=[.ref s3.heap.objs.size,v]) ht hT hg (by with_unfolding_all rfl)
def cutV (xs:List V) (lo hi:Option Int):List V:=(xs.drop (HT.sIx xs.length 0 lo)).take (HT.sIx xs.length xs.length hi - HT.sIx xs.length 0 lo)
theorem Zw7 (xs:List V) (lo hi:Option Int):(cutV xs lo hi).length≤xs.length:=by
 unfold cutV
 rw [List.length_take,List.length_drop]
 omega
def rSlT (K:PySem.W.Frag):V→Option Int→Option Int→Hp→VK→Prop:=fun x lo hi H Q=>∃ a xs,x=.ref a∧SqT K H a xs∧
 ¬ (HT.sIx xs.length 0 lo=0∧HT.sIx xs.length xs.length hi=xs.length)∧∀ p,H p=none→Q (.ref p) (upd H p (.tup (cutV xs lo hi)))
theorem ZP7:SlR X (rSlT X.K):=by
 intro pins s σ H x v vl vu lo hi sl Q I rx hs pl pu h
 obtain ⟨a,xs,rfl,hx,hw,q⟩ :=h
 cases rx
 obtain ⟨its,r,ht,hz⟩ :=I.tuple hx
 have hlen:its.toArray.size=xs.length:=by rw [List.size_toArray]; exact r.length.symm
 refine ⟨"tuple",_,PyProof.Rows.slot_tuple_getitem.lookup,ht.typeIs,?_⟩
 refine HT.getItem_tuple_cut ht hs pl pu (by rw [hlen]; exact hw) ?_ (by rw [hlen]; exact hz)
 rw [hlen]
 refine ⟨.ref s.heap.objs.size,_,I.laid (t':=s.toks) (o:=.tup (cutV xs lo hi)) (fun b ob q=>Heap.get?_push_of_some _ q) (Nat.le_refl _) ?_,rfl,q _ (I.hok.fresh (Nat.le_refl _))⟩
 exact ⟨Nat.le_trans (Zw7 xs lo hi) hz,_,(r.drop (HT.sIx xs.length 0 lo)).take (HT.sIx xs.length xs.length hi - HT.sIx xs.length 0 lo),IsTup.new _ _⟩
end
end L2
namespace L2
open PySem PySem.Spec PyProof.Rows
def ixN (n:Nat) (i:Int):Option Nat:=if 0≤i then (if i < n then some i.toNat else none) else if -(n:Int)≤i then some (i + n).toNat else none
def atI {α:Type} (xs:List α) (i:Int):Option α:=(ixN xs.length i).bind fun j=>xs[j]?
theorem ZNG {n:Nat} {i:Int} {j:Nat} (h:ixN n i=some j):seqIndex? i n=some j∧j < n∧-(n:Int)≤i∧i < n:=by
 unfold ixN at h
 by_cases h0:0≤i
 ·rw [if_pos h0] at h
  by_cases h1:i < n
  ·rw [if_pos h1] at h
   have e:i.toNat=j:=Option.some.inj h
   exact ⟨by rw [seqIndex_of h0 h1,e],by omega,by omega,h1⟩
  ·rw [if_neg h1] at h; cases h
 ·rw [if_neg h0] at h
  by_cases h1 : -(n:Int)≤i
  ·rw [if_pos h1] at h
   have e:(i + n).toNat=j:=Option.some.inj h
   exact ⟨by rw [seqIndex_neg (by omega) h1,e],by omega,h1,by omega⟩
  ·rw [if_neg h1] at h; cases h
theorem ZEF {α:Type} {xs:List α} {i:Int} {v:α} (h:atI xs i=some v):∃ j,seqIndex? i xs.length=some j∧xs[j]?=some v∧j < xs.length∧-(xs.length:Int)≤i∧i < xs.length:=by
 unfold atI at h
 cases e:ixN xs.length i with
 | none=>rw [e] at h; cases h
 | some j=>
  rw [e] at h
  obtain ⟨h1,h2,h3,h4⟩ :=ZNG e
  exact ⟨j,h1,h,h2,h3,h4⟩
theorem ZpQ {α:Type} {xs:List α} {j:Nat} {v:α} (h:xs[j]?=some v):atI xs (j:Int)=some v:=by
 have hj:j < xs.length:=(List.getElem?_eq_some_iff.mp h).1
 have e:ixN xs.length (j:Int)=some j:=by
  unfold ixN
  rw [if_pos (by omega),if_pos (by omega)]; simp
 unfold atI; rw [e]; exact h
def ZNg (b:Expr):Prop:=∀ o i,subscripted b false o i=operate [o,i] (getItem o i)
def IxR (X:Cx) (r:R2):Prop:=
 ∀ (value slice:Expr) (pins:List (Addr × Obj)) (s:Shared) (σ:St) (H:Hp) (x y:V) (v u:Value) (Q:VK),Inv X pins σ H s→RelV x v→RelV y u→r x y H Q→
  subscripted slice false v u=operate [v,u] (getItem v u)→wpAny (model X.prog X.w) X.A (subscriptTail value slice v u) (EP X pins σ Q) X.xe s
def MtR (X:Cx) (id:String) (r:V→List V→Hp→VK→Prop):Prop:=
 ∀ (pins:List (Addr × Obj)) (s:Shared) (σ:St) (H:Hp) (x:V) (xs:List V) (v:Value) (us:List Value) (Q:VK),Inv X pins σ H s→RelV x v→Vals xs us→r x xs H Q→
  wpAny (model X.prog X.w) X.A (call (.builtin id) (v :: us)) (EP X pins σ Q) X.xe s
section
variable {X:Cx} {a b:Expr} {ta tb:TE} {pos:Pos}
theorem IxR.or {r r':R2} (h:IxR X r) (h':IxR X r'):IxR X (fun x y H Q=>r x y H Q∨r' x y H Q):=by
 intro value slice pins s σ H x y v u Q I rx ry q hs
 rcases q with q | q
 ·exact h value slice pins s σ H x y v u Q I rx ry q hs
 ·exact h' value slice pins s σ H x y v u Q I rx ry q hs
theorem ZaG {r:R2} (hr:IxR X r) (ha:PE X a ta) (hb:PE X b tb) (hs:ZNg b):PE X (.Subscript a b pos) (tOp r ta tb):=by
 intro pins s σ H Q I h
 exact Subscript_ (binT ha hb I h fun v u s2 x y H2 I2 rx ry q=>hr a b pins s2 σ H2 x y v u Q I2 rx ry q (hs _ _))
def rIxL (K:PySem.W.Frag):R2:=fun x y H Q=>∃ p xs i v,x=.ref p∧y=.int i∧SqL K H p xs∧atI xs i=some v∧Q v H
def rIxT (K:PySem.W.Frag):R2:=fun x y H Q=>∃ p xs i v,x=.ref p∧y=.int i∧SqT K H p xs∧atI xs i=some v∧Q v H
def rIxS:R2:=fun x y H Q=>∃ z i c,x=.str z∧y=.int i∧z.length≤sizeLine∧atI z.cps.toList i=some c∧Q (.str ⟨#[c]⟩) H
theorem ZNH:IxR X (rIxL X.K):=by
 intro value slice pins s σ H x y v u Q I rx ry h hs
 obtain ⟨p,xs,i,z,rfl,rfl,hq,he,q⟩ :=h
 cases rx
 obtain ⟨t,rfl⟩ :=ry
 obtain ⟨its,r,pl,hz⟩ :=I.list hq
 obtain ⟨j,h1,h2,h3,h4,h5⟩ :=ZEF he
 obtain ⟨w,ew,rw'⟩ :=r.get h2
 have hl:=r.length
 have hn:=ZCX
 have fin:EP X pins σ Q w s:=⟨z,H,I,rw',q⟩
 by_cases h0:0≤i
 ·have hj:i.toNat=j:=by
   rw [seqIndex_of h0 h5] at h1
   exact Option.some.inj h1
  exact item_listR pl.isList h0 (by omega) (by rw [hj]; simpa using ew) fin hs
 ·have hj:(i + (its.toArray.size:Int)).toNat=j:=by
   rw [seqIndex_neg (by omega) h4] at h1
   rw [List.size_toArray,← hl]
   exact Option.some.inj h1
  exact subscriptTail_builtinR (x:=w) pl.isList.typeIs slot_list_getitem.lookup
   (wpAny_getItem_list_neg (Q:=fun r s'=>r=w∧EP X pins σ Q r s') pl.isList (by omega) (by rw [List.size_toArray] <;> omega) (by omega) (by rw [hj]; simpa using ew) ⟨rfl,fin⟩) hs
theorem ZPo:IxR X (rIxT X.K):=by
 intro value slice pins s σ H x y v u Q I rx ry h hs
 obtain ⟨p,xs,i,z,rfl,rfl,hq,he,q⟩ :=h
 cases rx
 obtain ⟨t,rfl⟩ :=ry
 obtain ⟨its,r,pl,hz⟩ :=I.tuple hq
 obtain ⟨j,h1,h2,h3,h4,h5⟩ :=ZEF he
 obtain ⟨w,ew,rw'⟩ :=r.get h2
 have hl:=r.length
 have hn:=ZCX
 have fin:EP X pins σ Q w s:=⟨z,H,I,rw',q⟩
 exact subscriptTail_builtinR (x:=w) pl.typeIs slot_tuple_getitem.lookup
  (getItem_tuple (j:=j) (Q:=fun r s'=>r=w∧EP X pins σ Q r s') pl (by omega) (by omega) (by rw [List.size_toArray,← hl]; exact h1) (by simpa using ew) ⟨rfl,fin⟩) hs
theorem ZPn:IxR X rIxS:=by
 intro value slice pins s σ H x y v u Q I rx ry h hs
 obtain ⟨z,i,c,rfl,rfl,hz,he,q⟩ :=h
 obtain ⟨t,rfl⟩ :=rx
 obtain ⟨t',rfl⟩ :=ry
 obtain ⟨j,h1,h2,h3,h4,h5⟩ :=ZEF he
 have hl:z.cps.toList.length=z.length:=by simp [Str.length]
 rw [hl] at h1 h4 h5
 have hn:=ZCX
 exact tail_any (typeIs_str s z t) slot_str_getitem.lookup (getItem_str (c:=c) (by
  have e1:decide (i < -(2 ^ 63:Int))=false:=decide_eq_false (by omega)
  have e2:decide (i ≥ 2 ^ 63)=false:=decide_eq_false (by omega)
  rw [e1,e2,Bool.or_false]) (by rw [h1]; simpa using h2) ⟨.str ⟨#[c]⟩,H,I.tok _,⟨_,rfl⟩,q⟩) hs
def rIx (K:PySem.W.Frag):R2:=fun x y H Q=>rIxL K x y H Q∨rIxT K x y H Q∨rIxS x y H Q
theorem Zar:IxR X (rIx X.K):=ZNH.or (ZPo.or ZPn)
theorem ZD7 (lo hi:Option Int) (n:Nat):(sliceBounds lo hi none n).1=((HT.sIx n 0 lo:Nat):Int)∧(sliceBounds lo hi none n).2.1=((HT.sIx n n hi:Nat):Int)∧(sliceBounds lo hi none n).2.2=1:=by
 refine ⟨?_,?_,rfl⟩
 ·cases lo with
  | none=>simp [sliceBounds,HT.sIx]
  | some i=>
   simp only [sliceBounds,HT.sIx,Option.getD_none,show (1:Int) > 0 by decide,if_true]
   by_cases h:i < 0
   ·simp only [h,if_true] <;> omega
   ·simp only [h,if_false] <;> omega
 ·cases hi with
  | none=>simp [sliceBounds,HT.sIx]
  | some i=>
   simp only [sliceBounds,HT.sIx,Option.getD_none,show (1:Int) > 0 by decide,if_true]
   by_cases h:i < 0
   ·simp only [h,if_true] <;> omega
   ·simp only [h,if_false] <;> omega
theorem ZB2 (its:List Value) (lo hi:Option Int):slicePick its.toArray lo hi none=((its.drop (HT.sIx its.length 0 lo)).take (HT.sIx its.length its.length hi - HT.sIx its.length 0 lo)).toArray:=by
 obtain ⟨h1,h2,h3⟩ :=ZD7 lo hi its.toArray.size
 unfold slicePick
 rw [h1,h2,h3]
 simp only [sliceRange_one,pick_run,List.size_toArray] <;> rfl
def rSlL (K:PySem.W.Frag):V→Option Int→Option Int→Hp→VK→Prop:=fun x lo hi H Q=>∃ a xs,x=.ref a∧SqL K H a xs∧∀ p,H p=none→Q (.ref p) (upd H p (.lst (cutV xs lo hi)))
theorem ZOn:SlR X (rSlL X.K):=by
 intro pins s σ H x v vl vu lo hi sl Q I rx hs pl pu h
 obtain ⟨a,xs,rfl,hx,q⟩ :=h
 cases rx
 obtain ⟨its,r,ht,hz⟩ :=I.list hx
 have hlen:=r.length
 refine ⟨"list",_,slot_list_getitem.lookup,ht.isList.typeIs,?_⟩
 refine wpAny_getItem_list_slice ht.isList hs pl pu .none (by simp) ?_ (by rw [List.size_toArray] <;> omega)
 rw [ZB2,← hlen]
 refine ⟨.ref s.heap.objs.size,_,I.laid (t':=s.toks) (o:=.lst (cutV xs lo hi)) (fun b ob q=>Heap.get?_push_of_some _ q) (Nat.le_refl _) ?_,rfl,q _ (I.hok.fresh (Nat.le_refl _))⟩
 exact ⟨Nat.le_trans (Zw7 xs lo hi) hz,_,0,(r.drop (HT.sIx xs.length 0 lo)).take (HT.sIx xs.length xs.length hi - HT.sIx xs.length 0 lo),Heap.get?_push_size _ rfl⟩
def ZCG:V→Bool
 | .non=>true
 | .bl _=>true
 | .int _=>true
 | .str _=>true
 | _=>false
def eqV:V→V→Bool
 | .non,.non=>true
 | .bl a,.bl b=>a == b
 | .bl a,.int b=>(if a then 1 else 0) == b
 | .int a,.bl b=>a == (if b then 1 else 0)
 | .int a,.int b=>a == b
 | .str a,.str b=>a == b
 | _,_=>false
theorem ZOT {A:Around} {s:Shared} {y x:V} {u v:Value} (ry:RelV y u) (rx:RelV x v) (fy:ZCG y=true) (fx:ZCG x=true):SeqAt.EqAt A s u v (eqV y x):=by
 cases y with
 | non=>
  cases ry
  cases x with
  | non=>cases rx; exact SeqAt.EqAt.same _
  | bl b=>cases rx; exact SeqAt.EqAt.none_bool b
  | int b=>obtain ⟨t,rfl⟩ :=rx; exact SeqAt.EqAt.none_int b t
  | str b=>obtain ⟨t,rfl⟩ :=rx; exact SeqAt.EqAt.none_str b t
  | _=>exact absurd (show false=true from fx) Bool.false_ne_true
 | bl a=>
  cases ry
  cases x with
  | non=>cases rx; exact SeqAt.EqAt.bool_none a
  | bl b=>cases rx; exact SeqAt.EqAt.bool_bool a b
  | int b=>obtain ⟨t,rfl⟩ :=rx; exact SeqAt.EqAt.bool_int a b t
  | str b=>obtain ⟨t,rfl⟩ :=rx; exact SeqAt.EqAt.bool_str a b t
  | _=>exact absurd (show false=true from fx) Bool.false_ne_true
 | int a=>
  obtain ⟨t',rfl⟩ :=ry
  cases x with
  | non=>cases rx; exact SeqAt.EqAt.int_none a t'
  | bl b=>cases rx; exact SeqAt.EqAt.int_bool a t' b
  | int b=>obtain ⟨t,rfl⟩ :=rx; exact SeqAt.EqAt.int_int a t' b t
  | str b=>obtain ⟨t,rfl⟩ :=rx; exact SeqAt.EqAt.int_str a t' b t
  | _=>exact absurd (show false=true from fx) Bool.false_ne_true
 | str a=>
  obtain ⟨t',rfl⟩ :=ry
  cases x with
  | non=>cases rx; exact SeqAt.EqAt.str_none a t'
  | bl b=>cases rx; exact SeqAt.EqAt.str_bool a t' b
  | int b=>obtain ⟨t,rfl⟩ :=rx; exact SeqAt.EqAt.str_int a t' b t
  | str b=>obtain ⟨t,rfl⟩ :=rx; exact SeqAt.EqAt.str_str a t' b t
  | _=>exact absurd (show false=true from fx) Bool.false_ne_true
 | _=>exact absurd (show false=true from fy) Bool.false_ne_true
def eqU (x:V) (u:Value):Bool:=match u with
 | .none=>eqV .non x
 | .bool b=>eqV (.bl b) x
 | .int i _=>eqV (.int i) x
 | .str z _=>eqV (.str z) x
 | _=>false
theorem ZMm {x y:V} {u:Value} (r:RelV y u) (f:ZCG y=true):eqU x u=eqV y x:=by
 cases y with
 | non=>cases r; rfl
 | bl b=>cases r; rfl
 | int i=>obtain ⟨t,rfl⟩ :=r; rfl
 | str z=>obtain ⟨t,rfl⟩ :=r; rfl
 | _=>exact absurd (show false=true from f) Bool.false_ne_true
theorem ZwN {x:V}:∀ {xs:List V} {us:List Value},Vals xs us→xs.all ZCG=true→us.any (eqU x)=xs.any fun y=>eqV y x
 | _,_,.nil,_=>rfl
 | y :: xs,u :: us,.cons r t,f=>by
  rw [List.all_cons,Bool.and_eq_true] at f
  rw [List.any_cons,List.any_cons,ZMm r f.1,ZwN t f.2]
theorem Zso {A:Around} {s:Shared} {x:V} {v:Value} (rx:RelV x v) (fx:ZCG x=true):∀ {xs:List V} {us:List Value},Vals xs us→xs.all ZCG=true→∀ u ∈ us,SeqAt.EqAt A s u v (eqU x u)
 | _,_,.nil,_=>fun u hu=>by cases hu
 | y :: xs,u :: us,.cons r t,f=>fun u' hu=>by
  rw [List.all_cons,Bool.and_eq_true] at f
  rcases List.mem_cons.mp hu with rfl | hu
  ·rw [ZMm r f.1]; exact ZOT r rx f.1 fx
  ·exact Zso rx fx t f.2 u' hu
def inV (x:V) (xs:List V):Bool:=xs.any fun y=>eqV y x
def rIn (K:PySem.W.Frag) (neg:Bool):R2:=fun x y H Q=>∃ p xs,y=.ref p∧(SqL K H p xs∨SqT K H p xs)∧ZCG x=true∧xs.all ZCG=true∧Q (.bl (if neg then !inV x xs else inV x xs)) H
theorem ZJB:OpR X (compareOp .In) (rIn X.K false):=by
 intro pins s σ H x y v u Q I rx ry h
 obtain ⟨p,xs,rfl,hq,fx,fs,q⟩ :=h
 cases ry
 rcases hq with hq | hq
 ·obtain ⟨its,r,pl,hz⟩ :=I.list hq
  refine SeqAt.in_listAt (eqU x) pl.isList (fun w hw=>Zso rx fx r fs w (by simpa using hw)) ⟨.bl _,H,I,rfl,?_⟩
  rw [show its.toArray.any (eqU x)=its.any (eqU x) by simp,ZwN r fs]
  exact q
 ·obtain ⟨its,r,pl,hz⟩ :=I.tuple hq
  refine SeqAt.in_tupleAt (eqU x) pl (fun w hw=>Zso rx fx r fs w (by simpa using hw)) ⟨.bl _,H,I,rfl,?_⟩
  rw [show its.toArray.any (eqU x)=its.any (eqU x) by simp,ZwN r fs]
  exact q
theorem ZDD:OpR X (compareOp .NotIn) (rIn X.K true):=by
 intro pins s σ H x y v u Q I rx ry h
 obtain ⟨p,xs,rfl,hq,fx,fs,q⟩ :=h
 cases ry
 rcases hq with hq | hq
 ·obtain ⟨its,r,pl,hz⟩ :=I.list hq
  refine SeqAt.notIn_listAt (eqU x) pl.isList (fun w hw=>Zso rx fx r fs w (by simpa using hw)) ⟨.bl _,H,I,rfl,?_⟩
  rw [show its.toArray.any (eqU x)=its.any (eqU x) by simp,ZwN r fs]
  exact q
 ·obtain ⟨its,r,pl,hz⟩ :=I.tuple hq
  refine SeqAt.notIn_tupleAt (eqU x) pl (fun w hw=>Zso rx fx r fs w (by simpa using hw)) ⟨.bl _,H,I,rfl,?_⟩
  rw [show its.toArray.any (eqU x)=its.any (eqU x) by simp,ZwN r fs]
  exact q
theorem ZCz:ZlT X (.type "list") (fun xs H Q=>∃ p ys,xs=[.ref p]∧(SqL X.K H p ys∨SqT X.K H p ys)∧∀ l,H l=none→Q (.ref l) (upd H l (.lst ys))):=by
 intro pins s σ H xs us Q I r h
 obtain ⟨p,ys,rfl,hq,q⟩ :=h
 obtain ⟨u,rfl,rx⟩ :=ZFD r
 cases rx
 have fin:∀ (its:List Value),Vals ys its→ys.length≤sizeLine→∀ (h':Heap) (c':Nat),(∀ b o',s.heap.get? b=some o'→h'.get? b=some o')→
   h'.get? s.heap.objs.size=some { cls:=.type "list",dict:=none,data:=.seq its.toArray c',slots:=#[] }→EP X pins σ Q (.ref s.heap.objs.size) { s with heap:=h' }:=fun its r' hz h' c' kp e=>
  ⟨.ref s.heap.objs.size,_,I.laid (t':=s.toks) kp (Nat.le_refl _) (show Zd8 X.prog X.w _ h' _ (.lst ys) from ⟨hz,its,c',r',e⟩),rfl,q _ (I.hok.fresh (Nat.le_refl _))⟩
 rcases hq with hq | hq
 ·obtain ⟨its,r',pl,hz⟩ :=I.list hq
  have hlen:=r'.length
  obtain ⟨o,ho,hc,n,hd⟩ :=pl.isList
  exact call_list_seq p (.inl rfl) ho hc hd (fun h' c' kp e=>fin its r' hz h' c' kp e) (by simp only [List.size_toArray] <;> omega)
 ·obtain ⟨its,r',pl,hz⟩ :=I.tuple hq
  have hlen:=r'.length
  obtain ⟨o,ho,hc,n,hd⟩ :=pl
  exact call_list_seq p (.inr rfl) ho hc hd (fun h' c' kp e=>fin its r' hz h' c' kp e) (by simp only [List.size_toArray] <;> omega)
theorem Zz7:ZlT X (.type "tuple") (fun xs H Q=>∃ p ys,xs=[.ref p]∧((SqL X.K H p ys∧∀ l,H l=none→Q (.ref l) (upd H l (.tup ys)))∨(SqT X.K H p ys∧Q (.ref p) H))):=by
 intro pins s σ H xs us Q I r h
 obtain ⟨p,ys,rfl,h⟩ :=h
 obtain ⟨u,rfl,rx⟩ :=ZFD r
 cases rx
 rcases h with ⟨hq,q⟩ | ⟨hq,q⟩
 ·obtain ⟨its,r',pl,hz⟩ :=I.list hq
  have hlen:=r'.length
  refine call_tuple_list pl.isList (fun h' kp=>?_) (by simp only [List.size_toArray] <;> omega)
  have I1:Inv X pins σ H { s with heap:=h' }:=I.kept (t':=s.toks) kp
  have I2:Inv X pins σ (upd H h'.objs.size (.tup ys)) { s with heap:=h'.push { cls:=.type "tuple",data:=.seq its.toArray } }:=
   I1.laid (t':=s.toks) (fun b o e=>Heap.get?_push_of_some _ e) (Nat.le_refl _) (show Zd8 X.prog X.w _ _ _ (.tup ys) from ⟨hz,its,r',IsTup.new _ _⟩)
  exact ⟨.ref h'.objs.size,_,I2,rfl,q _ (I1.hok.fresh (Nat.le_refl _))⟩
 ·obtain ⟨its,r',pl,hz⟩ :=I.tuple hq
  exact call_tuple_same pl ⟨.ref p,H,I,rfl,q⟩
def tyV (K:PySem.W.Frag) (T:String) (x:V) (H:Hp):Prop:=match x with
 | .str _=>T = "str"
 | .int _=>T = "int"
 | .ref p=>(T = "list"∧∃ xs,SqL K H p xs)∨(T = "tuple"∧∃ o,K.lookup p=some o∧o.cls=.type "tuple"∧o.dict=none)∨
   (T = "dict"∧((∃ kvs,H p=some (.dK kvs))∨∃ kvs,H p=some (.dT kvs)))∨(T = "set"∧∃ S n,H p=some (.set S n))
 | _=>False
theorem ZG5 {pins:List (Addr × Obj)} {σ:St} {H:Hp} {s:Shared} {T:String} {x:V} {v:Value} (I:Inv X pins σ H s) (r:RelV x v) (ty:tyV X.K T x H) :
  s.TypeIs v T∧∀ a,v=.ref a→∃ ob,s.heap.get? a=some ob∧ob.dict=none:=by
 cases x with
 | str z=>
  obtain ⟨t,rfl⟩ :=r
  cases (show T = "str" from ty)
  exact ⟨typeIs_str s z t,fun _ e=>nomatch e⟩
 | int i=>
  obtain ⟨t,rfl⟩ :=r
  cases (show T = "int" from ty)
  exact ⟨typeIs_int s i t,fun _ e=>nomatch e⟩
 | ref p=>
  cases r
  rcases ty with ⟨rfl,xs,hq⟩ | ⟨rfl,o,hk,hc,hd⟩ | ⟨rfl,hk⟩ | ⟨rfl,S,n,hk⟩
  ·obtain ⟨its,_,pl,_⟩ :=I.list hq
   refine ⟨pl.isList.typeIs,fun a e=>?_⟩
   cases e
   obtain ⟨o,n,e,c,hd,_⟩ :=pl
   exact ⟨o,e,hd⟩
  ·refine ⟨⟨o,I.kIn p o hk,hc⟩,fun a e=>?_⟩
   cases e
   exact ⟨o,I.kIn _ o hk,hd⟩
  ·have z:∃ o,s.heap.get? p=some o∧o.ExactDict:=by
    rcases hk with ⟨kvs,hk⟩ | ⟨kvs,hk⟩
    ·obtain ⟨_,_,_,_,o,_,_,e,ex,_⟩ :=I.hok p _ hk
     exact ⟨o,e,ex⟩
    ·obtain ⟨_,_,_,_,o,_,_,e,ex,_⟩ :=I.hok p _ hk
     exact ⟨o,e,ex⟩
   obtain ⟨o,e,ex⟩ :=z
   refine ⟨⟨o,e,ex.1⟩,fun a e2=>?_⟩
   cases e2
   exact ⟨o,e,ex.2.1⟩
  ·obtain ⟨o,_,_,_,e,ex,_⟩ :=I.hok p _ hk
   refine ⟨⟨o,e,ex.1⟩,fun a e2=>?_⟩
   cases e2
   exact ⟨o,e,ex.2.1⟩
 | _=>exact False.elim ty
def tBM0 (K:PySem.W.Frag) (T:String) (r:V→List V→Hp→VK→Prop) (to:TE):TE:=fun σ H Q=>to σ H fun x H1=>tyV K T x H1∧r x [] H1 Q
def tBM (K:PySem.W.Frag) (T:String) (r:V→List V→Hp→VK→Prop) (to:TE) (t:TA):TE:=fun σ H Q=>to σ H fun x H1=>tyV K T x H1∧t σ H1 fun xs H2=>r x xs H2 Q
variable {o e:Expr} {es:List Expr} {to:TE} {t:TA} {name:Str} {apos cpos:Pos} {T id:String} {r:V→List V→Hp→VK→Prop}
theorem ZJG (pa:PlainAttrs T) (slot:Slot T name id) (hty:typeOf (.builtin id)=pure (.type "method_descriptor")) (hm:MtR X id r) (ho:PE X o to)
  (hbase:attributeBase o name X.env (eval o X.env)=eval o X.env:=by rfl) (hline:(apos.endLine == cpos.line)=true:=by rfl):PE X (.Call (.Attribute o name apos) [] [] cpos) (tBM0 X.K T r to):=by
 intro pins s σ H Q I h
 refine wpAny_Call_method0_late hbase hline (thn (ho pins s σ H _ I h) fun v s1 ⟨x,H1,I1,r1,ty,q1⟩ =>?_)
 obtain ⟨h1,h2⟩ :=ZG5 I1 r1 ty
 exact ⟨T,id,pa,slot,hty,h1,h2,Calls.callWith_builtin rfl (PySem.evalArgs_none (hm pins s1 σ H1 x [] v [] Q I1 r1 .nil q1))⟩
theorem Zj0 (pa:PlainAttrs T) (slot:Slot T name id) (hty:typeOf (.builtin id)=pure (.type "method_descriptor")) (hm:MtR X id r) (ho:PE X o to) (ha:PA X (e :: es) t)
  (hbase:attributeBase o name X.env (eval o X.env)=eval o X.env:=by rfl)
  (hfew:((backTo cpos (starEach (e :: es) X.env)).all (fun x=>!x.1) && (backToKw cpos (keywordEach [] X.env)).all (fun x=>x.1.isSome)
   && decide ((e :: es).length + ([]:List Keyword).length + (if ([]:List Keyword).isEmpty then 0 else 1) < 30))=true:=by rfl)
  (hline:(apos.endLine == cpos.line)=true:=by rfl) (hs:starEach (e :: es) X.env=(false,eval e X.env) :: starEach es X.env:=by rfl) (hplain:(backTo cpos (starEach es X.env)).any (·.1)=false:=by rfl) :
  PE X (.Call (.Attribute o name apos) (e :: es) [] cpos) (tBM X.K T r to t):=by
 intro pins s σ H Q I h
 refine wpAny_Call_method_late hbase hfew hline rfl (thn (ho pins s σ H _ I h) fun v s1 ⟨x,H1,I1,r1,ty,q1⟩ =>?_)
 obtain ⟨h1,h2⟩ :=ZG5 I1 r1 ty
 refine ⟨T,id,pa,slot,hty,h1,h2,?_⟩
 have hA:=ha cpos pins s1 σ H1 _ I1 q1
 rw [hs] at hA ⊢
 refine Calls.callWith_builtin (by show (false || (backTo cpos (starEach es X.env)).any (·.1))=false; rw [hplain] <;> rfl) (Calls.evalArgs_plain ?_)
 exact thn hA fun us s2 ⟨vs,H2,I2,r2,q2⟩ =>hm pins s2 σ H2 x vs v us Q I2 r1 r2 q2
end
end L2
namespace L2
open PySem PySem.Spec PyProof.Rows
def MtM (X:Cx) (id:String) (r:V→List V→Hp→VK→Prop):Prop:=
 ∀ (pins:List (Addr × Obj)) (s:Shared) (σ:St) (H:Hp) (x:V) (xs:List V) (v:Value) (us:List Value) (Q:VK),Inv X pins σ H s→RelV x v→Vals xs us→r x xs H Q→
  wpAny (model X.prog X.w) X.A (call (.builtin id) (v :: us)) (EP X pins σ Q) X.xe s
theorem Vals.one:∀ {x:V} {us:List Value},Vals [x] us→∃ u,us=[u]∧RelV x u
 | _,_,.cons r .nil=>⟨_,rfl,r⟩
theorem Vals.zero:∀ {us:List Value},Vals [] us→us=[]
 | _,.nil=>rfl
theorem Vals.dropLast {xs:List V} {us:List Value} (h:Vals xs us):Vals xs.dropLast us.dropLast:=by
 induction h with
 | nil=>exact .nil
 | cons r t ih=>
  cases t with
  | nil=>exact .nil
  | cons q t'=>exact .cons r ih
theorem ZHg {α:Type} (l:List α):l.eraseIdx (l.length - 1)=l.dropLast:=by
 induction l with
 | nil=>rfl
 | cons a r ih=>
  cases r with
  | nil=>rfl
  | cons b r=>
   have e:(a :: b :: r).length - 1=((b :: r).length - 1) + 1:=by
    have h1:(a :: b :: r).length=r.length + 2:=rfl
    have h2:(b :: r).length=r.length + 1:=rfl
    omega
   rw [e,List.eraseIdx_cons_succ,ih]
   all_goals rfl
section
variable {X:Cx} {pins:List (Addr × Obj)} {σ:St} {H:Hp} {s:Shared} {l b:Addr} {xs ys zs:List V}
theorem Inv.lset {its its':List Value} {n:Nat} {f:Array Value→Array Value} {t':Nat} (I:Inv X pins σ H s) (hH:H l=some (.lst xs))
  (e:s.heap.get? l=some { cls:=.type "list",data:=.seq its.toArray n }) (hf:f its.toArray=its'.toArray) (hv:Vals ys its') (hz:ys.length≤sizeLine) :
  Inv X pins σ (upd H l (.lst ys)) { s with heap:=s.heap.update l (Obj.mapSeq f),toks:=t' }:=by
 have q:=PySem.IsL.update e f
 rw [hf] at q
 refine I.write (x:=l) (e:=l) (by rw [hH]; exact trivial) (.inl rfl) (fun b' u hb hu=>(Heap.get?_update_other s.heap (Obj.mapSeq f) (Ne.symm hb)).trans hu) ⟨_,q⟩ ?_
 exact ⟨hz,its',_,hv,q⟩
theorem Inv.lnew {its:List Value} {t':Nat} (I:Inv X pins σ H s) (hv:Vals ys its) (hz:ys.length≤sizeLine) :
  Inv X pins σ (upd H s.heap.objs.size (.lst ys)) { s with heap:=s.heap.push { cls:=.type "list",data:=.seq its.toArray },toks:=t' }:=
 I.laid (fun _ _ q=>Heap.get?_push_of_some _ q) (Nat.le_refl _) ⟨hz,its,0,hv,Heap.get?_push_size _ rfl⟩
theorem Inv.fresh (I:Inv X pins σ H s):H s.heap.objs.size=none:=I.hok.fresh (Nat.le_refl _)
theorem Inv.lstM (I:Inv X pins σ H s) (hH:H l=some (.lst xs)):xs.length≤sizeLine∧∃ (its:List Value) (n:Nat),Vals xs its∧xs.length=its.length∧s.heap.get? l=some { cls:=.type "list",data:=.seq its.toArray n }:=by
 obtain ⟨z,its,n,r,e⟩ :=I.hok l _ hH
 exact ⟨z,its,n,r,r.length,e⟩
theorem ZLn {n:Nat} (h:n≤sizeLine):Builtin.List.listTooLong n=false:=by
 unfold Builtin.List.listTooLong
 exact decide_eq_false (by omega)
end
section
variable {X:Cx}
def ZBs:V→List V→Hp→VK→Prop:=fun x vs H Q=>∃ l xs y,x=.ref l∧vs=[y]∧H l=some (.lst xs)∧xs.length < sizeLine∧Q .non (upd H l (.lst (xs ++ [y])))
theorem Zcb:MtM X "list.append" ZBs:=by
 intro pins s σ H x vs v us Q I rx rv h
 obtain ⟨l,xs,y,rfl,rfl,hH,hz,q⟩ :=h
 cases rx
 obtain ⟨u,rfl,ru⟩ :=rv.one
 obtain ⟨z,its,n,r,hl,e⟩ :=I.lstM hH
 refine call_meets F.slot_list_append ⟨_,e,rfl⟩ F.entry_list_append (F.args_list_append_2 _ _) (PySem.list_append l its.toArray n u (by rw [List.size_toArray]; omega)) ⟨e,?_⟩
 refine ⟨.non,_,I.lset (its':=its ++ [u]) hH e (by simp) (r.append (.cons ru .nil)) ?_,rfl,q⟩
 rw [List.length_append,List.length_singleton]
 omega
def ZFs:V→List V→Hp→VK→Prop:=fun x vs H Q=>∃ l b xs zs,x=.ref l∧vs=[.ref b]∧H l=some (.lst xs)∧H b=some (.lst zs)∧xs.length + zs.length≤sizeLine∧Q .non (upd H l (.lst (xs ++ zs)))
theorem ZJk:MtM X "list.extend" ZFs:=by
 intro pins s σ H x vs v us Q I rx rv h
 obtain ⟨l,b,xs,zs,rfl,rfl,hH,hB,hz,q⟩ :=h
 cases rx
 obtain ⟨u,rfl,ru⟩ :=rv.one
 cases ru
 obtain ⟨z,its,n,r,hl,e⟩ :=I.lstM hH
 obtain ⟨z2,its2,n2,r2,hl2,e2⟩ :=I.lstM hB
 have hsz:its.toArray.size + its2.toArray.size≤sizeLine:=by rw [List.size_toArray,List.size_toArray]; omega
 have hlong : ¬ (!its.toArray.isEmpty && Builtin.List.listTooLong (its.toArray.size + its2.toArray.size))=true:=by
  rw [ZLn hsz,Bool.and_false]
  exact Bool.false_ne_true
 refine call_meets F.slot_list_extend ⟨_,e,rfl⟩ F.entry_list_extend (F.args_list_extend_2 _ _)
  (AutoSeq1.list_extend_list_list_0 l its.toArray n b its2.toArray n2 hlong (by rw [List.size_toArray]; omega) (by omega)) ⟨e,e2,?_⟩
 refine ⟨.non,_,I.lset (its':=its ++ its2) hH e (by simp) (r.append r2) ?_,rfl,q⟩
 rw [List.length_append]
 omega
def rPop:V→List V→Hp→VK→Prop:=fun x vs H Q=>∃ l xs y,x=.ref l∧vs=[]∧H l=some (.lst xs)∧xs[xs.length - 1]?=some y∧Q y (upd H l (.lst xs.dropLast))
theorem ZPv:MtM X "list.pop" rPop:=by
 intro pins s σ H x vs v us Q I rx rv h
 obtain ⟨l,xs,y,rfl,rfl,hH,hy,q⟩ :=h
 cases rx
 have hus:=rv.zero
 subst hus
 obtain ⟨z,its,n,r,hl,e⟩ :=I.lstM hH
 obtain ⟨u,hu,ru⟩ :=r.get hy
 have hy':its.toArray[its.toArray.size - 1]?=some u:=by
  show its.toArray[its.length - 1]?=some u
  rw [← Array.getElem?_toList,← hl]
  exact hu
 refine call_meets F.slot_list_pop ⟨_,e,rfl⟩ F.entry_list_pop (F.args_list_pop_1 _) (MeetsSeq.list_pop_last l its.toArray n u hy' (by rw [List.size_toArray]; omega)) ⟨e,?_⟩
 refine ⟨y,_,I.lset (its':=its.dropLast) hH e ?_ r.dropLast ?_,ru,q⟩
 ·show its.toArray.eraseIdxIfInBounds (its.toArray.size - 1)=its.dropLast.toArray
  rw [List.size_toArray,List.eraseIdxIfInBounds_toArray,ZHg]
 ·rw [List.length_dropLast]
  omega
def ZJS:V→List V→Hp→VK→Prop:=fun x vs H Q=>∃ l xs,x=.ref l∧vs=[]∧H l=some (.lst xs)∧Q .non (upd H l (.lst []))
theorem ZLl:MtM X "list.clear" ZJS:=by
 intro pins s σ H x vs v us Q I rx rv h
 obtain ⟨l,xs,rfl,rfl,hH,q⟩ :=h
 cases rx
 have hus:=rv.zero
 subst hus
 obtain ⟨z,its,n,r,hl,e⟩ :=I.lstM hH
 refine call_meets F.slot_list_clear ⟨_,e,rfl⟩ F.entry_list_clear (F.args_list_clear_1 _) (AutoSeq1.list_clear_list_0 l its.toArray n (by rw [List.size_toArray]; omega)) ⟨e,?_⟩
 exact ⟨.non,_,I.lset (its':=[]) (ys:=[]) hH e rfl .nil (Nat.zero_le _),rfl,q⟩
def rCat:R2:=fun x y H Q=>∃ l b xs zs,x=.ref l∧y=.ref b∧H l=some (.lst xs)∧H b=some (.lst zs)∧xs.length + zs.length≤sizeLine∧∀ p,H p=none→Q (.ref p) (upd H p (.lst (xs ++ zs)))
theorem ZPD:OpR X (binaryOp .Add) rCat:=by
 intro pins s σ H x y v u Q I rx ry h
 obtain ⟨l,b,xs,zs,rfl,rfl,hH,hB,hz,q⟩ :=h
 cases rx
 cases ry
 obtain ⟨z,its,n,r,hl,e⟩ :=I.lstM hH
 obtain ⟨z2,its2,n2,r2,hl2,e2⟩ :=I.lstM hB
 refine PySem.P.add_list e e2 ?_ (by rw [List.size_toArray,List.size_toArray]; omega)
 have ea:its.toArray ++ its2.toArray=(its ++ its2).toArray:=by simp
 rw [ea]
 exact ⟨.ref _,_,I.lnew (t':=s.toks) (r.append r2) (by rw [List.length_append]; omega),rfl,q _ I.fresh⟩
end
section
variable {prog:Program} {w:World} {A:Around} {E:Value→Shared→Prop} {s:Shared}
end
section
variable {X:Cx}
end
end L2
namespace L2
open PySem PySem.Spec PyProof.Rows
section
variable {κ:Type} [DecidableEq κ]
def valV (kvs:List (κ × V)) (k:κ):Option V:=(kvs.find? fun kv=>decide (kv.1=k)).map (·.2)
def putK (kvs:List (κ × V)) (k:κ) (v:V):List (κ × V):=
 if (kvs.any fun kv=>decide (kv.1=k))=true then kvs.map (fun kv=>if kv.1=k then (kv.1,v) else kv) else kvs ++ [(k,v)]
theorem ZG7 {p:κ × V} {r:List (κ × V)} {k:κ} (e:p.1=k):valV (p :: r) k=some p.2:=by simp [valV,List.find?_cons,e]
theorem ZG6 {p:κ × V} {r:List (κ × V)} {k:κ} (e : ¬ p.1=k):valV (p :: r) k=valV r k:=by simp [valV,List.find?_cons,e]
theorem ZE0 (kvs:List (κ × V)) (k:κ) (v:V):(putK kvs k v).length≤kvs.length + 1:=by
 unfold putK
 split
 ·rw [List.length_map]; omega
 ·rw [List.length_append,List.length_cons,List.length_nil]; omega
theorem RelO.getD {o:Option V} {u:Option Value} {d:V} {d':Value} (r:RelO o u) (rd:RelV d d'):RelV (o.getD d) (u.getD d'):=by
 cases o with
 | none=>cases u with
  | none=>exact rd
  | some _=>exact (show False from r).elim
 | some _=>cases u with
  | none=>exact (show False from r).elim
  | some _=>exact r
theorem KV.val {kvs:List (κ × V)} {vs:List (κ × Value)} (r:KV kvs vs) (k:κ):RelO (valV kvs k) (valueAt vs k):=by
 unfold KV at r
 induction r with
 | nil=>exact True.intro
 | @cons p q ps qs h t ih=>
  obtain ⟨h1,h2⟩ :=h
  by_cases e:p.1=k
  ·have e':q.1=k:=h1.symm.trans e
   have b:valueAt (q :: qs) k=some q.2:=by simp [valueAt,List.find?_cons,e']
   rw [ZG7 e,b]; exact h2
  ·have e' : ¬ q.1=k:=fun z=>e (h1.trans z)
   have b:valueAt (q :: qs) k=valueAt qs k:=by simp [valueAt,List.find?_cons,e']
   rw [ZG6 e,b]; exact ih
theorem KV.any {kvs:List (κ × V)} {vs:List (κ × Value)} (r:KV kvs vs) (k:κ):(kvs.any fun kv=>decide (kv.1=k))=vs.any fun kv=>decide (kv.1=k):=by
 unfold KV at r
 induction r with
 | nil=>rfl
 | cons h t ih=>rw [List.any_cons,List.any_cons,ih,h.1]
theorem KV.repl {kvs:List (κ × V)} {vs:List (κ × Value)} (r:KV kvs vs) (k:κ) {y:V} {u:Value} (ry:RelV y u) :
  KV (kvs.map fun kv=>if kv.1=k then (kv.1,y) else kv) (vs.map fun kv=>if kv.1=k then (kv.1,u) else kv):=by
 unfold KV at r ⊢
 induction r with
 | nil=>exact .nil
 | @cons p q ps qs h t ih=>
  rw [List.map_cons,List.map_cons]
  refine .cons ?_ ih
  obtain ⟨h1,h2⟩ :=h
  by_cases e:p.1=k
  ·rw [if_pos e,if_pos (h1.symm.trans e)]; exact ⟨h1,ry⟩
  ·rw [if_neg e,if_neg (fun z=>e (h1.trans z))]; exact ⟨h1,h2⟩
theorem KV.put {kvs:List (κ × V)} {vs:List (κ × Value)} (r:KV kvs vs) (k:κ) {y:V} {u:Value} (ry:RelV y u):KV (putK kvs k y) (stored vs k u):=by
 unfold putK stored
 rw [r.any k]
 by_cases e:(vs.any fun kv=>decide (kv.1=k))=true
 ·rw [if_pos e,if_pos e]; exact r.repl k ry
 ·rw [if_neg e,if_neg e]; exact Paired.snoc r ⟨rfl,ry⟩
end
theorem ZNK {P:Program} {w:World} {k:Key} {u:Value} (r:RelV (kV k) u):(ZdL P w).is k u=true:=by
 cases k with
 | inl i=>obtain ⟨t,e⟩ :=(show ∃ t,u=Value.int i t from r); subst e; exact ZE4 P w i t
 | inr x=>obtain ⟨t,e⟩ :=(show ∃ t,u=Value.str x t from r); subst e; exact ZE5 P w x t
theorem ZCS {P:Program} {w:World}:∀ {ks:List Key} {us:List Value},Vals (ks.map kV) us→ItemsAre (ZdL P w) ks us
 | [],_,r=>by rw [List.map_nil] at r; cases r; exact .nil
 | k :: ks,_,r=>by
  rw [List.map_cons] at r
  cases r with
  | cons h t=>exact .cons (ZNK h) (ZCS t)
abbrev KT (H:Hp):List (List Key × V)→List (List Key × Addr × Value)→Prop:=Paired fun p q=>p.1=q.1∧H q.2.1=some (.tup (p.1.map kV))∧RelV p.2 q.2.2
theorem KT.val {H:Hp} {kvs:List (List Key × V)} {xs:List (List Key × Addr × Value)} (r:KT H kvs xs) (k:List Key):RelO (valV kvs k) ((atKey xs k).map (·.2)):=by
 induction r with
 | nil=>exact True.intro
 | @cons p q ps qs h t ih=>
  obtain ⟨h1,_,h2⟩ :=h
  by_cases e:p.1=k
  ·have e':q.1=k:=h1.symm.trans e
   have b:atKey (q :: qs) k=some q.2:=by simp [atKey,List.find?_cons,e']
   rw [ZG7 e,b]; exact h2
  ·have e' : ¬ q.1=k:=fun z=>e (h1.trans z)
   have b:atKey (q :: qs) k=atKey qs k:=by simp [atKey,List.find?_cons,e']
   rw [ZG6 e,b]; exact ih
section
variable {P:Program} {w:World} {H:Hp} {h:Heap} {a:Addr}
theorem ZPW {u:HO} (ok:HOk P w H h) (e:Rd H a u):Zd8 P w H h a u:=e.ok ok
theorem ZNo {kvs:List (Key × V)} (ok:HOk P w H h) (e:Rd H a (.dK kvs)):kvs.length≤sizeLine∧(a == sysModules)=false∧∃ vs,KV kvs vs∧h.DictOf (ZdL P w) a vs:=
 show Zd8 P w H h a (.dK kvs) from ZPW ok e
theorem ZQq {kvs:List (Key × V)} (ok:HOk P w H h) (e:H a=some (.dK kvs)):kvs.length≤sizeLine∧(a == sysModules)=false∧∃ vs,KV kvs vs∧h.DictOf (ZdL P w) a vs:=ZNo ok (.inl e)
theorem ZMN {ks:List Key} (ok:HOk P w H h) (e:H a=some (.tup (ks.map kV))):(tupleKind (ZdL P w)).is h ks a:=by
 obtain ⟨_,its,r,o,h1,h2,n,h3⟩ :=(show Zd8 P w H h a (.tup (ks.map kV)) from ok a _ e)
 exact ⟨o,its.toArray,n,h1,h2,h3,by simpa using ZCS r⟩
theorem ZOS {kvs:List (List Key × V)} (ok:HOk P w H h) (e:Rd H a (.dT kvs)):kvs.length≤sizeLine∧(a == sysModules)=false∧
  ∃ xs,KT H kvs xs∧h.DictOfH (tupleKind (ZdL P w)) a xs:=by
 obtain ⟨z,y,xs,r,o,es,ep,h1,h2,h3,h4,h5⟩ :=(show Zd8 P w H h a (.dT kvs) from ZPW ok e)
 refine ⟨z,y,xs,r,o,es,ep,h1,h2,h3,h4,fun x hx=>?_,h5⟩
 have all:∀ {l:List (List Key × V)} {m:List (List Key × Addr × Value)},KT H l m→∀ x ∈ m,(tupleKind (ZdL P w)).is h x.1 x.2.1:=by
  intro l m q
  induction q with
  | nil=>intro x hx; exact nomatch hx
  | @cons p q ps qs hq t ih=>
   intro x hx
   rcases List.mem_cons.mp hx with e | hx
   ·subst e
    exact ZMN ok (by rw [← hq.1]; exact hq.2.1)
   ·exact ih x hx
 exact all r x hx
end
def DGet (H:Hp) (a:Addr) (y:V) (r:Option V):Prop:=
 (∃ kvs k,Rd H a (.dK kvs)∧y=kV k∧r=valV kvs k)∨∃ kvs k b,Rd H a (.dT kvs)∧y=.ref b∧H b=some (.tup (k.map kV))∧r=valV kvs k
theorem DGet.k {H:Hp} {a:Addr} {kvs:List (Key × V)} {k:Key} (e:H a=some (.dK kvs)):DGet H a (kV k) (valV kvs k):=.inl ⟨kvs,k,.inl e,rfl,rfl⟩
section
variable {X:Cx} {pins:List (Addr × Obj)} {σ:St} {H:Hp} {s:Shared} {a:Addr} {y v:V} {u r:Value} {o:Option V} {A:Around} {E:Value→Shared→Prop}
theorem Inv.big (I:Inv X pins σ H s):sysModules < s.heap.objs.size:=by
 have h:mainGlobals < s.heap.objs.size:=(I.mod.glob.keeps I.bk).lt
 exact Nat.lt_trans (by decide) h
theorem ZNl {h':Heap} {t':Nat} {ob:HO} (I:Inv X pins σ H s) (mu:Mut (H a)) (hs:Heap.SameBut a s.heap h') (he:∃ q,h'.get? a=some q) (new:Zd8 X.prog X.w (upd H a ob) h' a ob) :
  Inv X pins σ (upd H a ob) { s with heap:=h',toks:=t' }:=
 I.write (x:=a) (e:=a) mu (.inl rfl) (fun b q hb z=>(hs.2 b hb).trans z) he new
theorem ZOR {P:Program} {w:World} {H':Hp} {h':Heap} {kvs:List (Key × V)} {vs:List (Key × Value)} (z:kvs.length≤sizeLine) (hd:(a == sysModules)=false) (rel:KV kvs vs) (dd:h'.DictOf (ZdL P w) a vs) :
  Zd8 P w H' h' a (.dK kvs):=⟨z,hd,vs,rel,dd⟩
end
section
variable {X:Cx} {pins:List (Addr × Obj)} {σ:St} {H:Hp} {s:Shared} {a:Addr} {kvs:List (Key × V)} {k:Key} {u:Value} {A:Around} {E:Value→Shared→Prop}
end
section
variable {X:Cx} {o i e value:Expr} {pos pos' tpos:Pos} {td ty tv:TE}
end
theorem ZKQ {P:Program} {w:World} {H:Hp} (h:Heap) (hb:sysModules < h.objs.size):Zd8 P w H (h.push { cls:=.type "dict",data:=.dict #[] }) h.objs.size (.dK []):=
 ⟨Nat.zero_le _,beq_eq_false_iff_ne.mpr (Ne.symm (Nat.ne_of_lt hb)),[],.nil,Heap.DictOf.new h⟩
section
variable {X:Cx} {pos:Pos}
end
def ZzP:List (TE × TE)→St→Hp→(List (V × V)→Hp→Prop)→Prop
 | [],_,H,Q=>Q [] H
 | (tk,tv) :: r,σ,H,Q=>tk σ H fun x H1=>tv σ H1 fun y H2=>ZzP r σ H2 fun ps H3=>Q ((x,y) :: ps) H3
abbrev VV:List (V × V)→List (Value × Value)→Prop:=Paired fun p q=>RelV p.1 q.1∧RelV p.2 q.2
def PPs (X:Cx) (pos:Pos) (keys:List (Option Expr)) (values:List Expr) (trs:List (TE × TE)):Prop:=
 ∀ (pins:List (Addr × Obj)) (s:Shared) (σ:St) (H:Hp) (Q:List (V × V)→Hp→Prop),Inv X pins σ H s→ZzP trs σ H Q→
  wpAny (model X.prog X.w) X.A (evalPairs (pairTrees keys values X.env pos)) (fun vs s'=>∃ ps H',Inv X pins σ H' s'∧VV ps vs∧Q ps H') X.xe s
theorem ZBq {X:Cx} {pos:Pos}:PPs X pos [] [] []:=fun pins s σ H Q I h=>pairTrees_nil_walk ⟨[],H,I,.nil,h⟩
theorem Zdd {X:Cx} {pos:Pos} {k v:Expr} {ks:List (Option Expr)} {vs:List Expr} {tk tv:TE} {trs:List (TE × TE)} (hk:PE X k tk) (hv:PE X v tv) (hr:PPs X pos ks vs trs) :
  PPs X pos (some k :: ks) (v :: vs) ((tk,tv) :: trs):=fun pins s σ H Q I h=>
 pairTrees_cons_walk (thn (hk pins s σ H _ I h) fun u s1 ⟨x,H1,I1,rx,q1⟩ =>thn (hv pins s1 σ H1 _ I1 q1) fun w2 s2 ⟨y,H2,I2,ry,q2⟩ =>
  thn (hr pins s2 σ H2 _ I2 q2) fun ws s3 ⟨ps,H3,I3,rel,q3⟩ =>⟨(x,y) :: ps,H3,I3,.cons ⟨rx,ry⟩ rel,q3⟩)
def ZnH (kvs more:List (Key × V)):List (Key × V):=more.foldl (fun acc kv=>putK acc kv.1 kv.2) kvs
theorem KV.merge:∀ {more:List (Key × V)} {rs:List (Key × Value)} {kvs:List (Key × V)} {vs:List (Key × Value)},KV more rs→KV kvs vs→KV (ZnH kvs more) (merged vs rs):=by
 intro more rs kvs vs r
 unfold KV at r
 induction r generalizing kvs vs with
 | nil=>intro q; exact q
 | @cons p q ps qs h t ih=>
  intro r0
  have e:KV (putK kvs p.1 p.2) (stored vs q.1 q.2):=by
   have:=r0.put p.1 h.2
   rw [← h.1]; exact this
  exact ih e
theorem Zsj:∀ (more kvs:List (Key × V)),(ZnH kvs more).length≤kvs.length + more.length
 | [],kvs=>by show kvs.length≤kvs.length + 0; omega
 | p :: r,kvs=>by
  have h1:=Zsj r (putK kvs p.1 p.2)
  have h2:=ZE0 kvs p.1 p.2
  show (ZnH (putK kvs p.1 p.2) r).length≤_
  rw [List.length_cons]; omega
theorem ZzB {P:Program} {w:World}:∀ {kvs:List (Key × V)} {ws:List (Value × Value)},VV (kvs.map fun kv=>(kV kv.1,kv.2)) ws→∃ rs,Carries (ZdL P w) ws rs∧KV kvs rs
 | [],_,r=>by rw [List.map_nil] at r; cases r; exact ⟨[],True.intro,.nil⟩
 | p :: kvs,_,r=>by
  rw [List.map_cons] at r
  cases r with
  | @cons a b as bs h t=>
   obtain ⟨rs,c,q⟩ :=ZzB (P:=P) (w:=w) t
   obtain ⟨b1,b2⟩ :=b
   exact ⟨(p.1,b2) :: rs,⟨ZNK h.1,rfl,c⟩,.cons ⟨rfl,h.2⟩ q⟩
def ZQd (trs:List (TE × TE)):TE:=fun σ H Q=>∀ p,H p=none→ZzP trs σ (upd H p (.dK [])) fun ps H2=>H2 p=some (.dK [])∧∃ kvs:List (Key × V),ps=kvs.map (fun kv=>(kV kv.1,kv.2))∧kvs.length≤15∧Q (.ref p) (upd H2 p (.dK (ZnH [] kvs)))
theorem ZBk {X:Cx} {pos:Pos} {keys:List (Option Expr)} {values:List Expr} {trs:List (TE × TE)} (h:PPs X pos keys values trs) (hall:keys.all (·.isSome)=true) (hl:keys.length=values.length) (h0:keys ≠ [])
  (h15:keys.length≤15):PE X (.Dict keys values pos) (ZQd trs):=by
 intro pins s σ H Q I q
 have hn:=I.hok.fresh (Nat.le_refl s.heap.objs.size)
 have I1:=I.laid (a:=s.heap.objs.size) (o:=.dK []) (h':=s.heap.push { cls:=.type "dict",data:=.dict #[] }) (t':=s.toks) (fun _ _ q=>Heap.get?_push_of_some _ q) (Nat.le_refl _) (ZKQ s.heap I.big)
 refine wpAny_Dict_walk (knd:=ZdL X.prog X.w) hall hl h0 h15 (thn (h pins _ σ _ _ I1 (q _ hn)) fun ws s2 ⟨ps,H2,I2,rel,e,kvs,ep,lk,q2⟩ =>?_)
 subst ep
 obtain ⟨rs,c,rk⟩ :=ZzB (P:=X.prog) (w:=X.w) rel
 obtain ⟨z,hd,vs0,r0,dd⟩ :=ZQq I2.hok e
 cases r0
 refine ⟨rs,c,dd,fun h' dd' hs=>⟨.ref s.heap.objs.size,_,?_,rfl,q2⟩⟩
 have hz:(ZnH [] kvs).length≤sizeLine:=by
  have h1:=Zsj kvs []
  rw [List.length_nil] at h1
  rw [sizeLine_eq]; omega
 have he:∃ q,h'.get? s.heap.objs.size=some q:=let ⟨q,_,_,hq,_⟩ :=dd'; ⟨q,hq⟩
 exact ZNl I2 (by rw [e]; exact True.intro) hs he (ZOR hz hd (rk.merge .nil) dd')
structure M2 (X:Cx) (o:Expr) (m:Str) (apos:Pos) (e f:Expr) (cpos:Pos):Prop where
 base:attributeBase o m X.env (eval o X.env)=eval o X.env
 few:((backTo cpos (starEach [e,f] X.env)).all (fun x=>!x.1) && (backToKw cpos (keywordEach [] X.env)).all (fun x=>x.1.isSome)
  && decide (([e,f]:List Expr).length + ([]:List Keyword).length + (if ([]:List Keyword).isEmpty then 0 else 1) < 30))=true
 line:(apos.endLine == cpos.line)=true
 trees:backTo cpos (starEach [e,f] X.env)=[(false,eval e X.env),(false,eval f X.env)]
def IsD (H:Hp) (a:Addr):Prop:=(∃ kvs,Rd H a (.dK kvs))∨∃ kvs,Rd H a (.dT kvs)
theorem ZPm {X:Cx} {pins:List (Addr × Obj)} {σ:St} {H:Hp} {s:Shared} {a:Addr} (I:Inv X pins σ H s) (d:IsD H a) :
  s.TypeIs (.ref a) "dict"∧(∀ b,Value.ref a=.ref b→∃ ob,s.heap.get? b=some ob∧ob.dict=none)∧(a == sysModules)=false:=by
 rcases d with ⟨kvs,e⟩ | ⟨kvs,e⟩
 ·obtain ⟨_,hd,vs,_,dd⟩ :=ZNo I.hok e
  refine ⟨dd.typeIs,fun b q=>?_,hd⟩
  cases q
  obtain ⟨ob,_,_,h1,h2,_⟩ :=dd
  exact ⟨ob,h1,h2.2.1⟩
 ·obtain ⟨_,hd,xs,_,dd⟩ :=ZOS I.hok e
  refine ⟨dd.typeIs,fun b q=>?_,hd⟩
  cases q
  obtain ⟨ob,_,_,h1,h2,_⟩ :=dd
  exact ⟨ob,h1,h2.2.1⟩
section
variable {X:Cx} {pins:List (Addr × Obj)} {σ:St} {H:Hp} {s:Shared} {a:Addr} {y d:V} {u r:Value} {o:Option V} {A:Around} {E:Value→Shared→Prop}
theorem ZOP {Q:Value→Shared→Prop} (hu:A.units + 1 < cLine) (I:Inv X pins σ H s) (g:DGet H a y o) (ry:RelV y u) (rd:RelV d r) (h:∀ w' s',Inv X pins σ H s'→RelV (o.getD d) w'→Q w' s') :
  wpAny (model X.prog X.w) A (call (.builtin "dict.get") [.ref a,u,r]) Q E s:=by
 rcases g with ⟨kvs,k,e,ey,l⟩ | ⟨kvs,k,b,e,ey,eb,l⟩
 ·subst ey
  obtain ⟨z,hd,vs,rel,dd⟩ :=ZNo I.hok e
  refine call_meetsIn PySem.F.slot_dict_get dd.typeIs PySem.F.entry_dict_get (PySem.F.args_dict_get_3 _ _ _) (meets_dict_get_default (ZdL X.prog X.w) a (ZNK ry) hd r) ⟨_,dd.mapOf,h _ _ (I.tok _) ?_⟩
  rw [l]
  exact (rel.val k).getD rd
 ·subst ey
  cases (show u=Value.ref b from ry)
  obtain ⟨z,hd,xs,rel,dd⟩ :=ZOS I.hok e
  refine call_meetsIn PySem.F.slot_dict_get dd.typeIs PySem.F.entry_dict_get (PySem.F.args_dict_get_3 _ _ _) (meetsH_dict_get_default (tupleKind (ZdL X.prog X.w)) a b hd r) ⟨tupleKind_room_in1 hu,k,xs,ZMN I.hok eb,dd,h _ _ (I.tok _) ?_⟩
  rw [l]
  exact (rel.val k).getD rd
end
def ZM7 (td ty tx:TE):TE:=fun σ H Q=>td σ H fun x H1=>∃ a,x=.ref a∧IsD H1 a∧ty σ H1 fun y H2=>tx σ H2 fun z H3=>∃ o,DGet H3 a y o∧Q (o.getD z) H3
section
variable {X:Cx} {o e f:Expr} {apos cpos:Pos} {td ty tx:TE}
theorem Zwt (hu:X.A.units + 1 < cLine) (ho:PE X o td) (he:PE X e ty) (hf:PE X f tx) (m:M2 X o "get" apos e f cpos):PE X (.Call (.Attribute o "get" apos) [e,f] [] cpos) (ZM7 td ty tx):=by
 intro pins s σ H Q I h
 refine wpAny_Call_method m.base m.few m.line PySem.F.plainAttrs_dict PySem.F.slot_dict_get PySem.F.type_dict_get (thn (ho pins s σ H _ I h) fun u s1 ⟨x,H1,I1,rx,a,ex,d,q1⟩ =>?_)
 subst ex
 obtain rfl:u=Value.ref a:=rx
 obtain ⟨t1,t2,_⟩ :=ZPm I1 d
 refine ⟨t1,t2,?_⟩
 rw [m.trees]
 refine Calls.callWith_builtin rfl (Calls.evalArgs_plain (Calls.spliced_cons (thn (he pins s1 σ H1 _ I1 q1) fun iv s2 ⟨y,H2,I2,ry,q2⟩ =>
  Calls.spliced_cons (thn (hf pins s2 σ H2 _ I2 q2) fun fv s3 ⟨z,H3,I3,rz,ov,g,q3⟩ =>Calls.spliced_nil ?_))))
 exact ZOP hu I3 g ry rz fun w' s4 I4 rw'=>⟨_,H3,I4,rw',q3⟩
end
section
variable {X:Cx} {pins:List (Addr × Obj)} {σ:St} {H:Hp} {s:Shared} {a:Addr} {kvs:List (Key × V)} {A:Around} {E:Value→Shared→Prop}
end
section
variable {X:Cx} {pins:List (Addr × Obj)} {σ:St} {H:Hp} {s:Shared} {a:Addr} {y:V} {u:Value} {A:Around} {E:Value→Shared→Prop}
end
end L2
namespace Att
open PySem PySem.W PySem.Calls PyProof.Rows
theorem ZxE {P:Params} {h:Heap}:∀ (ns:List Int) (vs:List Value),WellAll P h vs (ns.map WData.int)→IntsAre vs ns:=by
 intro ns
 induction ns with
 | nil=>
  intro vs w
  rw [List.map_nil] at w
  cases w
  exact .nil
 | cons n ns ih=>
  intro vs w
  rw [List.map_cons] at w
  cases w with
  | cons a b=>
   cases a
   exact .cons _ _ (ih _ b)
theorem ZJ3 {l:OpenLaw} {n:Nat} (hn:l.most=some n) {P:Params} {h:Heap} {args:List WData} {vals:List Value}
  (hpre:l.row.toRowW.claim.pre args=true) (hwl:WellAll P h vals args) :
  ∃ a vs ns,vals=[Value.ref a]∧args=[WData.list (ns.map WData.int)]∧h.get? a=some { cls:=.type "list",data:=.seq vs.toArray }∧IntsAre vs ns∧ns.length≤n:=by
 have hsh:WShape.hasAll [] args [.list .int]=true:=(pre_splitW hpre).1
 have hc:l.pre.holds [] { args:=args } = true:=(pre_splitW hpre).2
 obtain ⟨d,r,rfl,h1,h2⟩ :=hasAllW_cons hsh
 obtain rfl:=hasAllW_nil h2
 obtain ⟨xs,rfl,h3⟩ :=hasW_list h1
 obtain ⟨ns,rfl⟩ :=items_int h3
 have hlen:ns.length≤n:=by
  unfold OpenLaw.pre at hc
  have h4:(WTm.not (.lt (.lit (.int (n:Int))) (.len (.arg 0)))).holds [] { args:=[.list (ns.map .int)] } = true:=by
   have h4:=(holds_andW hc).1
   rw [hn] at h4
   exact h4
  have h5:=condW_of h4 (w_not (w_lt w_lit (w_len_list (w_arg rfl))))
  rw [List.length_map] at h5
  refine Nat.le_of_not_lt fun q=>?_
  have q':(n:Int) < ((ns.length:Nat):Int):=by omega
  first
   | (rw [decide_eq_true q'] at h5; exact absurd h5 (by decide))
   | (simp at h5; omega)
 cases hwl with
 | cons w1 w2=>
  cases w2
  cases w1 with
  | list ho hall=>exact ⟨_,_,ns,rfl,rfl,ho,ZxE ns _ hall,hlen⟩
theorem ZJP (l:OpenLaw) (args:List WData):l.row.toRowW.claim.post args (.bool true) args=true:=
 postW_of (r:=l.row.toRowW) (X:=(true == true))
  (show WShape.has [] (.bool true) .bool=true by first | rfl | decide | simp [WShape.has,WShape.arms,WShape.armsAll])
  (show (WTm.eq .res (.lit (.bool true))).value [] { args:=args,res:=some (.bool true),after:=args } = some (.bool (true == true)) from w_eq_bool (w_res rfl) w_lit) rfl
theorem attach_call {l:OpenLaw} {n:Nat} {q:Program} {loose:List Str} {XP:(Str→Option Value)→Heap→Prop} {YP:World→Heap→Prop} {d:DefRec}
  (hn:l.most=some n) (hdf:d.params.defaults=[])
  (call:∀ (w:World) (s₀ s₁:Shared) (mg mb:Str→Option Value) (fa:Addr) (o:Obj) (pm cd doc:Value) (a:Addr) (vs:List Value) (ns:List Int),
   Ground q loose [] XP w s₀ mg mb s₁.heap→YP w s₁.heap→
   s₁.heap.get? fa=some o→o.data=.func (docDef d.name d.params d.body d.scope pm cd doc)→s₁.heap.CodeRec cd d.name→mg d.name=some (.ref fa)→
   s₁.heap.get? a=some { cls:=.type "list",data:=.seq vs.toArray }→IntsAre vs ns→ns.length≤n→s₁.gens = #[]→
   codeAny (model l.prog w) callerA (.call (.ref fa) ⟨[.ref a],[]⟩) (fun r s'=>r=.ok (.ret (.bool true))∧OldK s₁.heap s'.heap∧s'.os=s₁.os∧AllBare s'.gens) s₁) :
  WalkO q loose XP YP l.row.toRowW d [] (fun f vs=>PySem.call f vs):=by
 intro w s₀ s₁ mg mb G Y fa o pm cd doc dV kV ho hd hcd hD hmg hg args vals as hpre hlay hrd hwl hlo
 obtain rfl:dV=.none:=Dflts.none hD hdf
 obtain rfl:kV=.none:=Dflts.noKw hD
 obtain ⟨a,vs,ns,rfl,rfl,hobj,hints,hlen⟩ :=ZJ3 hn hpre hwl
 refine enter_call (codeAny_mono (call w s₀ s₁ mg mb fa o pm cd doc a vs ns G Y ho (fd_plain hd) hcd hmg hobj hints hlen hg) fun r s' hq=>?_)
 obtain ⟨rfl,h2,h3,h4⟩ :=hq
 exact ⟨.inl ⟨.bool true,.bool true,[],rfl,fun _=>rfl,.bool true,ZJP l _,fun _=>⟨List.Pairwise.nil,fun _ hm=>(nomatch hm)⟩⟩,h2,h3,h4⟩
section
variable {prog:Program} {w:World} {A:Around} {E:Value→Shared→Prop} {s:Shared} {K:Frag}
end
end Att
namespace L2
open PySem PySem.Spec PyProof.Rows
theorem ZEc:∀ {vs:List Value} {ns:List Int},IntsAre vs ns→Vals (ns.map V.int) vs
 | _,_,.nil=>.nil
 | _,_,.cons n t h=>.cons ⟨t,rfl⟩ (ZEc h)
def Only (H:Hp):Prop:=∀ b,H b=none∨∃ o xs,H b=some (.frz o (.lst xs))
theorem ZLd {P:Program} {w:World} {K:PySem.W.Frag} {mg mb:Str→Option Value} {CX:CXT} {k:Nat} {fa a:Addr} {fd:FuncData} {x:Str} {sp:Sp} {s₁:Shared} {vs:List Value} {ns:List Int}
  (KX:K.In s₁.heap) (hns:s₁.heap.Ns mainGlobals mg) (hb:s₁.heap.Ns builtinsNs mb) (hbb:∀ x:Str,x ≠ "__name__"→mb x=bootBuiltins x) (hlim:s₁.heap.NoLimit) (hg:s₁.gens = #[])
  (ha:s₁.heap.get? a=some { cls:=.type "list",data:=.seq vs.toArray }) (hi:IntsAre vs ns) (hl:ns.length≤sizeLine) (hr:Room k callerA)
  (F:∀ base:Heap,K.In base→base.Ns mainGlobals mg→FnOk P w K mg base CX k fa fd [x] sp) (hbind:∀ (s:Shared) (u:Value),BindsTo s fd ⟨[u],[]⟩ [(x,u)])
  (hsp:∀ H:Hp,Only H→SqL K H a (ns.map V.int)→sp [.ref a] H (fun v _=>v=.bl true) fun _ _ _=>False)
  (hCX:∀ H e s',CX [] H s₁ (fun _ _ _=>False) e s'→False) :
  codeAny (model P w) callerA (.call (.ref fa) ⟨[.ref a],[]⟩) (fun r s'=>r=.ok (.ret (.bool true))∧OldK s₁.heap s'.heap∧s'.os=s₁.os∧AllBare s'.gens) s₁:=by
 have rv:=ZEc hi
 have lenV:=hi.length
 have core:∀ H:Hp,Only H→SqL K H a (ns.map V.int)→HOk P w H s₁.heap→(∀ b,H b ≠ none→b=a)→(H a ≠ none→K.lookup a=none)→
   codeAny (model P w) callerA (.call (.ref fa) ⟨[.ref a],[]⟩) (fun r s'=>r=.ok (.ret (.bool true))∧OldK s₁.heap s'.heap∧s'.os=s₁.os∧AllBare s'.gens) s₁:=by
  intro H hO hS hok hA hK
  have base_of:∀ {b:Addr} {o:Obj},s₁.heap.get? b=some o→H b=none→(hidT s₁.heap H).get? b=some o:=fun e n=>ZK0 e n
  have noA:∀ {b:Addr} {o:Obj} {es:Array DictEntry} {ep:Nat},s₁.heap.get? b=some o→o.data=.dict es ep→H b=none:=fun {b o es ep} e d=>by
   cases q:H b with
   | none=>rfl
   | some u=>
    have e':b=a:=hA b (by rw [q]; simp)
    subst e'
    rw [ha] at e; cases e
    have d':Data.seq vs.toArray _=Data.dict es ep:=d
    cases d'
  have nsK:∀ {b:Addr} {m:Str→Option Value},s₁.heap.Ns b m→(hidT s₁.heap H).Ns b m:=fun {b m} ⟨o,es,ep,e,d,r⟩ =>⟨o,es,ep,base_of e (noA e d),d,r⟩
  have hKb:K.In (hidT s₁.heap H):=fun b o e=>base_of (KX b o e) (by
   cases q:H b with
   | none=>rfl
   | some u=>
    have e':b=a:=hA b (by rw [q]; simp)
    subst e'
    rw [hK (by rw [q]; simp)] at e; cases e)
  have hM:Mod K mg (hidT s₁.heap H):=⟨hKb,nsK hns,⟨mb,nsK hb,hbb⟩,let ⟨mc,h1,h2⟩ :=hlim; ⟨mc,nsK h1,h2⟩⟩
  have e0:Env0 P w K mg (hidT s₁.heap H) callerA [] s₁ H:=⟨rfl,hM,fun b o e=>ZNY e,Nat.le_of_eq (ZIF _ _),trivial,fun b hb=>absurd (show b ∈ ([]:List Addr) from hb) (by simp),hok,.of_eq hg⟩
  refine codeAny_mono ((F _ hKb (nsK hns)).run callerA [] s₁ H ⟨[.ref a],[]⟩ [.ref a] [.ref a] _ _ hr e0 (hbind s₁ (.ref a)) (.cons rfl .nil) (hsp H hO hS)) fun r s' h=>?_
  cases r with
  | error e=>exact (hCX H e s' h).elim
  | ok fl=>
   cases fl with
   | next=>exact False.elim h
   | brk=>exact False.elim h
   | cont=>exact False.elim h
   | ret u=>
    obtain ⟨v,H',os,bare,un,hok',r',q⟩ :=h
    have q':v=.bl true:=q
    subst q'
    obtain rfl:u=Value.bool true:=r'
    refine ⟨rfl,OldK.of_keep fun b o e=>?_,os,bare⟩
    cases q:H b with
    | none=>exact un.keep b o e q (by intro z; exact absurd (show b ∈ ([]:List Addr) from z) (by simp)) (by simp)
    | some u=>
     rcases hO b with z | ⟨ob,xs,z⟩
     ·rw [q] at z; cases z
     ·have z2:=un.frzs b ob _ z
      obtain ⟨e1,_⟩ :=hok b _ z
      obtain ⟨e2,_⟩ :=hok' b _ z2
      rw [e] at e1; cases e1
      exact e2
 cases hk:K.lookup a with
 | some o=>
  have e:=KX a o hk
  rw [ha] at e
  cases e
  refine core (fun _=>none) (fun _=>.inl rfl) (.inr ⟨_,vs.toArray,_,hk,rfl,rfl,rfl,by rw [List.size_toArray,lenV]; exact hl,by simpa using rv⟩) (fun b u z=>by have z':(none:Option HO)=some u:=z; cases z') (fun b z=>absurd rfl z) fun z=>absurd rfl z
 | none=>
  refine core (fun b=>if b=a then some (.frz { cls:=.type "list",data:=.seq vs.toArray } (.lst (ns.map V.int))) else none) (fun b=>?_) (.inl (.inr ⟨{ cls:=.type "list",data:=.seq vs.toArray },if_pos rfl⟩)) (fun b u z=>?_) (fun b z=>?_) fun _=>hk
  ·by_cases hb:b=a
   ·exact .inr ⟨_,_,if_pos hb⟩
   ·exact .inl (if_neg hb)
  ·by_cases hb:b=a
   ·have z':=(if_pos hb).symm.trans z
    cases z'
    subst hb
    exact ⟨ha,by rw [List.length_map]; exact hl,vs,_,rv,ha⟩
   ·have z':=(if_neg hb).symm.trans z
    cases z'
  ·by_cases hb:b=a
   ·exact hb
   ·exact absurd (if_neg hb) z
end L2
namespace L2
open PySem PySem.Spec PyProof.Rows
abbrev KOf {K:PySem.W.Frag} {h:Heap} (_:K.In h):PySem.W.Frag:=K
theorem ZOE {l:PySem.W.OpenLaw} {n k:Nat} {q:Program} {loose:List Str} {XP:(Str→Option Value)→Heap→Prop} {YP:World→Heap→Prop} {d:DefRec} {K:Params→PySem.W.Frag} {CX:World→CXT} {sp:World→Sp} {x:Str}
  (hn:l.most=some n) (hn2:n≤sizeLine) (hdf:d.params.defaults=[]) (hr:Room k callerA)
  (hY:∀ (w:World) (h:Heap),YP w h→(K w.params).In h)
  (F:∀ (w:World) (mg:Str→Option Value) (fa:Addr) (h:Heap),(K w.params).In h→h.Ns mainGlobals mg→mg d.name=some (.ref fa)→
   ∃ fd:FuncData,(∀ (s:Shared) (u:Value),BindsTo s fd ⟨[u],[]⟩ [(x,u)])∧
    ∀ base:Heap,(K w.params).In base→base.Ns mainGlobals mg→FnOk l.prog w (K w.params) mg base (CX w) k fa fd [x] (sp w))
  (hsp:∀ (w:World) (H:Hp) (a:Addr) (ns:List Int),ns.length≤n→Only H→SqL (K w.params) H a (ns.map V.int)→sp w [.ref a] H (fun v _=>v=.bl true) fun _ _ _=>False)
  (hCX:∀ (w:World) (H:Hp) (s:Shared) (e:Value) (s':Shared),CX w [] H s (fun _ _ _=>False) e s'→False) :
  PySem.W.WalkO q loose XP YP l.row.toRowW d [] (fun f vs=>PySem.call f vs):=by
 refine Att.attach_call hn hdf fun w s₀ s₁ mg mb fa o pm cd doc a vs ns G Y ho hd hcd hmg hobj hints hlen hg=>?_
 have KX:=hY w _ Y
 obtain ⟨fd,hb,hF⟩ :=F w mg fa _ KX G.T.g hmg
 exact ZLd KX G.T.g G.T.b G.T.builtins G.T.nolimit hg hobj hints (Nat.le_trans hlen hn2) hr hF hb (fun H hO hS=>hsp w H a ns hlen hO hS) fun H e s'=>hCX w H s₁ e s'
theorem walk_ofK {l:PySem.W.OpenLaw} {n k:Nat} {q:Program} {loose:List Str} {XP:(Str→Option Value)→Heap→Prop} {YP:World→Heap→Prop} {d:DefRec} {K:Params→PySem.W.Frag} {CX:CXT} {sp:PySem.W.Frag→Sp} {x:Str}
  (hn:l.most=some n) (hn2:n≤sizeLine) (hdf:d.params.defaults=[]) (hr:Room k callerA)
  (hY:∀ (w:World) (h:Heap),YP w h→(K w.params).In h)
  (F:∀ (w:World) (mg:Str→Option Value) (fa:Addr) (h:Heap),(K w.params).In h→h.Ns mainGlobals mg→mg d.name=some (.ref fa)→
   ∃ fd:FuncData,(∀ (s:Shared) (u:Value),BindsTo s fd ⟨[u],[]⟩ [(x,u)])∧
    ∀ base:Heap,(K w.params).In base→base.Ns mainGlobals mg→FnOk l.prog w (K w.params) mg base CX k fa fd [x] (sp (K w.params)))
  (hsp:∀ (K:PySem.W.Frag) (H:Hp) (a:Addr) (ns:List Int),ns.length≤n→Only H→SqL K H a (ns.map V.int)→sp K [.ref a] H (fun v _=>v=.bl true) fun _ _ _=>False)
  (hCX:∀ (H:Hp) (s:Shared) (e:Value) (s':Shared),CX [] H s (fun _ _ _=>False) e s'→False) :
  PySem.W.WalkO q loose XP YP l.row.toRowW d [] (fun f vs=>PySem.call f vs):=
 ZOE (K:=K) (CX:=fun _=>CX) (sp:=fun w=>sp (K w.params)) hn hn2 hdf hr hY F (fun w H a ns h1 h2 h3=>hsp (K w.params) H a ns h1 h2 h3) fun _ H s e s'=>hCX H s e s'
end L2
namespace L2
open PySem PySem.Spec PyProof.Rows
def Za3 (s:Stmt) (j:Nat):Stmt:=match s with
 | .ClassDef _ _ _ body _ _ _ _ _ _ _=>body.getD j (.Pass ⟨0,0,0,0⟩)
 | _=>.Pass ⟨0,0,0,0⟩
def Zai (s:Stmt):Arguments:=match s with
 | .FunctionDef _ a _ _ _ _ _ _ _ _=>a
 | _=>{ posonlyargs:=[],args:=[],vararg:=none,kwonlyargs:=[],kw_defaults:=[],kwarg:=none,defaults:=[] }
def Zag (s:Stmt):List Stmt:=match s with
 | .FunctionDef _ _ b _ _ _ _ _ _ _=>b
 | _=>[]
def Zab (s:Stmt):Scope:=match s with
 | .FunctionDef _ _ _ _ _ _ sc _ _ _=>sc
 | _=>{ kind:=.function,names:=[],isGenerator:=false,isCoroutine:=false }
abbrev CX0:CXT:=fun _ _ _ _ _ _=>False
abbrev E0:XK:=fun _ _ _=>False
theorem ZJF {X:Cx}:ZoV CX0 X E0:=fun _ _ _ _ _ _ _ h=>h.elim
structure Fun (K:PySem.W.Frag) (x qual:Str) (st:Stmt) (f:Addr) (fd:FuncData):Prop where
 ex:∃ (oc:Value) (od:Option Addr) (kV doc pm:Value) (an:Option Addr) (cdv ct:Value) (osl:Array (Option Value)),
  fd=PySem.W.fnOf x qual (Zai st) (Zag st) (Zab st) .none kV doc pm an cdv ct∧K.lookup f=some ⟨oc,od,.func fd,osl⟩ ∧PySem.W.codeIn K cdv qual=true
 kp:PySem.W.keepIn K (.ref f)=true
section
variable {P:Program} {w:World} {K:PySem.W.Frag} {mg:Str→Option Value} {base:Heap}
theorem Fun.ok {x qual:Str} {st:Stmt} {f:Addr} {fd:FuncData} {N ps:List Str} {k:Nat} {sp:Sp} (F:Fun K x qual st f fd) (S:FnScope N ps (Zab st)) (len:∀ vs H Q E,sp vs H Q E→vs.length=ps.length)
  (hbody:∀ (cdv:Value) (A:Around) (outer:List Env) (s:Shared) (H:Hp) (vs:List V) (Q:VK) (E:XK),Room k (A.deeper (envOfC qual (Zab st) s.heap.objs.size f cdv))→sp vs H Q E→
   ∃ t,PSs (cxOf CX0 P w K mg base N qual (Zab st) f cdv A outer s H E).nox (Zag st) t∧t { nx:=fun _ H'=>Q .non H',rt:=Q } (start N vs) H):FnOk P w K mg base CX0 (k + 1) f fd ps sp:=by
 obtain ⟨oc,od,kV,doc,pm,an,cdv,ct,osl,rfl,lk,hcd⟩ :=F.ex
 refine ZOW lk hcd S len fun A outer s H vs Q E hr hsp=>?_
 obtain ⟨t,h,q⟩ :=hbody cdv A outer s H vs Q E hr hsp
 exact ⟨t,h.nox,q⟩
theorem Fun.binds {x qual:Str} {st:Stmt} {f:Addr} {fd:FuncData} {ps:List Str} (F:Fun K x qual st f fd)
  (h:∀ (kV doc pm:Value) (an:Option Addr) (cdv ct:Value) (us:List Value),us.length=ps.length→bindArgs (PySem.W.fnOf x qual (Zai st) (Zag st) (Zab st) .none kV doc pm an cdv ct) ⟨us,[]⟩=pure (ps.zip us)):ZaW K fd ps []:=by
 obtain ⟨oc,od,kV,doc,pm,an,cdv,ct,osl,rfl,lk,hcd⟩ :=F.ex
 exact .all (h kV doc pm an cdv ct)
theorem Zao {x qual:Str} {st:Stmt} {f:Addr} {oc:Value} {od an:Option Addr} {osl:Array (Option Value)} {kV doc pm cdv ct:Value} (l:K.lookup f=some ⟨oc,od,.func (PySem.W.fnOf x qual (Zai st) (Zag st) (Zab st) .none kV doc pm an cdv ct),osl⟩)
  (c:PySem.W.codeIn K cdv qual=true) (k:PySem.W.keepIn K (.ref f)=true):Fun K x qual st f (PySem.W.fnOf x qual (Zai st) (Zag st) (Zab st) .none kV doc pm an cdv ct):=⟨⟨oc,od,kV,doc,pm,an,cdv,ct,osl,rfl,l,c⟩,k⟩
end
section
variable {X:Cx}
theorem pv (i:Nat) {x:Str} {pos:Pos} (hN:X.N[i]?=some x:=by rfl) (hv:Vis X.env.scope x:=by first | exact Or.inl rfl | exact Or.inr (Or.inl rfl) | exact Or.inr (Or.inr rfl)) (hd:(x == ("__debug__" : Str))=false:=by decide)
  (hcd:(x == ("__classdict__" : Str))=false:=by decide):PE X (.Name x pos) (tVar i):=ZPM hN hv hd hcd
end
abbrev Same (H H':Hp):Prop:=∀ b o,H b=some o→H' b=some o
theorem Same.refl (H:Hp):Same H H:=fun _ _ h=>h
theorem Same.trans {H H1 H2:Hp} (a:Same H H1) (b:Same H1 H2):Same H H2:=fun c o h=>b c o (a c o h)
theorem Same.free {H H':Hp} (e:Same H H') {l:Addr} (h:H' l=Option.none):H l=Option.none:=by
 cases q:H l with
 | none=>rfl
 | some o=>
  rw [e l o q] at h
  cases h
theorem Same.seq {K:PySem.W.Frag} {H H':Hp} {a:Addr} {xs:List V} (e:Same H H') (h:SqL K H a xs):SqL K H' a xs:=by
 rcases h with (h | ⟨o,h⟩) | h
 ·exact .inl (.inl (e _ _ h))
 ·exact .inl (.inr ⟨o,e _ _ h⟩)
 ·exact .inr h
section
variable {X:Cx}
end
section
variable {κ:Type} [DecidableEq κ]
end
end L2
namespace EM
def bits (f:Nat→Bool):Nat→Nat
 | 0=>0
 | n + 1=>bits f n + (if f n then 2 ^ n else 0)
theorem Zz2 (f:Nat→Bool):∀ n,bits f n < 2 ^ n
 | 0=>by simp [bits]
 | n + 1=>by
  have h:=Zz2 f n
  simp only [bits]
  have e:(2:Nat) ^ (n + 1)=2 ^ n + 2 ^ n:=by rw [Nat.pow_succ]; omega
  split <;> omega
theorem Za5 (f:Nat→Bool) (i:Nat):∀ n,(bits f n).testBit i=(decide (i < n) && f i)
 | 0=>by simp [bits]
 | n + 1=>by
  have ih:=Za5 f i n
  have hl:=Zz2 f n
  simp only [bits]
  by_cases hf:f n=true
  ·rw [if_pos hf,Nat.add_comm]
   rcases Nat.lt_trichotomy i n with h | h | h
   ·rw [Nat.testBit_two_pow_add_gt h,ih]
    simp [h,Nat.lt_succ_of_lt h]
   ·subst h
    rw [Nat.testBit_two_pow_add_eq,ih]
    simp [hf]
   ·have:(2:Nat) ^ n + bits f n < 2 ^ i:=by
     have e:(2:Nat) ^ (n + 1)=2 ^ n + 2 ^ n:=by rw [Nat.pow_succ]; omega
     have:(2:Nat) ^ (n + 1)≤2 ^ i:=Nat.pow_le_pow_right (by decide) h
     omega
    rw [Nat.testBit_lt_two_pow this]
    have : ¬ i < n + 1:=by omega
    simp [this]
  ·rw [if_neg hf,Nat.add_zero,ih]
   by_cases h:i=n
   ·subst h
    have:f i=false:=by simpa using hf
    simp [this]
   ·have:(i < n + 1) ↔ (i < n):=by omega
    simp [this]
theorem Zwi {f g:Nat→Bool} {n:Nat} (h:∀ i,i < n→f i=g i):bits f n=bits g n:=by
 apply Nat.eq_of_testBit_eq
 intro i
 rw [Za5,Za5]
 by_cases hi:i < n
 ·simp [hi,h i hi]
 ·simp [hi]
theorem ZKH (f g:Nat→Bool) (n:Nat):bits f n &&& bits g n=bits (fun i=>f i && g i) n:=by
 apply Nat.eq_of_testBit_eq
 intro i
 rw [Nat.testBit_and,Za5,Za5,Za5]
 cases decide (i < n) <;> simp
theorem ZNj (f g:Nat→Bool) (n:Nat):bits f n ||| bits g n=bits (fun i=>f i || g i) n:=by
 apply Nat.eq_of_testBit_eq
 intro i
 rw [Nat.testBit_or,Za5,Za5,Za5]
 cases decide (i < n) <;> simp
theorem ZFX (f g:Nat→Bool) (n:Nat):bits f n ^^^ bits g n=bits (fun i=>xor (f i) (g i)) n:=by
 apply Nat.eq_of_testBit_eq
 intro i
 rw [Nat.testBit_xor,Za5,Za5,Za5]
 cases decide (i < n) <;> simp
theorem ZwW (n:Nat):bits (fun _=>true) n=2 ^ n - 1:=by
 apply Nat.eq_of_testBit_eq
 intro i
 rw [Za5,Nat.testBit_two_pow_sub_one]
 simp
theorem Ztg (n:Nat):bits (fun _=>false) n=0:=by
 apply Nat.eq_of_testBit_eq
 intro i
 rw [Za5]
 simp
theorem ZEG (f:Nat→Bool) (n:Nat) (h:f n=true):bits f n ||| 2 ^ n=bits f (n + 1):=by
 have e:=Nat.two_pow_add_eq_or_of_lt (Zz2 f n) 1
 rw [Nat.mul_one] at e
 rw [Nat.or_comm,← e]
 simp only [bits,h,if_true]
 omega
theorem ZH7 (f:Nat→Bool) (n:Nat) (h:f n=false):bits f (n + 1)=bits f n:=by
 simp [bits,h]
theorem ZNS (s k:Nat):s.testBit k=decide (s / 2 ^ k % 2=1):=Nat.testBit_eq_decide_div_mod_eq
theorem ZGE:∀ (n x y:Nat),x < n→(x ||| y)=(x &&& y) + (x ^^^ y)
 | 0,x,y,h=>absurd h (by omega)
 | n + 1,x,y,h=>by
  by_cases hx:x=0
  ·subst hx; simp
  ·have ih:=ZGE n (x / 2) (y / 2) (by omega)
   have e1:=Nat.div_add_mod (x ||| y) 2
   have e2:=Nat.div_add_mod (x &&& y) 2
   have e3:=Nat.div_add_mod (x ^^^ y) 2
   rw [Nat.or_div_two] at e1
   rw [Nat.and_div_two] at e2
   rw [Nat.xor_div_two] at e3
   have m1:(x ||| y) % 2=(x % 2 ||| y % 2):=Nat.or_mod_two_pow (n:=1)
   have m2:(x &&& y) % 2=(x % 2 &&& y % 2):=Nat.and_mod_two_pow (n:=1)
   have m3:(x ^^^ y) % 2=(x % 2 ^^^ y % 2):=Nat.xor_mod_two_pow (n:=1)
   have m4:(x % 2 ||| y % 2)=(x % 2 &&& y % 2) + (x % 2 ^^^ y % 2):=by
    rcases Nat.mod_two_eq_zero_or_one x with a | a <;> rcases Nat.mod_two_eq_zero_or_one y with b | b <;> rw [a,b] <;> rfl
   omega
end EM
namespace EM
inductive W3 where
 | a | e | o
 deriving DecidableEq
inductive Fm where
 | lamp (k:Nat)
 | sure (b:Bool)
 | neg (f:Fm)
 | join (w:W3) (fs:List Fm)
def comb:W3→List Bool→Bool
 | .a,bs=>bs.all id
 | .o,bs=>bs.any id
 | .e,bs=>bs.foldl xor false
mutual
def Fm.holds (s:Nat):Fm→Bool
 | .lamp k=>s.testBit k
 | .sure b=>b
 | .neg f=>!(f.holds s)
 | .join w fs=>comb w (Fm.holdsL s fs)
def Fm.holdsL (s:Nat):List Fm→List Bool
 | []=>[]
 | f :: fs=>f.holds s :: Fm.holdsL s fs
end
theorem ZCL (s:Nat):∀ fs:List Fm,Fm.holdsL s fs=fs.map (Fm.holds s)
 | []=>by simp [Fm.holdsL]
 | f :: fs=>by simp [Fm.holdsL,ZCL s fs]
theorem ZdU (s:Nat) (w:W3) (fs:List Fm):(Fm.join w fs).holds s=comb w (fs.map (Fm.holds s)):=by
 simp [Fm.holds,ZCL]
theorem Zw2 (bs:List Bool) (b:Bool):comb .e (bs ++ [b])=xor (comb .e bs) b:=by simp [comb]
theorem Zw1 (bs:List Bool) (b:Bool):comb .a (bs ++ [b])=(comb .a bs && b):=by simp [comb]
theorem Zw3 (bs:List Bool) (b:Bool):comb .o (bs ++ [b])=(comb .o bs || b):=by simp [comb]
def Fm.crowd (f:Fm) (n:Nat):Nat:=bits (fun s=>f.holds s) n
mutual
def Fm.low (m:Nat):Fm→Bool
 | .lamp k=>decide (k < m)
 | .sure _=>true
 | .neg f=>f.low m
 | .join _ fs=>Fm.lowL m fs
def Fm.lowL (m:Nat):List Fm→Bool
 | []=>true
 | f :: fs=>f.low m && Fm.lowL m fs
end
theorem ZJb (m:Nat):∀ fs:List Fm,Fm.lowL m fs=fs.all (Fm.low m)
 | []=>by simp [Fm.lowL]
 | f :: fs=>by simp [Fm.lowL,ZJb m fs]
theorem ZAx (m:Nat) (w:W3) (fs:List Fm):(Fm.join w fs).low m=fs.all (Fm.low m):=by
 simp [Fm.low,ZJb]
def ZHc:W3→Nat→Nat→Nat
 | .a,x,y=>x &&& y
 | .o,x,y=>x ||| y
 | .e,x,y=>x ^^^ y
def ZKl:W3→Bool
 | .a=>true
 | _=>false
def b2:W3→Bool→Bool→Bool
 | .a,x,y=>x && y
 | .o,x,y=>x || y
 | .e,x,y=>xor x y
theorem ZKO (w:W3):comb w []=ZKl w:=by cases w <;> rfl
theorem ZIj (w:W3) (bs:List Bool) (b:Bool):comb w (bs ++ [b])=b2 w (comb w bs) b:=by
 cases w
 ·exact Zw1 bs b
 ·exact Zw2 bs b
 ·exact Zw3 bs b
theorem ZHe (w:W3) (f g:Nat→Bool) (n:Nat):ZHc w (bits f n) (bits g n)=bits (fun i=>b2 w (f i) (g i)) n:=by
 cases w
 ·exact ZKH f g n
 ·exact ZFX f g n
 ·exact ZNj f g n
theorem Zi4 (w:W3) (n:Nat):(Fm.join w []).crowd n=bits (fun _=>ZKl w) n:=by
 unfold Fm.crowd
 apply Zwi
 intro i _
 rw [ZdU,List.map_nil,ZKO]
theorem ZeQ (w:W3) (fs:List Fm) (f:Fm) (n:Nat):(Fm.join w (fs ++ [f])).crowd n=ZHc w ((Fm.join w fs).crowd n) (f.crowd n):=by
 unfold Fm.crowd
 rw [ZHe]
 apply Zwi
 intro i _
 rw [ZdU,ZdU,List.map_append,List.map_cons,List.map_nil,ZIj]
theorem ZyX (w:W3) (f:Fm) (n:Nat):(Fm.join w [f]).crowd n=f.crowd n:=by
 unfold Fm.crowd
 apply Zwi
 intro i _
 rw [ZdU]
 cases w <;> simp [comb]
theorem ZCB (f:Fm) (n:Nat):(Fm.neg f).crowd n=(2 ^ n - 1) ^^^ f.crowd n:=by
 unfold Fm.crowd
 rw [← ZwW,ZFX]
 apply Zwi
 intro i _
 simp [Fm.holds]
theorem ZzD (b:Bool) (n:Nat):(Fm.sure b).crowd n=if b then 2 ^ n - 1 else 0:=by
 unfold Fm.crowd
 cases b
 ·simp only [Fm.holds]; exact Ztg n
 ·simp only [Fm.holds]; exact ZwW n
end EM
set_option maxRecDepth 100000
set_option maxHeartbeats 4000000
namespace L2
open PySem PySem.Spec PyProof.Rows
section
variable {σ:St} {H:Hp} {Q:VK} {D:Ends} {K:PySem.W.Frag} {BQ:Bool→Hp→Prop}
theorem ZPj {i:Nat} {v:V} (h:σ[i]?=some (some v)) (k:Q v H):tVar i σ H Q:=⟨v,h,k⟩
theorem i_c {v:V} (k:Q v H):tC v σ H Q:=k
theorem i_op {r:R2} {ta tb:TE} (h:ta σ H fun x H1=>tb σ H1 fun y H2=>r x y H2 Q):tOp r ta tb σ H Q:=h
theorem i_un {r:V→Hp→VK→Prop} {ta:TE} (h:ta σ H fun x H1=>r x H1 Q):tUn r ta σ H Q:=h
theorem ZPd {g:Int→Int→V} {i j:Int} (h:Q (g i j) H):rI0 g (.int i) (.int j) H Q:=⟨i,j,rfl,rfl,h⟩
theorem i_rI {C:Int→Int→Prop} {g:Int→Int→V} {i j:Int} (c:C i j) (h:Q (g i j) H):rI C g (.int i) (.int j) H Q:=⟨i,j,rfl,rfl,c,h⟩
theorem i_rU {g:Int→V} {i:Int} (h:Q (g i) H):rU g (.int i) H Q:=⟨i,rfl,h⟩
theorem ZNw {i j:Int} (h:Q (.bl (decide (i=j))) H):rEq (.int i) (.int j) H Q:=by
 refine ⟨rfl,?_⟩
 have e:decide (V.int i=V.int j)=decide (i=j):=by simp
 rw [e]; exact h
theorem ZNx {i j:Str} (h:Q (.bl (decide (i=j))) H):rEq (.str i) (.str j) H Q:=by
 refine ⟨rfl,?_⟩
 have e:decide (V.str i=V.str j)=decide (i=j):=by simp
 rw [e]; exact h
theorem ZND {i j:Int} (h:Q (.bl (!decide (i=j))) H):rNe (.int i) (.int j) H Q:=by
 refine ⟨rfl,?_⟩
 have e:decide (V.int i=V.int j)=decide (i=j):=by simp
 rw [e]; exact h
theorem ZNE {i j:Str} (h:Q (.bl (!decide (i=j))) H):rNe (.str i) (.str j) H Q:=by
 refine ⟨rfl,?_⟩
 have e:decide (V.str i=V.str j)=decide (i=j):=by simp
 rw [e]; exact h
theorem ZNC {i j:Bool} (h:Q (.bl (!decide (i=j))) H):rNe (.bl i) (.bl j) H Q:=by
 refine ⟨rfl,?_⟩
 have e:decide (V.bl i=V.bl j)=decide (i=j):=by simp
 rw [e]; exact h
theorem ZMI {t:TE} (h:t σ H fun x H'=>∃ k,x=.bl k∧BQ k H'):ZOB t σ H BQ:=h
theorem ZO2 {b:Bool} {R:Bool→Prop} (h:R b):∃ k,V.bl b=V.bl k∧R k:=⟨b,rfl,h⟩
theorem ZOY {t u:TT} (h:t σ H fun c H1=>if c=true then u σ H1 BQ else BQ false H1):tAnd t u σ H BQ:=h
theorem i_or {t u:TT} (h:t σ H fun c H1=>if c=true then BQ true H1 else u σ H1 BQ):tOr t u σ H BQ:=h
theorem ZPc {t:TT} (h:t σ H fun c H1=>BQ (!c) H1):tNot t σ H BQ:=h
theorem i_if {t:TT} {ta tb:TE} (h:t σ H fun c H1=>if c=true then ta σ H1 Q else tb σ H1 Q):tIf t ta tb σ H Q:=h
theorem ZAk {t u:TS} (h:t { D with nx:=u D } σ H):tSeq t u D σ H:=h
theorem ZMD (h:D.nx σ H):ZQf D σ H:=h
theorem ZMq {te:TE} (h:te σ H fun _ H1=>D.nx σ H1):ZOz te D σ H:=h
theorem ZPg {te:TE} (h:te σ H D.rt):tRet te D σ H:=h
theorem ZO6 {c:TT} {t u:TS} (h:c σ H fun b H1=>if b=true then t D σ H1 else u D σ H1):tIfS c t u D σ H:=h
theorem ZOZ {te:TE} {g:TG} (h:te σ H fun x H1=>g x σ H1 D.nx):tAsg te g D σ H:=h
theorem ZMz {i:Nat} {v:V} {R:St→Hp→Prop} (h:R (σ.set i (some v)) H):ZCJ i v σ H R:=h
theorem ZPb {R:List V→Hp→Prop} (h:R [] H):tNil σ H R:=h
theorem ZMo {ta:TE} {tr:TA} {R:List V→Hp→Prop} (h:ta σ H fun x H1=>tr σ H1 fun xs H2=>R (x :: xs) H2):Zs8 ta tr σ H R:=h
theorem i_cb {r:List V→Hp→VK→Prop} {t:TA} (h:t σ H fun vs H1=>r vs H1 Q):tCB r t σ H Q:=h
abbrev NewL (xs:List V) (H:Hp) (Q:VK):Prop:=xs.length≤sizeLine∧∀ p,H p=none→Q (.ref p) (upd H p (.lst xs))
abbrev NewT (xs:List V) (H:Hp) (Q:VK):Prop:=xs.length≤sizeLine∧∀ p,H p=none→Q (.ref p) (upd H p (.tup xs))
theorem ZPh {t:TA} (h:t σ H fun xs H1=>NewT xs H1 Q):tTup t σ H Q:=h
theorem ZO7 {t:TA} (h:t σ H fun xs H1=>NewL xs H1 Q):tLst t σ H Q:=h
theorem i_bm {T:String} {r:V→List V→Hp→VK→Prop} {to:TE} {t:TA} (h:to σ H fun x H1=>tyV K T x H1∧t σ H1 fun xs H2=>r x xs H2 Q):tBM K T r to t σ H Q:=h
theorem ZO0 {T:String} {r:V→List V→Hp→VK→Prop} {to:TE} (h:to σ H fun x H1=>tyV K T x H1∧r x [] H1 Q):tBM0 K T r to σ H Q:=h
theorem ZO4 {ta:TE} {f:Str} (h:ta σ H fun x H1=>∃ a C dx fs v,x=.ref a∧H1 a=some (.ins C dx fs)∧Cls K C∧ZaB K C f∧fs.lookup f=some v∧Q v H1):tFld K ta f σ H Q:=h
theorem ZMH {ta tv:TE} {f:Str} (h:tv σ H fun y H1=>ta σ H1 fun x H2=>∃ a C dx fs,x=.ref a∧H2 a=some (.ins C dx fs)∧Cls K C∧ZaB K C f∧fs.length < 1000∧D.nx σ (upd H2 a (.ins C dx (putF f y fs)))):sFld K ta tv f D σ H:=h
theorem i_sl {r:V→Option Int→Option Int→Hp→VK→Prop} {te:TE} {tl th:TO} (h:te σ H fun x H1=>tl σ H1 fun l H2=>th σ H2 fun u H3=>r x l u H3 Q):tSl r te tl th σ H Q:=h
theorem ZMG {t:TE} {R:Option Int→Hp→Prop} (h:t σ H fun x H1=>∃ i,x=.int i∧R (some i) H1):ZOA t σ H R:=h
theorem ZO3 {b:Int} {R:Int→Prop} (h:R b):∃ k,V.int b=V.int k∧R k:=⟨b,rfl,h⟩
theorem ZGk {R:Option Int→Hp→Prop} (h:R none H):ZFB σ H R:=h
theorem ZMJ {b:Bool} {R:Bool→Prop} (h:R b):∃ k,TruV K (.bl b) H k∧R k:=⟨b,rfl,h⟩
theorem Zd3 {c A B:Prop} [Decidable c] (h1:c→A) (h2 : ¬ c→B):if decide c=true then A else B:=by
 by_cases h:c
 ·rw [if_pos (decide_eq_true h)]; exact h1 h
 ·rw [if_neg (by simp [h])]; exact h2 h
theorem ZHl {b:Bool} {A B:Prop} (h1:b=true→A) (h2:b=false→B):if b=true then A else B:=by
 cases b
 ·rw [if_neg Bool.false_ne_true]; exact h2 rfl
 ·rw [if_pos rfl]; exact h1 rfl
theorem ZcG {b:Bool} {A B:Prop} (h:b=true) (k:A):if b=true then A else B:=by rw [if_pos h]; exact k
theorem ZaP {b:Bool} {A B:Prop} (h:b=false) (k:B):if b=true then A else B:=by rw [if_neg (by rw [h]; exact Bool.false_ne_true)]; exact k
end
def ZNf (lo:Int) (n:Nat) (g:TG) (tb:TS) (D:Ends) (σ:St) (H:Hp):Prop:=
 ∃ W:Nat→Nat→St→Hp→Prop,(∃ m,W 0 m σ H)∧∀ i m σ H,W i m σ H→
   ((Itr lo n).stop i H∧D.nx σ H)∨((Itr lo n).go i H∧∃ N:St→Hp→Prop,(∀ σ' H',N σ' H'→∃ m',m' < m∧W (i + 1) m' σ' H')∧∀ x H',(Itr lo n).yld i H x H'→g x σ H' fun σ2 H2=>tb { D with nx:=N,ct:=N,bk:=D.nx } σ2 H2)
def ZOG (K:PySem.W.Frag) (a:Addr) (g:TG) (tb:TS) (D:Ends) (σ:St) (H:Hp):Prop:=
 ∃ W:Nat→Nat→St→Hp→Prop,(∃ m,W 0 m σ H)∧∀ i m σ H,W i m σ H→
   ((Itl K a).stop i H∧D.nx σ H)∨((Itl K a).go i H∧∃ N:St→Hp→Prop,(∀ σ' H',N σ' H'→∃ m',m' < m∧W (i + 1) m' σ' H')∧∀ x H',(Itl K a).yld i H x H'→g x σ H' fun σ2 H2=>tb { D with nx:=N,ct:=N,bk:=D.nx } σ2 H2)
def ZOH (K:PySem.W.Frag) (a:Addr) (g:TG) (tb:TS) (D:Ends) (σ:St) (H:Hp):Prop:=
 ∃ W:Nat→Nat→St→Hp→Prop,(∃ m,W 0 m σ H)∧∀ i m σ H,W i m σ H→
   ((Itt K a).stop i H∧D.nx σ H)∨((Itt K a).go i H∧∃ N:St→Hp→Prop,(∀ σ' H',N σ' H'→∃ m',m' < m∧W (i + 1) m' σ' H')∧∀ x H',(Itt K a).yld i H x H'→g x σ H' fun σ2 H2=>tb { D with nx:=N,ct:=N,bk:=D.nx } σ2 H2)
section
variable {σ:St} {H:Hp} {D:Ends} {K:PySem.W.Frag} {g:TG} {tb:TS}
theorem ZIL {ta:TA} (h:ta σ H fun vs H1=>∃ j:Int,vs=[.int j]∧-(2 ^ 62)≤j∧j < 2 ^ 62∧ZNf 0 j.toNat g tb D σ H1):tFor (ZK1 ta) g tb D σ H:=h
theorem ZQD {lo:Int} {n:Nat} (Pv:Nat→St→Hp→Prop) (h0:Pv 0 σ H) (hs:∀ i σ H,i < n→Pv i σ H→g (.int (lo + i)) σ H fun σ2 H2=>tb { D with nx:=Pv (i + 1),ct:=Pv (i + 1),bk:=D.nx } σ2 H2) (hd:∀ σ H,Pv n σ H→D.nx σ H):ZNf lo n g tb D σ H:=ZCI Pv h0 hs hd
theorem ZJa {n:Nat} (Pv:Nat→St→Hp→Prop) (h0:Pv 0 σ H) (hs:∀ (i:Nat) σ H,i < n→Pv i σ H→g (.int (i:Int)) σ H fun σ2 H2=>tb { D with nx:=Pv (i + 1),ct:=Pv (i + 1),bk:=D.nx } σ2 H2) (hd:∀ σ H,Pv n σ H→D.nx σ H):ZNf 0 n g tb D σ H:=ZCI Pv h0 (fun i σ H hi p=>by rw [Int.zero_add]; exact hs i σ H hi p) hd
theorem ZQC {a:Addr} {xs:List V} (Pv:Nat→St→Hp→Prop) (h0:Pv 0 σ H) (hl:∀ i σ H,i≤xs.length→Pv i σ H→SqL K H a xs) (hs:∀ i x σ H,xs[i]?=some x→Pv i σ H→g x σ H fun σ2 H2=>tb { D with nx:=Pv (i + 1),ct:=Pv (i + 1),bk:=D.nx } σ2 H2) (hd:∀ σ H,Pv xs.length σ H→D.nx σ H):ZOG K a g tb D σ H:=ZKT Pv h0 hl hs hd
theorem ZQE {a:Addr} {xs:List V} (Pv:Nat→St→Hp→Prop) (h0:Pv 0 σ H) (hl:∀ i σ H,i≤xs.length→Pv i σ H→SqT K H a xs) (hs:∀ i x σ H,xs[i]?=some x→Pv i σ H→g x σ H fun σ2 H2=>tb { D with nx:=Pv (i + 1),ct:=Pv (i + 1),bk:=D.nx } σ2 H2) (hd:∀ σ H,Pv xs.length σ H→D.nx σ H):ZOH K a g tb D σ H:=ZNp Pv h0 hl hs hd
end
def Its (x:Str):It:=⟨fun i _=>i < x.cps.size,fun i H v H'=>H'=H∧∃ c,x.cps[i]?=some c∧v=.str ⟨#[c]⟩,fun i _=>x.cps.size≤i⟩
theorem ZKj {P:Program} {w:World} {K:PySem.W.Frag} {tg:Expr} (x:Str) (t:Tok) (it:Addr):Turn P w K tg (Its x) [it] it (fun i h=>h.IsStrIter it "str_ascii_iterator" x t i) where
 mem:=by simp
 obj:=fun i h st b hb=>by
  have e:b=it:=by simpa using hb
  subst e
  obtain ⟨o,e,c,d⟩ :=st
  exact ⟨o,e,fun v z=>by rw [d] at z; cases z⟩
 keep:=fun i h h' st k=>let ⟨o,ho,r⟩ :=st; ⟨o,k it (by simp) o ho,r⟩
 item:=by
  intro X hP hw hK hc i pins s σ H E I hf st hg
  subst hP hw hK
  obtain ⟨f0,f1,f2,f3,f4,f5⟩ :=hf it (by simp)
  have hg:i < x.cps.size:=hg
  refine wpAny_pyNext_ascii_item st (c:=x.cps[i]) (by simp [hg]) fun h' st' sb=>?_
  have I1:Inv X pins σ H { s with heap:=h',toks:=s.toks + 1 }:=I.turned (fun b o hb e=>(sb.2 b hb).trans e) f0 f1 f3 f4 f5
  obtain ⟨o,e,c,d⟩ :=id st'
  exact ⟨_,rfl,ZHk (s:={ s with heap:=h',toks:=s.toks + 1 }) e c d (by decide) ⟨.str ⟨#[x.cps[i]]⟩,H,I1,⟨_,rfl⟩,⟨rfl,_,by simp [hg],rfl⟩,st',fun b hb=>(hf b hb).1⟩⟩
 done:=by
  intro X hP hw hK hc i pins s σ H E I hf st hg
  subst hP hw hK
  obtain ⟨f0,f1,f2,f3,f4,f5⟩ :=hf it (by simp)
  have hg:x.cps.size≤i:=hg
  exact wpAny_pyNext_ascii_end (I.ok.hd hc) st (by simp [hg]) fun h' eb=>⟨rfl,I.turned (t':=s.toks) (fun b o hb e=>eb b o hb e) f0 f1 f3 f4 f5⟩
 self:=fun _ _ _ _ _ st h=>wpAny_pyIter_striter_ascii st h
theorem ZKk {P:Program} {w:World} {K:PySem.W.Frag} {tg:Expr} (x:Str) (t:Tok) (it:Addr):Turn P w K tg (Its x) [it] it (fun i h=>h.IsStrIter it "str_iterator" x t i) where
 mem:=by simp
 obj:=fun i h st b hb=>by
  have e:b=it:=by simpa using hb
  subst e
  obtain ⟨o,e,c,d⟩ :=st
  exact ⟨o,e,fun v z=>by rw [d] at z; cases z⟩
 keep:=fun i h h' st k=>let ⟨o,ho,r⟩ :=st; ⟨o,k it (by simp) o ho,r⟩
 item:=by
  intro X hP hw hK hc i pins s σ H E I hf st hg
  subst hP hw hK
  obtain ⟨f0,f1,f2,f3,f4,f5⟩ :=hf it (by simp)
  have hg:i < x.cps.size:=hg
  refine wpAny_pyNext_wide_item st (c:=x.cps[i]) (by simp [hg]) fun h' st' sb=>?_
  have I1:Inv X pins σ H { s with heap:=h',toks:=s.toks + 1 }:=I.turned (fun b o hb e=>(sb.2 b hb).trans e) f0 f1 f3 f4 f5
  obtain ⟨o,e,c,d⟩ :=id st'
  exact ⟨_,rfl,ZHk (s:={ s with heap:=h',toks:=s.toks + 1 }) e c d (by decide) ⟨.str ⟨#[x.cps[i]]⟩,H,I1,⟨_,rfl⟩,⟨rfl,_,by simp [hg],rfl⟩,st',fun b hb=>(hf b hb).1⟩⟩
 done:=by
  intro X hP hw hK hc i pins s σ H E I hf st hg
  subst hP hw hK
  obtain ⟨f0,f1,f2,f3,f4,f5⟩ :=hf it (by simp)
  have hg:x.cps.size≤i:=hg
  exact wpAny_pyNext_wide_end (I.ok.hd hc) st (by simp [hg]) fun h' eb=>⟨rfl,I.turned (t':=s.toks) (fun b o hb e=>eb b o hb e) f0 f1 f3 f4 f5⟩
 self:=fun _ _ _ _ _ st h=>wpAny_pyIter_striter_wide st h
def iSeq (K:PySem.W.Frag) (tl:TE):TI:=fun σ H R=>tl σ H fun x H1=>(∃ a xs,x=.ref a∧SqL K H1 a xs∧R (Itl K a) H1)∨(∃ a xs,x=.ref a∧SqT K H1 a xs∧R (Itt K a) H1)∨(∃ z,x=.str z∧R (Its z) H1)
theorem Zc3 {X:Cx} {tg:Expr} {l:Expr} {tl:TE} (hl:PE X l tl):PI X tg l (iSeq X.K tl):=by
 intro pins s σ H R I h
 refine thn (hl pins s σ H _ I h) fun v s1 ⟨x,H1,I1,r1,q1⟩ =>?_
 have fp:∀ b ∈ [s1.heap.objs.size],FpOk X pins H1 b:=fun b hb=>by
  have e:b=s1.heap.objs.size:=by simpa using hb
  subst e
  exact I1.fpOk (Nat.le_refl _) (I1.hok.fresh (Nat.le_refl _))
 rcases q1 with ⟨a,xs,e,hq,q⟩ | ⟨a,xs,e,hq,q⟩ | ⟨z,e,q⟩
 ·subst e
  cases r1
  obtain ⟨its,rv,p,hz⟩ :=I1.list hq
  refine wpAny_pyIter_list p.isList ?_
  exact ⟨s1.heap.objs.size,[s1.heap.objs.size],_,_,H1,rfl,I1.kept (t':=s1.toks) fun b o e=>Heap.get?_push_of_some _ e,ZKi a _,⟨_,Heap.get?_push_size _ rfl,rfl,rfl⟩,fp,q⟩
 ·subst e
  cases r1
  obtain ⟨its,rv,p,hz⟩ :=I1.tuple hq
  refine wpAny_pyIter_tuple (show s1.heap.IsTuple a its.toArray from p) ?_
  exact ⟨s1.heap.objs.size,[s1.heap.objs.size],_,_,H1,rfl,I1.kept (t':=s1.toks) fun b o e=>Heap.get?_push_of_some _ e,ZHG a _,⟨_,Heap.get?_push_size _ rfl,rfl,rfl⟩,fp,q⟩
 ·subst e
  obtain ⟨t,rfl⟩ :=r1
  cases ha:z.cps.all (· < 128) with
  | false=>
   refine wpAny_pyIter_wide ha ?_
   exact ⟨s1.heap.objs.size,[s1.heap.objs.size],_,_,H1,rfl,I1.kept (t':=s1.toks) fun b o e=>Heap.get?_push_of_some _ e,ZKk z t _,⟨_,Heap.get?_push_size _ rfl,rfl,rfl⟩,fp,q⟩
  | true=>
   refine wpAny_pyIter_ascii ha ?_
   exact ⟨s1.heap.objs.size,[s1.heap.objs.size],_,_,H1,rfl,I1.kept (t':=s1.toks) fun b o e=>Heap.get?_push_of_some _ e,ZKj z t _,⟨_,Heap.get?_push_size _ rfl,rfl,rfl⟩,fp,q⟩
def ZQo (x:Str) (g:TG) (tb:TS) (D:Ends) (σ:St) (H:Hp):Prop:=
 ∃ W:Nat→Nat→St→Hp→Prop,(∃ m,W 0 m σ H)∧∀ i m σ H,W i m σ H→
   ((Its x).stop i H∧D.nx σ H)∨((Its x).go i H∧∃ N:St→Hp→Prop,(∀ σ' H',N σ' H'→∃ m',m' < m∧W (i + 1) m' σ' H')∧∀ x' H',(Its x).yld i H x' H'→g x' σ H' fun σ2 H2=>tb { D with nx:=N,ct:=N,bk:=D.nx } σ2 H2)
def SeqW (K:PySem.W.Frag) (x:V) (g:TG) (tb:TS) (D:Ends) (σ:St) (H1:Hp):Prop:=
 (∃ a xs,x=.ref a∧SqL K H1 a xs∧ZOG K a g tb D σ H1)∨(∃ a xs,x=.ref a∧SqT K H1 a xs∧ZOH K a g tb D σ H1)∨(∃ z,x=.str z∧ZQo z g tb D σ H1)
section
variable {σ:St} {H:Hp} {D:Ends} {K:PySem.W.Frag} {g:TG} {tb:TS}
theorem ZMu {tl:TE} (h:tl σ H fun x H1=>SeqW K x g tb D σ H1):tFor (iSeq K tl) g tb D σ H:=h
theorem seqL {a:Addr} {xs:List V} (Pv:Nat→St→Hp→Prop) (h0:Pv 0 σ H) (hl:∀ i σ H,i≤xs.length→Pv i σ H→SqL K H a xs) (hs:∀ i x σ H,xs[i]?=some x→Pv i σ H→g x σ H fun σ2 H2=>tb { D with nx:=Pv (i + 1),ct:=Pv (i + 1),bk:=D.nx } σ2 H2) (hd:∀ σ H,Pv xs.length σ H→D.nx σ H):SeqW K (.ref a) g tb D σ H:=.inl ⟨a,xs,rfl,hl 0 σ H (Nat.zero_le _) h0,ZQC Pv h0 hl hs hd⟩
theorem seqT {a:Addr} {xs:List V} (Pv:Nat→St→Hp→Prop) (h0:Pv 0 σ H) (hl:∀ i σ H,i≤xs.length→Pv i σ H→SqT K H a xs) (hs:∀ i x σ H,xs[i]?=some x→Pv i σ H→g x σ H fun σ2 H2=>tb { D with nx:=Pv (i + 1),ct:=Pv (i + 1),bk:=D.nx } σ2 H2) (hd:∀ σ H,Pv xs.length σ H→D.nx σ H):SeqW K (.ref a) g tb D σ H:=.inr (.inl ⟨a,xs,rfl,hl 0 σ H (Nat.zero_le _) h0,ZQE Pv h0 hl hs hd⟩)
theorem seqX {x:Str} (Pv:Nat→St→Hp→Prop) (h0:Pv 0 σ H) (hs:∀ (i:Nat) (c:Nat) σ H,x.cps[i]?=some c→Pv i σ H→g (.str ⟨#[c]⟩) σ H fun σ2 H2=>tb { D with nx:=Pv (i + 1),ct:=Pv (i + 1),bk:=D.nx } σ2 H2) (hd:∀ σ H,Pv x.cps.size σ H→D.nx σ H):SeqW K (.str x) g tb D σ H:=by
 refine .inr (.inr ⟨x,rfl,fun i m σ H=>m=x.cps.size - i∧i≤x.cps.size∧Pv i σ H,⟨x.cps.size,by simp,Nat.zero_le _,h0⟩,?_⟩)
 rintro i m σ H ⟨rfl,hi,p⟩
 by_cases hlt:i < x.cps.size
 ·refine .inr ⟨hlt,Pv (i + 1),fun σ' H' p'=>⟨x.cps.size - (i + 1),by omega,rfl,hlt,p'⟩,fun x' H' y=>?_⟩
  obtain ⟨e,c,hc,y⟩ :=y
  subst e y
  exact hs i c σ _ hc p
 ·have e:i=x.cps.size:=by omega
  subst e
  exact .inl ⟨Nat.le_refl _,hd σ H p⟩
end
section
variable (P:Program) (w:World) (K:PySem.W.Frag) (mg:Str→Option Value) (base:Heap)
def FnS (k:Nat) (x:Str) (ps:List Str) (sp:Sp):Prop:=∃ f fd,FnOk P w K mg base CX0 k f fd ps sp∧ZaW K fd ps []∧PySem.W.keepIn K (.ref f)=true∧mg x=some (.ref f)
def MeS (k:Nat) (C:Addr) (m:Str) (ps:List Str) (sp:Sp):Prop:=Cls K C∧∃ f fd,FnOk P w K mg base CX0 k f fd ps sp∧ZaW K fd ps []∧Meth K C m f
def MkS (k:Nat) (x:Str) (C:Addr) (ps:List Str) (sp:Sp):Prop:=mg x=some (.ref C)∧∃ f fd,Mk K C f∧FnOk P w K mg base CX0 k f fd ps sp∧ZaW K fd ps []
end
theorem MeS.up {P:Program} {w:World} {K:PySem.W.Frag} {mg:Str→Option Value} {base:Heap} {j k:Nat} {C:Addr} {m:Str} {ps:List Str} {sp:Sp} (h:MeS P w K mg base j C m ps sp) (hk:j≤k):MeS P w K mg base k C m ps sp:=by
 obtain ⟨c,f,fd,F,b,hm⟩ :=h
 exact ⟨c,f,fd,F.mono hk,b,hm⟩
def tFn (sp:Sp) (t:TA):TE:=fun σ H Q=>t σ H fun vs H1=>sp vs H1 Q E0
def MkG (C:Addr) (sp:Sp) (vs:List V) (H1:Hp) (Q:VK):Prop:=∀ x dx,H1 x=none→H1 dx=none→dx ≠ x→
 sp (.ref x :: vs) (upd (upd H1 dx (.own x)) x (.ins C dx [])) (fun v H2=>v=.non∧Q (.ref x) H2) E0
def tMk (C:Addr) (sp:Sp) (t:TA):TE:=fun σ H Q=>t σ H fun vs H1=>MkG C sp vs H1 Q
def tDy (D:Addr→Prop) (m:Str) (sp:Sp) (ta:TE) (t:TA):TE:=fun σ H Q=>ta σ H fun x H1=>∃ a C dx fs,x=.ref a∧H1 a=some (.ins C dx fs)∧D C∧fs.lookup m=none∧
 t σ H1 fun vs H2=>H2 a=some (.ins C dx fs)∧sp (x :: vs) H2 Q E0
def spAt (sp:Sp) (C:Addr):Sp:=fun vs H Q E=>sp vs H Q E∧∃ a dx fs r,vs=V.ref a :: r∧H a=some (.ins C dx fs)
theorem i_fn {sp:Sp} {t:TA} {σ:St} {H:Hp} {Q:VK} (h:t σ H fun vs H1=>sp vs H1 Q E0):tFn sp t σ H Q:=h
theorem i_mk {C:Addr} {sp:Sp} {t:TA} {σ:St} {H:Hp} {Q:VK} (h:t σ H fun vs H1=>MkG C sp vs H1 Q):tMk C sp t σ H Q:=h
theorem i_dy {D:Addr→Prop} {m:Str} {sp:Sp} {ta:TE} {t:TA} {σ:St} {H:Hp} {Q:VK} (h:ta σ H fun x H1=>∃ a C dx fs,x=.ref a∧H1 a=some (.ins C dx fs)∧D C∧fs.lookup m=none∧
 t σ H1 fun vs H2=>H2 a=some (.ins C dx fs)∧sp (x :: vs) H2 Q E0):tDy D m sp ta t σ H Q:=h
theorem ZD9 (sp:Sp) (t:TA):ZOy sp [] E0 t=tFn sp t:=by
 funext σ H Q
 unfold ZOy tFn
 have e:(fun (vs:List V) (H1:Hp)=>sp (vs ++ []) H1 Q E0)=fun vs H1=>sp vs H1 Q E0:=by
  funext vs H1; rw [List.append_nil]
 rw [e]
theorem ZEa (C:Addr) (sp:Sp) (t:TA):ZLZ C sp [] E0 t=tMk C sp t:=by
 funext σ H Q
 unfold ZLZ tMk MkG
 congr 1
 funext vs H1
 rw [List.append_nil]
section
variable {X:Cx} {k k':Nat} {x m:Str} {C:Addr} {ps:List Str} {sp:Sp} {e o:Expr} {es:List Expr} {ta:TE} {t:TA} {p pos apos:Pos}
theorem Zbv (G:FnS X.prog X.w X.K X.mg X.base k x ps sp) (hr:Room k' X.A) (ha:PA X (e :: es) t) (hk:k≤k':=by omega) (hg:Gl X x:=by rfl) (hdb:(x == ("__debug__" : Str))=false:=by decide)
  (he:starEach (e :: es) X.env=(false,eval e X.env) :: starEach es X.env:=by rfl) (hpl:(backTo pos (starEach es X.env)).any (·.1)=false:=by rfl):PE X (.Call (.Name x p) (e :: es) [] pos) (tFn sp t):=by
 obtain ⟨f,fd,F,hb,kp,hm⟩ :=G
 rw [← ZD9]
 exact ZFm F (hr.mono hk) hg hm kp hb .nil ZJF ha hdb he hpl
theorem ZFn (G:MkS X.prog X.w X.K X.mg X.base k x C ps sp) (hr:Room k' X.A) (ha:PA X (e :: es) t) (hk:k + 1≤k':=by omega) (hg:Gl X x:=by rfl) (hdb:(x == ("__debug__" : Str))=false:=by decide)
  (he:starEach (e :: es) X.env=(false,eval e X.env) :: starEach es X.env:=by rfl) (hpl:(backTo pos (starEach es X.env)).any (·.1)=false:=by rfl):PE X (.Call (.Name x p) (e :: es) [] pos) (tMk C sp t):=by
 obtain ⟨hm,f,fd,M,F,hb⟩ :=G
 rw [← ZEa]
 exact ZOa M F (hr.mono hk) hg hm hb .nil ZJF ha hdb he hpl
theorem ZMX (G:MkS X.prog X.w X.K X.mg X.base k x C ps sp) (hr:Room k' X.A) (hk:k + 1≤k':=by omega) (hg:Gl X x:=by rfl) (hdb:(x == ("__debug__" : Str))=false:=by decide):PE X (.Call (.Name x p) [] [] pos) (tMk C sp tNil):=by
 obtain ⟨hm,f,fd,M,F,hb⟩ :=G
 rw [← ZEa]
 exact ZLA M F (hr.mono hk) hg hm hb .nil ZJF hdb
theorem Zlb {pl:Sem Bool} {D:Addr→Prop} (hD:∀ C,D C→MeS X.prog X.w X.K X.mg X.base k C m ps (spAt sp C)) (hr:Room k' X.A) (ho:PE X o ta) (ha:PA X (e :: es) t) (hk:k≤k':=by omega)
  (hst:starEach (e :: es) X.env=(false,eval e X.env) :: starEach es X.env:=by rfl) (hpl:(backTo pos (starEach es X.env)).any (·.1)=false:=by rfl)
  (ht:eval (.Call (.Attribute o m apos) (e :: es) [] pos) X.env=(do
   let ov ← eval o X.env
   standAt apos.atName
   let (f,first) ← holding [ov] (getMethod ov m pl)
   callWith pos f first (backTo pos (starEach (e :: es) X.env)) (backToKw pos (keywordEach [] X.env))):=by rfl) :
  PE X (.Call (.Attribute o m apos) (e :: es) [] pos) (tDy D m sp ta t):=by
 intro pins s σ H Q I h
 refine PySem.W.methodCall_KW (pl:=pl) (thn (ho pins s σ H _ I h) fun u s1 ⟨x,H1,I1,rx,a,C,dx,fs,ex,ea,hC,l,q⟩ =>?_) ht
 subst ex
 obtain rfl:u=Value.ref a:=rx
 obtain ⟨c,f,fd,F,hb,hm⟩ :=hD C hC
 refine Ztq I1 ea c hm l ?_
 refine PySem.W.callWith_K (first:=[.ref a]) (h₀:=X.base) I.ok.mod.kin hm.kp (thn (ha pos pins s1 σ H1 _ I1 q) fun us s2 ⟨vs,H2,I2,r,eb,q2⟩ =>⟨I2.kIn,?_⟩) hst hpl
 exact ZGR (us:=.ref a :: us) (vs:=.ref a :: vs) (dvs:=[]) (E:=E0) F (hr.mono hk) hb .nil ZJF I2 (.cons rfl r) (by rw [List.append_nil]; exact ⟨q2,a,dx,fs,vs,rfl,eb⟩)
theorem ZvF {pl:Sem Bool} {D:Addr→Prop} (hD:∀ C,D C→MeS X.prog X.w X.K X.mg X.base k C m ps (spAt sp C)) (hr:Room k' X.A) (ho:PE X o ta) (hk:k≤k':=by omega)
  (ht:eval (.Call (.Attribute o m apos) [] [] pos) X.env=(do
   let ov ← eval o X.env
   standAt apos.atName
   let (f,first) ← holding [ov] (getMethod ov m pl)
   callWith pos f first (backTo pos (starEach [] X.env)) (backToKw pos (keywordEach [] X.env))):=by rfl) :
  PE X (.Call (.Attribute o m apos) [] [] pos) (tDy D m sp ta tNil):=by
 intro pins s σ H Q I h
 refine PySem.W.methodCall_KW (pl:=pl) (thn (ho pins s σ H _ I h) fun u s1 ⟨x,H1,I1,rx,a,C,dx,fs,ex,ea,hC,l,eb,q⟩ =>?_) ht
 subst ex
 obtain rfl:u=Value.ref a:=rx
 obtain ⟨c,f,fd,F,hb,hm⟩ :=hD C hC
 refine Ztq I1 ea c hm l ?_
 exact PySem.W.callWith_K0 (first:=[.ref a]) I1.kIn hm.kp (ZGR (us:=[.ref a]) (vs:=[.ref a]) (dvs:=[]) (E:=E0) F (hr.mono hk) hb .nil ZJF I1 (.cons rfl .nil) (by rw [List.append_nil]; exact ⟨q,a,dx,fs,[],rfl,eb⟩))
theorem ss (i:Nat) {x:Str} {e:Expr} {te:TE} {pos pos':Pos} (hN:X.N.Nodup) (he:PE X e te) (hi:X.N[i]?=some x:=by rfl) (hx:Loc X.env.scope x:=by first | exact Or.inl rfl | exact Or.inr rfl)
  (hs:swapsWith e (some (.Name x pos')) pos.line X.env=pure false:=by rfl) (hf:X.fn x=true∨X.env.scope.names.lookup x=some .local:=by first | exact .inl rfl | exact .inr rfl):PS X (.Assign [.Name x pos'] e pos) (tAsg te (ZCJ i)):=
 ZPO hN hi hx he hs hf
theorem sg (i:Nat) {x:Str} {pos:Pos} (hN:X.N.Nodup) (hi:X.N[i]?=some x:=by rfl) (hx:Loc X.env.scope x:=by first | exact Or.inl rfl | exact Or.inr rfl) (hf:X.fn x=true∨X.env.scope.names.lookup x=some .local:=by first | exact .inl rfl | exact .inr rfl):PG X (.Name x pos) (ZCJ i):=ZJN hN hi hx hf
def rIsi (K:PySem.W.Frag):List V→Hp→VK→Prop:=fun xs H Q=>∃ x t b,TyOf K H x t∧((∃ n,xs=[x,.ty n]∧PySem.W.kitOne K t (.type n)=some b)∨(∃ c,xs=[x,.ref c]∧PySem.W.kitOne K t (.ref c)=some b))∧Q (.bl b) H
theorem ZaJ:ZlT X (.builtin "isinstance") (rIsi X.K):=by
 intro pins s σ H xs us Q I r h
 obtain ⟨x,t,b,ty,h,q⟩ :=h
 rcases h with ⟨n,rfl,e⟩ | ⟨c,rfl,e⟩
 ·obtain ⟨u,v,rfl,ru,rv⟩ :=ZL1 r
  obtain rfl:v=Value.type n:=rv
  exact ZCR I ru ty e fun tk=>⟨.bl b,H,I.tok tk,rfl,q⟩
 ·obtain ⟨u,v,rfl,ru,rv⟩ :=ZL1 r
  obtain rfl:v=Value.ref c:=rv
  exact ZCR I ru ty e fun tk=>⟨.bl b,H,I.tok tk,rfl,q⟩
theorem ZMw {K:PySem.W.Frag} {x:V} {n:String} {t:Value} {b:Bool} {H:Hp} {Q:VK} (ty:TyOf K H x t) (e:PySem.W.kitOne K t (.type n)=some b) (h:Q (.bl b) H):rIsi K [x,.ty n] H Q:=⟨x,t,b,ty,.inl ⟨n,rfl,e⟩,h⟩
theorem ZxB {K:PySem.W.Frag} {x:V} {c:Addr} {t:Value} {b:Bool} {H:Hp} {Q:VK} (ty:TyOf K H x t) (e:PySem.W.kitOne K t (.ref c)=some b) (h:Q (.bl b) H):rIsi K [x,.ref c] H Q:=⟨x,t,b,ty,.inr ⟨c,rfl,e⟩,h⟩
def ZBr:R2:=fun x y H Q=>rI0 (fun i j=>V.int (i + j)) x y H Q∨(∃ i j,x=.str i∧y=.str j∧i.length + j.length≤sizeLine∧Q (.str (i ++ j)) H)∨rCat x y H Q
theorem ZaQ:OpR X (binaryOp .Add) ZBr:=OpR.or ZPC (OpR.or ZHv ZPD)
theorem ZMn {i j:Int} {H:Hp} {Q:VK} (h:Q (.int (i + j)) H):ZBr (.int i) (.int j) H Q:=.inl ⟨i,j,rfl,rfl,h⟩
theorem Zvh {i j:Str} {H:Hp} {Q:VK} (z:i.length + j.length≤sizeLine) (h:Q (.str (i ++ j)) H):ZBr (.str i) (.str j) H Q:=.inr (.inl ⟨i,j,rfl,rfl,z,h⟩)
theorem ZOX {l b:Addr} {xs zs:List V} {H:Hp} {Q:VK} (h1:H l=some (.lst xs)) (h2:H b=some (.lst zs)) (z:xs.length + zs.length≤sizeLine) (h:∀ p,H p=none→Q (.ref p) (upd H p (.lst (xs ++ zs)))):ZBr (.ref l) (.ref b) H Q:=.inr (.inr ⟨l,b,xs,zs,rfl,rfl,h1,h2,z,h⟩)
end
section
variable {X:Cx} {K:PySem.W.Frag} {H:Hp} {Q:VK} {a:Expr} {ta:TE} {pos:Pos}
theorem ZgR:bootBuiltins "len" = some (.builtin "len"):=by decide +kernel
theorem Zan:bootBuiltins "isinstance" = some (.builtin "isinstance"):=by decide +kernel
theorem ZMg:bootBuiltins "max" = some (.builtin "max"):=by decide +kernel
theorem ZOJ:bootBuiltins "min" = some (.builtin "min"):=by decide +kernel
theorem ZH9:bootBuiltins "sorted" = some (.builtin "sorted"):=by decide +kernel
theorem ZFY:bootBuiltins "sum" = some (.builtin "sum"):=by decide +kernel
theorem Zmu:bootBuiltins "int" = some (.type "int"):=by decide +kernel
theorem ZEJ:bootBuiltins "bool" = some (.type "bool"):=by decide +kernel
theorem ZMh:bootBuiltins "str" = some (.type "str"):=by decide +kernel
theorem Zth:bootBuiltins "list" = some (.type "list"):=by decide +kernel
theorem ZKK:bootBuiltins "tuple" = some (.type "tuple"):=by decide +kernel
theorem ZOK:bootBuiltins "set" = some (.type "set"):=by decide +kernel
theorem ZEK:bootBuiltins "reversed" = some (.type "reversed"):=by decide +kernel
def GC (mg:Str→Option Value) (x:Str) (v:V):Prop:=∃ u,mg x=some u∧RelV v u
theorem ZJJ {x:Str} {v:V} (hg:Gl X x) (h:GC X.mg x v) (hd:(x == ("__debug__" : Str))=false:=by decide):PE X (.Name x pos) (tC v):=by
 obtain ⟨u,e,r⟩ :=h
 exact Za9 hg e r hd
def ZQh (K:PySem.W.Frag) (ta:TE):TE:=fun σ H Q=>ta σ H fun x H1=>∃ k,TruV K x H1 k∧Q (.bl (!k)) H1
theorem ZJK (ha:PE X a ta):PE X (.UnaryOp .Not a pos) (ZQh X.K ta):=by
 intro pins s σ H Q I h
 refine UnaryOp_ (thn (ha pins s σ H _ I h) fun v s1 ⟨x,H1,I1,r1,q1⟩ =>?_)
 exact not_of (thn (ZM9 pins s1 σ H1 x v (fun k H2=>Q (.bl (!k)) H2) I1 r1 q1) fun b s2 ⟨H2,I2,q2⟩ =>⟨.bl (!b),H2,I2,rfl,q2⟩)
theorem ZMF {σ:St} (h:ta σ H fun x H1=>∃ k,TruV K x H1 k∧Q (.bl (!k)) H1):ZQh K ta σ H Q:=h
def rLen (K:PySem.W.Frag):List V→Hp→VK→Prop:=fun xs H Q=>∃ x n,xs=[x]∧LenV K x H n∧Q (.int n) H
theorem Zb9:ZlT X (.builtin "len") (rLen X.K):=ZKM
theorem ZMy {p:Addr} {xs:List V} (h:SqL K H p xs) (k:Q (.int xs.length) H):rLen K [.ref p] H Q:=⟨_,_,rfl,.inl ⟨xs,h,rfl⟩,k⟩
theorem ZMx {p:Addr} {xs:List V} (h:H p=some (.lst xs)) (k:Q (.int xs.length) H):rLen K [.ref p] H Q:=⟨_,_,rfl,.inl ⟨xs,SqL.of h,rfl⟩,k⟩
def ZPS:List V→Hp→VK→Prop:=fun xs H Q=>∃ i j,xs=[.int i,.int j]∧Q (.int (if j > i then j else i)) H
def ZPT:List V→Hp→VK→Prop:=fun xs H Q=>∃ i j,xs=[.int i,.int j]∧Q (.int (if j < i then j else i)) H
theorem ZId (hc:X.calm=true):ZlT X (.builtin "max") ZPS:=ZIc hc
theorem ZIg (hc:X.calm=true):ZlT X (.builtin "min") ZPT:=ZIf hc
theorem ZNB {i j:Int} (h:Q (.int (max i j)) H):ZPS [.int i,.int j] H Q:=by
 refine ⟨i,j,rfl,?_⟩
 have e:(if j > i then j else i)=max i j:=by split <;> omega
 rw [e]; exact h
theorem ZO8 {i j:Int} (h:Q (.int (min i j)) H):ZPT [.int i,.int j] H Q:=by
 refine ⟨i,j,rfl,?_⟩
 have e:(if j < i then j else i)=min i j:=by split <;> omega
 rw [e]; exact h
def ZPR:List V→Hp→VK→Prop:=fun xs H Q=>(∃ i,xs=[.int i]∧Q (.int i) H)∨∃ k,xs=[.bl k]∧Q (.int (if k then 1 else 0)) H
theorem ZeM:ZlT X (.type "int") ZPR:=ZIb
theorem ZMv {b:Bool} (h:Q (.int (if b then 1 else 0)) H):ZPR [.bl b] H Q:=.inr ⟨b,rfl,h⟩
def ZJU (K:PySem.W.Frag):List V→Hp→VK→Prop:=fun xs H Q=>∃ p ys,xs=[.ref p]∧(SqL K H p ys∨SqT K H p ys)∧∀ l,H l=none→Q (.ref l) (upd H l (.lst ys))
theorem Zos:ZlT X (.type "list") (ZJU X.K):=ZCz
def ZM1 (K:PySem.W.Frag):List V→Hp→VK→Prop:=fun xs H Q=>∃ p ys,xs=[.ref p]∧((SqL K H p ys∧∀ l,H l=none→Q (.ref l) (upd H l (.tup ys)))∨(SqT K H p ys∧Q (.ref p) H))
theorem ZEL:ZlT X (.type "tuple") (ZM1 X.K):=Zz7
theorem ZPi {p:Addr} {ys:List V} (h:H p=some (.lst ys)) (k:∀ l,H l=none→Q (.ref l) (upd H l (.tup ys))):ZM1 K [.ref p] H Q:=⟨p,ys,rfl,.inl ⟨SqL.of h,k⟩⟩
theorem ZQu {p:Addr} {xs:List V} {j:Nat} {v:V} (h:SqL K H p xs) (e:xs[j]?=some v) (k:Q v H):rIx K (.ref p) (.int (j:Int)) H Q:=.inl ⟨p,xs,j,v,rfl,rfl,h,ZpQ e,k⟩
theorem ZlU {p:Addr} {xs:List V} {j:Nat} {v:V} (h:H p=some (.lst xs)) (e:xs[j]?=some v) (k:Q v H):rIx K (.ref p) (.int (j:Int)) H Q:=.inl ⟨p,xs,j,v,rfl,rfl,SqL.of h,ZpQ e,k⟩
theorem ZIM {p:Addr} {xs:List V} {i:Int} {v:V} (h:H p=some (.lst xs)) (e:atI xs i=some v) (k:Q v H):rIx K (.ref p) (.int i) H Q:=.inl ⟨p,xs,i,v,rfl,rfl,SqL.of h,e,k⟩
theorem ZbE {p:Addr} {xs:List V} {i:Int} {v:V} (h:H p=some (.tup xs)) (e:atI xs i=some v) (k:Q v H):rIx K (.ref p) (.int i) H Q:=.inr (.inl ⟨p,xs,i,v,rfl,rfl,SqT.of h,e,k⟩)
theorem ZHm {x:Str} {i:Int} {c:Nat} (z:x.length≤sizeLine) (e:atI x.cps.toList i=some c) (k:Q (.str ⟨#[c]⟩) H):rIx K (.str x) (.int i) H Q:=.inr (.inr ⟨x,i,c,rfl,rfl,z,e,k⟩)
def rSlG (K:PySem.W.Frag):V→Option Int→Option Int→Hp→VK→Prop:=fun x lo hi H Q=>rSlL K x lo hi H Q∨rSlT K x lo hi H Q
theorem ZP5:SlR X (rSlG X.K):=SlR.or ZOn ZP7
theorem ZQx {p:Addr} {xs:List V} {lo hi:Option Int} (h:SqL K H p xs) (k:∀ l,H l=none→Q (.ref l) (upd H l (.lst (cutV xs lo hi)))):rSlG K (.ref p) lo hi H Q:=.inl ⟨p,xs,rfl,h,k⟩
theorem ZQw {p:Addr} {xs:List V} {lo hi:Option Int} (h:H p=some (.lst xs)) (k:∀ l,H l=none→Q (.ref l) (upd H l (.lst (cutV xs lo hi)))):rSlG K (.ref p) lo hi H Q:=.inl ⟨p,xs,rfl,SqL.of h,k⟩
def ZOe:R2:=rI CMul fun i j=>V.int (i * j)
theorem Zjj:OpR X (binaryOp .Mult) ZOe:=ZPG
theorem ZxC {i j:Int} (c:CMul i j) (h:Q (.int (i * j)) H):ZOe (.int i) (.int j) H Q:=⟨i,j,rfl,rfl,c,h⟩
def rInG (K:PySem.W.Frag):R2:=fun x y H Q=>(∃ i j,x=.str i∧y=.str j∧Q (.bl (!(Builtin.Str.occurrences j i 0 j.length 1).isEmpty)) H)∨rIn K false x y H Q
def ZOf (K:PySem.W.Frag):R2:=fun x y H Q=>(∃ i j,x=.str i∧y=.str j∧Q (.bl (!(!(Builtin.Str.occurrences j i 0 j.length 1).isEmpty))) H)∨rIn K true x y H Q
theorem ZDC:OpR X (compareOp .In) (rInG X.K):=OpR.or ZJC ZJB
theorem Zsy:OpR X (compareOp .NotIn) (ZOf X.K):=OpR.or ZDE ZDD
theorem ZK2 {l:Addr} {xs:List V} {y:V} (h:H l=some (.lst xs)) (z:xs.length < sizeLine) (k:Q .non (upd H l (.lst (xs ++ [y])))):ZBs (.ref l) [y] H Q:=⟨l,xs,y,rfl,rfl,h,z,k⟩
theorem ZNv {l:Addr} {xs:List V} (h:H l=some (.lst xs)) (k:Q .non (upd H l (.lst []))):ZJS (.ref l) [] H Q:=⟨l,xs,rfl,rfl,h,k⟩
theorem ZK3 {l b:Addr} {xs zs:List V} (h:H l=some (.lst xs)) (h2:H b=some (.lst zs)) (z:xs.length + zs.length≤sizeLine) (k:Q .non (upd H l (.lst (xs ++ zs)))):ZFs (.ref l) [.ref b] H Q:=⟨l,b,xs,zs,rfl,rfl,h,h2,z,k⟩
theorem ZQv {l:Addr} {xs:List V} {y:V} (h:H l=some (.lst (xs ++ [y]))) (k:Q y (upd H l (.lst xs))):rPop (.ref l) [] H Q:=⟨l,xs ++ [y],y,rfl,rfl,h,by simp,by rw [List.dropLast_concat]; exact k⟩
theorem tyL {l:Addr} {xs:List V} (h:H l=some (.lst xs)):tyV K "list" (.ref l) H:=.inl ⟨rfl,xs,SqL.of h⟩
end
theorem Zcf {n:Nat} (h:n≤1000000):n≤sizeLine:=Nat.le_trans h (by decide)
theorem ZM3 {n:Nat} (h:n < 1000000):n < sizeLine:=Nat.lt_of_lt_of_le h (by decide)
theorem ZaK {l:List Addr} (h:l.Nodup) {i j:Nat} {a b:Addr} (ha:l[i]?=some a) (hb:l[j]?=some b) (hij:i ≠ j):a ≠ b:=by
 intro e
 subst e
 obtain ⟨h1,e1⟩ :=List.getElem?_eq_some_iff.mp ha
 obtain ⟨h2,e2⟩ :=List.getElem?_eq_some_iff.mp hb
 exact hij ((List.getElem_inj h).mp (e1.trans e2.symm))
theorem ZGt (K:PySem.W.Frag) (n:String):PySem.W.kitOne K (.type n) (.type n)=some true:=by
 unfold PySem.W.kitOne
 rw [if_pos (by simp)]
theorem ZgJ {H:Hp} {p:Addr} (h:H p=none) (o:HO):Same H (upd H p o):=fun b u q=>by rw [ZbG (Zat q h)]; exact q
theorem Zyx {H:Hp} {p q:Addr} (hp:H p=none) (hq:H q=none) (o u:HO):Same H (upd (upd H q u) p o):=fun b v e=>by rw [ZbG (Zat e hp),ZbG (Zat e hq)]; exact e
theorem ZLc {K:PySem.W.Frag} {t c:String} {b:Bool} (h1:t ≠ c) (h2:PySem.W.kitMeta c=true) (h3:(PySem.fastBuiltinMro t).map (·.contains (Value.type c))=some b):PySem.W.kitOne K (.type t) (.type c)=some b:=by
 unfold PySem.W.kitOne
 rw [if_neg (by simp [h1])]
 unfold PySem.W.kitCls
 dsimp only
 rw [if_pos h2]
 exact h3
theorem ZaF {K:PySem.W.Frag} {t:Value} {D:Addr} {b:Bool} (hne:t ≠ .ref D) (h1:PySem.W.isClsIn K D=true) (h2:PySem.W.typeIn K (.ref D)=some (.type "type")) (h3:PySem.W.subIn K t (.ref D)=some b):PySem.W.kitOne K t (.ref D)=some b:=by
 unfold PySem.W.kitOne
 rw [if_neg (by simp [hne])]
 unfold PySem.W.kitCls
 dsimp only
 unfold PySem.W.isClsIn at h1
 rw [if_pos (by rw [h1,h2]; rfl)]
 exact h3
theorem ZI5 (K:PySem.W.Frag) (D:Addr):PySem.W.kitOne K (.ref D) (.ref D)=some true:=by
 unfold PySem.W.kitOne
 rw [if_pos (by simp)]
theorem Zvw (K:PySem.W.Frag):PySem.W.kitOne K (.type "int") (.type "bool")=some false:=ZLc (by decide) (by decide +kernel) (by decide +kernel)
def ZB3 (C:Addr) (f:Str):Sp:=fun vs H Q _=>∃ p dx v,vs=[.ref p,v]∧H p=some (.ins C dx [])∧Q .non (upd H p (.ins C dx [(f,v)]))
theorem ZAi {C:Addr} {f:Str} {v:V} {H:Hp} {Q:VK} (h:∀ (x dx:Addr) (H':Hp),Same H H'→H x=none→H' x=some (.ins C dx [(f,v)])→Q (.ref x) H') :
  MkG C (ZB3 C f) [v] H Q:=by
 intro x dx hx hdx ne
 refine ⟨x,dx,v,rfl,ZaV,rfl,?_⟩
 rw [ZOD]
 exact h x dx _ (Zyx hx hdx _ _) hx ZaV
theorem lk1 (f:Str) (v:V):List.lookup f [(f,v)]=some v:=by
 have h:=Zk9 f f v []
 rw [if_pos rfl] at h
 exact h
theorem lk0 {f g:Str} (v:V) (h : ¬ g=f):List.lookup g [(f,v)]=none:=by
 have e:=Zk9 f g v []
 rw [if_neg h] at e
 exact e
structure Bt (mg:Str→Option Value):Prop where
 len:mg "len" = none
 range:mg "range" = none
 isinstance:mg "isinstance" = none
 int:mg "int" = none
 bool:mg "bool" = none
 str:mg "str" = none
 list:mg "list" = none
 tuple:mg "tuple" = none
 dict:mg "dict" = none
 set:mg "set" = none
 sorted:mg "sorted" = none
 max:mg "max" = none
 min:mg "min" = none
 sum:mg "sum" = none
 any:mg "any" = none
 all:mg "all" = none
 abs:mg "abs" = none
 reversed:mg "reversed" = none
 enumerate:mg "enumerate" = none
 zip:mg "zip" = none
def Ext (H H':Hp):Prop:=∀ b o,H b=some o→(∀ xs,o ≠ .lst xs)→H' b=some o
theorem Ext.of {H H':Hp} (a:Same H H'):Ext H H':=fun b o h _=>a b o h
theorem ZON {xs:List V} {k:Nat} (h:k≤xs.length):cutV xs none (some (k:Int))=xs.take k:=by
 unfold cutV
 rw [HT.sIx_none,HT.sIx_nat,Nat.min_eq_left h]
 simp
theorem ZAa {xs:List V} {k:Nat} (h:k≤xs.length):cutV xs (some (k:Int)) none=xs.drop k:=by
 unfold cutV
 rw [HT.sIx_none,HT.sIx_nat,Nat.min_eq_left h]
 rw [List.take_of_length_le (by rw [List.length_drop]; omega)]
theorem ZNk (xs:List V) (i j:Nat):cutV xs (some (i:Int)) (some (j:Int))=(xs.drop i).take (j - i):=by
 unfold cutV
 rw [HT.sIx_nat,HT.sIx_nat]
 by_cases hi:i≤xs.length
 ·rw [Nat.min_eq_left hi]
  by_cases hj:j≤xs.length
  ·rw [Nat.min_eq_left hj]
  ·rw [Nat.min_eq_right (by omega),List.take_of_length_le (by rw [List.length_drop]; omega),List.take_of_length_le (by rw [List.length_drop]; omega)]
 ·rw [Nat.min_eq_right (show xs.length≤i by omega),List.drop_eq_nil_of_le (Nat.le_refl _),List.drop_eq_nil_of_le (show xs.length≤i by omega)]
  simp
theorem ZE2 (ns:List Int) (i j:Nat):((ns.map V.int).drop i).take j=((ns.drop i).take j).map V.int:=by
 rw [List.map_take,List.map_drop]
section
variable {K:PySem.W.Frag} {H:Hp} {Q:VK}
theorem ZeA {xs:List V} (z:xs.length≤1000000) (h:∀ (p:Addr) (H':Hp),Same H H'→H p=none→H' p=some (.lst xs)→Q (.ref p) H'):NewL xs H Q:=
 ⟨Zcf z,fun p hp=>h p _ (ZgJ hp _) hp ZaV⟩
theorem Zqt {xs:List V} (z:xs.length≤1000000) (h:∀ (p:Addr) (H':Hp),Same H H'→H p=none→H' p=some (.tup xs)→Q (.ref p) H'):NewT xs H Q:=
 ⟨Zcf z,fun p hp=>h p _ (ZgJ hp _) hp ZaV⟩
theorem j_sl {p:Addr} {xs ys:List V} {lo hi:Option Int} (h:SqL K H p xs) (e:cutV xs lo hi=ys) (k:∀ (l:Addr) (H':Hp),Same H H'→H l=none→H' l=some (.lst ys)→Q (.ref l) H'):rSlG K (.ref p) lo hi H Q:=
 ZQx h fun l hl=>by rw [e]; exact k l _ (ZgJ hl _) hl ZaV
theorem ZIT {l b:Addr} {xs zs:List V} (h1:H l=some (.lst xs)) (h2:H b=some (.lst zs)) (z:xs.length + zs.length≤1000000) (h:∀ (p:Addr) (H':Hp),Same H H'→H p=none→H' p=some (.lst (xs ++ zs))→Q (.ref p) H'):ZBr (.ref l) (.ref b) H Q:=
 ZOX h1 h2 (Zcf z) fun p hp=>h p _ (ZgJ hp _) hp ZaV
theorem ZGn {p:Addr} {ys:List V} (h:SqL K H p ys∨SqT K H p ys) (k:∀ (l:Addr) (H':Hp),Same H H'→H l=none→H' l=some (.lst ys)→Q (.ref l) H'):ZJU K [.ref p] H Q:=
 ⟨p,ys,rfl,h,fun l hl=>k l _ (ZgJ hl _) hl ZaV⟩
def But (l:Addr) (H H':Hp):Prop:=∀ b o,b ≠ l→H b=some o→H' b=some o
theorem But.ext {l:Addr} {H H':Hp} {xs:List V} (h:H l=some (.lst xs)) (s:But l H H'):Ext H H':=fun b o e n=>s b o (ZgI e h (n xs)) e
theorem But.same {l:Addr} {H0 H H':Hp} (s:But l H H') (h0:H0 l=none) (s0:Same H0 H):Same H0 H':=fun b o e=>s b o (Zat e h0) (s0 b o e)
theorem ZwY {l:Addr} {H:Hp} {o:HO}:But l H (upd H l o):=fun b u n e=>by rw [ZbG n]; exact e
theorem ZfE {l:Addr} {xs:List V} {y:V} (h:H l=some (.lst xs)) (z:xs.length < 1000000) (k:∀ H':Hp,But l H H'→H' l=some (.lst (xs ++ [y]))→Q .non H'):ZBs (.ref l) [y] H Q:=ZK2 h (ZM3 z) (k _ ZwY ZaV)
theorem ZNI {l:Addr} {xs:List V} (h:H l=some (.lst xs)) (k:∀ H':Hp,But l H H'→H' l=some (.lst [])→Q .non H'):ZJS (.ref l) [] H Q:=ZNv h (k _ ZwY ZaV)
theorem ZQA {l:Addr} {xs:List V} {y:V} (h:H l=some (.lst (xs ++ [y]))) (k:∀ H':Hp,But l H H'→H' l=some (.lst xs)→Q y H'):rPop (.ref l) [] H Q:=ZQv h (k _ ZwY ZaV)
theorem ZK8 {l b:Addr} {xs zs:List V} (h:H l=some (.lst xs)) (h2:H b=some (.lst zs)) (z:xs.length + zs.length≤1000000) (k:∀ H':Hp,But l H H'→H' l=some (.lst (xs ++ zs))→Q .non H'):ZFs (.ref l) [.ref b] H Q:=ZK3 h h2 (Zcf z) (k _ ZwY ZaV)
end
end L2
set_option maxRecDepth 100000
set_option maxHeartbeats 4000000
namespace L2
open PySem PySem.Spec PyProof.Rows
def Zgp (X:Cx) (x:Str) (ns:List Str) (scope:Scope) (cl:List (Str × Addr)) (s:Shared) (H:Hp) (ex:List Addr):Cx where
 prog:=X.prog
 w:=X.w
 K:=X.K
 mg:=X.mg
 base:=X.base
 A:=X.A
 N:=x :: ns
 s₀:=s
 H₀:=H
 env:=compEnvC scope cl s.heap.objs.size X.env
 outer:=X.stack
 stack:=X.stack
 ex:=ex
 fn:=fun _=>false
 calm:=X.calm
 pn:=[]
 xe:=fun _ _=>False
def subS (σ:St) (ix:List Nat):St:=ix.map fun k=>(σ[k]?).join
def ZCm (sc:Scope) (N:List Str) (x:Str) (ns:List Str) (ix:List Nat) (scope:Scope):Prop:=
 scope.kind=.function∧(∀ y ∈ scope.names,y.2 ≠ .cell∧(y.2=.local→scope.names.lookup y.1=some .local)∧(y.2=.free→sc.names.lookup y.1=some .cell∨sc.names.lookup y.1=some .free))∧
 scope.names.lookup x=some .local∧(∀ y ∈ ns,scope.names.lookup y=some .free)∧(ix.map fun k=>N[k]?)=ns.map some∧(x :: ns).Nodup
instance (sc:Scope) (N:List Str) (x:Str) (ns:List Str) (ix:List Nat) (scope:Scope):Decidable (ZCm sc N x ns ix scope):=by unfold ZCm; infer_instance
def ZEu (J:It) (ix:List Nat) (tc:TT) (te:TE) (σ:St) (Q:VK) (H1:Hp):Prop:=∀ acc,H1 acc=none→∃ W:Nat→Nat→List V→Hp→Prop,(∃ m,W 0 m [] (upd H1 acc (.lst [])))∧
 ∀ i m ys H,W i m ys H→(J.stop i H∧Q (.ref acc) H)∨(J.go i H∧∀ x H',J.yld i H x H'→tc (some x :: subS σ ix) H' fun b H2=>
  if b=true then te (some x :: subS σ ix) H2 fun y H3=>H3 acc=some (.lst ys)∧ys.length < sizeLine∧∃ m',m' < m∧W (i + 1) m' (ys ++ [y]) (upd H3 acc (.lst (ys ++ [y]))) else ∃ m',m' < m∧W (i + 1) m' ys H2)
def ZLY (wi:TI) (ix:List Nat) (tc:TT) (te:TE):TE:=fun σ H Q=>wi σ H fun J H1=>ZEu J ix tc te σ Q H1
theorem ZjM {α β:Type} [BEq α] [LawfulBEq α]:∀ {l:List (α × β)} {a:α} {b:β},l.lookup a=some b→(a,b) ∈ l
 | [],_,_,h=>by simp at h
 | (k,v) :: r,a,b,h=>by
  rw [List.lookup_cons] at h
  cases e:a == k with
  | true=>
   rw [e] at h
   have:a=k:=by simpa using e
   subst this
   cases h
   exact List.mem_cons_self
  | false=>
   rw [e] at h
   exact List.mem_cons_of_mem _ (ZjM h)
theorem Zti {env:Env}:∀ (names:List (Str × NameKind)) (acc:List (Str × Addr)),(∀ y ∈ names,y.2=.free→∃ c,env.cells.lookup y.1=some c)→(∀ y c,acc.lookup y=some c→env.cells.lookup y=some c)→
  ∃ cl,(forIn names acc fun x r=>match x with | (name,kind)=>if (kind == NameKind.free)=true then (do let a ← cellOf env name; pure (ForInStep.yield ((name,a) :: r))) else pure (ForInStep.yield r):Sem (List (Str × Addr)))=pure cl∧
   (∀ y c,cl.lookup y=some c→env.cells.lookup y=some c)∧(∀ y,(∃ c,acc.lookup y=some c)→∃ c,cl.lookup y=some c)∧∀ y ∈ names,y.2=.free→∃ c,cl.lookup y.1=some c
 | [],acc,_,ha=>⟨acc,rfl,ha,fun _ h=>h,fun _ h=>nomatch h⟩
 | (name,kind) :: r,acc,hn,ha=>by
  cases hk:kind == NameKind.free with
  | false=>
   obtain ⟨cl,e,h1,h2,h3⟩ :=Zti r acc (fun y hy=>hn y (List.mem_cons_of_mem _ hy)) ha
   refine ⟨cl,?_,h1,h2,fun y hy hf=>?_⟩
   ·rw [List.forIn_cons]
    simp only [hk,Bool.false_eq_true,if_false]
    exact e
   ·rcases List.mem_cons.mp hy with rfl | hy
    ·have:kind=.free:=hf
     subst this
     simp at hk
    ·exact h3 y hy hf
  | true=>
   have hkf:kind=.free:=by simpa using hk
   obtain ⟨c,hc⟩ :=hn (name,kind) List.mem_cons_self hkf
   have hc:env.cells.lookup name=some c:=hc
   obtain ⟨cl,e,h1,h2,h3⟩ :=Zti r ((name,c) :: acc) (fun y hy=>hn y (List.mem_cons_of_mem _ hy)) (fun y c' hy=>by
    rw [List.lookup_cons] at hy
    cases e:y == name with
    | true=>
     rw [e] at hy
     have:y=name:=by simpa using e
     subst this
     cases hy
     exact hc
    | false=>
     rw [e] at hy
     exact ha y c' hy)
   refine ⟨cl,?_,h1,fun y hy=>h2 y ?_,fun y hy hf=>?_⟩
   ·rw [List.forIn_cons]
    simp only [hk,if_true]
    have:cellOf env name=pure c:=by unfold cellOf; rw [hc]
    rw [this]
    exact e
   ·obtain ⟨c',hc'⟩ :=hy
    rw [List.lookup_cons]
    cases y == name
    ·exact ⟨c',hc'⟩
    ·exact ⟨c,rfl⟩
   ·rcases List.mem_cons.mp hy with rfl | hy
    ·exact h2 _ ⟨c,by rw [List.lookup_cons]; simp⟩
    ·exact h3 y hy hf
theorem ZHf {env:Env} (scope:Scope) (h:∀ y ∈ scope.names,y.2=.free→∃ c,env.cells.lookup y.1=some c) :
  ∃ cl,closureFor scope env=pure cl∧(∀ y c,cl.lookup y=some c→env.cells.lookup y=some c)∧∀ y ∈ scope.names,y.2=.free→∃ c,cl.lookup y.1=some c:=by
 obtain ⟨cl,e,h1,_,h3⟩ :=Zti (env:=env) scope.names [] h (fun _ _ z=>by simp at z)
 refine ⟨cl,?_,h1,h3⟩
 show ((forIn scope.names [] fun x r=>match x with | (name,kind)=>if (kind == NameKind.free)=true then (do let a ← cellOf env name; pure (ForInStep.yield ((name,a) :: r))) else pure (ForInStep.yield r):Sem (List (Str × Addr))) >>= fun s=>pure s)=pure cl
 rw [e]
 rfl
theorem ZvU {env:Env}:∀ (names:List (Str × NameKind)) (y:Str),(names.map fun (n,k)=>if (k == NameKind.free && env.scope.kind == .function && env.kindOf n == some .cell) then (n,NameKind.cell) else (n,k)).lookup y =
  (names.lookup y).map fun k=>if (k == NameKind.free && env.scope.kind == .function && env.kindOf y == some .cell)=true then NameKind.cell else k
 | [],y=>by simp
 | (n,k) :: r,y=>by
  have ih:=ZvU (env:=env) r y
  rw [List.map_cons,List.lookup_cons]
  cases e:y == n with
  | true=>
   have ey:y=n:=by simpa using e
   subst ey
   by_cases hc:(k == NameKind.free && env.scope.kind == .function && env.kindOf y == some .cell)=true
   ·simp only [hc,if_true,List.lookup_cons,beq_self_eq_true,Option.map_some]
   ·simp only [hc,if_false,List.lookup_cons,beq_self_eq_true,Option.map_some,Bool.false_eq_true]
  | false=>
   by_cases hc:(k == NameKind.free && env.scope.kind == .function && env.kindOf n == some .cell)=true
   ·simp only [hc,if_true,List.lookup_cons,e]; exact ih
   ·simp only [hc,if_false,List.lookup_cons,e,Bool.false_eq_true]; exact ih
section
variable {X:Cx} {pins:List (Addr × Obj)} {σ:St} {H:Hp} {s:Shared} {cl:List (Str × Addr)} {x:Str} {ns:List Str} {ix:List Nat} {sc scope:Scope} {N:List Str} {fp:List Addr}
theorem ZNq (I:Inv X pins σ H s) (f:∀ b ∈ fp,FpOk X pins H b) (hlt:∀ b ∈ fp,b < s.heap.objs.size) (hcl:∀ y c,cl.lookup y=some c→X.env.cells.lookup y=some c) {H':Hp} (hn:∀ b ∈ fp,H' b=none):∀ b ∈ fp,FpOk (Zgp X x ns scope cl s H fp) [] H' b:=fun b hb=>by
 obtain ⟨f0,f1,f2,f3,f4,f5⟩ :=f b hb
 refine ⟨hn b hb,Nat.ne_of_lt (hlt b hb),fun z=>?_,.inl hb,fun y c e=>f4 y c (hcl y c e),fun p hp=>?_⟩
 ·rcases List.mem_cons.mp (I.stkSub b z) with z | z
  ·exact f1 z
  ·exact f2 z
 ·exact absurd (show p ∈ ([]:List (Addr × Obj)) from hp) (by simp)
theorem ZK7 {h1:Heap} {m:Str→Option Value} {t':Nat} (I:Inv X pins σ H s) (hsc:X.env.scope=sc) (hN:X.N=N) (C:ZCm sc N x ns ix scope) (hcl:∀ y c,cl.lookup y=some c→X.env.cells.lookup y=some c)
  (hcla:∀ y ∈ scope.names,y.2=.free→∃ c,cl.lookup y.1=some c) (f:∀ b ∈ fp,FpOk X pins H b) (hlt:∀ b ∈ fp,b < s.heap.objs.size) (hn:h1.Ns s.heap.objs.size m) (hk:∀ b o,s.heap.get? b=some o→h1.get? b=some o) :
  Inv (Zgp X x ns scope cl s H fp) [] (none :: subS σ ix) H { s with heap:=h1,toks:=t' }:=by
 obtain ⟨c1,c2,c3,c4,c5,c6⟩ :=C
 have kind:∀ y,(relabel scope X.env).names.lookup y=(scope.names.lookup y).map fun k=>if (k == NameKind.free && X.env.scope.kind == .function && X.env.kindOf y == some .cell)=true then NameKind.cell else k:=fun y=>ZvU scope.names y
 have fr:∀ y,((relabel scope X.env).names.lookup y=some .cell∨(relabel scope X.env).names.lookup y=some .free)→scope.names.lookup y=some .free:=fun y h=>by
  rw [kind y] at h
  cases e:scope.names.lookup y with
  | none=>rw [e] at h; simp at h
  | some k=>
   rw [e] at h
   have hm:=ZjM e
   cases k with
   | free=>rfl
   | cell=>exact absurd rfl (c2 _ hm).1
   | «local»=>simp at h
   | globalExplicit=>simp at h
   | globalImplicit=>simp at h
 have fr':∀ y,scope.names.lookup y=some .free→(relabel scope X.env).names.lookup y=some .cell∨(relabel scope X.env).names.lookup y=some .free:=fun y h=>by
  rw [kind y,h]
  by_cases hc:(NameKind.free == NameKind.free && X.env.scope.kind == .function && X.env.kindOf y == some .cell)=true
  ·left; rw [Option.map_some,if_pos hc]
  ·right; rw [Option.map_some,if_neg hc]
 have noC:∀ p:Addr × Obj,p ∉ (Zgp X x ns scope cl s H fp).pn ++ []:=fun p hp=>absurd (show p ∈ ([]:List (Addr × Obj)) from hp) (by simp)
 have lenE:ix.length=ns.length:=by
  have:=congrArg List.length c5
  rwa [List.length_map,List.length_map] at this
 refine ⟨⟨I.ok.mod,c1,I.ok.glob,I.ok.blt,Nat.le_refl _,fun y z c h1 h2=>I.ok.inj y z c (hcl y c h1) (hcl z c h2),fun y hy=>?_,fun y c hy=>absurd hy (by simp [Zgp]),I.ok.hd,I.ok.frames,.inl rfl,fun b hb=>?_,I.bs,
  Nat.le_trans I.ok.bsz I.sz,fun b o e hb=>?_,fun b hb=>?_,I.stack,I.stkFree⟩,rfl,I.bare,Un.kept hk,⟨m,hn,fun i y v e1 e2 e3=>?_⟩,fun y c e=>?_,I.hok.fresh (Nat.le_refl _),fun y c e=>I.freeC y c (hcl y c e),fun p hp=>absurd hp (noC p),I.hok.kept hk,?_⟩
 ·exact hcla _ (ZjM (fr y hy)) rfl
 ·obtain ⟨f0,f1,f2,f3,f4,f5⟩ :=f b hb
  exact ⟨Nat.ne_of_lt (hlt b hb),fun y c e=>f4 y c (hcl y c e)⟩
 ·obtain ⟨f0,f1,f2,f3,f4,f5⟩ :=f b hb
  rcases f3 with z | z
  ·exact I.ok.noex b o e z
  ·exact absurd (Nat.lt_of_lt_of_le (Heap.lt_size (I.ok.bs b o e).1) z) (Nat.lt_irrefl _)
 ·obtain ⟨f0,f1,f2,f3,f4,f5⟩ :=f b hb
  intro z
  rcases List.mem_cons.mp (I.stkSub b z) with z | z
  ·exact f1 z
  ·exact f2 z
 ·cases i with
  | zero=>cases e2
  | succ j=>
   have e1':ns[j]?=some y:=e1
   have e2':(ix.map fun k=>(σ[k]?).join)[j]?=some (some v):=e2
   have e5:=congrArg (fun l=>l[j]?) c5
   simp only [List.getElem?_map,e1',Option.map_some] at e5 e2'
   cases ek:ix[j]? with
   | none=>rw [ek] at e5; cases e5
   | some k=>
    rw [ek] at e5 e2'
    have eN:N[k]?=some y:=by simpa using e5
    have eσ:(σ[k]?).join=some v:=by simpa using e2'
    have eσ':σ[k]?=some (some v):=by
     cases q:σ[k]? with
     | none=>rw [q] at eσ; cases eσ
     | some w=>rw [q] at eσ; have:w=some v:=eσ; rw [this]
    have hy:=c4 y (List.mem_of_getElem? e1')
    have hk':=(c2 _ (ZjM hy)).2.2 rfl
    rw [← hsc] at hk'
    obtain ⟨m0,hn0,hl⟩ :=I.loc
    obtain ⟨u,r,l⟩ :=hl k y v (by rw [hN]; exact eN) eσ' (.inr hk')
    refine ⟨u,r,?_⟩
    rcases l with ⟨kl,_⟩ | ⟨_,c,ec,z⟩
    ·exfalso
     have kl:X.env.scope.names.lookup y=some .local:=kl
     rw [kl] at hk'
     rcases hk' with z | z <;> cases z
    ·obtain ⟨c',ec'⟩ :=hcla _ (ZjM hy) rfl
     have ee:c'=c:=by
      have:=hcl y c' ec'
      rw [ec] at this
      exact (Option.some.inj this).symm
     subst ee
     obtain ⟨o,ho,hd⟩ :=z
     exact .inr ⟨fr' y hy,c',ec',⟨o,hk _ _ ho,hd⟩⟩
 ·obtain ⟨v,o,ho,hd⟩ :=I.cell y c (hcl y c e)
  exact ⟨v,o,hk _ _ ho,hd⟩
 ·show (none :: subS σ ix).length=(x :: ns).length
  rw [List.length_cons,List.length_cons]
  unfold subS
  rw [List.length_map,lenE]
end
theorem ZHI {α β:Type} {M:Model} {A:Around} {a:α} {P:α→Shared→Prop} {E E':Value→Shared→Prop} {s s':Shared} {t:Sem β} {Q:β→Shared→Prop} (h:wpAny M A (pure a) P E s) (k:P a s→wpAny M A t Q E' s'):wpAny M A t Q E' s':=
 fun Γ p hi=>k (h Γ p hi) Γ p hi
def PTs (X:Cx) (ifs:List Expr) (t:TT):Prop:=
 ∀ (pins:List (Addr × Obj)) (s:Shared) (σ:St) (H:Hp) (Q:Bool→Hp→Prop),Inv X pins σ H s→t σ H Q→
  wpAny (model X.prog X.w) X.A (forIn ifs true fun c r=>if r=true then do let ok ← isTrue c X.env (eval c X.env); pure (ForInStep.yield ok) else pure (ForInStep.yield r)) (TP X pins σ Q) X.xe s
def ZQg:TT:=fun _ H Q=>Q true H
theorem ZFq {X:Cx}:PTs X [] ZQg:=fun _ _ _ H _ I h=>wpAny_tests_nil ⟨H,I,h⟩
theorem ZnZ {X:Cx} {c:Expr} {t:TT} (h:PT X c t):PTs X [c] t:=fun pins s σ H Q I q=>wpAny_tests_one (h pins s σ H Q I q)
section
variable {X:Cx} {pins:List (Addr × Obj)} {σ:St} {H:Hp} {s:Shared} {cl:List (Str × Addr)} {x:Str} {ns:List Str} {ix:List Nat} {sc scope:Scope} {N:List Str} {fp:List Addr} {elt iter:Expr} {px pos:Pos} {ifs:List Expr} {tc:TT} {te:TE} {wi:TI}
theorem ZKP {E:Value→Shared→Prop} {J:It} {it:Addr} {tn:Nat→Heap→Prop} {Q:VK} {RR:Value→Addr→Result→Shared→Prop} (hsc:X.env.scope=sc) (hN:X.N=N) (C:ZCm sc N x ns ix scope) (hc:X.calm=true)
  (ht:∀ cl s H ex,PTs (Zgp X x ns scope cl s H ex) ifs tc) (he:∀ cl s H ex,PE (Zgp X x ns scope cl s H ex) elt te) (I:Inv X pins σ H s) (hcl:∀ y c,cl.lookup y=some c→X.env.cells.lookup y=some c)
  (hcla:∀ y ∈ scope.names,y.2=.free→∃ c,cl.lookup y.1=some c) (T:Turn X.prog X.w X.K (.Name x px) J fp it tn) (st:tn 0 s.heap) (f:∀ b ∈ fp,FpOk X pins H b) (h:ZEu J ix tc te σ Q H)
  (fin:∀ D C m s' H',Inv X pins σ H' s'→s'.heap.Ns C m→FpOk X pins H' C→Q (.ref D) H'→RR (.ref D) C (.ok .next) s') :
  wpAny (model X.prog X.w) X.A (newList []) (fun ja s3=>wpAny (model X.prog X.w) X.A (newFunctionEnv scope X.env.globals cl [] X.env.qual none .none (some X.env)) (fun ce s4=>
   codeAny (model X.prog X.w) X.A (.compStart (.ListComp elt [⟨.Name x px,iter,ifs,0⟩] scope pos) 0 (.ref it) ja { ce with scope:=relabel scope X.env }) (RR ja ce.locals) s4) E s3) E s:=by
 have hC:=C
 obtain ⟨c1,c2,c3,c4,c5,c6⟩ :=C
 have hfr:H s.heap.objs.size=none:=I.hok.fresh (Nat.le_refl _)
 obtain ⟨W,⟨m0,w0⟩,turn⟩ :=h _ hfr
 refine wpAny_newObj_type (wpAny_newFunctionEnv (fun y hy=>(c2 y hy).1) (by intro y hy; simp at hy) (fun h1 hn1 hs1=>?_) c1)
 have I3:=I.lnew (its:=[]) (ys:=[]) (t':=s.toks) .nil (Nat.zero_le _)
 have hlt0:∀ b ∈ fp,b < s.heap.objs.size:=fun b hb=>by
  obtain ⟨o,ho,_⟩ :=T.obj _ _ st b hb
  exact Heap.lt_size ho
 generalize hs3:({ s with heap:=s.heap.push { cls:=.type "list",data:=.seq ([]:List Value).toArray },toks:=s.toks }:Shared)=s3 at I3
 have e3:s3.heap=s.heap.push { cls:=.type "list",data:=.seq ([]:List Value).toArray }:=by rw [← hs3]
 have sz3:s3.heap.objs.size=s.heap.objs.size + 1:=by rw [e3,Heap.size_push]
 have f3:∀ b ∈ fp,FpOk X pins (upd H s.heap.objs.size (.lst [])) b:=fun b hb=>⟨by rw [ZbG (Nat.ne_of_lt (hlt0 b hb))]; exact (f b hb).1,(f b hb).2⟩
 have hlt:∀ b ∈ fp,b < s3.heap.objs.size:=fun b hb=>by rw [sz3]; exact Nat.lt_succ_of_lt (hlt0 b hb)
 have hk:∀ b o,s3.heap.get? b=some o→h1.get? b=some o:=fun b o e=>by
  refine (hs1.2 b ?_).trans (Heap.get?_push_of_some _ ?_)
  ·have:=Heap.lt_size e
   rw [sz3] at this
   show b ≠ (s.heap.push _).objs.size
   rw [Heap.size_push]
   exact Nat.ne_of_lt this
  ·rw [e3] at e; exact e
 have hn3:h1.Ns s3.heap.objs.size (fun y=>([]:List (Str × Value)).reverse.lookup y):=by rw [e3]; exact hn1
 have I4:=ZK7 (t':=s3.toks + ([]:List (Str × Value)).length) I3 hsc hN hC hcl hcla f3 hlt hn3 hk
 have st4:tn 0 h1:=T.keep _ _ _ st fun b hb o e=>hk b o (by rw [e3]; exact Heap.get?_push_of_some _ e)
 have stat:∀ {H':Hp},(∀ b ∈ fp,H' b=none)→∀ b ∈ fp,FpOk (Zgp X x ns scope cl s3 (upd H s.heap.objs.size (.lst [])) fp) [] H' b:=fun {H'} hn=>ZNq I3 f3 hlt hcl hn
 have loop:∀ s4:Shared,s4 = { s3 with heap:=h1,toks:=s3.toks + ([]:List (Str × Value)).length }→
   codeAny (model X.prog X.w) X.A (.compLoop (.ListComp elt [⟨.Name x px,iter,ifs,0⟩] scope pos) 0 (.ref it) (.ref s.heap.objs.size) (compEnvC scope cl s3.heap.objs.size X.env)) (RR (.ref s.heap.objs.size) s3.heap.objs.size) s4:=by
  rintro s4 rfl
  refine codeAny_compLoop_tests (fun n s'=>∃ i v0 ys H',Inv (Zgp X x ns scope cl s3 (upd H s.heap.objs.size (.lst [])) fp) [] (v0 :: subS σ ix) H' s'∧tn i s'.heap∧(∀ b ∈ fp,H' b=none)∧W i n ys H') ?_ m0 ⟨0,none,[],_,I4,st4,fun b hb=>(f3 b hb).1,w0⟩
  rintro n s5 ⟨i,v0,ys,H5,I5,st5,fr5,w5⟩
  rcases turn i n ys H5 w5 with ⟨stop,q⟩ | ⟨go,step⟩
  ·refine wpAny_mono (T.done (Zgp X x ns scope cl s3 (upd H s.heap.objs.size (.lst [])) fp) rfl rfl rfl hc i [] s5 _ H5 _ I5 (stat fr5) st5 stop) (fun r s6 hr=>?_) fun _ _ e=>e
   obtain ⟨hr,I6⟩ :=hr
   subst hr
   obtain ⟨m6,hn6,_⟩ :=id I6.loc
   refine fin _ _ m6 s6 H5 (I3.call' I6.os I6.base I6.hok I6.bare fun b hb=>?_) hn6 (I3.fpOk (Nat.le_refl _) I6.free) q
   obtain ⟨g0,g1,g2,g3,g4,g5⟩ :=f3 b hb
   exact ⟨g3,g1,g4,g5⟩
  ·refine wpAny_mono (T.item (Zgp X x ns scope cl s3 (upd H s.heap.objs.size (.lst [])) fp) rfl rfl rfl hc i [] s5 _ H5 _ I5 (stat fr5) st5 go) (fun r s6 hr=>?_) fun _ _ e=>e
   obtain ⟨u,hr,h6⟩ :=hr
   subst hr
   refine ZHI (a:=()) h6 fun q6=>?_
   obtain ⟨xv,H6,I6,r6,y6,st6,fr6⟩ :=q6
   have I6':=I6.pinned (stat fr6) (T.obj _ _ st6)
   have again:∀ {m':Nat} {ys':List V} {H7:Hp} {s7:Shared},Inv (Zgp X x ns scope cl s3 (upd H s.heap.objs.size (.lst [])) fp) ([] ++ ZDH fp s6.heap) (some xv :: subS σ ix) H7 s7→W (i + 1) m' ys' H7→
     ∃ i v0 ys H',Inv (Zgp X x ns scope cl s3 (upd H s.heap.objs.size (.lst [])) fp) [] (v0 :: subS σ ix) H' s7∧tn i s7.heap∧(∀ b ∈ fp,H' b=none)∧W i m' ys H':=fun {m' ys' H7 s7} I7 w7=>by
    refine ⟨i + 1,some xv,ys',H7,I7.unpinned,T.keep _ _ _ st6 fun b hb o e=>(I7.pin (b,o) (List.mem_append_right _ (List.mem_append_right _ (ZjO hb e)))).1,fun b hb=>?_,w7⟩
    obtain ⟨o,e,d⟩ :=T.obj _ _ st6 b hb
    exact (I7.pin (b,o) (List.mem_append_right _ (List.mem_append_right _ (ZjO hb e)))).2.1
   have lx:(relabel scope X.env).names.lookup x=some .local:=lookup_relabel_local c3
   refine wpAny_mono (ZJN (X:=Zgp X x ns scope cl s3 (upd H s.heap.objs.size (.lst [])) fp) (i:=0) (x:=x) (pos:=px) c6 rfl (.inl lx) (.inr lx) _ s6 _ H6 xv u (fun σ' H'=>σ'=some xv :: subS σ ix∧H'=H6) I6' r6 ⟨rfl,rfl⟩) (fun _ s7 h7=>?_) fun _ _ e=>e.elim
   obtain ⟨σ7,H7,I7,rfl,rfl⟩ :=h7
   refine wpAny_mono (ht cl s3 _ fp _ s7 _ _ _ I7 (step xv _ y6)) (fun b s8 h8=>?_) fun _ _ e=>e.elim
   obtain ⟨H8,I8,q8⟩ :=h8
   cases b with
   | false=>
    rw [if_neg Bool.false_ne_true] at q8 ⊢
    obtain ⟨m',hm,w8⟩ :=q8
    exact ⟨m',hm,again I8 w8⟩
   | true=>
    rw [if_pos rfl] at q8 ⊢
    refine wpAny_mono (he cl s3 _ fp _ s8 _ _ _ I8 q8) (fun uy s9 h9=>?_) fun _ _ e=>e.elim
    obtain ⟨y,H9,I9,r9,hacc,hz,m',hm,w9⟩ :=h9
    refine wpAny_mono (Zcb (X:=Zgp X x ns scope cl s3 (upd H s.heap.objs.size (.lst [])) fp) _ s9 _ H9 (.ref s.heap.objs.size) [y] _ [uy] (fun v H'=>H'=upd H9 s.heap.objs.size (.lst (ys ++ [y]))) I9 rfl (.cons r9 .nil) ⟨_,ys,y,rfl,rfl,hacc,hz,rfl⟩) (fun _ s10 h10=>?_) fun _ _ e=>e.elim
    obtain ⟨v,H10,I10,_,rfl⟩ :=h10
    exact ⟨m',hm,again I10 w9⟩
 exact codeAny_compStart_list (loop _ rfl) (T.self _ 0 _ _ _ st4 (loop _ rfl))
theorem Zhx (hsc:X.env.scope=sc) (hN:X.N=N) (C:ZCm sc N x ns ix scope) (hc:X.calm=true) (hi:PI X (.Name x px) iter wi) (ht:∀ cl s H ex,PTs (Zgp X x ns scope cl s H ex) ifs tc) (he:∀ cl s H ex,PE (Zgp X x ns scope cl s H ex) elt te)
  (hs:∀ v,foldedSetIterable iter X.env v=pure v:=by intro _; rfl):PE X (.ListComp elt [⟨.Name x px,iter,ifs,0⟩] scope pos) (ZLY wi ix tc te):=by
 intro pins s σ H Q I h
 obtain ⟨cl,hclos,hcl,hcla⟩ :=ZHf (env:=X.env) scope fun y hy hf=>I.ok.has y.1 (by
  have:=(C.2.1 y hy).2.2 hf
  rw [← hsc] at this
  exact this)
 rw [eval_ListComp]
 refine wpAny_comprehension_free (use:=none) rfl hs hclos C.1 (fun y hy=>(C.2.1 y hy).2.1) (thn (hi pins s σ H _ I h) fun v s1 h1=>thn h1 fun itv s2 h2=>?_)
 obtain ⟨it,fp,tn,J,H2,rfl,I2,T,st2,f2,hg⟩ :=h2
 refine ZKP (RR:=fun ja C=>compPost (model X.prog X.w) X.A X.xe none (EP X pins σ Q) ja C) hsc hN C hc ht he I2 hcl hcla T st2 f2 hg ?_
 intro D C' m s' H' I' hn' fC q
 obtain ⟨g0,g1,g2,g3,g4,g5⟩ :=fC
 exact ⟨m,hn',fun h' hs'=>⟨.ref D,H',I'.turned (t':=s'.toks) (fun b o hb e=>hs'.extBut b o hb e) g0 (Ne.symm (Ne.symm g1)) g3 g4 g5,rfl,q⟩⟩
end
section
variable {wi:TI} {ix:List Nat} {tc:TT} {te:TE} {σ:St} {H:Hp} {Q:VK} {K:PySem.W.Frag}
theorem ZGi {ta:TA} (h:ta σ H fun vs H1=>∃ j:Int,vs=[.int j]∧-(2 ^ 62)≤j∧j < 2 ^ 62∧ZEu (Itr 0 j.toNat) ix tc te σ Q H1):ZLY (ZK1 ta) ix tc te σ H Q:=h
def ZQn (K:PySem.W.Frag) (x:V) (ix:List Nat) (tc:TT) (te:TE) (σ:St) (Q:VK) (H1:Hp):Prop:=
 (∃ a xs,x=.ref a∧SqL K H1 a xs∧ZEu (Itl K a) ix tc te σ Q H1)∨(∃ a xs,x=.ref a∧SqT K H1 a xs∧ZEu (Itt K a) ix tc te σ Q H1)∨(∃ z,x=.str z∧ZEu (Its z) ix tc te σ Q H1)
theorem ZIJ {tl:TE} (h:tl σ H fun x H1=>ZQn K x ix tc te σ Q H1):ZLY (iSeq K tl) ix tc te σ H Q:=h
theorem ZME {BQ:Bool→Hp→Prop} (h:BQ true H):ZQg σ H BQ:=h
def Wk (J:It) (xs:List V) (H1:Hp):Prop:=∀ H',Same H1 H'→(∀ i,i < xs.length→J.go i H'∧∀ x H2,J.yld i H' x H2→H2=H'∧xs[i]?=some x)∧J.stop xs.length H'
theorem ZG9 (lo:Int) (n:Nat) (H:Hp):Wk (Itr lo n) ((List.range n).map fun i:Nat=>V.int (lo + (i:Int))) H:=fun H' _=>by
 refine ⟨fun i hi=>?_,?_⟩
 ·rw [List.length_map,List.length_range] at hi
  refine ⟨hi,fun x H2 y=>?_⟩
  obtain ⟨e,y⟩ :=y
  refine ⟨e,?_⟩
  rw [List.getElem?_map,List.getElem?_range hi,y]
  rfl
 ·rw [List.length_map,List.length_range]
  exact Nat.le_refl n
theorem ZB5 {a:Addr} {xs:List V} (h:SqL K H a xs):Wk (Itl K a) xs H:=fun H' s=>by
 have h':=s.seq h
 refine ⟨fun i hi=>⟨⟨xs,xs[i],h',by simp [hi]⟩,fun x H2 y=>?_⟩,⟨xs,h',Nat.le_refl _⟩⟩
 obtain ⟨e,y⟩ :=y
 exact ⟨e,y xs h'⟩
theorem Ztj {J:It} {xs:List V} (Pv:Nat→List V→Prop) (hw:Wk J xs H) (hz:xs.length≤1000000) (h0:Pv 0 [])
  (hs:∀ (i:Nat) (x:V) (ys:List V) (acc:Addr) (H':Hp),xs[i]?=some x→Same H H'→H acc=none→H' acc=some (.lst ys)→Pv i ys→ys.length≤i→
   ∀ R:Bool→Hp→Prop,(∀ b H2,Same H' H2→(b=false→Pv (i + 1) ys)→(b=true→∀ R2:V→Hp→Prop,(∀ y H3,Same H2 H3→Pv (i + 1) (ys ++ [y])→R2 y H3)→te (some x :: subS σ ix) H2 R2)→R b H2)→tc (some x :: subS σ ix) H' R)
  (hd:∀ (acc:Addr) (ys:List V) (H':Hp),H acc=none→Same H H'→H' acc=some (.lst ys)→Pv xs.length ys→Q (.ref acc) H'):ZEu J ix tc te σ Q H:=by
 intro acc hacc
 have sU:∀ {H2:Hp} (o:HO),Same H H2→Same H (upd H2 acc o):=fun o s b u e=>by rw [ZbG (Zat e hacc)]; exact s b u e
 refine ⟨fun i m ys H'=>m=xs.length - i∧i≤xs.length∧Same H H'∧H' acc=some (.lst ys)∧Pv i ys∧ys.length≤i,⟨xs.length,by simp,Nat.zero_le _,ZgJ hacc _,ZaV,h0,Nat.le_refl _⟩,?_⟩
 rintro i m ys H' ⟨rfl,hi,sm,ea,pv,hy⟩
 by_cases hlt:i < xs.length
 ·obtain ⟨go,yl⟩ :=(hw H' sm).1 i hlt
  refine .inr ⟨go,fun x H2 y=>?_⟩
  obtain ⟨rfl,hx⟩ :=yl x H2 y
  refine hs i x ys acc _ hx sm hacc ea pv hy _ fun b H3 s3 pf pt=>?_
  cases b with
  | false=>
   rw [if_neg Bool.false_ne_true]
   exact ⟨xs.length - (i + 1),by omega,rfl,hlt,sm.trans s3,s3 _ _ ea,pf rfl,Nat.le_succ_of_le hy⟩
  | true=>
   rw [if_pos rfl]
   refine pt rfl _ fun y H4 s4 py=>⟨s4 _ _ (s3 _ _ ea),ZM3 (by omega),xs.length - (i + 1),by omega,rfl,hlt,sU _ (sm.trans (s3.trans s4)),ZaV,py,?_⟩
   rw [List.length_append,List.length_singleton]
   omega
 ·have e:i=xs.length:=by omega
  subst e
  exact .inl ⟨(hw H' sm).2,hd acc ys H' hacc sm ea pv⟩
end
section
variable {X:Cx} {K:PySem.W.Frag} {a o:Expr} {ta:TE} {pos:Pos}
theorem ZtA (hK:X.K=K):IxR X (rIx K):=by subst hK; exact Zar
theorem ZCy (hK:X.K=K):ZlT X (.builtin "isinstance") (rIsi K):=by subst hK; exact ZaJ
theorem ZFi (hK:X.K=K):OpR X (compareOp .In) (rInG K):=by subst hK; exact ZDC
theorem ZDL (hK:X.K=K) (ha:PE X a ta) (he:∀ whole,isTrue a X.env whole=(do let v ← whole; standAt a.pos; holding [v] (truthy v))):PT X a (fun σ H Q=>ta σ H fun x H'=>∃ k,TruV K x H' k∧Q k H'):=by subst hK; exact Zbg ha he
end
end L2
set_option maxRecDepth 100000
set_option maxHeartbeats 4000000
namespace L2
open PySem PySem.Spec PyProof.Rows
section
variable {X:Cx} {K:PySem.W.Frag} {σ:St} {H:Hp} {Q:VK} {a:Expr} {ta:TE} {pos:Pos}
def rSlX:V→Option Int→Option Int→Hp→VK→Prop:=fun x lo hi H Q=>∃ z,x=.str z∧z.length≤sizeLine∧Q (.str (Txt.slice z lo hi)) H
theorem ZP6:SlR X rSlX:=by
 intro pins s σ H x v vl vu lo hi sl Q I rx hs pl pu h
 obtain ⟨z,rfl,hz,q⟩ :=h
 obtain ⟨t,rfl⟩ :=rx
 refine ⟨"str",_,F.slot_str_getitem.lookup,typeIs_str _ _ _,?_⟩
 obtain ⟨o,ho,hc,hd⟩ :=hs
 have fin:∀ (l u:Option (Int × Tok)),vl=partValue l→vu=partValue u→l.map (·.1)=lo→u.map (·.1)=hi→wpAny (model X.prog X.w) X.A (getItem (.str z t) (.ref sl)) (EP X pins σ Q) X.xe s:=fun l u e1 e2 e3 e4=>by
  subst e1 e2 e3 e4
  exact wpAny_getItem_str_slice (l:=l) (u:=u) (st:=none) ⟨o,ho,hc,hd⟩ rfl
   (post_val_or_str ⟨Nat.le_trans (Txt.slice_le z _ _) hz,fun t' k=>⟨.str _,H,I.tok k,⟨t',rfl⟩,q⟩⟩)
 have pv:∀ {v:Value} {o:Option Int},IsPart v o→∃ l:Option (Int × Tok),v=partValue l∧l.map (·.1)=o:=fun {v o} h=>by
  cases h <;> first | exact ⟨none,rfl,rfl⟩ | exact ⟨some (_,_),rfl,rfl⟩
 obtain ⟨l,e1,e3⟩ :=pv pl
 obtain ⟨u,e2,e4⟩ :=pv pu
 exact fin l u e1 e2 e3 e4
def rSlA (K:PySem.W.Frag):V→Option Int→Option Int→Hp→VK→Prop:=fun x lo hi H Q=>rSlG K x lo hi H Q∨rSlX x lo hi H Q
theorem ZlR:SlR X (rSlA X.K):=SlR.or ZP5 ZP6
theorem ZK4 {z:Str} {lo hi:Option Int} (hz:z.length≤1000000) (k:Q (.str (Txt.slice z lo hi)) H):rSlA K (.str z) lo hi H Q:=.inr ⟨z,rfl,Zcf hz,k⟩
theorem ZQB {p:Addr} {xs ys:List V} {lo hi:Option Int} (h:SqL K H p xs) (e:cutV xs lo hi=ys) (k:∀ (l:Addr) (H':Hp),Same H H'→H l=none→H' l=some (.lst ys)→Q (.ref l) H'):rSlA K (.ref p) lo hi H Q:=.inl (j_sl h e k)
def ZPQ:V→List V→Hp→VK→Prop:=fun x vs H Q=>∃ z y,x=.str z∧vs=[.str y]∧Q (.int (Txt.find z y)) H
theorem ZJi:MtM X "str.find" ZPQ:=by
 intro pins s σ H x vs v us Q I rx rv h
 obtain ⟨z,y,rfl,rfl,q⟩ :=h
 obtain ⟨t,rfl⟩ :=rx
 obtain ⟨u,rfl,t',rfl⟩ :=rv.one
 exact SC.find ⟨.int _,H,I.tok _,⟨_,rfl⟩,q⟩
theorem ZEe:∀ {ts:List Str} {us:List Value},Vals (ts.map V.str) us→∃ l:List (Str × Tok),us=strValues l∧l.map (·.1)=ts
 | [],_,r=>by cases r; exact ⟨[],rfl,rfl⟩
 | t :: ts,_,r=>by
  cases r with
  | cons r1 r2=>
   obtain ⟨k,rfl⟩ :=r1
   obtain ⟨l,rfl,rfl⟩ :=ZEe r2
   exact ⟨(t,k) :: l,rfl,rfl⟩
def ZQJ (K:PySem.W.Frag):V→List V→Hp→VK→Prop:=fun x vs H Q=>∃ z l ts,x=.str z∧vs=[.ref l]∧SqL K H l (ts.map V.str)∧JoinOk z ts=true∧Q (.str (Txt.join z ts)) H
theorem ZJj:MtM X "str.join" (ZQJ X.K):=by
 intro pins s σ H x vs v us Q I rx rv h
 obtain ⟨z,l,ts,rfl,rfl,hq,hj,q⟩ :=h
 obtain ⟨t,rfl⟩ :=rx
 obtain ⟨u,rfl,ru⟩ :=rv.one
 cases ru
 obtain ⟨its,r',pl,hz⟩ :=I.list hq
 obtain ⟨ls,rfl,rfl⟩ :=ZEe r'
 exact SC.join pl.isList rfl hj fun t' k=>⟨.str _,H,I.tok k,⟨t',rfl⟩,q⟩
theorem tyS {z:Str}:tyV K "str" (.str z) H:=by
 unfold tyV
 first
  | exact .inr (.inl ⟨rfl,_,rfl⟩)
  | exact .inr (.inr (.inl ⟨rfl,_,rfl⟩))
  | exact .inr (.inr ⟨rfl,_,rfl⟩)
  | simp
abbrev TJ:=St→Hp→Str→VK→Prop
def PJ (X:Cx) (es:List Expr) (t:TJ):Prop:=
 ∀ (out:Str) (pins:List (Addr × Obj)) (s:Shared) (σ:St) (H:Hp) (Q:VK),Inv X pins σ H s→t σ H out Q→wpAny (model X.prog X.w) X.A (joinParts out (evalEach es X.env)) (EP X pins σ Q) X.xe s
def tJn:TJ:=fun _ H out Q=>out.length≤sizeLine∧Q (.str out) H
def tJc (te:TE) (tr:TJ):TJ:=fun σ H out Q=>te σ H fun x H1=>∃ y,x=.str y∧(out ++ y).length≤sizeLine∧tr σ H1 (out ++ y) Q
theorem ZGI:PJ X [] tJn:=fun out pins s σ H Q I h=>joinParts_nil ⟨.str out,H,I.tok _,⟨_,rfl⟩,h.2⟩ h.1
theorem Zlc {e:Expr} {es:List Expr} {te:TE} {tr:TJ} (he:PE X e te) (hr:PJ X es tr):PJ X (e :: es) (tJc te tr):=by
 intro out pins s σ H Q I h
 show wpAny _ _ (joinParts out (eval e X.env :: evalEach es X.env)) _ _ s
 refine joinParts_cons (thn (he pins s σ H _ I h) fun v s1 ⟨x,H1,I1,r1,y,ex,hz,q⟩ =>?_)
 subst ex
 obtain ⟨t,rfl⟩ :=r1
 exact ⟨hz,hr _ pins s1 σ H1 Q I1 q⟩
def tFs (t:TJ):TE:=fun σ H Q=>t σ H Str.empty Q
theorem Zsz {e1 e2:Expr} {es:List Expr} {t:TJ} (h:PJ X (e1 :: e2 :: es) t):PE X (.JoinedStr (e1 :: e2 :: es) pos) (tFs t):=by
 intro pins s σ H Q I q
 exact JoinedStr_many (h Str.empty pins s σ H Q I q)
def tFmt (ta:TE):TE:=fun σ H Q=>ta σ H fun x H1=>∃ z,x=.str z∧z.length≤sizeLine∧Q (.str z) H1
theorem ZJH (ha:PE X a ta):PE X (.FormattedValue a (-1) none pos) (tFmt ta):=by
 intro pins s σ H Q I h
 refine FormattedValue_plain (thn (ha pins s σ H _ I h) fun v s1 ⟨x,H1,I1,r1,z,ex,hz,q⟩ =>?_)
 subst ex
 obtain ⟨t,rfl⟩ :=r1
 exact formatField_str (fun t' k=>⟨.str z,H1,I1.tok k,⟨t',rfl⟩,q⟩) hz
theorem i_fs {t:TJ} (h:t σ H Str.empty Q):tFs t σ H Q:=h
theorem i_jn {out:Str} (z:out.length≤1000000) (h:Q (.str out) H):tJn σ H out Q:=⟨Zcf z,h⟩
theorem i_jc {te:TE} {tr:TJ} {out:Str} (h:te σ H fun x H1=>∃ y,x=.str y∧(out ++ y).length≤sizeLine∧tr σ H1 (out ++ y) Q):tJc te tr σ H out Q:=h
theorem ZO5 (h:ta σ H fun x H1=>∃ z,x=.str z∧z.length≤sizeLine∧Q (.str z) H1):tFmt ta σ H Q:=h
end
end L2
set_option maxRecDepth 100000
set_option maxHeartbeats 4000000
namespace L2
open PySem PySem.Spec PyProof.Rows
mutual
def DV (H:Hp):PyData→V→Prop
 | .none,v=>v=.non
 | .bool b,v=>v=.bl b
 | .int i,v=>v=.int i
 | .str x,v=>v=.str x
 | .list ds,v=>∃ p xs,v=.ref p∧H p=some (.lst xs)∧DVs H ds xs
 | .tuple ds,v=>∃ p xs,v=.ref p∧H p=some (.tup xs)∧DVs H ds xs
 | .dict _,_=>False
def DVs (H:Hp):List PyData→List V→Prop
 | [],xs=>xs=[]
 | d :: ds,xs=>∃ v r,xs=v :: r∧DV H d v∧DVs H ds r
end
section
variable {X:Cx} {pins:List (Addr × Obj)} {σ:St} {H:Hp} {s:Shared}
mutual
theorem Zld (I:Inv X pins σ H s):∀ (d:PyData) (v:V) (u:Value),DV H d v→RelV v u→∃ as,Reads s.heap u d as
 | .none,v,u,h,r=>by
  rw [DV] at h; subst h; cases r; exact ⟨_,.none⟩
 | .bool b,v,u,h,r=>by
  rw [DV] at h; subst h; cases r; exact ⟨_,.bool b⟩
 | .int i,v,u,h,r=>by
  rw [DV] at h; subst h; obtain ⟨t,rfl⟩ :=r; exact ⟨_,.int i t⟩
 | .str x,v,u,h,r=>by
  rw [DV] at h; subst h; obtain ⟨t,rfl⟩ :=r; exact ⟨_,.str x t⟩
 | .list ds,v,u,h,r=>by
  rw [DV] at h
  obtain ⟨p,xs,rfl,e,hs⟩ :=h
  cases r
  obtain ⟨z,its,n,r',e'⟩ :=I.hok p _ e
  obtain ⟨as,ra⟩ :=Zyp I ds xs its hs r'
  exact ⟨_,.list e' rfl rfl (by simpa using ra)⟩
 | .tuple ds,v,u,h,r=>by
  rw [DV] at h
  obtain ⟨p,xs,rfl,e,hs⟩ :=h
  cases r
  obtain ⟨z,its,r',o,e',hc,n,hd⟩ :=I.hok p _ e
  obtain ⟨as,ra⟩ :=Zyp I ds xs its hs r'
  exact ⟨_,.tuple e' hc hd (by simpa using ra)⟩
 | .dict _,v,u,h,r=>by rw [DV] at h; exact h.elim
theorem Zyp (I:Inv X pins σ H s):∀ (ds:List PyData) (xs:List V) (us:List Value),DVs H ds xs→Vals xs us→∃ as,ReadsAll s.heap us ds as
 | [],xs,us,h,r=>by
  rw [DVs] at h; subst h; cases r; exact ⟨_,.nil⟩
 | d :: ds,xs,us,h,r=>by
  rw [DVs] at h
  obtain ⟨v,r0,rfl,h1,h2⟩ :=h
  cases r with
  | cons r1 r2=>
   obtain ⟨a1,q1⟩ :=Zld I d v _ h1 r1
   obtain ⟨a2,q2⟩ :=Zyp I ds r0 _ h2 r2
   exact ⟨_,.cons q1 q2⟩
end
def rEqD:R2:=fun x y H Q=>∃ d1 d2,DV H d1 x∧DV H d2 y∧d1.canLay0=true∧d2.canLay0=true∧d1.depth≤60∧Q (.bl (PyData.eqv d1 d2)) H
theorem ZPE (hu:X.A.units + 64 < cLine):OpR X (compareOp .Eq) rEqD:=by
 intro pins s σ H x y v u Q I rx ry h
 obtain ⟨d1,d2,h1,h2,c1,c2,hd,q⟩ :=h
 obtain ⟨a1,q1⟩ :=Zld I d1 x v h1 rx
 obtain ⟨a2,q2⟩ :=Zld I d2 y u h2 ry
 exact SeqAt.compareEq_reads q1 q2 c1 c2 (Nat.lt_of_le_of_lt (Nat.add_le_add_left (Nat.le_trans (Nat.min_le_left _ _) hd) _) (by omega)) ⟨.bl _,H,I,rfl,q⟩
def rEqA:R2:=fun x y H Q=>rEq x y H Q∨rEqD x y H Q
theorem ZaC (hu:X.A.units + 64 < cLine):OpR X (compareOp .Eq) rEqA:=OpR.or ZQH (ZPE hu)
def rNeD:R2:=fun x y H Q=>∃ d1 d2,DV H (.list d1) x∧DV H (.list d2) y∧PyData.canLayAll0 d1=true∧PyData.canLayAll0 d2=true∧PyData.depthAll d1≤60∧Q (.bl (!PyData.eqvAll d1 d2)) H
theorem ZPH (hu:X.A.units + 64 < cLine):OpR X (compareOp .NotEq) rNeD:=by
 intro pins s σ H x y v u Q I rx ry h
 obtain ⟨d1,d2,h1,h2,c1,c2,hd,q⟩ :=h
 obtain ⟨a1,q1⟩ :=Zld I (.list d1) x v h1 rx
 obtain ⟨a2,q2⟩ :=Zld I (.list d2) y u h2 ry
 cases q1 with
 | @list b1 o vs n _ as1 g1 g2 g3 g4=>
  cases q2 with
  | @list b2 o' vs' n' _ as2 k1 k2 k3 k4=>
   have hl:s.heap.IsList _ vs:=⟨_,g1,g2,_,g3⟩
   have hl':s.heap.IsList _ vs':=⟨_,k1,k2,_,k3⟩
   have n1:vs.size=d1.length:=by simpa using SeqAt.ReadsAll.length _ _ _ g4
   have n2:vs'.size=d2.length:=by simpa using SeqAt.ReadsAll.length _ _ _ k4
   have fin:EP X pins σ Q (.bool (!PyData.eqvAll d1 d2)) s:=⟨.bl _,H,I,rfl,q⟩
   by_cases hz:vs.size=vs'.size
   ·refine SeqAt.RcNeAt.lists hl hl' hz (by omega) (e:=SeqAt.pairEq d1 d2) (fun j j1 j2=>?_) _ _ _ _ ?_
    ·have:=SeqAt.eqAt_readsAll d1 d2 X.A.in1 s vs.toList vs'.toList _ _ g4 k4 c1 c2 (by
      have:X.A.in1.units=X.A.units + 1∨X.A.in1.units=X.A.units:=by first | exact .inl rfl | exact .inr rfl
      have h3:=Nat.min_le_left (PyData.depthAll d1) (PyData.depthAll d2)
      omega) j (by simpa using j1) (by simpa using j2)
     simpa using this
    ·have e:=SeqAt.eqvAll_eq d1 d2
     rw [← n1,← n2,← hz,Nat.min_self,beq_self_eq_true,Bool.and_true] at e
     rw [e]; exact fin
   ·refine SeqAt.RcNeAt.lists_lengths hl hl' (by simpa using hz) (by omega) _ _ _ _ ?_
    have e:=SeqAt.eqvAll_eq d1 d2
    have hb:(d1.length == d2.length)=false:=by
     rw [← n1,← n2]; simpa using hz
    rw [hb,Bool.and_false] at e
    rw [← e] at fin
    exact fin
def rNeT:R2:=fun x y H Q=>∃ d1 d2,DV H (.tuple d1) x∧DV H (.tuple d2) y∧PyData.canLayAll0 d1=true∧PyData.canLayAll0 d2=true∧PyData.depthAll d1≤60∧Q (.bl (!PyData.eqvAll d1 d2)) H
theorem ZPI (hu:X.A.units + 64 < cLine):OpR X (compareOp .NotEq) rNeT:=by
 intro pins s σ H x y v u Q I rx ry h
 obtain ⟨d1,d2,h1,h2,c1,c2,hd,q⟩ :=h
 obtain ⟨a1,q1⟩ :=Zld I (.tuple d1) x v h1 rx
 obtain ⟨a2,q2⟩ :=Zld I (.tuple d2) y u h2 ry
 cases q1 with
 | @tuple b1 o vs n _ as1 g1 g2 g3 g4=>
  cases q2 with
  | @tuple b2 o' vs' n' _ as2 k1 k2 k3 k4=>
   have hl:s.heap.IsTuple _ vs:=⟨_,g1,g2,_,g3⟩
   have hl':s.heap.IsTuple _ vs':=⟨_,k1,k2,_,k3⟩
   have n1:vs.size=d1.length:=by simpa using SeqAt.ReadsAll.length _ _ _ g4
   have n2:vs'.size=d2.length:=by simpa using SeqAt.ReadsAll.length _ _ _ k4
   refine SeqAt.RcNeAt.tuples hl hl' (by omega) (e:=SeqAt.pairEq d1 d2) (fun j j1 j2=>?_) _ _ _ _ ?_
   ·have:=SeqAt.eqAt_readsAll d1 d2 X.A.in1 s vs.toList vs'.toList _ _ g4 k4 c1 c2 (by
     have:X.A.in1.units=X.A.units + 1∨X.A.in1.units=X.A.units:=by first | exact .inl rfl | exact .inr rfl
     have h3:=Nat.min_le_left (PyData.depthAll d1) (PyData.depthAll d2)
     omega) j (by simpa using j1) (by simpa using j2)
    simpa using this
   ·rw [n1,n2,SeqAt.eqvAll_eq d1 d2]
    exact ⟨.bl _,H,I,rfl,q⟩
def rNeA:R2:=fun x y H Q=>rNe x y H Q∨rNeD x y H Q∨rNeT x y H Q
theorem ZiO (hu:X.A.units + 64 < cLine):OpR X (compareOp .NotEq) rNeA:=OpR.or ZQI (OpR.or (ZPH hu) (ZPI hu))
end
theorem Zxs:∀ a b:List Int,PyData.eqvAll (a.map .int) (b.map .int)=decide (a=b)
 | [],[]=>rfl
 | [],_ :: _=>by simp [PyData.eqvAll]
 | _ :: _,[]=>by simp [PyData.eqvAll]
 | x :: a,y :: b=>by
  simp only [List.map_cons,PyData.eqvAll,PyData.eqv,Zxs a b,List.cons.injEq]
  by_cases h:x=y
  ·subst h; simp
  ·simp [h]
theorem Zxt:∀ a b:List Str,PyData.eqvAll (a.map .str) (b.map .str)=decide (a=b)
 | [],[]=>rfl
 | [],_ :: _=>by simp [PyData.eqvAll]
 | _ :: _,[]=>by simp [PyData.eqvAll]
 | x :: a,y :: b=>by
  simp only [List.map_cons,PyData.eqvAll,PyData.eqv,Zxt a b,List.cons.injEq]
  by_cases h:x=y
  ·subst h; simp
  ·simp [h]
theorem ZAu:∀ a:List Int,PyData.canLayAll0 (a.map .int)=true
 | []=>rfl
 | _ :: a=>by simp [PyData.canLayAll0,PyData.canLay0,ZAu a]
theorem ZF8:∀ a:List Int,PyData.depthAll (a.map .int)≤60
 | []=>by simp [PyData.depthAll]
 | _ :: a=>by
  have:=ZF8 a
  simp only [List.map_cons,PyData.depthAll,PyData.depth]; omega
theorem ZF9:∀ a:List Str,PyData.depthAll (a.map .str)≤60
 | []=>by simp [PyData.depthAll]
 | _ :: a=>by
  have:=ZF9 a
  simp only [List.map_cons,PyData.depthAll,PyData.depth]; omega
theorem ZAb (H:Hp):∀ a:List Int,DVs H (a.map .int) (a.map V.int)
 | []=>by rw [List.map_nil,DVs]; rfl
 | x :: a=>by
  rw [List.map_cons,DVs]
  exact ⟨.int x,a.map V.int,rfl,by rw [DV],ZAb H a⟩
theorem ZAc (H:Hp):∀ a:List Str,DVs H (a.map .str) (a.map V.str)
 | []=>by rw [List.map_nil,DVs]; rfl
 | x :: a=>by
  rw [List.map_cons,DVs]
  exact ⟨.str x,a.map V.str,rfl,by rw [DV],ZAc H a⟩
section
variable {K:PySem.W.Frag} {H:Hp} {Q:VK}
theorem ZO9 {l l':Addr} {a b:List Int} (h:H l=some (.lst (a.map V.int))) (h':H l'=some (.lst (b.map V.int))) (q:Q (.bl (!decide (a=b))) H):rNeA (.ref l) (.ref l') H Q:=by
 refine .inr (.inl ⟨a.map .int,b.map .int,?_,?_,ZAu a,ZAu b,ZF8 a,?_⟩)
 ·rw [DV]; exact ⟨l,_,rfl,h,ZAb H a⟩
 ·rw [DV]; exact ⟨l',_,rfl,h',ZAb H b⟩
 ·rw [Zxs]; exact q
theorem ZMr {i j:Int} (h:Q (.bl (decide (i=j))) H):rEqA (.int i) (.int j) H Q:=.inl (ZNw h)
theorem ZMs {i j:Str} (h:Q (.bl (decide (i=j))) H):rEqA (.str i) (.str j) H Q:=.inl (ZNx h)
theorem ZMB {i j:Int} (h:Q (.bl (!decide (i=j))) H):rNeA (.int i) (.int j) H Q:=.inl (ZND h)
theorem ZMC {i j:Str} (h:Q (.bl (!decide (i=j))) H):rNeA (.str i) (.str j) H Q:=.inl (ZNE h)
theorem ZMA {i j:Bool} (h:Q (.bl (!decide (i=j))) H):rNeA (.bl i) (.bl j) H Q:=.inl (ZNC h)
end
end L2
namespace PySem
open Sem (wp)
set_option maxRecDepth 100000
theorem ZJc:typeLookup (.type "list_reverseiterator") "__len__" = pure none:=by rw [typeLookup_type,builtinLookup_eq_fast]; kernel_rfl
theorem ZLg:typeLookup (.type "list_reverseiterator") "__length_hint__" = pure (some (.builtin "list_reverseiterator.__length_hint__")):=by rw [typeLookup_type,builtinLookup_eq_fast]; kernel_rfl
section
variable {prog:Program} {w:World} {A:Around} {s:Shared} {R:Result→Shared→Prop}
variable {I:Addr} {fp wr:List Addr} {G:Array GenState→Array GenState→Prop} {n:Nat} {P:Nat→Value→Prop} {St:Nat→Shared→Prop}
theorem ZHh (W:WalksS prog w A.in1 I fp wr G n P St) (hT:∀ i s,St i s→s.TypeIs (.ref I) "list_reverseiterator") (S:Addr) (res:Value) (c₀:Nat) (hst:St 0 s) (hSf:S ∉ fp) (hI:I ∈ fp)
  (hS:s.heap.get? S=some { cls:=.type "list",data:=.seq #[] c₀ })
  (hR:∀ s' acc' c',Moved (S :: wr) G s s'→s'.heap.get? S=some { cls:=.type "list",dict:=none,data:=.seq acc' c',slots:=#[] }→ItemsOf P acc' n→R (.ok (.ret res)) s') (hn:n≤sizeLine) :
  wpAny (model prog w) A.in1 (Builtin.List.listExtendWith (.ref S) (.ref I) res)
   (fun fin s'=>match fin with | .done f=>R (.ok f) s' | .again c'=>c'.quiet=true∧codeAny (model prog w) A c' R s') (fun e s'=>R (.error e) s') s:=by
 have hSI:S ≠ I:=fun e=>hSf (e ▸ hI)
 have h1:Builtin.List.listSameRef (.ref S) (.ref I)=false:=by simp [Builtin.List.listSameRef,hSI]
 unfold Builtin.List.listExtendWith
 refine wpAny_bind (wpAny_typeOf (hT 0 _ hst) ?_)
 rw [if_neg (by rw [h1]; decide)]
 refine wpAny_bind (W.self 0 _ _ _ hst ?_)
 refine wpAny_bind (wpAny_holding ?_)
 unfold Builtin.List.listLengthHint
 refine wpAny_bind (wpAny_specialOf (hT 0 _ hst) ZJc ?_)
 show wpAny _ A.in1 (specialOf (Value.ref I) (Str.ofString "__length_hint__") >>= _) _ _ _
 refine wpAny_bind (wpAny_specialOf (hT 0 _ hst) ZLg ?_)
 (generalize hid:("list_reverseiterator.__length_hint__" : String)=id0; (fail_if_success (clear hid id0)); wp_delta; rw [show splitId id0=some ("list_reverseiterator","__length_hint__") from by subst hid; decide +kernel]; subst hid)
 refine wpAny_bind (wpAny_isInstance (b:=true) (hT 0 _ hst) (by rw [isSubtype_type]; kernel_rfl) ?_)
 refine wpAny_pure ?_
 rw [if_neg (by decide)]
 exact wpAny_pure ⟨plainId_quiet F.plain_extend_loop _,codeAny_extend_loopS W hn _ hSf _ n 0 _ _ _ rfl (Nat.zero_le _) hst hS (ItemsOf.nil P) fun s' acc' c' hm hS' hacc=>hR s' acc' c' hm hS' hacc⟩
theorem ZK5 (W:WalksS prog w A.in1 I fp wr G n P St) (hT:∀ i s,St i s→s.TypeIs (.ref I) "list_reverseiterator") (S:Addr) (hst:St 0 s) (hSf:S ∉ fp) (hI:I ∈ fp)
  (hS:s.heap.get? S=some { cls:=.type "list",data:=.seq #[] })
  (hR:∀ s' acc' c',Moved (S :: wr) G s s'→s'.heap.get? S=some { cls:=.type "list",dict:=none,data:=.seq acc' c',slots:=#[] }→ItemsOf P acc' n→R (.ok (.ret .none)) s') (hn:n≤sizeLine) :
  wpAny (model prog w) A.in1 (Builtin.«list.__init__» ⟨[.ref S,.ref I],[]⟩)
   (fun fin s'=>match fin with | .done f=>R (.ok f) s' | .again c'=>c'.quiet=true∧codeAny (model prog w) A c' R s') (fun e s'=>R (.error e) s') s:=by
 show wpAny _ A.in1 (do let old ← Builtin.List.listItems (.ref S); Builtin.List.listUpdate (.ref S) (fun _=>#[]); letGo old.toList.reverse; Builtin.List.listExtendWith (.ref S) (.ref I) .none) _ _ s
 refine wpAny_bind ?_
 unfold Builtin.List.listItems
 refine wpAny_bind (wpAny_seqItems hS rfl (wpAny_pure ?_))
 show wpAny _ A.in1 (updateSeq S (fun _=>#[]) >>= fun _=>letGo (#[]:Array Value).toList.reverse >>= fun _=>Builtin.List.listExtendWith (.ref S) (.ref I) .none) _ _ s
 refine wpAny_bind (wpAny_updateSeq hS rfl ?_)
 have hS₂:=Heap.get?_update_self (Obj.mapSeq (fun _=>(#[]:Array Value))) hS rfl
 have oth:∀ b o,b ≠ S→s.heap.get? b=some o→(s.heap.update S (Obj.mapSeq (fun _=>(#[]:Array Value)))).get? b=some o:=
  fun b o hb e=>(Heap.get?_update_other _ _ (Ne.symm hb)).trans e
 refine wpAny_bind (wpAny_letGo ?_)
 refine ZHh (hn:=hn) W hT S .none _ (W.frame 0 s _ s.toks hst (Nat.le_refl _) fun b hb o e=>oth b o (fun h=>hSf (h ▸ hb)) e) hSf hI hS₂ fun s' acc' c' hm hS' hacc=>?_
 exact hR s' acc' c' (Moved.trans W.gtrans ((Moved.refl W.grefl).then_heap (Nat.le_refl _) fun b o hb e=>oth b o (fun h=>hb (h ▸ List.mem_cons_self)) e) hm) hS' hacc
end
section
variable {prog:Program} {w:World} {A:Around} {E:Value→Shared→Prop} {s:Shared}
variable {I:Addr} {fp wr:List Addr} {G:Array GenState→Array GenState→Prop} {n:Nat} {P:Nat→Value→Prop} {St:Nat→Shared→Prop}
theorem Zz6 {Q:Value→Shared→Prop} (W:WalksS prog w A.in1.in1 I fp wr G n P St) (hT:∀ i s,St i s→s.TypeIs (.ref I) "list_reverseiterator") (hst:St 0 s) (hfp:∀ b ∈ fp,b < s.heap.objs.size) (hI:I ∈ fp)
  (hQ:∀ s' acc' c',Moved (s.heap.objs.size :: wr) G { s with heap:=s.heap.push { cls:=.type "list",data:=.seq #[] } } s'→
   s'.heap.get? s.heap.objs.size=some { cls:=.type "list",dict:=none,data:=.seq acc' c',slots:=#[] }→ItemsOf P acc' n→Q (.ref s.heap.objs.size) s') (hn:n≤sizeLine) :
  wpAny (model prog w) A (call (.type "list") [.ref I]) Q E s:=by
 have hSf:s.heap.objs.size ∉ fp:=fun hm=>Nat.lt_irrefl _ (hfp _ hm)
 refine callType_codes (Q₁:=fun obj s₁=>obj=.ref s.heap.objs.size∧s₁ = { s with heap:=s.heap.push { cls:=.type "list",data:=.seq #[] } }) F.called_list (F.typeCall_list_1 _) F.entry_list_init
  (code_list_new _ ⟨rfl,rfl⟩) fun obj s₁ h₁=>?_
 obtain ⟨rfl,rfl⟩ :=h₁
 have hS:(s.heap.push { cls:=.type "list",data:=.seq #[] }).get? s.heap.objs.size=some { cls:=.type "list",data:=.seq #[] }:=Heap.get?_push_size _ rfl
 refine ⟨⟨_,hS,rfl⟩,F.args_list_init_2 _ _,ZK5 (hn:=hn) W hT _ (W.frame 0 s _ s.toks hst (Nat.le_refl _) fun b _ o e=>Heap.get?_push_of_some _ e) hSf hI hS fun s' acc' c' hm hS' hacc=>?_⟩
 exact ⟨rfl,hQ s' acc' c' hm hS' hacc⟩
end
end PySem
namespace L2
open PySem PySem.Spec PyProof.Rows
section
variable {X:Cx} {tg:Expr}
def rSum (K:PySem.W.Frag):List V→Hp→VK→Prop:=fun xs H Q=>∃ (p:Addr) (ns:List Int),xs=[.ref p]∧SqL K H p (ns.map V.int)∧Q (.int ns.sum) H
theorem ZxD:∀ {ns:List Int} {us:List Value},Vals (ns.map V.int) us→∃ xs:List (Int × Tok),us=xs.map (fun x=>Value.int x.1 x.2)∧xs.map (·.1)=ns
 | [],_,r=>by
  cases r
  exact ⟨[],rfl,rfl⟩
 | n :: ns,_,r=>by
  cases r with
  | cons r rr=>
   obtain ⟨t,rfl⟩ :=r
   obtain ⟨xs,rfl,e⟩ :=ZxD rr
   exact ⟨(n,t) :: xs,rfl,by rw [List.map_cons,e]⟩
theorem Zrc (hc:X.calm=true):ZlT X (.builtin "sum") (rSum X.K):=by
 intro pins s σ H xs us Q I r h
 obtain ⟨p,ns,rfl,hq,q⟩ :=h
 cases r with
 | cons r rr=>
  cases rr
  cases r
  obtain ⟨its,rv,pl,hz⟩ :=I.list hq
  obtain ⟨zs,e,en⟩ :=ZxD rv
  have pl':s.heap.IsList p (intItems zs.toArray):=by
   have e':intItems zs.toArray=its.toArray:=by rw [e]; simp [intItems]
   rw [e']; exact pl.isList
  refine sum_intListG (I.ok.hd hc) pl' fun h' tk t' k=>⟨.int ns.sum,H,I.kept k,⟨t',?_⟩,q⟩
  rw [preSum_eq,List.take_of_length_le (by simp),← en]
def ZG2 (K:PySem.W.Frag) (te:TE):TE:=fun σ H Q=>te σ H fun x H1=>∃ p ys,x=.ref p∧SqL K H1 p ys∧∀ l,H1 l=none→Q (.ref l) (upd H1 l (.lst ys.reverse))
theorem ZIS {its:List Value} {acc:Array Value} (h:ItemsOf (fun i v=>its.toArray[its.toArray.size - 1 - i]?=some v) acc its.toArray.size):acc.toList=its.reverse:=by
 obtain ⟨h1,h2⟩ :=h
 have h1:acc.size=its.length:=by rw [h1]; simp
 apply List.ext_getElem?
 intro i
 by_cases hi:i < its.length
 ·have e:acc[i]?=some (acc[i]'(by omega)):=Array.getElem?_eq_getElem (by omega)
  have:=h2 i _ e
  rw [List.size_toArray,List.getElem?_toArray] at this
  rw [Array.getElem?_toList,e,← this,List.getElem?_reverse hi]
 ·rw [Array.getElem?_toList,Array.getElem?_eq_none (by omega),List.getElem?_eq_none (by rw [List.length_reverse]; omega)]
theorem ZyL:∀ {xs xs':List V} {us us':List Value},Vals xs us→Vals xs' us'→Vals (xs ++ xs') (us ++ us')
 | _,_,_,_,.nil,r=>r
 | _,_,_,_,.cons h r,r'=>.cons h (ZyL r r')
theorem ZvY:∀ {xs:List V} {us:List Value},Vals xs us→Vals xs.reverse us.reverse
 | _,_,.nil=>.nil
 | _,_,.cons h r=>by
  rw [List.reverse_cons,List.reverse_cons]
  exact ZyL (ZvY r) (.cons h .nil)
theorem ZHy {e:Expr} {te:TE} {p p2 pos pos2:Pos} (hc:X.calm=true) (hg:Gl X "list") (hm:X.mg "list" = none) (hg2:Gl X "reversed") (hm2:X.mg "reversed" = none) (ha:PE X e te)
  (he:starEach [e] X.env=(false,eval e X.env) :: starEach [] X.env:=by rfl) :
  PE X (.Call (.Name "list" p) [.Call (.Name "reversed" p2) [e] [] pos2] [] pos) (ZG2 X.K te):=by
 intro pins s σ H Q I h
 refine wpAny_Call_Name_kw (Zvx I hg hm Zth ?_)
 refine PyProof.Rows.callWith_type1 ?_ rfl rfl
 show wpAny _ _ (spliced ((false,eval (.Call (.Name "reversed" p2) [e] [] pos2) X.env) :: backTo pos (starEach [] X.env))) _ _ s
 refine Calls.spliced_cons ?_
 refine wpAny_Call_Name_kw (Zvx I hg2 hm2 ZEK ?_)
 let R:List V→Hp→Prop:=fun vs H1=>match vs with | [x]=>(∃ p ys,x=V.ref p∧SqL X.K H1 p ys∧∀ l,H1 l=none→Q (.ref l) (upd H1 l (.lst ys.reverse))) | _=>False
 have h':Zs8 te tNil σ H R:=h
 refine PyProof.Rows.callWith_type1 (thn (Zaa ha Zaf he pos2 pins s σ H R I h') fun us s1 ⟨vs,H1,I1,r1,q1⟩ =>?_) he rfl
 match vs,r1,q1 with
 | [x],r1,q1=>
  obtain ⟨p,ys,rfl,hq,q⟩ :=q1
  obtain ⟨u,rfl,rx⟩ :=ZFD r1
  cases rx
  obtain ⟨its,rv,pl,hz⟩ :=I1.list hq
  have hlen:=rv.length
  have pl0:s1.heap.IsList p its.toArray:=pl.isList
  have hpl:p < s1.heap.objs.size:=by obtain ⟨o,ho,_⟩ :=id pl0; exact Heap.lt_size ho
  refine call_reversed_list pl0 ?_
  refine Calls.spliced_nil ?_
  have I2:Inv X pins σ H1 { s1 with heap:=s1.heap.push (revObj p ((its.toArray.size:Int) - 1)) }:=I1.kept (t':=s1.toks) fun b o e=>Heap.get?_push_of_some _ e
  have pl2:(s1.heap.push (revObj p ((its.toArray.size:Int) - 1))).IsList p its.toArray:=pl0.at fun o e=>Heap.get?_push_of_some _ e
  have W:=(Walks.listRev (prog:=X.prog) (w:=X.w) (A:=X.A.in1.in1) (I.ok.hd hc) s1.heap.objs.size p (Nat.ne_of_lt hpl) its.toArray).toS
  refine Zz6 (s:={ s1 with heap:=s1.heap.push (revObj p ((its.toArray.size:Int) - 1)) }) W (fun i s st=>st.2.1.typeIs) ⟨Nat.zero_le _,⟨_,Heap.get?_push_size _ rfl,rfl,by simp [revObj]⟩,pl2⟩ (fun b hb=>?_) (by simp) (fun s' acc c' hm hS hacc=>?_) (by simp only [List.size_toArray]; omega)
  ·have hs:(s1.heap.push (revObj p ((its.toArray.size:Int) - 1))).objs.size=s1.heap.objs.size + 1:=by simp [Heap.push]
   show b < (s1.heap.push (revObj p ((its.toArray.size:Int) - 1))).objs.size
   rw [hs]
   simp at hb
   rcases hb with rfl | rfl
   ·exact Nat.lt_succ_self _
   ·exact Nat.lt_succ_of_lt hpl
  ·rw [Moved.eq_with hm]
   have hf:H1 (s1.heap.push (revObj p ((its.toArray.size:Int) - 1))).objs.size=none:=I2.hok.fresh (Nat.le_refl _)
   have ea:=ZIS hacc
   have ea':acc=its.reverse.toArray:=by rw [← ea]
   have hz':ys.reverse.length≤sizeLine:=by rw [List.length_reverse]; exact hz
   have kp:∀ b o,s1.heap.get? b=some o→s'.heap.get? b=some o:=fun b o e=>by
    have hb:=Heap.lt_size e
    refine hm.heap b o (fun hmem=>?_) (Heap.get?_push_of_some _ (Heap.get?_push_of_some _ e))
    rcases List.mem_cons.mp hmem with e' | e'
    ·have hs:(s1.heap.push (revObj p ((its.toArray.size:Int) - 1))).objs.size=s1.heap.objs.size + 1:=by simp [Heap.push]
     have e'':b=(s1.heap.push (revObj p ((its.toArray.size:Int) - 1))).objs.size:=e'
     rw [hs] at e''
     exact absurd hb (by rw [e'']; exact Nat.not_lt.mpr (Nat.le_succ _))
    ·exact absurd hb (by rw [List.mem_singleton.mp e']; exact Nat.lt_irrefl _)
   refine ⟨.ref _,upd H1 _ (.lst ys.reverse),I1.laid (t':=s'.toks) kp ?_ (show Zd8 X.prog X.w _ s'.heap _ (.lst ys.reverse) from ⟨hz',its.reverse,c',ZvY rv,by rw [← ea']; exact hS⟩),rfl,q _ hf⟩
   simp [Heap.push]
end
section
variable {σ:St} {H:Hp} {Q:VK} {D:Ends} {K:PySem.W.Frag} {g:TG} {tb:TS} {ix:List Nat} {tc:TT} {te:TE}
theorem ZQy {p:Addr} {ns:List Int} (h:SqL K H p (ns.map V.int)) (q:Q (.int ns.sum) H):rSum K [.ref p] H Q:=⟨p,ns,rfl,h,q⟩
def ZMc (K:PySem.W.Frag) (x:V) (H1:Hp) (Q:VK):Prop:=∃ p ys,x=.ref p∧SqL K H1 p ys∧∀ l,H1 l=none→Q (.ref l) (upd H1 l (.lst ys.reverse))
theorem ZCM (h:te σ H fun x H1=>ZMc K x H1 Q):ZG2 K te σ H Q:=h
theorem ZIV {p:Addr} {ys:List V} (h:SqL K H p ys) (k:∀ (l:Addr) (H':Hp),Same H H'→H l=none→H' l=some (.lst ys.reverse)→Q (.ref l) H'):ZMc K (.ref p) H Q:=
 ⟨p,ys,rfl,h,fun l hl=>k l _ (ZgJ hl _) hl ZaV⟩
end
end L2
set_option maxRecDepth 100000
namespace PySem
open Sem (wp)
open AutoSeq1 (wpAny_loadPart')
section
variable {prog:Program} {w:World} {A:Around} {E:Value→Shared→Prop} {s:Shared}
end
end PySem
namespace L2
open PySem PySem.Spec PyProof.Rows
section
variable {X:Cx} {pins:List (Addr × Obj)} {σ:List (Option V)} {H:Hp} {s:Shared} {h':Heap}
end
section
variable {X:Cx}
end
section
variable {σ:St} {H:Hp} {Q:VK} {D:Ends} {K:PySem.W.Frag} {g:TG} {tb:TS}
theorem ZII {r r':R2} {ta tb tc:TE} (h:ta σ H fun x H1=>tb σ H1 fun y H2=>r x y H2 fun z H3=>∃ k,z=.bl k∧(if k=true then tc σ H3 fun w' H4=>r' y w' H4 Q else Q (.bl false) H3)):ZM6 r r' ta tb tc σ H Q:=h
end
end L2
set_option maxRecDepth 100000
namespace L2
open PySem PySem.Spec PyProof.Rows
section
variable {X:Cx}
end
section
open PySem.SeqAt
open PySem.AutoSeq1 (wpAny_loadPart')
open PySem.MeetsSeq PySem.MeetsSeq2 PySem.MeetsSeq3
end
def ZHU (i j:Int):Prop:=0 < j∧j≤18446744073709551616
theorem ZdZ {X:Cx}:OpR X (binaryOp .FloorDiv) (rI ZHU fun i j=>.int (i / j)):=opI fun i j _ _ _ _ _ hc q=>by
 have h1:(0:Int) < j:=hc.1
 have h2:j≤18446744073709551616:=hc.2
 refine floordiv_int (by omega) (by rw [Int.fdiv_eq_ediv_of_nonneg i (by omega)]; exact q) (.inl (PyProof.noPylong_of_log2 ?_))
 have h3:j.natAbs.log2 < 65:=(Nat.log2_lt (by omega)).mpr (by omega)
 omega
section
variable {σ:St} {H:Hp} {Q:VK} {D:Ends} {K:PySem.W.Frag} {g:TG} {tb:TS}
end
end L2
set_option maxRecDepth 100000
namespace PySem
open Sem (wp)
theorem Obj.dict_mapFields (o:Obj) (f:Array Value→Array Value):(Obj.mapFields f o).dict=o.dict:=by unfold Obj.mapFields; split <;> rfl
def ZIz (l:List Env):List Addr:=l.filterMap (·.frame)
def Heap.Tr (h:Heap) (e:Addr) (cls:Value) (T:Addr):Prop:=∃ oe vs oT ts,h.get? e=some oe∧oe.cls=cls∧oe.dict=none∧oe.data=.fields vs∧vs[1]?=some (.ref T)∧T ≠ e∧h.get? T=some oT∧oT.data=.fields ts∧ts[3]?=some .none
structure Heap.Gone (fs own:List Addr) (h h':Heap):Prop where
 kept:∀ b o,b ∉ fs→b ∉ own→h.get? b=some o→h'.get? b=some o
 slot:∀ b o,b ∈ fs→b ∉ own→h.get? b=some o→∃ sl,h'.get? b=some { o with slots:=sl }
section
variable {M:Model} {A:Around} {E:Value→Shared→Prop} {s:Shared}
theorem ZxP {base:Heap} {env:Env} {outer:List Env} {L e:Addr} {oe:Obj} {vs:Array Value} {head:Value} {nx:Bool} {Q:Unit→Shared→Prop} (hfr:A.frames=some (env :: outer)) (hl:s.heap.FunFrames base (env :: outer)) (hf:env.frame=some L)
  (he:s.heap.get? e=some oe) (hdi:oe.dict=none) (hd:oe.data=.fields vs) (hsz:1 < vs.size)
  (q:∀ h' T,Heap.Gone (ZIz (env :: outer)) [e] s.heap h'→s.heap.get? T=none→s.heap.objs.size≤T→h'.Tr e oe.cls T→Q () { s with heap:=h' }) :
  wpAny M A (do let a ← frameOf env; let pl ← entryPlaceOf L nx; let b ← EntryCells.newEntry head a .none (rawInt L) .none pl; setField (.ref e) 1 b) (fun _ s'=>wpAny M A (setFlight (.ref e) none) Q E s') E s:=by
 have hene:e ∉ ZIz (env :: outer):=fun hm=>by
  obtain ⟨_,o,ho,hnf⟩ :=hl.mem hm
  rw [he] at ho; injection ho with ho; subst ho; exact hnf vs hd
 refine wpAny_bind (wpAny_frameOf_fun hfr hl hf fun h₁ hs₁=>?_)
 refine wpAny_bind (wpAny_entryPlaceOf fun pl hpl=>?_)
 unfold EntryCells.newEntry newFields
 refine wpAny_bind (wpAny_newObj_type ?_ (hpl.sizeOk5 _ _ _ _ _))
 have he₁:h₁.get? e=some oe:=(hs₁.2.1 e hene).trans he
 generalize hrec:({ cls:=.type "traceback",dict:=none,data:=.fields ([head,.ref L,.none,rawInt L,.none] ++ (if pl.isEmpty then List.replicate 6 Value.none else pl)).toArray }:Obj)=rec
 have hfree:rec.isFreed=false:=by subst hrec; rfl
 have hrd:rec.data=.fields ([head,.ref L,.none,rawInt L,.none] ++ (if pl.isEmpty then List.replicate 6 Value.none else pl)).toArray:=by subst hrec; rfl
 have he₂:=Heap.get?_push_of_some (h:=h₁) rec he₁
 refine wpAny_setField he₂ hd hsz ?_
 have hTe:h₁.objs.size ≠ e:=Nat.ne_of_gt (Heap.lt_size he₁)
 have hd₃:=Obj.data_mapFields hd (·.setIfInBounds 1 (Value.ref h₁.objs.size))
 have he₃:=Heap.get?_update_self (Obj.mapFields (·.setIfInBounds 1 (Value.ref h₁.objs.size))) he₂ (Obj.isFreed_of_fields hd₃)
 have hT₃:=(Heap.get?_update_other (h₁.push rec) (Obj.mapFields (·.setIfInBounds 1 (Value.ref h₁.objs.size))) (Ne.symm hTe)).trans (Heap.get?_push_size h₁ hfree)
 unfold setFlight
 refine wpAny_bind (wpAny_field he₃ hd₃ (x:=.ref h₁.objs.size) (by simp [hsz]) ?_)
 rw [if_pos (show (Value.ref h₁.objs.size != Value.none)=true from by simp)]
 refine wpAny_setField hT₃ hrd (by simp only [List.size_toArray,List.length_append,List.length_cons,List.length_nil] <;> omega) ?_
 have keep:∀ b o,b ≠ e→h₁.get? b=some o→(((h₁.push rec).update e (Obj.mapFields (·.setIfInBounds 1 (Value.ref h₁.objs.size)))).update h₁.objs.size (Obj.mapFields (·.setIfInBounds 3 ((none:Option Addr).elim Value.none fun f=>rawInt f)))).get? b=some o:=fun b o hbe hb=>by
  have hbT:h₁.objs.size ≠ b:=Nat.ne_of_gt (Heap.lt_size hb)
  rw [Heap.get?_update_other _ _ hbT,Heap.get?_update_other _ _ (Ne.symm hbe)]
  exact Heap.get?_push_of_some _ hb
 refine q _ h₁.objs.size ⟨fun b o hb ho e'=>?_,fun b o hb ho e'=>?_⟩ (Heap.get?_none_of_le (by rw [hs₁.1]; exact Nat.le_refl _)) (by rw [hs₁.1]; exact Nat.le_refl _) ?_
 ·exact keep b o (fun z=>ho (by rw [z]; exact List.mem_singleton.mpr rfl)) ((hs₁.2.1 b hb).trans e')
 ·obtain ⟨sl,e2⟩ :=hs₁.2.2 b o e'
  exact ⟨sl,keep b _ (fun z=>ho (by rw [z]; exact List.mem_singleton.mpr rfl)) e2⟩
 ·refine ⟨_,_,_,_,?_,Obj.cls_mapFields _ _,(Obj.dict_mapFields _ _).trans hdi,hd₃,by simp [hsz],hTe,Heap.get?_update_self _ hT₃ (Obj.isFreed_of_fields (Obj.data_mapFields hrd _)),Obj.data_mapFields hrd _,by first | (simp; done) | (rcases hpl with rfl | ⟨_,_,_,_,_,_,_,rfl⟩ <;> simp)⟩
  rw [Heap.get?_update_other _ _ hTe]; exact he₃
theorem ZEY {base:Heap} {env:Env} {outer:List Env} {L e:Addr} {oe:Obj} {vs:Array Value} {Q:Unit→Shared→Prop} (hfr:A.frames=some (env :: outer)) (hl:s.heap.FunFrames base (env :: outer)) (hf:env.frame=some L)
  (he:s.heap.get? e=some oe) (hdi:oe.dict=none) (hd:oe.data=.fields vs) (h1:vs[1]?=some .none)
  (q:∀ h' T,Heap.Gone (ZIz (env :: outer)) [e] s.heap h'→s.heap.get? T=none→s.heap.objs.size≤T→h'.Tr e oe.cls T→Q () { s with heap:=h' }):wpAny M A (leaving env (.ref e)) Q E s:=by
 unfold leaving noteFrame
 simp only [hf]
 refine wpAny_bind (wpAny_bind (wpAny_field he hd h1 ?_))
 rw [if_neg (by decide)]
 exact ZxP hfr hl hf he hdi hd (Array.getElem?_eq_some_iff.mp h1).1 q
theorem ZJo {base:Heap} {env:Env} {outer:List Env} {L e T:Addr} {cls:Value} {Q:Unit→Shared→Prop} (hfr:A.frames=some (env :: outer)) (hl:s.heap.FunFrames base (env :: outer)) (hf:env.frame=some L) (ht:s.heap.Tr e cls T)
  (q:∀ h' T',Heap.Gone (ZIz (env :: outer)) [e,T] s.heap h'→s.heap.get? T'=none→s.heap.objs.size≤T'→h'.Tr e cls T'→Q () { s with heap:=h' }):wpAny M A (noteFrame (.ref e) env) (fun _ s'=>wpAny M A (setFlight (.ref e) none) Q E s') E s:=by
 obtain ⟨oe,vs,oT,ts,he,hcls,hdi,hd,h1,hTe,hT,hdT,h3⟩ :=ht
 subst hcls
 unfold noteFrame
 simp only [hf]
 refine wpAny_bind (wpAny_field he hd h1 ?_)
 rw [if_pos (show (Value.ref T != Value.none)=true from by simp)]
 refine wpAny_bind (wpAny_field hT hdT h3 ?_)
 rw [if_neg (show ¬ ((Value.none == rawInt L)=true) from by simp [rawInt])]
 refine wpAny_bind (wpAny_setField hT hdT (Array.getElem?_eq_some_iff.mp h3).1 ?_)
 have other:∀ b,b ≠ T→(s.heap.update T (Obj.mapFields (·.setIfInBounds 3 Value.none))).get? b=s.heap.get? b:=fun b hb=>Heap.get?_update_other _ _ (Ne.symm hb)
 have noRec:∀ b o,s.heap.get? b=some o→(∀ vs,o.data ≠ .fields vs)→b ≠ T:=fun b o hb hnf z=>by
  rw [z,hT] at hb; injection hb with hb; subst hb; exact hnf ts hdT
 have hsz:(s.heap.update T (Obj.mapFields (·.setIfInBounds 3 Value.none))).objs.size=s.heap.objs.size:=Heap.size_after_update ..
 refine ZxP (s:={ s with heap:=s.heap.update T (Obj.mapFields (·.setIfInBounds 3 Value.none)) }) hfr (hl.of_keeps fun b o hb hnf=>⟨o,(other b (noRec b o hb hnf)).trans hb,rfl⟩) hf ((other e (Ne.symm hTe)).trans he) hdi hd (Array.getElem?_eq_some_iff.mp h1).1 fun h' T' g n le tr=>?_
 have le':s.heap.objs.size≤T':=by rw [← hsz]; exact le
 refine q h' T' ⟨fun b o hb ho e'=>?_,fun b o hb ho e'=>?_⟩ (Heap.get?_none_of_le le') le' tr
 ·have hbT:b ≠ T:=fun z=>ho (by simp [z])
  exact g.kept b o hb (fun z=>ho (by simp [List.mem_singleton.mp z])) ((other b hbT).trans e')
 ·have hbT:b ≠ T:=fun z=>ho (by simp [z])
  exact g.slot b o hb (fun z=>ho (by simp [List.mem_singleton.mp z])) ((other b hbT).trans e')
theorem ZHq {base:Heap} {env:Env} {outer:List Env} {L e T:Addr} {cls:Value} {Q:Unit→Shared→Prop} (hfr:A.frames=some (env :: outer)) (hl:s.heap.FunFrames base (env :: outer)) (hf:env.frame=some L) (ht:s.heap.Tr e cls T)
  (q:∀ h' T',Heap.Gone (ZIz (env :: outer)) [e,T] s.heap h'→s.heap.get? T'=none→s.heap.objs.size≤T'→h'.Tr e cls T'→Q () { s with heap:=h' }):wpAny M A (leaving env (.ref e)) Q E s:=by
 unfold leaving
 exact wpAny_bind (ZJo hfr hl hf ht q)
end
end PySem
namespace L2
open PySem PySem.Spec PyProof.Rows
section
variable {P:Program} {w:World} {H H':Hp} {h h' h1 h2:Heap} {a:Addr} {o:HO} {fs own:List Addr}
theorem Zd8.at (x:Zd8 P w H h a o):∃ u,h.get? a=some u:=by
 cases o with
 | lst xs=>obtain ⟨_,_,_,_,e⟩ :=x; exact ⟨_,e⟩
 | tup xs=>obtain ⟨_,_,_,⟨_,e,_⟩⟩ :=x; exact ⟨_,e⟩
 | dK kvs=>obtain ⟨_,_,_,_,o,_,_,e,_⟩ :=x; exact ⟨_,e⟩
 | dT kvs=>obtain ⟨_,_,_,_,o,_,_,e,_⟩ :=x; exact ⟨_,e⟩
 | set S n=>obtain ⟨o,_,_,_,e,_⟩ :=x; exact ⟨_,e⟩
 | ins C dx fs=>obtain ⟨_,_,_,e,_⟩ :=x; exact ⟨_,e⟩
 | own y=>obtain ⟨_,e⟩ :=x; exact ⟨_,e⟩
 | xd fs=>obtain ⟨_,⟨_,_,_,e,_⟩,_⟩ :=x; exact ⟨_,e⟩
 | rng lo hi=>obtain ⟨_,_,_,e⟩ :=x; exact ⟨_,e⟩
 | frz ob u=>obtain ⟨e,_⟩ :=x; exact ⟨_,e⟩
 | tbl ps=>exact ⟨_,(show h.get? a=some _ from x)⟩
 | met f y=>exact ⟨_,(show h.get? a=some _ from x)⟩
 | ext φ=>obtain ⟨_,⟨_,e⟩,_⟩ :=x; exact ⟨_,e⟩
theorem HOk.out (x:HOk P w H h) (e:h.get? a=none):H a=none:=by
 cases q:H a with
 | none=>rfl
 | some u=>obtain ⟨v,z⟩ :=Zd8.at (x a u q); rw [e] at z; cases z
theorem ZIB (u:Un fs [] H H' h h1) (g:Heap.Gone fs own h1 h2) (hn:∀ b ∈ own,h.get? b=none):Un fs [] H H' h h2:=by
 have no:∀ b o,h.get? b=some o→b ∉ own:=fun b o e z=>by rw [hn b z] at e; cases e
 refine ⟨fun b o e n hf hx=>g.kept b o hf (no b o e) (u.keep b o e n hf hx),fun b o e n hf hx=>?_,u.free,fun b o e hx=>?_,u.tups,u.frzs,u.tbls⟩
 ·obtain ⟨sl,q⟩ :=u.slot b o e n hf hx
  obtain ⟨sl',q'⟩ :=g.slot b _ hf (no b o e) q
  exact ⟨sl',q'⟩
 ·obtain ⟨o',q⟩ :=u.there b o e hx
  by_cases hf:b ∈ fs
  ·obtain ⟨sl',q'⟩ :=g.slot b _ hf (no b o e) q
   exact ⟨_,q'⟩
  ·exact ⟨_,g.kept b _ hf (no b o e) q⟩
theorem ZGf (x:HOk P w H h) (g:Heap.Gone fs own h h2) (hf:∀ b ∈ fs,H b=none) (ho:∀ b ∈ own,H b=none):HOk P w H h2:=fun b u e=>by
 refine (x b u e).stay (fun c v hc q=>?_) (fun _ q=>q) fun _ _ q=>q
 have hs:∃ z,H c=some z:=by
  rcases hc with z | z
  ·rw [z]; exact ⟨_,e⟩
  ·exact ⟨_,z⟩
 obtain ⟨z,hz⟩ :=hs
 exact g.kept c v (fun m=>by rw [hf c m] at hz; cases hz) (fun m=>by rw [ho c m] at hz; cases hz) q
end
def CX1 (P:Program) (w:World):CXT:=fun outer H s E e s'=>∃ ea T C H',e=.ref ea∧s'.os=s.os∧AllBare s'.gens∧Un (frs outer) [] H H' s.heap s'.heap∧HOk P w H' s'.heap∧H' ea=none∧H' T=none∧
 s.heap.get? ea=none∧s.heap.get? T=none∧s'.heap.Tr ea (.ref C) T∧E (.ref C) none H'
def Lets (X:Cx) (E:XK):Prop:=∀ (pins:List (Addr × Obj)) (σ:St) (H:Hp) (s:Shared) (h':Heap) (e C:Addr) (args:List Value),Inv X pins σ H s→Heap.MadeExcOf s.heap h' e (.ref C) args→E (.ref C) none H→X.xe (.ref e) { s with heap:=h' }
section
variable {P:Program} {w:World} {K:PySem.W.Frag} {mg:Str→Option Value} {base:Heap} {N:List Str} {qual:Str} {scope:Scope} {f:Addr} {cd:Value} {A:Around} {outer:List Env} {s:Shared} {H:Hp} {E:XK}
theorem ZLf:Lets (cxOf (CX1 P w) P w K mg base N qual scope f cd A outer s H E) E:=by
 intro pins σ H1 s1 h' e C args I hm hE
 obtain ⟨t,ho,_,_⟩ :=hm.there
 have I1:Inv (cxOf (CX1 P w) P w K mg base N qual scope f cd A outer s H E) pins σ H1 { s1 with heap:=h' }:=I.kept (t':=s1.toks) hm.keeps
 show wpAny _ _ (leaving _ _) _ _ _
 refine ZEY (s:={ s1 with heap:=h' }) I.ok.frames I1.stack rfl ho rfl rfl (by simp) fun h2 T g nT _ tr=>?_
 have He:H1 e=none:=I.hok.out hm.new
 have HT:H1 T=none:=I1.hok.out nT
 have un:Un (frs (cxOf (CX1 P w) P w K mg base N qual scope f cd A outer s H E).stack) [] H1 H1 s1.heap h2:=ZIB (Un.kept hm.keeps) g (fun b hb=>by rw [List.mem_singleton.mp hb]; exact hm.new)
 have hk:HOk P w H1 h2:=ZGf I1.hok g I1.stkFree (fun b hb=>by rw [List.mem_singleton.mp hb]; exact He)
 have I2:Inv (cxOf (CX1 P w) P w K mg base N qual scope f cd A outer s H E) pins σ H1 { s1 with heap:=h2 }:=I.call (g':=s1.gens) (t':=s1.toks) (d':=s1.drawn) (ch:=[]) un hk I.bare (fun b z=>absurd z (by simp))
 have back:∀ b,s1.heap.get? b=none→s.heap.get? b=none:=fun b hb=>by
  cases q:s.heap.get? b with
  | none=>rfl
  | some o=>
   obtain ⟨o',z⟩ :=I.base.there b o q (by show b ∉ []; simp)
   rw [hb] at z; cases z
 have nT1:s1.heap.get? T=none:=by
  cases q:s1.heap.get? T with
  | none=>rfl
  | some o=>have z:=hm.keeps T o q; rw [show h'.get? T=none from nT] at z; cases z
 exact ⟨e,T,C,H1,rfl,I.os,I.bare,I2.base,hk,He,HT,back e hm.new,back T nT1,tr,hE⟩
theorem ZN9:ZoV (CX1 P w) (cxOf (CX1 P w) P w K mg base N qual scope f cd A outer s H E) E:=by
 intro pins σ H1 s1 e s2 I hx
 obtain ⟨ea,T,C,H2,rfl,os,bare,un,hok,He,HT,ne,nT,tr,hE⟩ :=hx
 have I2:Inv (cxOf (CX1 P w) P w K mg base N qual scope f cd A outer s H E) pins σ H2 s2:=I.call' (ch:=[]) os un hok bare (fun b z=>absurd z (by simp))
 show wpAny _ _ (leaving _ _) _ _ _
 refine ZHq I.ok.frames I2.stack rfl tr fun h3 T' g nT' _ tr'=>?_
 have HT':H2 T'=none:=hok.out nT'
 have un3:Un (frs (cxOf (CX1 P w) P w K mg base N qual scope f cd A outer s H E).stack) [] H1 H2 s1.heap h3:=ZIB un g (fun b hb=>by
  rcases List.mem_cons.mp hb with z | z
  ·rw [z]; exact ne
  ·rw [List.mem_singleton.mp z]; exact nT)
 have hk:HOk P w H2 h3:=ZGf hok g I2.stkFree (fun b hb=>by
  rcases List.mem_cons.mp hb with z | z
  ·rw [z]; exact He
  ·rw [List.mem_singleton.mp z]; exact HT)
 have I3:Inv (cxOf (CX1 P w) P w K mg base N qual scope f cd A outer s H E) pins σ H2 { s2 with heap:=h3 }:=I.call' (s':={ s2 with heap:=h3 }) (ch:=[]) os un3 hk bare (fun b z=>absurd z (by simp))
 have back:∀ b,s1.heap.get? b=none→s.heap.get? b=none:=fun b hb=>by
  cases q:s.heap.get? b with
  | none=>rfl
  | some o=>
   obtain ⟨o',z⟩ :=I.base.there b o q (by show b ∉ []; simp)
   rw [hb] at z; cases z
 have nT1:s.heap.get? T'=none:=by
  cases q:s.heap.get? T' with
  | none=>rfl
  | some o=>
   obtain ⟨o',z⟩ :=I2.base.there T' o q (by show T' ∉ []; simp)
   rw [nT'] at z; cases z
 exact ⟨ea,T',C,H2,rfl,I3.os,bare,I3.base,hk,He,HT',back ea ne,nT1,tr',hE⟩
end
theorem Fun.ok1 {P:Program} {w:World} {K:PySem.W.Frag} {mg:Str→Option Value} {base:Heap} {x qual:Str} {st:Stmt} {f:Addr} {fd:FuncData} {N ps:List Str} {k:Nat} {sp:Sp} (F:Fun K x qual st f fd) (S:FnScope N ps (Zab st)) (len:∀ vs H Q E,sp vs H Q E→vs.length=ps.length)
  (hbody:∀ (cdv:Value) (A:Around) (outer:List Env) (s:Shared) (H:Hp) (vs:List V) (Q:VK) (E:XK),Room k (A.deeper (envOfC qual (Zab st) s.heap.objs.size f cdv))→sp vs H Q E→
   ∃ t,PSs (cxOf (CX1 P w) P w K mg base N qual (Zab st) f cdv A outer s H E) (Zag st) t∧t { nx:=fun _ H'=>Q .non H',rt:=Q } (start N vs) H):FnOk P w K mg base (CX1 P w) (k + 1) f fd ps sp:=by
 obtain ⟨oc,od,kV,doc,pm,an,cdv,ct,osl,rfl,lk,hcd⟩ :=F.ex
 exact ZOW lk hcd S len fun A outer s H vs Q E hr hsp=>hbody cdv A outer s H vs Q E hr hsp
end L2
set_option maxRecDepth 100000
namespace L2
open PySem PySem.Spec PyProof.Rows
abbrev vErr:List Value:=[.type "ValueError",.type "Exception",.type "BaseException",.type "object"]
abbrev ZFS (K:PySem.W.Frag) (C:Addr):Prop:=PySem.W.excIn K C vErr "ValueError.__new__" = true
theorem ZOU {K:PySem.W.Frag} {h:Heap} {C:Addr} (X:K.In h) (q:ZFS K C):∃ bm N nm qn bs hdct sn sub ab col dd k0 k1 k2 k3 k5 mN,
  h.get? C=some (excClassObj nm qn C N bs bm hdct sn sub ab col dd k0 k1 k2 k3 k5 "ValueError.__new__")∧h.Ns N mN∧mN "__init__" = none∧OwnTail h vErr bm:=by
 unfold ZFS PySem.W.excIn at q
 split at q
 ·rename_i dd cd sl ho
  split at q
  ·rename_i C' bm k0 k1 k2 k3 n k5 hm hs
   simp only [Bool.and_eq_true,beq_iff_eq,Bool.not_eq_true'] at q
   obtain ⟨⟨⟨⟨⟨rfl,rfl⟩,hdel⟩,ht⟩,hok⟩,hni⟩ :=q
   obtain ⟨nm,bs,mro,ns,qn,hd,sn,sub,ab,col,del⟩ :=cd
   dsimp only at hm hdel hok hni
   subst hm hdel
   have hsl:sl = #[k0,k1,k2,k3,some (.builtin "ValueError.__new__"),k5]:=by
    obtain ⟨l⟩ :=sl
    simp only at hs
    rw [hs]
   subst hsl
   exact ⟨bm,ns,nm,qn,bs,hd,sn,sub,ab,col,dd,k0,k1,k2,k3,k5,_,X _ _ ho,.of_isNs (PySem.W.isNs_of_in X hok),PySem.W.nsMap_none_of_in X hok hni,PySem.W.tail_of_in X ht⟩
  ·cases q
 ·cases q
section
variable {X:Cx} {E:XK} {C:Addr} {x:Str} {np cpos pos:Pos} {e:Expr} {es:List Expr} {t:TA}
def ZM8 (C:Addr) (E:XK) (t:TA):TS:=fun _ σ H=>t σ H fun vs H1=>vs.length≤9∧E (.ref C) none H1
theorem Zww (hc:X.calm=true) (hl:Lets X E) (q:ZFS X.K C) (hg:Gl X x) (hm:X.mg x=some (.ref C)) (ha:PA X (e :: es) t) (hdb:(x == ("__debug__" : Str))=false:=by decide)
  (he:starEach (e :: es) X.env=(false,eval e X.env) :: starEach es X.env:=by rfl) (hpl:(backTo cpos (starEach es X.env)).any (·.1)=false:=by rfl) :
  PS X (.Raise (some (.Call (.Name x np) (e :: es) [] cpos)) none pos) (ZM8 C E t):=by
 intro pins s σ H D I h
 obtain ⟨tl,N,nm,qn,bs,hdct,sn,sub,ab,col,dd,k0,k1,k2,k3,k5,mN,hC,hN,hni,T⟩ :=ZOU I.mod.kin q
 have F:=PySem.F.excBase_ValueError
 refine wpAny_Raise_call_subU (C:=C) (nm:=nm) (q:=qn) (N:=N) (bs:=bs) (bm:=tl) (hdct:=hdct) (sn:=sn) (sub:=sub) (ab:=ab) (col:=col) (dd:=dd) (k0:=k0) (k1:=k1) (k2:=k2) (k3:=k3) (k5:=k5)
  F F.hasB F (mN:=mN) (T.hasType F.hasBase) (I.ok.hd hc) (by rw [he]; show (false || (backTo cpos (starEach es X.env)).any (·.1))=false; rw [hpl]; rfl) hni (ZxO I hg hm ⟨rfl,?_⟩ hdb)
 have h2:=ha cpos pins s σ H _ I h
 rw [he] at h2 ⊢
 refine Calls.evalArgs_plain (wpAny_mono h2 (fun vs s2 h3=>?_) fun _ _ y=>y)
 obtain ⟨us,H2,I2,r,hlen,hE⟩ :=h3
 refine ⟨rfl,?_,I2.bk _ _ hC,hN.keeps I2.bk,T.keeps I2.bk,fun h' e hm=>hl pins σ H2 s2 h' e C vs I2 hm hE⟩
 show vs.length≤sizeLine
 rw [← r.length]; exact Nat.le_trans hlen (by decide)
end
section
variable {X:Cx} {k:Nat} {f C:Addr} {fd:FuncData} {ps:List Str} {sp:Sp} {dvs:List V} {ds:List Value} {x m:Str} {p pos apos:Pos} {e o:Expr} {es:List Expr} {ta:TE} {t:TA}
end
section
variable {X:Cx} {pins:List (Addr × Obj)} {σ:St} {H:Hp} {s:Shared} {ea T T' C:Addr} {h':Heap}
end
section
variable {X:Cx} {b:List Stmt} {h₀:ExceptHandler} {hs:List ExceptHandler} {tb:TSx} {th:Addr→TS} {pos:Pos} {e:Expr} {te:TEx}
end
end L2
set_option maxRecDepth 100000
namespace L2
open PySem PySem.Spec PyProof.Rows
structure ExcK (K:PySem.W.Frag) (C:Addr):Prop where
 own:ZFS K C
 cl:(PySem.W.clsIn K C).isSome=true
 ga:PySem.W.findIn K (.ref C) "__getattribute__" = some (some (.builtin "BaseException.__getattribute__"))
 gb:PySem.W.findIn K (.ref C) "__getattr__" = some none
 cc:PySem.W.findIn K (.ref C) "__class__" = some (some (.builtin "object.__class__"))
 mb:PySem.W.mroIn K C (.type "BaseException")=some true
 mo:PySem.W.mroIn K C (.type "object")=some true
section
variable {prog:Program} {w:World} {A:Around} {E:Value→Shared→Prop} {h:Heap} {g:Array GenState} {d:Drawn} {t:Nat} {os:OsState} {a C:Addr} {o:Obj} {K:PySem.W.Frag}
end
section
variable {X:Cx} {pins l:List (Addr × Obj)} {σ:St} {H:Hp} {s:Shared} {ea T C:Addr} {h':Heap} {oe:Obj}
end
section
variable {X:Cx} {N:Str} {C':Addr} {np pos:Pos} {b₀:Stmt} {suite:List Stmt} {rest:List ExceptHandler} {ts tr:Addr→TS}
end
theorem PS.nox {X:Cx} {st:Stmt} {t:TS} (h:PS X.nox st t):PS X st t:=fun pins s σ H D I hw=>
 wpAny_mono (h pins s σ H D (I.wish _) hw) (fun _ _ q=>q.unwish) fun _ _ z=>False.elim z
theorem PA.nox {X:Cx} {es:List Expr} {t:TA} (h:PA X.nox es t):PA X es t:=fun pos pins s σ H Q I hw=>
 wpAny_mono (h pos pins s σ H Q (I.wish _) hw) (fun _ _ ⟨v,H',I',r,q⟩ =>⟨v,H',I'.unwish,r,q⟩) fun _ _ z=>False.elim z
theorem ZNM {K:PySem.W.Frag} {C:Addr} (h:PySem.W.subIn K (.ref C) (.type "ValueError")=some true):PySem.W.kitOne K (.ref C) (.type "ValueError")=some true:=by
 unfold PySem.W.kitOne PySem.W.kitCls
 dsimp only
 rw [if_neg (by simp),if_pos (show PySem.W.kitMeta "ValueError" = true by decide +kernel)]
 exact h
def FnS1 (P:Program) (w:World) (K:PySem.W.Frag) (mg:Str→Option Value) (base:Heap) (k:Nat) (x:Str) (ps:List Str) (sp:Sp):Prop:=∃ f fd,FnOk P w K mg base (CX1 P w) k f fd ps sp∧ZaW K fd ps []∧PySem.W.keepIn K (.ref f)=true∧mg x=some (.ref f)
section
variable {X:Cx} {k k':Nat} {x:Str} {ps:List Str} {sp:Sp} {e:Expr} {es:List Expr} {t:TA} {p pos:Pos}
theorem ZPK {X:Cx}:ZoV (CX1 X.prog X.w) X E0:=fun _ _ _ _ _ _ _ ⟨_,_,_,_,_,_,_,_,_,_,_,_,_,_,hE⟩ =>hE.elim
theorem ZMV (G:FnS1 X.prog X.w X.K X.mg X.base k x ps sp) (hr:Room k' X.A) (ha:PA X (e :: es) t) (hk:k≤k':=by omega) (hg:Gl X x:=by rfl) (hdb:(x == ("__debug__" : Str))=false:=by decide)
  (he:starEach (e :: es) X.env=(false,eval e X.env) :: starEach es X.env:=by rfl) (hpl:(backTo pos (starEach es X.env)).any (·.1)=false:=by rfl):PE X (.Call (.Name x p) (e :: es) [] pos) (tFn sp t):=by
 obtain ⟨f,fd,F,hb,kp,hm⟩ :=G
 rw [← ZD9]
 exact ZFm F (hr.mono hk) hg hm kp hb .nil ZPK ha hdb he hpl
end
section
variable {K:PySem.W.Frag} {D:Ends} {σ:St} {H:Hp} {Q:VK} {C C':Addr}
theorem ZAj {E:XK} {t:TA} (h:t σ H fun vs H1=>vs.length≤9∧E (.ref C) none H1):ZM8 C E t D σ H:=h
end
end L2
set_option maxRecDepth 100000
namespace L2
open PySem PySem.Spec PyProof.Rows
section
variable {X:Cx} {a:Expr} {ta:TE} {pos:Pos}
def ZQe (ta:TE):TE:=fun σ H Q=>ta σ H fun x H1=>∃ z,x=.str z∧(reprText z).length≤sizeLine∧Q (.str (reprText z)) H1
theorem ZJI (ha:PE X a ta):PE X (.FormattedValue a 114 none pos) (ZQe ta):=by
 intro pins s σ H Q I h
 refine wpAny_FormattedValue_repr (thn (ha pins s σ H _ I h) fun v s1 ⟨x,H1,I1,r1,z,ex,hz,q⟩ =>?_)
 subst ex
 obtain ⟨t,rfl⟩ :=r1
 exact wpAny_pyReprObj_str (formatField_str (fun t' k=>⟨.str _,H1,I1.tok k,⟨t',rfl⟩,q⟩) hz) hz
end
section
variable {σ:St} {H:Hp} {Q:VK} {D:Ends} {K:PySem.W.Frag} {g:TG} {tb:TS} {ta:TE}
theorem ZMt (h:ta σ H fun x H1=>∃ z,x=.str z∧(reprText z).length≤sizeLine∧Q (.str (reprText z)) H1):ZQe ta σ H Q:=h
end
def Asc (z:Str):Prop:=∀ c ∈ z.cps.toList,c < 128
theorem ZaD (x y:Str):(x ++ y).length=x.length + y.length:=by
 show (x.cps ++ y.cps).size=_
 rw [Array.size_append]; rfl
end L2
set_option maxRecDepth 100000
namespace L2
open PySem PySem.Spec PyProof.Rows
theorem ZNV {h:Heap} {a:Addr} {m m':Str→Option Value} (x:h.Ns a m) (y:h.Ns a m'):m=m':=by
 obtain ⟨o,es,ep,ho,hd,_,hm⟩ :=x
 obtain ⟨o',es',ep',ho',hd',_,hm'⟩ :=y
 rw [ho] at ho'
 cases ho'
 rw [hd] at hd'
 cases hd'
 funext n
 rw [← hm,← hm']
section
variable {X:Cx} {pins:List (Addr × Obj)} {σ:List (Option V)} {H H':Hp} {s:Shared} {h':Heap}
theorem ZqK {M:Model} {A:Around} {E:Value→Shared→Prop} {i:Nat} {x:Str} {v:V} {u:Value} {Q:Unit→Shared→Prop} (I:Inv X pins σ H s) (hN:X.N.Nodup) (hi:X.N[i]?=some x) (hk:X.env.scope.names.lookup x=some .local) (r:RelV v u)
  (h:∀ s' m,Inv X pins (σ.set i (some v)) H s'→s'.heap.Ns X.env.locals m→m x=some u→s'.toks=s.toks + 1→Heap.SameBut X.env.locals s.heap s'.heap→Q () s'):wpAny M A (storeName X.env x u) Q E s:=by
 obtain ⟨m,hn,hl⟩ :=id I.loc
 have hcls:(X.env.scope.kind == .class || (X.env.scope.kind == .module && X.env.locals != X.env.globals))=false:=by rw [I.ok.kind]; rfl
 have hiσ:i < σ.length:=by rw [I.len]; exact (List.getElem?_eq_some_iff.mp hi).1
 have cne:=I.cne
 have tracked:∀ {a:Addr} {h':Heap},(∃ o,s.heap.get? a=some o∧H a=none)→Heap.SameBut a s.heap h'→HOk X.prog X.w H h':=fun {a h'} ha hs b ob e=>by
  obtain ⟨_,_,hfree⟩ :=ha
  refine (I.hok b ob e).stay (fun c w' hc q=>(hs.2 c ?_).trans q) (fun _ q=>q) fun _ _ q=>q
  rintro rfl
  rcases hc with rfl | hc
  ·rw [hfree] at e; cases e
  ·rw [hfree] at hc; cases hc
 refine wpAny_storeName_local hk hn (fun h' hn' hs=>?_) hcls
 obtain ⟨oL,_,_,hoL,_⟩ :=id hn
 refine h _ _ ⟨I.ok,I.os,I.bare,⟨fun b o e n hb hx=>?_,fun b o e n hb hx=>?_,I.base.free,fun b o e hx=>?_,I.base.tups,I.base.frzs,I.base.tbls⟩,⟨_,hn',fun j y v' e1 e2 e3=>?_⟩,fun y c e=>?_,I.free,I.freeC,fun p hp=>?_,tracked ⟨oL,hoL,I.free⟩ hs,by simpa using I.len⟩ hn' (by simp) rfl hs
 ·exact (hs.2 b (Nat.ne_of_lt (Nat.lt_of_lt_of_le (Heap.lt_size e) I.ok.above))).trans (I.base.keep b o e n hb hx)
 ·obtain ⟨sl,e1⟩ :=I.base.slot b o e n hb hx
  exact ⟨sl,(hs.2 b (Nat.ne_of_lt (Nat.lt_of_lt_of_le (Heap.lt_size e) I.ok.above))).trans e1⟩
 ·obtain ⟨o',e1⟩ :=I.base.there b o e hx
  exact ⟨o',(hs.2 b (Nat.ne_of_lt (Nat.lt_of_lt_of_le (Heap.lt_size e) I.ok.above))).trans e1⟩
 ·by_cases hj:j=i
  ·subst hj
   rw [hi] at e1; cases e1
   rw [List.getElem?_set_self hiσ] at e2
   cases e2
   exact ⟨u,r,.inl ⟨hk,by simp⟩⟩
  ·rw [List.getElem?_set_ne (Ne.symm hj)] at e2
   obtain ⟨u',r',q⟩ :=hl j y v' e1 e2 e3
   refine ⟨u',r',?_⟩
   rcases q with ⟨k,e⟩ | ⟨k,c,e,z⟩
   ·refine .inl ⟨k,?_⟩
    have:y ≠ x:=fun e=>hj (ZAz hN e1 (e ▸ hi))
    simp [this,e]
   ·exact .inr ⟨k,c,e,z.sameBut hs (cne y c e)⟩
 ·obtain ⟨w',z⟩ :=I.cell y c e
  exact ⟨w',z.sameBut hs (cne y c e)⟩
 ·obtain ⟨e,n,ne,nf,d⟩ :=I.pin p hp
  exact ⟨(hs.2 p.1 ne).trans e,n,ne,nf,d⟩
end
def PSp (X:Cx) (st:Stmt) (t:TS):Prop:=∀ (pins:List (Addr × Obj)) (s:Shared) (σ:St) (H:Hp) (D:Ends),Inv X pins σ H s→t D σ H→wpAny (model X.prog X.w) X.A (exec st X.env) (fun f s'=>0 < s'.toks∧SP X pins D f s') X.xe s
def PSt (X:Cx) (st:Stmt) (t:TS):Prop:=∀ (pins:List (Addr × Obj)) (s:Shared) (σ:St) (H:Hp) (D:Ends),Inv X pins σ H s→0 < s.toks→t D σ H→wpAny (model X.prog X.w) X.A (exec st X.env) (SP X pins D) X.xe s
def PSst (X:Cx) (b:List Stmt) (t:TS):Prop:=∀ (pins:List (Addr × Obj)) (s:Shared) (σ:St) (H:Hp) (D:Ends),Inv X pins σ H s→0 < s.toks→t D σ H→wpAny (model X.prog X.w) X.A (execs b X.env) (SP X pins D) X.xe s
section
variable {X:Cx} {st:Stmt} {rest:List Stmt} {t u:TS} {pos:Pos}
theorem ZPP (h1:PSp X st t) (h2:PSst X rest u):PSs X (st :: rest) (tSeq t u):=by
 intro pins s σ H D I h
 refine wpAny_execs_cons (thn (h1 pins s σ H { D with nx:=u D } I h) fun f s1 q=>?_)
 obtain ⟨tk,q⟩ :=q
 cases f with
 | next=>
  obtain ⟨σ',H',I',q⟩ :=q
  exact h2 pins s1 σ' H' D I' tk q
 | ret v=>exact q
 | brk=>exact q
 | cont=>exact q
theorem ZJQ (h1:PSt X st t) (h2:PSs X rest u):PSst X (st :: rest) (tSeq t u):=by
 intro pins s σ H D I tk h
 refine wpAny_execs_cons (thn (h1 pins s σ H { D with nx:=u D } I tk h) fun f s1 q=>?_)
 cases f with
 | next=>
  obtain ⟨σ',H',I',q⟩ :=q
  exact h2 pins s1 σ' H' D I' q
 | ret v=>exact q
 | brk=>exact q
 | cont=>exact q
theorem ssp (i:Nat) {x:Str} {e:Expr} {te:TE} {pos':Pos} (hN:X.N.Nodup) (he:PE X e te) (hi:X.N[i]?=some x:=by rfl) (hk:X.env.scope.names.lookup x=some .local:=by rfl) (hs:swapsWith e (some (.Name x pos')) pos.line X.env=pure false:=by rfl) :
  PSp X (.Assign [.Name x pos'] e pos) (tAsg te (ZCJ i)):=by
 intro pins s σ H D I h
 refine wpAny_Assign_Name (thn (he pins s σ H _ I h) fun v s1 ⟨y,H1,I1,r1,q1⟩ =>?_) hs
 exact ZqK I1 hN hi hk r1 fun s2 m I2 hn hm ht _=>⟨by omega,_,H1,I2,q1⟩
end
def PEf (X:Cx) (e:Expr) (t:TE):Prop:=∀ (pins:List (Addr × Obj)) (s:Shared) (σ:St) (H:Hp) (Q:VK),Inv X pins σ H s→t σ H Q→wpAny (model X.prog X.w) X.A (eval e X.env) (fun u s'=>∃ z tk H',Inv X pins σ H' s'∧u=.str z tk∧s.toks≤tk∧Q (.str z) H') X.xe s
section
variable {X:Cx} {a b:Expr} {ta tb:TE} {pos:Pos}
def PJf (X:Cx) (es:List Expr) (t:TJ):Prop:=
 ∀ (n:Nat) (out:Str) (pins:List (Addr × Obj)) (s:Shared) (σ:St) (H:Hp) (Q:VK),n≤s.toks→Inv X pins σ H s→t σ H out Q→wpAny (model X.prog X.w) X.A (joinParts out (evalEach es X.env)) (fun u s'=>∃ z tk H',Inv X pins σ H' s'∧u=.str z tk∧n≤tk∧Q (.str z) H') X.xe s
theorem ZOb:PJf X [] tJn:=fun n out pins s σ H Q hn I h=>joinParts_nil ⟨out,_,H,I.tok _,rfl,hn,h.2⟩ h.1
theorem ZBn {e:Expr} {es:List Expr} {te:TE} {tr:TJ} (he:PE X e te) (hr:PJf X es tr):PJf X (e :: es) (tJc te tr):=by
 intro n out pins s σ H Q hn I h
 show wpAny _ _ (joinParts out (eval e X.env :: evalEach es X.env)) _ _ s
 refine joinParts_cons (wpAny_mono (wpAny_toks_of hn (he pins s σ H _ I h)) (fun v s1 hv=>?_) fun _ _ y=>y.2)
 obtain ⟨hn1,x,H1,I1,r1,y,ex,hz,q⟩ :=hv
 subst ex
 obtain ⟨t,rfl⟩ :=r1
 exact ⟨hz,hr n _ pins s1 σ H1 Q hn1 I1 q⟩
theorem ZHA {e1 e2:Expr} {es:List Expr} {t:TJ} (h:PJf X (e1 :: e2 :: es) t):PEf X (.JoinedStr (e1 :: e2 :: es) pos) (tFs t):=by
 intro pins s σ H Q I q
 exact JoinedStr_many (h s.toks Str.empty pins s σ H Q (Nat.le_refl _) I q)
end
section
variable {X:Cx} {a b:Expr} {ta tb:TE} {pos:Pos}
def tRep (i j:Nat) (te:TE):List Nat→TS
 | []=>fun D σ H=>D.nx σ H
 | c :: cs=>fun D σ H=>∃ x:Str,(σ.set j (some (.str ⟨#[c]⟩)))[i]?=some (some (.str x))∧te (σ.set j (some (.str ⟨#[c]⟩))) H fun v H1=>∃ z:Str,v=.str z∧(((⟨#[c]⟩ : Str) == z)=false)∧x.length + (x.length + 1) * z.length≤16777216∧
   tRep i j te cs D ((σ.set j (some (.str ⟨#[c]⟩))).set i (some (.str (Txt.replace x ⟨#[c]⟩ z)))) H1
def ZKh (i j:Nat) (ti te:TE):TS:=fun D σ H=>ti σ H fun v H1=>∃ z:Str,v=.str z∧z.cps.all (· < 128)=true∧tRep i j te z.cps.toList D σ H1
theorem ZLK {i:Nat} {sp mk:Str} {e2:Expr} {te:TE} {p2 p3 p4 ap cp q1:Pos} {pins:List (Addr × Obj)} {σ:St} {H:Hp} {s:Shared} {m:Str→Option Value} {c k:Nat} {x:Str} {R:St→Hp→Prop}
  (hN:X.N.Nodup) (hi:X.N[i]?=some sp) (ki:X.env.scope.names.lookup sp=some .local) (kj:X.env.scope.names.lookup mk=some .local) (he:PEf X e2 te) (di:(sp == ("__debug__" : Str))=false) (dj:(mk == ("__debug__" : Str))=false)
  (hs:swapsWith (.Call (.Attribute (.Name sp p3) "replace" ap) [.Name mk p4,e2] [] cp) (some (.Name sp p2)) q1.line X.env=pure false)
  (hbase:attributeBase (.Name sp p3) "replace" X.env (eval (.Name sp p3) X.env)=eval (.Name sp p3) X.env)
  (hfew:((backTo cp (starEach [.Name mk p4,e2] X.env)).all (fun x=>!x.1) && (backToKw cp (keywordEach [] X.env)).all (fun x=>x.1.isSome)
   && decide ([Expr.Name mk p4,e2].length + ([]:List Keyword).length + (if ([]:List Keyword).isEmpty then 0 else 1) < 30))=true)
  (hline:(ap.endLine == cp.line)=true) (h1:starEach [.Name mk p4,e2] X.env=[(false,eval (.Name mk p4) X.env),(false,eval e2 X.env)])
  (I:Inv X pins σ H s) (hn:s.heap.Ns X.env.locals m) (hm:m mk=some (.str ⟨#[c]⟩ k)) (k0:k ≠ 0) (kt:k < s.toks) (ex:σ[i]?=some (some (.str x)))
  (h:te σ H fun v H1=>∃ z:Str,v=.str z∧(((⟨#[c]⟩ : Str) == z)=false)∧x.length + (x.length + 1) * z.length≤16777216∧R (σ.set i (some (.str (Txt.replace x ⟨#[c]⟩ z)))) H1) :
  wpAny (model X.prog X.w) X.A (execs [.Assign [.Name sp p2] (.Call (.Attribute (.Name sp p3) "replace" ap) [.Name mk p4,e2] [] cp) q1] X.env) (fun f s'=>f=.next∧0 < s'.toks∧∃ σ' H',Inv X pins σ' H' s'∧R σ' H') X.xe s:=by
 obtain ⟨m',hn',hl⟩ :=id I.loc
 obtain rfl:=ZNV hn hn'
 obtain ⟨u,ru,lu⟩ :=hl i sp _ hi ex (.inl ki)
 obtain ⟨t,rfl⟩ :=ru
 have hu:m sp=some (.str x t):=by
  rcases lu with ⟨_,z⟩ | ⟨z,_⟩
  ·exact z
  ·have z':X.env.scope.names.lookup sp=some .cell∨X.env.scope.names.lookup sp=some .free:=z
   rw [ki] at z'
   rcases z' with z' | z' <;> cases z'
 refine wpAny_execs_cons (wpAny_Assign_Name ?_ hs)
 refine wpAny_Call_method_late hbase hfew hline rfl (wpAny_Name (wpAny_loadName_local I.ok.kind ki hn hu ?_) di)
 obtain ⟨t1,t2⟩ :=ZG5 (T:="str") I (x:=.str x) ⟨t,rfl⟩ tyS
 refine ⟨"str","str.replace",F.plainAttrs_str,F.slot_str_replace,F.type_str_replace,t1,t2,?_⟩
 rw [h1]
 refine Calls.callWith_builtin rfl (Calls.evalArgs_plain (Calls.spliced_cons (wpAny_Name (wpAny_loadName_local I.ok.kind kj hn hm ?_) dj)))
 refine Calls.spliced_cons (thn (he pins s σ H _ I h) fun v s1 hv=>Calls.spliced_nil ?_)
 obtain ⟨z,tk,H1,I1,rfl,htk,z',ez,hz,hlen,q⟩ :=hv
 cases ez
 refine SC.replace k0 (Nat.ne_of_gt (Nat.lt_of_lt_of_le (Nat.lt_of_le_of_lt (Nat.zero_le _) kt) htk)) (Nat.ne_of_lt (Nat.lt_of_lt_of_le kt htk)) hz hlen fun t' k'=>?_
 exact ZqK (v:=.str (Txt.replace x ⟨#[c]⟩ z)) (I1.tok k') hN hi ki ⟨t',rfl⟩ fun s2 m2 I2 _ _ ht _=>wpAny_execs_nil ⟨rfl,by omega,_,H1,I2,q⟩
theorem ZOc {i j:Nat} {sp mk:Str} {it e2:Expr} {ti te:TE} {p1 p2 p3 p4 ap cp q1 pos:Pos} (hp:PassesOwn (model X.prog X.w) X.A X.env X.xe) (hc:X.calm=true)
  (hN:X.N.Nodup) (hit:PE X it ti) (he:PEf X e2 te) (hi:X.N[i]?=some sp:=by rfl) (hj:X.N[j]?=some mk:=by rfl) (ki:X.env.scope.names.lookup sp=some .local:=by rfl) (kj:X.env.scope.names.lookup mk=some .local:=by rfl)
  (di:(sp == ("__debug__" : Str))=false:=by decide) (dj:(mk == ("__debug__" : Str))=false:=by decide)
  (hs:swapsWith (.Call (.Attribute (.Name sp p3) "replace" ap) [.Name mk p4,e2] [] cp) (some (.Name sp p2)) q1.line X.env=pure false:=by rfl)
  (hbase:attributeBase (.Name sp p3) "replace" X.env (eval (.Name sp p3) X.env)=eval (.Name sp p3) X.env:=by rfl)
  (hfew:((backTo cp (starEach [.Name mk p4,e2] X.env)).all (fun x=>!x.1) && (backToKw cp (keywordEach [] X.env)).all (fun x=>x.1.isSome)
   && decide ([Expr.Name mk p4,e2].length + ([]:List Keyword).length + (if ([]:List Keyword).isEmpty then 0 else 1) < 30))=true:=by rfl)
  (hline:(ap.endLine == cp.line)=true:=by rfl) (h1:starEach [.Name mk p4,e2] X.env=[(false,eval (.Name mk p4) X.env),(false,eval e2 X.env)]:=by rfl) (hfs:∀ x,foldedSetIterable it X.env x=pure x:=by intro _; rfl) :
  PSt X (.For (.Name mk p1) it [.Assign [.Name sp p2] (.Call (.Attribute (.Name sp p3) "replace" ap) [.Name mk p4,e2] [] cp) q1] [] pos) (ZKh i j ti te):=by
 intro pins s σ H D I htk h
 refine wpAny_For (wpAny_mono (wpAny_toks_of (n:=1) htk (hit pins s σ H _ I h)) (fun v s1 hv=>?_) fun _ _ y=>y.2) hfs
 obtain ⟨tk1,x,H1,I1,r1,z,ex,hasc,q⟩ :=hv
 subst ex
 obtain ⟨t,rfl⟩ :=r1
 refine wpAny_pyIter_ascii hasc ?_
 have fp:FpOk X pins H1 s1.heap.objs.size:=I1.fpOk (Nat.le_refl _) (I1.hok.fresh (Nat.le_refl _))
 have I2:Inv X pins σ H1 { s1 with heap:=s1.heap.push { cls:=.type "str_ascii_iterator",data:=.fields #[.str z t,.int 0 0] } }:=I1.kept (t':=s1.toks) fun b o e=>Heap.get?_push_of_some _ e
 refine codeAny_forLoop_any (fun n s'=>∃ k σ' H',n=z.cps.size - k∧k≤z.cps.size∧Inv X pins σ' H' s'∧s'.heap.IsStrIter s1.heap.objs.size "str_ascii_iterator" z t k∧H' s1.heap.objs.size=none∧0 < s'.toks∧tRep i j te (z.cps.toList.drop k) D σ' H') ?_ z.cps.size
  ⟨0,σ,H1,rfl,Nat.zero_le _,I2,⟨_,Heap.get?_push_size _ rfl,rfl,rfl⟩,fp.1,tk1,by rw [List.drop_zero]; exact q⟩
 rintro n s3 ⟨k,σ3,H3,rfl,hk,I3,st3,f3,tk3,w3⟩
 obtain ⟨g1,g2,g3,g4,g5⟩ :=fp.2
 by_cases hlt:k < z.cps.size
 ·have hz:z.cps[k]?=some z.cps[k]:=by simp [hlt]
  refine wpAny_passesOwn hp (wpAny_pyNext_ascii_item st3 hz fun h' st' sb=>?_)
  have I4:Inv X pins σ3 H3 { s3 with heap:=h',toks:=s3.toks + 1 }:=I3.turned (fun b o hb e=>(sb.2 b hb).trans e) f3 g1 g3 g4 g5
  obtain ⟨o,e,c,d⟩ :=id st'
  refine ZHk (s:={ s3 with heap:=h',toks:=s3.toks + 1 }) e c d (by decide) ?_
  have hd:z.cps.toList.drop k=z.cps[k] :: z.cps.toList.drop (k + 1):=by
   rw [List.drop_eq_getElem_cons (by simpa using hlt)]
   simp
  rw [hd] at w3
  obtain ⟨x,ex,w4⟩ :=w3
  have I5:=I4.pinned (fp:=[s1.heap.objs.size]) (fun b hb=>by rw [List.mem_singleton.mp hb]; exact ⟨f3,g1,g2,g3,g4,g5⟩) (fun b hb=>by rw [List.mem_singleton.mp hb]; exact ⟨o,e,fun v y=>by rw [d] at y; cases y⟩)
  refine wpAny_assign_Name (ZqK (v:=.str ⟨#[z.cps[k]]⟩) I5 hN hj kj ⟨_,rfl⟩ fun s5 m5 I6 hn5 hm5 ht5 _=>?_)
  refine wpAny_passesOwn hp (wpAny_mono (ZLK hN hi ki kj he di dj hs hbase hfew hline h1 I6 hn5 hm5 (Nat.ne_of_gt tk3) (by show s3.toks < s5.toks; rw [ht5]; exact Nat.lt_succ_of_lt (Nat.lt_succ_self _)) ex w4) (fun f s7 hq=>?_) fun _ _ y=>y)
  obtain ⟨rfl,tk7,σ7,H7,I7,w7⟩ :=hq
  have pe:=I7.pin (s1.heap.objs.size,o) (List.mem_append_right _ (List.mem_append_right _ (ZjO (by simp) e)))
  refine ⟨z.cps.size - (k + 1),by omega,k + 1,σ7,H7,rfl,hlt,I7.unpinned,⟨o,pe.1,c,d⟩,pe.2.1,tk7,w7⟩
 ·have hk':k=z.cps.size:=by omega
  subst hk'
  rw [List.drop_of_length_le (by simp)] at w3
  refine wpAny_passesOwn hp (wpAny_pyNext_ascii_end (I3.ok.hd hc) st3 (by simp) fun h' eb=>?_)
  exact wpAny_execs_nil ⟨σ3,H3,I3.turned (t':=s3.toks) (fun b o hb e=>eb b o hb e) f3 g1 g3 g4 g5,w3⟩
end
section
variable {X:Cx} {pins:List (Addr × Obj)} {σ:List (Option V)} {H:Hp} {s:Shared}
theorem ZzQ:∀ ls:List (Str × Tok),Vals (ls.map fun p=>V.str p.1) (strValues ls)
 | []=>.nil
 | (z,t) :: ls=>.cons ⟨t,rfl⟩ (ZzQ ls)
theorem ZnD {ls:List (Str × Tok)} {k:Nat} {Q:VK} (I:Inv X pins σ H s) (q:NewL (ls.map fun p=>V.str p.1) H Q):EP X pins σ Q (.ref s.heap.objs.size) { s with heap:=s.heap.push { cls:=.type "list",data:=.seq (strValues ls).toArray },toks:=k }:=
 ⟨.ref s.heap.objs.size,upd H s.heap.objs.size (.lst _),I.laid (t':=k) (fun b u e=>Heap.get?_push_of_some _ e) (Nat.le_refl _) ⟨q.1,strValues ls,0,ZzQ ls,Heap.get?_push_size _ rfl⟩,rfl,q.2 _ (I.hok.fresh (Nat.le_refl _))⟩
theorem ZnG {ls:List (Str × Tok)} {ts:List Str} (h:ls.map (·.1)=ts):(ls.map fun p=>V.str p.1)=ts.map V.str:=by
 rw [← h,List.map_map]; rfl
def ZPV:V→List V→Hp→VK→Prop:=fun x vs H Q=>∃ z:Str,x=.str z∧z.length≤100000∧((vs=[]∧NewL ((Txt.words z).map V.str) H Q)∨(∃ c:Nat,vs=[.str ⟨#[c]⟩]∧NewL ((Txt.split z ⟨#[c]⟩).map V.str) H Q))
theorem ZLk:MtR X "str.split" ZPV:=by
 intro pins s σ H x vs v us Q I rx rv h
 obtain ⟨z,rfl,hz,h⟩ :=h
 obtain ⟨t,rfl⟩ :=rx
 have hzs:z.length≤sizeLine:=Zcf (by omega)
 rcases h with ⟨rfl,q⟩ | ⟨c,rfl,q⟩
 ·cases rv
  have hw0:=StrLaws.sw_weight z
  have hw1:=StrLaws.len_le_wsum (Builtin.Str.spaceWords z (z.length + 1))
  refine call_meets F.slot_str_split (typeIs_str _ _ _) F.entry_str_split (F.args_str_split_1 _) (meets_str_split_space z t hzs (Zcf (by omega))) ?_
  cases hw:Builtin.Str.spaceWords z (z.length + 1) == [(0,z.length)]
  ·simp only [Bool.false_eq_true,if_false]
   rw [strsFrom_eq]
   have e:(numbered s.toks (wordsOf z)).map (·.1)=Txt.words z:=(numbered_texts _ _).trans (if_neg (ne_true_of_eq_false hw)).symm
   exact ZnD (ls:=numbered s.toks (wordsOf z)) I (by rw [ZnG e]; exact q)
  ·simp only [if_true]
   have e:[(z,t)].map (·.1)=Txt.words z:=(if_pos hw).symm
   exact ZnD (ls:=[(z,t)]) (k:=s.toks) I (by rw [ZnG e]; exact q)
 ·obtain ⟨u,rfl,tu,rfl⟩ :=rv.one
  have hy:((⟨#[c]⟩ : Str).length == 0)=false:=rfl
  cases h1:(decide (z.length < (⟨#[c]⟩ : Str).length) || decide (Builtin.Str.strKind z < Builtin.Str.strKind ⟨#[c]⟩))
  ·cases hf:(Builtin.Str.occurrences z ⟨#[c]⟩ 0 z.length (z.length + 1)).isEmpty
   ·have e0:Txt.split z ⟨#[c]⟩=Builtin.Str.partsBetween z (Builtin.Str.occurrences z ⟨#[c]⟩ 0 z.length (z.length + 1)) (⟨#[c]⟩ : Str).length:=(if_neg (ne_true_of_eq_false h1)).trans (if_neg (ne_true_of_eq_false hf))
    have hn:(Builtin.Str.partsBetween z (Builtin.Str.occurrences z ⟨#[c]⟩ 0 z.length (z.length + 1)) (⟨#[c]⟩ : Str).length).length≤sizeLine:=by
     rw [← e0]
     have:=q.1
     rwa [List.length_map] at this
    refine call_meets F.slot_str_split (typeIs_str _ _ _) F.entry_str_split (F.args_str_split_2 _ _) (meets_str_split_sep z ⟨#[c]⟩ t tu h1 hy hf hzs hn) ?_
    show wants _ _ _ { s with toks:=_,heap:=s.heap.push { cls:=.type "list",data:=.seq (strsFrom s.toks (Builtin.Str.partsBetween z (Builtin.Str.occurrences z ⟨#[c]⟩ 0 z.length (z.length + 1)) (⟨#[c]⟩ : Str).length)).toArray } }
    rw [strsFrom_eq]
    have e:(numbered s.toks (Builtin.Str.partsBetween z (Builtin.Str.occurrences z ⟨#[c]⟩ 0 z.length (z.length + 1)) (⟨#[c]⟩ : Str).length)).map (·.1)=Txt.split z ⟨#[c]⟩ :=(numbered_texts _ _).trans e0.symm
    exact ZnD (ls:=numbered s.toks _) I (by rw [ZnG e]; exact q)
   ·have e:[(z,t)].map (·.1)=Txt.split z ⟨#[c]⟩ :=((if_neg (ne_true_of_eq_false h1)).trans (if_pos hf)).symm
    exact call_meets F.slot_str_split (typeIs_str _ _ _) F.entry_str_split (F.args_str_split_2 _ _) (meets_str_split_not_found z ⟨#[c]⟩ t tu h1 hy hf) (ZnD (ls:=[(z,t)]) (k:=s.toks) I (by rw [ZnG e]; exact q))
  ·have e:[(z,t)].map (·.1)=Txt.split z ⟨#[c]⟩ :=(if_pos h1).symm
   exact call_meets F.slot_str_split (typeIs_str _ _ _) F.entry_str_split (F.args_str_split_2 _ _) (meets_str_split_cannot_occur z ⟨#[c]⟩ t tu h1) (ZnD (ls:=[(z,t)]) (k:=s.toks) I (by rw [ZnG e]; exact q))
def ZPU:R2:=fun x y H Q=>∃ (z:Str) (n:Int),x=.str z∧y=.int n∧MulOk z n∧Q (.str (Txt.mul z n)) H
theorem ZN6:OpR X (binaryOp .Mult) ZPU:=by
 intro pins s σ H x y v u Q I rx ry h
 obtain ⟨z,n,rfl,rfl,hm,q⟩ :=h
 obtain ⟨t,rfl⟩ :=rx
 obtain ⟨t',rfl⟩ :=ry
 exact SB.mul hm fun t' k=>⟨.str _,H,I.tok k,⟨t',rfl⟩,q⟩
end
section
variable {σ:St} {H:Hp} {Q:VK} {D:Ends}
theorem ZGj {i j:Nat} {ti te:TE} (h:ti σ H fun v H1=>∃ z:Str,v=.str z∧z.cps.all (· < 128)=true∧tRep i j te z.cps.toList D σ H1):ZKh i j ti te D σ H:=h
theorem ZPf {i j:Nat} {te:TE} (h:D.nx σ H):tRep i j te [] D σ H:=h
theorem ZIO {i j c:Nat} {cs:List Nat} {te:TE} (x:Str) (e:(σ.set j (some (.str ⟨#[c]⟩)))[i]?=some (some (.str x))) (h:te (σ.set j (some (.str ⟨#[c]⟩))) H fun v H1=>∃ z:Str,v=.str z∧(((⟨#[c]⟩ : Str) == z)=false)∧x.length + (x.length + 1) * z.length≤16777216∧
   tRep i j te cs D ((σ.set j (some (.str ⟨#[c]⟩))).set i (some (.str (Txt.replace x ⟨#[c]⟩ z)))) H1):tRep i j te (c :: cs) D σ H:=⟨x,e,h⟩
end
end L2
set_option maxRecDepth 100000
namespace L2
open PySem PySem.Spec PyProof.Rows
section
variable {ix:List Nat} {tc:TT} {te:TE} {σ:St} {H:Hp} {Q:VK}
end
def MeS1 (P:Program) (w:World) (K:PySem.W.Frag) (mg:Str→Option Value) (base:Heap) (k:Nat) (C:Addr) (m:Str) (ps:List Str) (sp:Sp):Prop:=Cls K C∧∃ f fd,FnOk P w K mg base (CX1 P w) k f fd ps sp∧ZaW K fd ps []∧Meth K C m f
section
variable {X:Cx} {k k':Nat} {m:Str} {ps:List Str} {sp:Sp} {e o:Expr} {es:List Expr} {ta:TE} {t:TA} {pos apos:Pos}
end
end L2
set_option maxRecDepth 100000
set_option maxHeartbeats 4000000
namespace L2
open PySem PySem.Spec PyProof.Rows
section
variable {X:Cx}
end
section
variable {X:Cx} {x x':Str} {ns:List Str} {ix:List Nat} {sc scope:Scope} {N:List Str} {elt iter:Expr} {px px' tp pos:Pos} {tk:Nat} {ifs:List Expr} {tc:TT} {te:TE} {wi:TI}
end
section
variable {ix:List Nat} {tc:TT} {te:TE} {σ:St} {H:Hp} {Q:VK} {K:PySem.W.Frag}
end
section
variable {X:Cx} {k k':Nat} {m:Str} {ps:List Str} {sp:Sp} {e o:Expr} {es:List Expr} {ta:TE} {t:TA} {pos apos:Pos} {E:XK}
def tDyP (D:Addr→Prop) (m:Str) (sp:Sp) (E:XK) (ta:TE) (t:TA):TE:=fun σ H Q=>ta σ H fun x H1=>∃ a C dx fs,x=.ref a∧H1 a=some (.ins C dx fs)∧D C∧fs.lookup m=none∧
 t σ H1 fun vs H2=>H2 a=some (.ins C dx fs)∧sp (x :: vs) H2 Q E
theorem ZPL {pl:Sem Bool} {D:Addr→Prop} (hp:ZoV (CX1 X.prog X.w) X E) (hD:∀ C,D C→MeS1 X.prog X.w X.K X.mg X.base k C m ps (spAt sp C)) (hr:Room k' X.A) (ho:PE X o ta) (ha:PA X (e :: es) t) (hk:k≤k':=by omega)
  (hst:starEach (e :: es) X.env=(false,eval e X.env) :: starEach es X.env:=by rfl) (hpl:(backTo pos (starEach es X.env)).any (·.1)=false:=by rfl)
  (ht:eval (.Call (.Attribute o m apos) (e :: es) [] pos) X.env=(do
   let ov ← eval o X.env
   standAt apos.atName
   let (f,first) ← holding [ov] (getMethod ov m pl)
   callWith pos f first (backTo pos (starEach (e :: es) X.env)) (backToKw pos (keywordEach [] X.env))):=by rfl) :
  PE X (.Call (.Attribute o m apos) (e :: es) [] pos) (tDyP D m sp E ta t):=by
 intro pins s σ H Q I h
 refine PySem.W.methodCall_KW (pl:=pl) (thn (ho pins s σ H _ I h) fun u s1 ⟨x,H1,I1,rx,a,C,dx,fs,ex,ea,hC,l,q⟩ =>?_) ht
 subst ex
 obtain rfl:u=Value.ref a:=rx
 obtain ⟨c,f,fd,F,hb,hm⟩ :=hD C hC
 refine Ztq I1 ea c hm l ?_
 refine PySem.W.callWith_K (first:=[.ref a]) (h₀:=X.base) I.ok.mod.kin hm.kp (thn (ha pos pins s1 σ H1 _ I1 q) fun us s2 ⟨vs,H2,I2,r,eb,q2⟩ =>⟨I2.kIn,?_⟩) hst hpl
 exact ZGR (us:=.ref a :: us) (vs:=.ref a :: vs) (dvs:=[]) (E:=E) F (hr.mono hk) hb .nil hp I2 (.cons rfl r) (by rw [List.append_nil]; exact ⟨q2,a,dx,fs,vs,rfl,eb⟩)
theorem ZO1 {D:Addr→Prop} {σ:St} {H:Hp} {Q:VK} (h:ta σ H fun x H1=>∃ a C dx fs,x=.ref a∧H1 a=some (.ins C dx fs)∧D C∧fs.lookup m=none∧
 t σ H1 fun vs H2=>H2 a=some (.ins C dx fs)∧sp (x :: vs) H2 Q E):tDyP D m sp E ta t σ H Q:=h
end
section
variable {X:Cx} {a:Expr} {ta:TE} {pos:Pos}
end
end L2
set_option maxRecDepth 100000
set_option maxHeartbeats 4000000
namespace L2
open PySem PySem.Spec PyProof.Rows
section
variable {X:Cx}
end
section
variable {X:Cx} {e:Expr} {td:TE} {st:Stmt} {t:TS}
end
theorem ZHx {X:Cx} {a b c d:Str} {i j k l:Nat} {p q r o:Pos} {es:List Expr} {t:TA} (h:PA X es t):PA X (.Constant (.str a) i p :: .Constant (.str b) j q :: .Constant (.str c) k r :: .Constant (.str d) l o :: es) (Zs8 (tC (.str a)) (Zs8 (tC (.str b)) (Zs8 (tC (.str c)) (Zs8 (tC (.str d)) t)))):=
 Zaa Zal (Zaa Zal (Zaa Zal (Zaa Zal h)))
end L2
set_option maxRecDepth 100000
set_option maxHeartbeats 4000000
namespace L2
open PySem PySem.Spec PyProof.Rows
def lowS (m:Nat):List Nat:=(List.range 6).filter fun i=>m.testBit i
def tabS (b:Bool) (m:Nat):SetTable:=if (lowS m).length≤4 then ⟨7,(lowS m).toArray,#[],0,!b,0,true⟩ else ⟨31,(lowS m).toArray,#[],0,!b,1,true⟩
def cutS (m h:Nat):Nat:=((lowS m).filter fun i=>decide (i < h)).length
def putS (b:Bool) (m h:Nat):SetTable:={ tabS b m with place:=(lowS (m ||| 2 ^ h)).toArray }
theorem ZL0:∀ b:Bool,∀ m,m < 64→∀ h:Nat,h < 6→m.testBit h=false→(tabS b m).freeSlot (h:Int)=some (h,false):=by decide +kernel
theorem ZOC:∀ b:Bool,∀ m,m < 64→∀ h,h < 6→m.testBit h=false→(tabS b m).put h=(putS b m h,cutS m h):=by decide +kernel
theorem ZNT:∀ m,m < 64→∀ h,h < 6→m.testBit h=false→lowS (m ||| 2 ^ h)=(lowS m).take (cutS m h) ++ [h] ++ (lowS m).drop (cutS m h):=by decide +kernel
theorem ZLH:∀ b:Bool,∀ m,m < 64→∀ h,h < 6→m.testBit h=false→(putS b m h).tooFull=decide ((lowS m).length=4):=by decide +kernel
theorem ZLI:∀ b:Bool,∀ m,m < 64→∀ h,h < 6→m.testBit h=false→(lowS m).length ≠ 4→putS b m h=tabS b (m ||| 2 ^ h):=by decide +kernel
def ZOg (x:Option (SetTable × Array Nat)) (t:SetTable):Bool:=match x with
 | some (t',o)=>decide (t'=t) && decide (o = #[0,1,2,3,4])
 | none=>false
theorem ZJV {x:Option (SetTable × Array Nat)} {t:SetTable} (h:ZOg x t=true):x=some (t,#[0,1,2,3,4]):=by
 unfold ZOg at h
 split at h
 ·rw [Bool.and_eq_true] at h
  rw [of_decide_eq_true h.1,of_decide_eq_true h.2]
 ·cases h
theorem ZJR:∀ b:Bool,∀ m,m < 64→∀ h,h < 6→m.testBit h=false→(lowS m).length=4→ZOg ((putS b m h).relaid ((lowS (m ||| 2 ^ h)).map fun i:Nat=>(i:Int)).toArray 20) (tabS b (m ||| 2 ^ h))=true:=by decide +kernel
theorem ZLG:∀ b:Bool,∀ m,m < 64→∀ h,h < 6→m.testBit h=false→(putS b m h).fits ((lowS m).length + 1)=true:=by decide +kernel
theorem ZoI:∀ b:Bool,∀ m,m < 64→(tabS b m).fits (lowS m).length=true:=by decide +kernel
theorem ZxS:∀ m,m < 64→(lowS m).length≤6:=by decide +kernel
theorem ZMP:∀ m,m < 64→∀ h,h < 6→m ||| 2 ^ h < 64∧(lowS (m ||| 2 ^ h)).length=(lowS m).length + (if m.testBit h then 0 else 1):=by decide +kernel
theorem ZE1:∀ m,m < 64→∀ h,h < 6→m.testBit h=true→m ||| 2 ^ h=m:=by decide +kernel
theorem ZE3 {m h:Nat}:h ∈ lowS m ↔ h < 6∧m.testBit h=true:=by
 unfold lowS
 rw [List.mem_filter,List.mem_range]
theorem ZFp {α β:Type} {F:α→β→Prop}:∀ {xs:List α} {ys:List β} (n:Nat),Paired F xs ys→Paired F (xs.take n) (ys.take n)
 | _,_,0,_=>by rw [List.take_zero,List.take_zero]; exact .nil
 | _,_,_ + 1,.nil=>.nil
 | _,_,n + 1,.cons r q=>.cons r (ZFp n q)
theorem ZFo {α β:Type} {F:α→β→Prop}:∀ {xs:List α} {ys:List β} (n:Nat),Paired F xs ys→Paired F (xs.drop n) (ys.drop n)
 | _,_,0,h=>h
 | _,_,_ + 1,.nil=>.nil
 | _,_,n + 1,.cons _ q=>ZFo n q
theorem ZDK {α β:Type} {F:α→β→Prop}:∀ {xs xs':List α} {ys ys':List β},Paired F xs ys→Paired F xs' ys'→Paired F (xs ++ xs') (ys ++ ys')
 | _,_,_,_,.nil,h=>h
 | _,_,_,_,.cons r q,h=>.cons r (ZDK q h)
def EntS (e:Int × Value) (k:Nat):Prop:=e.1=(k:Int)∧∃ t,e.2=.int (k:Int) t
theorem Zxr:∀ {es:List (Int × Value)} {ks:List Nat},Paired EntS es ks→es.map (·.1)=ks.map fun i:Nat=>(i:Int)
 | _,_,.nil=>rfl
 | _,_,.cons r q=>by rw [List.map_cons,List.map_cons,Zxr q,r.1]
section
variable {prog:Program} {w:World}
theorem ZNu:∀ k:Nat,k < 6→hashInt (k:Int)=(k:Int):=by decide +kernel
theorem ZIu:∀ {es:List (Int × Value)} {ks:List Nat},Paired EntS es ks→(∀ k ∈ ks,k < 6)→ElemsOf (intKind prog w) es
 | _,_,.nil,_=>fun e he=>by cases he
 | _,_,.cons (a:=x) (b:=k) r q,h=>fun e he=>by
  rcases List.mem_cons.mp he with rfl | he
  ·obtain ⟨h1,t,h2⟩ :=r
   refine ⟨⟨(k:Int),by rw [h2]; exact intKind_is _ _ _ _,?_⟩,by rw [h2]; rfl⟩
   rw [h1]
   exact (ZNu k (h k List.mem_cons_self)).symm
  ·exact ZIu q (fun j hj=>h j (List.mem_cons_of_mem _ hj)) e he
theorem Zxq:∀ {es:List (Int × Value)} {ks:List Nat} {h:Nat},Paired EntS es ks→(es.findIdx? (fun e=>(intKind prog w).is (h:Int) e.2)).isSome=decide (h ∈ ks)
 | _,_,_,.nil=>rfl
 | _,_,h,.cons (a:=x) (b:=k) r q=>by
  obtain ⟨h1,t,h2⟩ :=r
  rw [List.findIdx?_cons,h2,KeyKind.is_eq_decide (intKind_is prog w (k:Int) t) (h:Int)]
  by_cases e:h=k
  ·subst e
   simp
  ·have e' : ¬ (h:Int)=(k:Int):=fun z=>e (by omega)
   have ih:=Zxq (h:=h) q
   simp only [e',decide_false,Bool.false_eq_true,if_false,Option.isSome_map,ih,List.mem_cons,e,false_or]
def Ztd (w:World) (hp:Heap) (a:Addr) (m:Nat):Prop:=∃ o es ep,hp.get? a=some o∧o.ExactSet∧o.data=.set es ep (tabS (w.params.followText "set-order") m)∧Paired EntS es.toList (lowS m)∧m < 64
theorem Ztd.same {hp hp':Heap} {a:Addr} {m:Nat} (h:Ztd w hp a m) (k:∀ o,hp.get? a=some o→hp'.get? a=some o):Ztd w hp' a m:=by
 obtain ⟨o,es,ep,e,r⟩ :=h
 exact ⟨o,es,ep,k _ e,r⟩
variable {A:Around} {E:Value→Shared→Prop} {s:Shared}
theorem Zds {es:Array (Int × Value)} {m:Nat} (h:Paired EntS es.toList (lowS m)):es.size=(lowS m).length:=by
 have:=Paired.length h
 simpa using this
theorem ZNO {b:Bool} {m h:Nat} {es:Array (Int × Value)} {x:Value} (hm:m < 64) (h6:h < 6) (no:m.testBit h=false) (he:Paired EntS es.toList (lowS m)) :
  layNew (tabS b m) es (h:Int) x=(SetTable.insertAt es (cutS m h) ((h:Int),x),putS b m h,false,false):=by
 have sz:(SetTable.insertAt es (cutS m h) ((h:Int),x)).size=(lowS m).length + 1:=by
  have:=(SetTable.insertAt_perm es (cutS m h) ((h:Int),x)).length_eq
  rw [Array.length_toList,Array.length_toList,Array.size_push,Zds he] at this
  exact this
 unfold layNew
 rw [ZL0 b m hm h h6 no]
 dsimp only
 rw [ZOC b m hm h h6 no]
 dsimp only
 have ft:=ZLG b m hm h h6 no
 unfold SetTable.orStandIn
 rw [sz,if_pos ft,ft]
 rfl
theorem ZLF {m h:Nat} {tk:Tok} {es:Array (Int × Value)} (hm:m < 64) (h6:h < 6) (no:m.testBit h=false) (he:Paired EntS es.toList (lowS m)) :
  Paired EntS (SetTable.insertAt es (cutS m h) ((h:Int),.int (h:Int) tk)).toList (lowS (m ||| 2 ^ h)):=by
 rw [SetTable.toList_insertAt,ZNT m hm h h6 no]
 first
  | exact ZDK (ZDK (ZFp _ he) (.cons ⟨rfl,tk,rfl⟩ .nil)) (ZFo _ he)
  | (rw [List.append_assoc]; exact ZDK (ZFp _ he) (ZDK (.cons ⟨rfl,tk,rfl⟩ .nil) (ZFo _ he)))
theorem ZJW {b:Bool} {m h:Nat} {es:Array (Int × Value)} (hm:m < 64) (h6:h < 6) (no:m.testBit h=false) (f4:(lowS m).length=4) (he:Paired EntS es.toList (lowS (m ||| 2 ^ h))) :
  relayAll (putS b m h) es (SetTable.grown es.size)=(es,tabS b (m ||| 2 ^ h),false):=by
 have lo:=ZMP m hm h h6
 rw [no] at lo
 have sz:es.size=5:=by rw [Zds he,lo.2,f4]; rfl
 have hh:es.map (·.1)=((lowS (m ||| 2 ^ h)).map fun i:Nat=>(i:Int)).toArray:=by
  apply Array.toList_inj.mp
  rw [Array.toList_map,Zxr he]
 have rl:=ZJV (ZJR b m hm h h6 no f4)
 have fi:(#[0,1,2,3,4]:Array Nat).filterMap (fun i=>es[i]?)=es:=by
  apply Array.toList_inj.mp
  have:=filterMap_getElem?_range es
  rw [sz] at this
  rw [← this,Array.toList_filterMap]
  rfl
 unfold relayAll
 rw [sz,hh,show SetTable.grown 5=20 from rfl,rl]
 dsimp only
 rw [fi]
 have c1:coversAll #[0,1,2,3,4] 5=true:=by decide +kernel
 have c2:(tabS b (m ||| 2 ^ h)).fits 5=true:=by
  have:=ZoI b (m ||| 2 ^ h) lo.1
  rw [lo.2,f4] at this
  exact this
 rw [c1,sz,c2]
 rfl
theorem ZIv {es:List (Int × Value)} {ks:List Nat} {h:Nat} (he:Paired EntS es ks) (no:h ∉ ks):es.findIdx? (fun e=>(intKind prog w).is (h:Int) e.2)=none:=by
 have:=Zxq (prog:=prog) (w:=w) (h:=h) he
 rw [decide_eq_false no] at this
 exact Option.not_isSome_iff_eq_none.mp (by rw [this]; exact Bool.false_ne_true)
theorem ZIw {es:List (Int × Value)} {ks:List Nat} {h:Nat} (he:Paired EntS es ks) (yes:h ∈ ks):∃ j,es.findIdx? (fun e=>(intKind prog w).is (h:Int) e.2)=some j:=by
 have:=Zxq (prog:=prog) (w:=w) (h:=h) he
 rw [decide_eq_true yes] at this
 exact Option.isSome_iff_exists.mp this
theorem ZOk {a:Addr} {m h:Nat} {tk:Tok} {Q:Bool→Shared→Prop} (hS:Ztd w s.heap a m) (h6:h < 6)
  (k:∀ b hp',Heap.SameBut a s.heap hp'→Ztd w hp' a (m ||| 2 ^ h)→Q b { s with heap:=hp' }):wpAny (model prog w) A (setAddHashed a (.int (h:Int) tk) (h:Int)) Q E s:=by
 obtain ⟨o,es,ep,ho,hx,hd,he,hm⟩ :=hS
 have fit:=ZoI (w.params.followText "set-order") m hm
 rw [← Zds he] at fit
 have l6:=ZxS m hm
 have sz:=Zds he
 have el:ElemsOf (intKind prog w) es.toList:=ZIu he fun j hj=>(ZE3.mp hj).1
 have hk:(intKind prog w).is (h:Int) (.int (h:Int) tk)=true:=intKind_is _ _ _ _
 have hh:(intKind prog w).hash (h:Int)=(h:Int):=ZNu h h6
 unfold setAddHashed setAddHashedIn
 refine wpAny_holding (wpAny_bind (wpAny_setState_of ho hd fit ?_))
 dsimp only
 rw [byScan_of (knd:=intKind prog w) rfl (by unfold scanBound; omega) el]
 simp only [↓reduceIte]
 unfold setAddByScan
 refine wpAny_bind (wpAny_bind (wpAny_rule (wpAny_bind ?_)))
 have sc:∀ {Q':ScanMet→Shared→Prop},Q' (match es.toList.findIdx? (fun e=>(intKind prog w).is (h:Int) e.2) with | some j=>.found (0 + j) | none=>.absent) s→wpAny (model prog w) A (setScan a (.int (h:Int) tk) (h:Int) true es) Q' E s:=fun hq=>by
  have:=wpAny_setScan_of (knd:=intKind prog w) (adding:=true) (A:=A) (E:=E) hk ho hd fit el hq
  rw [hh] at this
  exact this
 refine sc ?_
 cases yes:m.testBit h with
 | true=>
  obtain ⟨j,ej⟩ :=ZIw (prog:=prog) (w:=w) he (ZE3.mpr ⟨h6,yes⟩)
  rw [ej]
  dsimp only
  refine wpAny_pure (wpAny_pure ?_)
  have:=k false s.heap (Heap.SameBut.refl a s.heap) ⟨o,es,ep,ho,hx,by rw [ZE1 m hm h h6 yes]; exact hd,by rw [ZE1 m hm h h6 yes]; exact he,by rw [ZE1 m hm h h6 yes]; exact hm⟩
  exact this
 | false=>
  rw [ZIv (prog:=prog) (w:=w) he (fun z=>by rw [(ZE3.mp z).2] at yes; cases yes)]
  dsimp only
  rw [ZNO hm h6 yes he]
  dsimp only
  have lo:=ZMP m hm h h6
  have he1:=ZLF (tk:=tk) hm h6 yes he
  have pl:(putS (w.params.followText "set-order") m h).plain=true:=by unfold putS tabS; split <;> rfl
  refine wpAny_bind (wpAny_pure ?_)
  rw [pl]
  simp only [↓reduceIte]
  refine wpAny_bind ?_
  rw [hashByValue_scannable 8 rfl]
  refine wpAny_pure ?_
  simp only [plainKind,↓reduceIte]
  have z1:(SetTable.insertAt es (cutS m h) ((h:Int),Value.int (h:Int) tk)).size=(lowS m).length + 1:=by rw [Zds he1,lo.2,yes]; rfl
  refine wpAny_bind (wpAny_storeSet_of ho hd ?_ (by rw [z1]; exact Zcf (by omega)))
  have at1:=Heap.get?_update_self (Obj.putSet (SetTable.insertAt es (cutS m h) ((h:Int),Value.int (h:Int) tk)) (putS (w.params.followText "set-order") m h)) ho (by rw [putSet_of _ _ hd]; rfl)
  rw [putSet_of _ _ hd] at at1
  have sb1:=Heap.SameBut.update s.heap a (Obj.putSet (SetTable.insertAt es (cutS m h) ((h:Int),Value.int (h:Int) tk)) (putS (w.params.followText "set-order") m h))
  rw [ZLH _ m hm h h6 yes]
  by_cases f4:(lowS m).length=4
  ·rw [decide_eq_true f4]
   simp only [Bool.not_false,Bool.and_self,↓reduceIte]
   rw [ZJW hm h6 yes f4 he1]
   dsimp only
   refine wpAny_bind (wpAny_pure (wpAny_bind (wpAny_storeSet_of at1 rfl ?_ (by rw [z1]; exact Zcf (by omega)))))
   have at2:=Heap.get?_update_self (Obj.putSet (SetTable.insertAt es (cutS m h) ((h:Int),Value.int (h:Int) tk)) (tabS (w.params.followText "set-order") (m ||| 2 ^ h))) at1 rfl
   refine wpAny_pure (wpAny_pure (k true _ (sb1.trans (Heap.SameBut.update _ a _)) ⟨_,_,_,at2,hx,rfl,he1,lo.1⟩))
  ·rw [decide_eq_false f4]
   simp only [Bool.and_false,Bool.false_eq_true,↓reduceIte]
   refine wpAny_pure (wpAny_pure (k true _ sb1 ⟨_,_,ep + 1,at1,hx,?_,he1,lo.1⟩))
   dsimp only
   rw [ZLI _ m hm h h6 yes f4]
def metS (val:Nat→Nat):Nat→Nat
 | 0=>0
 | i + 1=>metS val i ||| 2 ^ val i
end
section
variable {prog:Program} {w:World} {A:Around} {R:Result→Shared→Prop} {I:Addr} {fp wr:List Addr} {G:Array GenState→Array GenState→Prop} {n:Nat} {P:Nat→Value→Prop} {St:Nat→Shared→Prop}
theorem ZLP (W:WalksS prog w A.in1 I fp wr G n P St) (S:Addr) (hSf:S ∉ fp) (val:Nat→Nat) (hv:∀ i v,P i v→∃ t,v=.int (val i:Int) t) (h6:∀ i,val i < 6) :
  ∀ (k i:Nat) (s:Shared),n - i=k→i≤n→St i s→Ztd w s.heap S (metS val i)→(∀ s',Moved (S :: wr) G s s'→Ztd w s'.heap S (metS val n)→R (.ok (.ret .none)) s')→
   codeAny (model prog w) A (.builtin "set.update.loop" ⟨[.ref S,.ref I],[]⟩) R s:=by
 have nw:S ∉ wr:=fun h=>hSf (W.sub _ h)
 have up:∀ b ∈ wr,b ∈ S :: wr:=fun b hb=>List.mem_cons_of_mem _ hb
 intro k
 induction k with
 | zero=>
  intro i s hk hi hst hS hR
  obtain rfl:i=n:=by omega
  refine codeAny_builtin PyProof.Rows.F.entry_set_update_loop (by
   rw [Around.under_plainId PyProof.Rows.F.plain_set_update_loop _]
   show wpAny _ A.in1 (pyNext (.ref I) >>= _) _ _ s
   refine wpAny_bind (W.done s _ _ hst fun s' mv=>?_)
   show wpAny _ A.in1 (ret Value.none) _ _ s'
   exact wpAny_pure (hR s' (mv.mono up) (hS.same fun o e=>mv.heap S _ nw e)))
 | succ k ih=>
  intro i s hk hi hst hS hR
  have lt:i < n:=by omega
  refine codeAny_builtin PyProof.Rows.F.entry_set_update_loop (by
   rw [Around.under_plainId PyProof.Rows.F.plain_set_update_loop _]
   show wpAny _ A.in1 (pyNext (.ref I) >>= _) _ _ s
   refine wpAny_bind (W.item i s _ _ lt hst fun v s' pv st' mv=>?_)
   obtain ⟨t,rfl⟩ :=hv i v pv
   have S':Ztd w s'.heap S (metS val i):=hS.same fun o e=>mv.heap S _ nw e
   show wpAny _ A.in1 (holding [Value.int (val i:Int) t] (setAdd S (.int (val i:Int) t)) >>= _) _ _ s'
   refine wpAny_bind (wpAny_holding ?_)
   unfold setAdd
   refine wpAny_holding (wpAny_bind ((intKind prog w).pyHash (k:=(val i:Int)) (intKind_is _ _ _ _) ?_))
   show wpAny _ _ (setAddHashed S _ (hashInt (val i:Int))) _ _ _
   rw [ZNu _ (h6 i)]
   refine ZOk (s:={ s' with toks:=s'.toks + 1 }) S' (h6 i) fun b hp' sb S2=>?_
   refine wpAny_pure ⟨plainId_quiet PyProof.Rows.F.plain_set_update_loop _,ih (i + 1) _ (by omega) lt (W.frame _ s' _ _ st' (Nat.le_succ _) fun b hb o e=>?_) S2 fun s2 m2 S3=>?_⟩
   ·rw [sb.2 b (fun z:b=S=>hSf (by rw [← z]; exact hb))]
    exact e
   ·refine hR s2 (Moved.trans W.gtrans ((mv.mono up).then_heap (Nat.le_succ _) fun b o hb e=>?_) m2) S3
    rw [sb.2 b (fun z:b=S=>hb (by rw [z]; exact List.mem_cons_self))]
    exact e)
end
section
variable {prog:Program} {w:World} {A:Around} {E:Value→Shared→Prop} {s:Shared}
def newS (w:World):Obj:={ cls:=.type "set",dict:=none,data:=.set #[] 0 (.fresh 0 0 (!w.params.followText "set-order")) }
theorem ZPw {hp:Heap} {a:Addr} (h:hp.get? a=some (newS w)):Ztd w hp a 0:=by
 refine ⟨_,_,_,h,⟨rfl,rfl,rfl⟩,rfl,?_,by decide⟩
 show Paired EntS [] (lowS 0)
 rw [show lowS 0=[] by decide +kernel]
 exact .nil
theorem ZLi (x:Value) {Q1:Value→Shared→Prop} (h:Q1 (.ref s.heap.objs.size) { s with heap:=s.heap.push (newS w) }) :
  codeAny (model prog w) A (.call (.builtin "set.__new__") ⟨[.type "set",x],[]⟩) (wants Q1 E) s:=by
 have sub:=sub_set_self
 refine codeAny_of_tree (by
  show wpAny _ A.in1 (do checkBuiltinCall "set.__new__" ⟨[.type "set",x],[]⟩; again (.builtin "set.__new__" ⟨[.type "set",x],[]⟩)) _ _ s
  refine wpAny_bind (wpAny_of_eq (PySem.F.newCall_set_1 x) (wpAny_pure ⟨plainId_quiet PySem.F.plain_set_new _,codeAny_builtin PySem.F.entry_set_new (by
   rw [Around.under_plainId PySem.F.plain_set_new _]
   unfold Builtin.«set.__new__» Builtin.Frozenset.newClass
   obtain ⟨hp,g,d,tk,os⟩ :=s
   dsimp only
   wp_walk
   refine wpAny_askSetting (wpAny_pure ?_)
   dsimp only
   simp only [newObj]
   exact wpAny_bind (wpAny_alloc (wpAny_pure (wpAny_pure h))))⟩)))
theorem ZKN {l:Addr} {items:Array Value} {val:Nat→Nat} {Q:Value→Shared→Prop} (hh:A.handled=none) (hl:s.heap.IsList l items) (hi:∀ (i:Nat) (v:Value),items[i]?=some v→∃ t,v=.int (val i:Int) t) (h6:∀ i,val i < 6)
  (h:∀ (hp':Heap) (tk:Nat),Ztd w hp' s.heap.objs.size (metS val items.size)→(∀ b o,b < s.heap.objs.size→s.heap.get? b=some o→hp'.get? b=some o)→Q (.ref s.heap.objs.size) { s with heap:=hp',toks:=tk }) :
  wpAny (model prog w) A (call (.type "set") [.ref l]) Q E s:=by
 obtain ⟨c,tl,hmro⟩ :=PySem.F.called_set.mro
 have m1:=PySem.F.called_set.made
 have m2:=PySem.F.called_set.sub
 have m3:=PySem.F.called_set.notType
 have m4:=PySem.F.called_set.canCreate
 have m5:=PySem.F.typeCall_set_1 (.ref l)
 refine wpAny_call (codeAny_of_tree (by
  show wpAny _ _ (callAny (.type "set") _) _ _ _
  refine wpAny_pure ⟨Code.quiet_builtin _ (by decide +kernel),codeAny_builtin PySem.F.entry_type_call ?_⟩
  rw [Around.under_plain (weight_type_call_type "set" [.ref l] []) rfl]
  repeat (any_goals (first | assumption | wp_step))
  refine codeAny_mono (ZLi (.ref l) (E:=E) (Q1:=fun obj s1=>obj=.ref s.heap.objs.size∧s1 = { s with heap:=s.heap.push (newS w) }) ⟨rfl,rfl⟩) fun r s1 hr=>?_
  cases r with
  | error e=>exact hr
  | ok fl=>
   cases fl with
   | ret obj=>
    obtain ⟨rfl,rfl⟩ :=hr
    have hS:(s.heap.push (newS w)).get? s.heap.objs.size=some (newS w):=Heap.get?_push_size _ rfl
    have hT:Shared.TypeIs { s with heap:=s.heap.push (newS w) } (.ref s.heap.objs.size) "set":=⟨_,hS,rfl⟩
    have i1:=PySem.F.called_set.init.lookup
    have i2:=PySem.F.called_set.init.bind (.ref s.heap.objs.size)
    repeat (any_goals (first | assumption | wp_step))
    refine codeAny_mono (codeAny_call_builtin (R:=wants (fun r s2=>r=.none∧∃ hp' tk,s2 = { s with heap:=hp',toks:=tk }∧Ztd w hp' s.heap.objs.size (metS val items.size)∧(∀ b o,b < s.heap.objs.size→s.heap.get? b=some o→hp'.get? b=some o)) E) PySem.F.called_set.init.plain PySem.F.entry_set_init (check_set_init_1 hT ?_)) fun r2 s2 hr2=>?_
    ·obtain ⟨ol,e0,c0,n0,d0⟩ :=hl
     obtain ⟨oc,od,oda,osl⟩ :=ol
     dsimp only at c0 d0
     subst c0 d0
     have e1:(s.heap.push (newS w)).get? l=some { cls:=.type "list",dict:=od,data:=.seq items n0,slots:=osl }:=Heap.get?_push_of_some _ e0
     have q1:=PySem.F.sub_list_set
     have q2:=PySem.F.sub_list_frozenset
     have q3:(Value.type "list" == Value.type "dict")=false:=by decide
     have hl1:(s.heap.push (newS w)).IsList l items:=⟨_,e1,rfl,n0,rfl⟩
     unfold Builtin.«set.__init__» noKeywords Builtin.Frozenset.updateFrom
     generalize ePI:pyIter=PI
     wp_walk
     subst ePI
     have lS:l < s.heap.objs.size:=Heap.lt_size e0
     have sz1:(s.heap.push (newS w)).objs.size=s.heap.objs.size + 1:=Heap.size_push _ _
     refine wpAny_pyIter_list hl1 (wpAny_bind (wpAny_runValue ?_))
     refine ZLP ((Walks.list (by simp [hh]) _ l (by rw [sz1]; exact Nat.ne_of_lt (Nat.lt_succ_of_lt lS)) items).toS) s.heap.objs.size (by rw [sz1]; simp only [List.mem_cons,List.not_mem_nil,or_false,not_or]; exact ⟨Nat.ne_of_lt (Nat.lt_succ_self _),Nat.ne_of_gt lS⟩) val hi h6 (items.size - 0) 0 _ (by omega) (Nat.zero_le _) ⟨⟨_,Heap.get?_push_size _ rfl,rfl,rfl⟩,hl1.push _⟩ ?_ ?_
     ·exact (ZPw (Heap.get?_push_of_some _ hS))
     ·intro s' mv S'
      obtain ⟨hp',g',d',tk',os'⟩ :=s'
      obtain rfl:g'=s.gens:=mv.gens
      obtain rfl:d'=s.drawn:=mv.drawn
      obtain rfl:os'=s.os:=mv.os
      show wpAny _ _ _ _ _ _
      refine wpAny_pure ?_
      show wpAny _ _ (ret Value.none) _ _ _
      refine wpAny_pure ⟨rfl,hp',tk',rfl,S',fun b o hb e=>?_⟩
      refine mv.heap b o ?_ (Heap.get?_push_of_some _ (Heap.get?_push_of_some _ e))
      rw [sz1]
      simp only [List.mem_cons,List.not_mem_nil,or_false,not_or]
      exact ⟨Nat.ne_of_lt hb,Nat.ne_of_lt (Nat.lt_succ_of_lt hb)⟩
    ·cases r2 with
     | error e=>exact hr2
     | ok fl2=>
      cases fl2 with
      | ret r=>
       obtain ⟨rfl,hp',tk,rfl,S',kp⟩ :=hr2
       repeat (any_goals (first | assumption | wp_step))
       exact h _ _ S' kp
      | _=>exact hr2.elim
   | _=>exact hr.elim))
end
end L2
set_option maxRecDepth 100000
set_option maxHeartbeats 4000000
namespace L2
open PySem PySem.Spec PyProof.Rows
theorem ZtU:Slot "set_iterator" "__next__" "set_iterator.__next__":=
 .of (owner:="set_iterator") (n:="__next__") (by rw [typeLookup_type,builtinLookup_eq_fast]; kernel_rfl) (by decide +kernel) (by decide +kernel) (by decide +kernel) (by first | exact .inl (by decide +kernel) | exact .inr (by decide +kernel)) (by rw [isSubtype_type]; kernel_rfl)
theorem ZGa:entryFor table "set_iterator.__next__" = some Builtin.«set_iterator.__next__»:=entryFor_of_tree (by kernel_rfl)
theorem ZH2 (a:Value):argsOk "set_iterator.__next__" ⟨[a],[]⟩ :=by unfold argsOk; kernel_rfl
theorem ZIt:entryFor table "set.__iter__" = some Builtin.«frozenset.__iter__»:=entryFor_alias (id':="frozenset.__iter__") (by kernel_rfl) rfl (by decide +kernel) (by kernel_rfl)
def ZFz (m i:Nat):Nat:=if i=0 then 0 else (lowS m).getD (i - 1) 0 + 1
theorem ZHd:∀ m,m < 64→∀ i,i < 7→i≤(lowS m).length→SetTable.below (lowS m).toArray (ZFz m i)=i:=by decide +kernel
theorem ZDG {α:Type} (next:Nat→Nat):∀ (fuel k:Nat) (left:List α) (out:Array α),left.length=fuel→(pickOrder.go next fuel k left out).toList.Perm (out.toList ++ left)
 | 0,k,left,out,h=>by
  obtain rfl:=List.length_eq_zero_iff.mp h
  unfold pickOrder.go
  rw [List.append_nil]
 | fuel + 1,k,left,out,h=>by
  have hi:next k % left.length < left.length:=Nat.mod_lt _ (by omega)
  unfold pickOrder.go
  rw [List.getElem?_eq_getElem hi]
  dsimp only
  refine (ZDG next fuel (k + 1) (left.eraseIdx (next k % left.length)) (out.push left[next k % left.length]) (by rw [List.length_eraseIdx]; simp [hi]; omega)).trans ?_
  rw [Array.toList_push,List.append_assoc]
  refine List.Perm.append_left _ ?_
  rw [List.eraseIdx_eq_take_drop_succ]
  have e:left=left.take (next k % left.length) ++ left[next k % left.length] :: left.drop (next k % left.length + 1):=by
   rw [← List.drop_eq_getElem_cons hi,List.take_append_drop]
  conv=>rhs; rw [e]
  rw [List.singleton_append]
  exact List.perm_middle.symm
theorem ZLB {α:Type} (next:Nat→Nat) (xs:Array α):(pickOrder next xs).toList.Perm xs.toList:=by
 unfold pickOrder
 have:=ZDG next xs.size 0 xs.toList #[] (by simp)
 simpa using this
section
variable {prog:Program} {w:World} {A:Around} {E:Value→Shared→Prop} {s:Shared}
def ordS (w:World) (a ep:Nat) (es:Array (Int × Value)):Array (Int × Value):=if w.params.followText "set-order" = true then pickOrder (w.params.setOrder a ep) es else es
theorem Zws (a ep:Nat) (es:Array (Int × Value)):(ordS w a ep es).toList.Perm es.toList:=by
 unfold ordS
 split
 ·exact ZLB _ _
 ·exact List.Perm.refl _
def itS (w:World) (a m i ep:Nat):Obj:={ cls:=.type "set_iterator",data:=.fields #[.int ((if w.params.followText "set-order" = true then 0 else ZFz m i:Nat):Int) 0,.int (i:Int) 0,.ref a,.int ((lowS m).length:Int) 0,.int (ep:Int) 0] }
theorem ZLO {a m ep:Nat} {o:Obj} {es:Array (Int × Value)} {Q:Value→Shared→Prop} (ho:s.heap.get? a=some o) (hx:o.ExactSet) (hd:o.data=.set es ep (tabS (w.params.followText "set-order") m)) (he:Paired EntS es.toList (lowS m)) (hm:m < 64)
  (h:Q (.ref s.heap.objs.size) { s with heap:=s.heap.push (itS w a m 0 ep) }):wpAny (model prog w) A (pyIter (.ref a)) Q E s:=by
 have ty:s.TypeIs (.ref a) "set":=⟨o,ho,hx.1⟩
 have fit:=ZoI (w.params.followText "set-order") m hm
 rw [← Zds he] at fit
 have pl:(tabS (w.params.followText "set-order") m).plain=true:=by unfold tabS; split <;> rfl
 refine wpAny_pyIter_slot ty PySem.F.slot_set_iter (wpAny_call_entry PySem.F.slot_set_iter ty ZIt ?_ (PySem.F.args_set_iter_1 _))
 unfold Builtin.«frozenset.__iter__» Builtin.Frozenset.slot0 slotArgs
 simp only [List.isEmpty_nil,Bool.not_true,Bool.false_eq_true,↓reduceIte,bind_assoc,List.length_nil,bne_self_eq_false]
 unfold Builtin.Frozenset.addrOf Builtin.Frozenset.sizeOf
 refine wpAny_bind (wpAny_pure ?_)
 try dsimp only
 refine wpAny_bind (wpAny_pure (wpAny_bind (wpAny_bind (wpAny_setEntries_of ho hd fit (wpAny_pure ?_)))))
 unfold setDrawn setsByText
 refine wpAny_bind (wpAny_bind (wpAny_setState_of ho hd fit ?_))
 refine wpAny_bind (wpAny_bind (wpAny_askSetting (wpAny_pure (wpAny_pure ?_))))
 show wpAny _ _ (if (!w.params.followText "set-order" && (!(tabS (w.params.followText "set-order") m).plain && decide (es.size > 1)))=true then _ else _) _ _ _
 rw [pl]
 simp only [Bool.not_true,Bool.false_and,Bool.and_false,Bool.false_eq_true,↓reduceIte]
 refine wpAny_bind (wpAny_pure (wpAny_bind (wpAny_setEpoch_of ho hd fit ?_)))
 refine wpAny_bind (wpAny_newObj_type (wpAny_pure ⟨_,rfl,"set_iterator",_,⟨_,Heap.get?_push_size _ rfl,rfl⟩,ZtU.lookup,?_⟩) (by simp [sizeOk]; exact Zcf (by decide)))
 have e:itS w a m 0 ep = { cls:=.type "set_iterator",data:=.fields #[.int 0 0,.int 0 0,.ref a,.int (es.size:Int) 0,.int (ep:Int) 0] }:=by
  unfold itS ZFz
  rw [Zds he]
  simp
 rw [e] at h
 exact h
theorem ZGV {a m i ep:Nat} {o:Obj} {es:Array (Int × Value)} {R:Option (Value × Nat)→Shared→Prop} (ho:s.heap.get? a=some o) (hd:o.data=.set es ep (tabS (w.params.followText "set-order") m)) (he:Paired EntS es.toList (lowS m)) (hm:m < 64) (hi:i≤(lowS m).length)
  (h:R ((ordS w a ep es)[i]?.map fun e=>(e.2,if w.params.followText "set-order" = true then 0 else ZFz m (i + 1))) s):wpAny (model prog w) A (setNext a (if w.params.followText "set-order" = true then 0 else ZFz m i) i ep) R E s:=by
 have fit:=ZoI (w.params.followText "set-order") m hm
 rw [← Zds he] at fit
 have pl:(tabS (w.params.followText "set-order") m).plain=true:=by unfold tabS; split <;> rfl
 have ld:(tabS (w.params.followText "set-order") m).led = !(w.params.followText "set-order"):=by unfold tabS; split <;> rfl
 have pc:(tabS (w.params.followText "set-order") m).place=(lowS m).toArray:=by unfold tabS; split <;> rfl
 have sz:=Zds he
 have l6:=ZxS m hm
 unfold setNext setsByText
 refine wpAny_bind (wpAny_setState_of ho hd fit (wpAny_bind (wpAny_bind (wpAny_askSetting (wpAny_pure ?_)))))
 show wpAny _ _ (if w.params.followText "set-order" = true then _ else _) _ _ _
 unfold ordS at h
 cases eb:w.params.followText "set-order" with
 | true=>
  rw [eb] at h
  simp only [↓reduceIte,bne_self_eq_false,Bool.false_eq_true] at h ⊢
  unfold setWalk setsByText
  refine wpAny_bind (wpAny_bind (wpAny_setState_of ho hd fit (wpAny_bind (wpAny_bind (wpAny_askSetting (wpAny_pure ?_))))))
  show wpAny _ _ (if w.params.followText "set-order" = true then _ else _) _ _ _
  rw [eb]
  simp only [↓reduceIte]
  refine wpAny_bind (wpAny_askSetting (wpAny_pure (wpAny_pure ?_)))
  exact h
 | false=>
  rw [eb] at h
  simp only [↓reduceIte,Bool.false_eq_true] at h ⊢
  rw [eb] at pl ld pc
  show wpAny _ _ (if (!(tabS false m).plain && decide (es.size > 1))=true then _ else _) _ _ _
  rw [pl]
  simp only [Bool.not_true,Bool.false_and,Bool.false_eq_true,↓reduceIte]
  show wpAny _ _ ((if (!(tabS false m).led && !es.isEmpty)=true then _ else _) >>= _) _ _ _
  rw [ld]
  simp only [Bool.not_false,Bool.not_true,Bool.false_and,Bool.false_eq_true,↓reduceIte]
  refine wpAny_bind (wpAny_pure (wpAny_pure ?_))
  rw [pc,ZHd m hm i (by omega) hi]
  by_cases hl:i < (lowS m).length
  ·have e1:es[i]?=some es[i]:=Array.getElem?_eq_getElem (by omega)
   have e2:(lowS m).toArray[i]?=some (lowS m)[i]:=by rw [List.getElem?_toArray,List.getElem?_eq_getElem hl]
   rw [e1] at h ⊢
   rw [e2]
   have e3:ZFz m (i + 1)=(lowS m)[i] + 1:=by
    unfold ZFz
    rw [if_neg (by omega),Nat.add_sub_cancel,List.getD_eq_getElem?_getD,List.getElem?_eq_getElem hl]
    rfl
   rw [e3] at h
   exact h
  ·have e1:es[i]?=none:=Array.getElem?_eq_none (by omega)
   rw [e1] at h ⊢
   exact h
theorem ZLQ {a m i ep it:Nat} {o:Obj} {es:Array (Int × Value)} {Q:Option Value→Shared→Prop} (hit:s.heap.get? it=some (itS w a m i ep)) (ho:s.heap.get? a=some o) (hd:o.data=.set es ep (tabS (w.params.followText "set-order") m)) (he:Paired EntS es.toList (lowS m)) (hm:m < 64) (hi:i < (lowS m).length)
  (h:∀ e hp',(ordS w a ep es)[i]?=some e→hp'.get? it=some (itS w a m (i + 1) ep)→Heap.SameBut it s.heap hp'→Q (some e.2) { s with heap:=hp' }):wpAny (model prog w) A (pyNext (.ref it)) Q E s:=by
 have ty:s.TypeIs (.ref it) "set_iterator":=⟨_,hit,rfl⟩
 have fit:=ZoI (w.params.followText "set-order") m hm
 rw [← Zds he] at fit
 have pl:(tabS (w.params.followText "set-order") m).plain=true:=by unfold tabS; split <;> rfl
 have ld:(tabS (w.params.followText "set-order") m).led = !(w.params.followText "set-order"):=by unfold tabS; split <;> rfl
 have pc:(tabS (w.params.followText "set-order") m).place=(lowS m).toArray:=by unfold tabS; split <;> rfl
 have sz:=Zds he
 have l6:=ZxS m hm
 have zo:(ordS w a ep es).size=es.size:=by
  have:=(Zws (w:=w) a ep es).length_eq
  simpa using this
 obtain ⟨e,ee⟩ : ∃ e,(ordS w a ep es)[i]?=some e:=⟨_,Array.getElem?_eq_getElem (by omega)⟩
 unfold pyNext
 refine wpAny_bind (wpAny_attempt (wpAny_callSpecial?_slot (name:=Str.ofString "__next__") ty ZtU (wpAny_call_entry ZtU ty ZGa ?_ (ZH2 _))))
 unfold Builtin.«set_iterator.__next__» slotArgs
 simp only [List.isEmpty_nil,Bool.not_true,Bool.false_eq_true,↓reduceIte,bind_assoc,List.length_nil,bne_self_eq_false]
 refine wpAny_bind (wpAny_pure ?_)
 try dsimp only
 refine wpAny_bind (wpAny_fieldsOf hit rfl ?_)
 dsimp only [List.toList_toArray]
 refine wpAny_bind (wpAny_setEntries_of ho hd fit ?_)
 rw [sz]
 simp only [bne_self_eq_false,Bool.false_eq_true,↓reduceIte]
 have cs:∀ x:Nat,((x:Int)).toNat=x:=fun x=>Int.toNat_natCast x
 rw [cs,cs,cs]
 refine wpAny_bind (ZGV ho hd he hm (Nat.le_of_lt hi) ?_)
 rw [ee]
 dsimp only [Option.map]
 refine wpAny_bind (wpAny_setField_rec hit (by simp) fun a1 e1 s1=>?_)
 refine wpAny_bind (wpAny_setField_rec e1 (by simp) fun a2 e2 s2=>?_)
 refine wpAny_pure ⟨_,rfl,wpAny_pure (h e a2 ee ?_ (Heap.SameBut.trans s1 s2))⟩
 rw [e2]
 unfold itS
 simp [rawInt]
end
end L2
set_option maxRecDepth 100000
set_option maxHeartbeats 4000000
namespace L2
open PySem PySem.Spec PyProof.Rows
section
variable {prog:Program} {w:World} {A:Around} {E:Value→Shared→Prop} {s:Shared}
theorem ZOl {a m ep it:Nat} {o:Obj} {es:Array (Int × Value)} {Q:Option Value→Shared→Prop} (hh:A.handled=none) (hit:s.heap.get? it=some (itS w a m (lowS m).length ep)) (ho:s.heap.get? a=some o) (hd:o.data=.set es ep (tabS (w.params.followText "set-order") m)) (he:Paired EntS es.toList (lowS m)) (hm:m < 64)
  (h:∀ hp',Heap.ExtBut it s.heap hp'→Q none { s with heap:=hp' }):wpAny (model prog w) A (pyNext (.ref it)) Q E s:=by
 have ty:s.TypeIs (.ref it) "set_iterator":=⟨_,hit,rfl⟩
 have fit:=ZoI (w.params.followText "set-order") m hm
 rw [← Zds he] at fit
 have sz:=Zds he
 have zo:(ordS w a ep es).size=es.size:=by
  have:=(Zws (w:=w) a ep es).length_eq
  simpa using this
 have ee:(ordS w a ep es)[(lowS m).length]?=none:=Array.getElem?_eq_none (by omega)
 unfold pyNext
 refine wpAny_bind (wpAny_attempt (wpAny_callSpecial?_slot (name:=Str.ofString "__next__") ty ZtU (wpAny_call_entry ZtU ty ZGa ?_ (ZH2 _))))
 unfold Builtin.«set_iterator.__next__» slotArgs
 simp only [List.isEmpty_nil,Bool.not_true,Bool.false_eq_true,↓reduceIte,bind_assoc,List.length_nil,bne_self_eq_false]
 refine wpAny_bind (wpAny_pure ?_)
 try dsimp only
 refine wpAny_bind (wpAny_fieldsOf hit rfl ?_)
 dsimp only [List.toList_toArray]
 refine wpAny_bind (wpAny_setEntries_of ho hd fit ?_)
 rw [sz]
 simp only [bne_self_eq_false,Bool.false_eq_true,↓reduceIte]
 have cs:∀ x:Nat,((x:Int)).toNat=x:=fun x=>Int.toNat_natCast x
 rw [cs,cs,cs]
 refine wpAny_bind (ZGV ho hd he hm (Nat.le_refl _) ?_)
 rw [ee]
 dsimp only [Option.map]
 refine wpAny_bind (wpAny_setField hit rfl (by simp) ?_)
 refine wpAny_bind ?_
 simp only [newExc,newTuple]
 refine wpAny_bind (wpAny_newObj_type ?_ (by size_fits))
 refine wpAny_bind (m:=firstArgMember _ _) (wpAny_of_eq (a:=Value.none) (by first | rfl | (simp only [firstArgMember]; rfl)) (wpAny_newObj_type ?_ (by size_fits)))
 simp only [raiseNew]
 refine wpAny_bind (wpAny_handled ?_)
 rw [show A.in1.handled=none from hh]
 refine wpAny_bind (wpAny_pure (wpAny_throw ?_))
 refine wpAny_bind (wpAny_isInstance (T:="StopIteration") (b:=true) ⟨_,Heap.get?_push_size _ rfl,rfl⟩ isSubtype_stop (wpAny_pure (h _ ?_)))
 exact ((Heap.SameBut.update ..).extBut.push _).push _
theorem ZIs:entryFor table "set_iterator.__iter__" = some Builtin.«dict_keyiterator.__iter__»:=entryFor_alias (id':="dict_keyiterator.__iter__") (by kernel_rfl) rfl (by decide +kernel) (by kernel_rfl)
theorem ZGW:Slot "set_iterator" "__iter__" "set_iterator.__iter__":=
 .of (owner:="set_iterator") (n:="__iter__") (by rw [typeLookup_type,builtinLookup_eq_fast]; kernel_rfl) (by decide +kernel) (by decide +kernel) (by decide +kernel) (by first | exact .inl (by decide +kernel) | exact .inr (by decide +kernel)) (by rw [isSubtype_type]; kernel_rfl)
theorem ZKG (a:Value):argsOk "set_iterator.__iter__" ⟨[a],[]⟩ :=by unfold argsOk; kernel_rfl
theorem ZOj {a m i ep it:Nat} {Q:Value→Shared→Prop} (hit:s.heap.get? it=some (itS w a m i ep)) (q:Q (.ref it) s):wpAny (model prog w) A (pyIter (.ref it)) Q E s:=by
 have ty:s.TypeIs (.ref it) "set_iterator":=⟨_,hit,rfl⟩
 refine wpAny_pyIter_slot ty ZGW (wpAny_call_entry ZGW ty ZIs ?_ (ZKG _))
 show wpAny _ _ (ret (.ref it)) _ _ s
 exact wpAny_pure ⟨_,rfl,"set_iterator",_,ty,ZtU.lookup,q⟩
theorem ZL2 (hh:A.handled=none) {a m ep it:Nat} {o:Obj} {es:Array (Int × Value)} (ne:a ≠ it) (hd:o.data=.set es ep (tabS (w.params.followText "set-order") m)) (he:Paired EntS es.toList (lowS m)) (hm:m < 64) :
  Walks prog w A it [it,a] [it] (lowS m).length (fun i v=>∃ e,(ordS w a ep es)[i]?=some e∧v=e.2) (fun i h=>h.get? it=some (itS w a m i ep)∧h.get? a=some o) where
 sub:=fun b hb=>by rw [List.mem_singleton.mp hb]; exact List.mem_cons_self
 frame:=fun _ _ _ st k=>⟨k it List.mem_cons_self _ st.1,k a (by simp) _ st.2⟩
 item:=fun i s Q E hi st k=>ZLQ st.1 st.2 hd he hm hi fun e hp' ee h1 sb=>k e.2 hp' s.toks ⟨e,ee,rfl⟩ ⟨h1,sb.extBut _ _ ne st.2⟩ fun b o hb z=>sb.extBut b o (fun y=>hb (by rw [y]; exact List.mem_cons_self)) z
 done:=fun s Q E st k=>ZOl hh st.1 st.2 hd he hm fun hp' eb=>k hp' s.toks fun b o hb z=>eb b o (fun y=>hb (by rw [y]; exact List.mem_cons_self)) z
 self:=fun _ _ _ _ st k=>ZOj st.1 k
theorem ZNP:typeLookup (.type "set") "__len__" = pure (some (.builtin "set.__len__")):=by rw [typeLookup_type,builtinLookup_eq_fast]; kernel_rfl
theorem ZEN (hh:A.handled=none) {a m:Nat} {Q:List Value→Shared→Prop} (hS:Ztd w s.heap a m)
  (h:∀ (hp':Heap) (tk:Nat) (es:Array (Int × Value)) (ep:Nat),s.heap.objs.size < hp'.objs.size→(∀ b o,s.heap.get? b=some o→hp'.get? b=some o)→Paired EntS es.toList (lowS m)→Q ((ordS w a ep es).toList.map (·.2)) { s with heap:=hp',toks:=tk }):wpAny (model prog w) A (collect (.ref a)) Q E s:=by
 obtain ⟨o,es,ep,ho,hx,hd,he,hm⟩ :=hS
 have al:a < s.heap.objs.size:=Heap.lt_size ho
 have l6:=ZxS m hm
 unfold collect
 refine wpAny_bind (wpAny_runValue (codeAny_builtin PySem.F.entry_proto_collect ?_))
 rw [Around.under_plainId PySem.F.plain_proto_collect _]
 show wpAny _ A.in1 (newList [] >>= fun l=>again (.builtin "list.__iadd__" ⟨[l,.ref a],[]⟩)) _ _ s
 refine wpAny_bind (wpAny_newObj_type (wpAny_pure ⟨plainId_quiet PySem.F.plain_list_iadd _,codeAny_builtin PySem.F.entry_list_iadd ?_⟩))
 rw [Around.under_plainId PySem.F.plain_list_iadd _]
 have g1:(s.heap.push { cls:=.type "list",data:=.seq ([]:List Value).toArray }).get? s.heap.objs.size=some { cls:=.type "list",data:=.seq ([]:List Value).toArray }:=Heap.get?_push_size _ rfl
 have ho1:(s.heap.push { cls:=.type "list",data:=.seq ([]:List Value).toArray }).get? a=some o:=Heap.get?_push_of_some _ ho
 have z1:(s.heap.push { cls:=.type "list",data:=.seq ([]:List Value).toArray }).objs.size=s.heap.objs.size + 1:=Heap.size_push _ _
 show wpAny _ A.in1 (Builtin.List.listExtendWith (.ref s.heap.objs.size) (.ref a) (.ref s.heap.objs.size)) _ _ _
 have k1:∀ b o,s.heap.get? b=some o→(s.heap.push { cls:=.type "list",data:=.seq ([]:List Value).toArray }).get? b=some o:=fun b o e=>Heap.get?_push_of_some _ e
 generalize s.heap.push { cls:=.type "list",data:=.seq ([]:List Value).toArray } = h1 at g1 ho1 z1 k1
 have ty:Shared.TypeIs { s with heap:=h1 } (.ref a) "set":=⟨o,ho1,hx.1⟩
 unfold Builtin.List.listExtendWith
 refine wpAny_bind (wpAny_typeOf ty ?_)
 have q1:Builtin.List.listSameRef (.ref s.heap.objs.size) (.ref a)=false:=by simp [Builtin.List.listSameRef]; exact Nat.ne_of_gt al
 have q2:(Value.type "set" == Value.type "list")=false:=by decide
 have q3:(Value.type "set" == Value.type "tuple")=false:=by decide
 simp only [q1,q2,q3,Bool.or_false,Bool.false_eq_true,if_false]
 refine wpAny_bind (ZLO (s:={ s with heap:=h1 }) ho1 hx hd he hm ?_)
 have it1:(h1.push (itS w a m 0 ep)).get? h1.objs.size=some (itS w a m 0 ep):=Heap.get?_push_size _ rfl
 have g2:(h1.push (itS w a m 0 ep)).get? s.heap.objs.size=some { cls:=.type "list",data:=.seq ([]:List Value).toArray }:=Heap.get?_push_of_some _ g1
 have ho2:(h1.push (itS w a m 0 ep)).get? a=some o:=Heap.get?_push_of_some _ ho1
 have k2:∀ b o,s.heap.get? b=some o→(h1.push (itS w a m 0 ep)).get? b=some o:=fun b o e=>Heap.get?_push_of_some _ (k1 b o e)
 dsimp only
 generalize h1.push (itS w a m 0 ep)=h2 at it1 g2 ho2 k2
 have ty2:Shared.TypeIs { s with heap:=h2 } (.ref a) "set":=⟨o,ho2,hx.1⟩
 refine wpAny_bind (wpAny_holding ?_)
 unfold Builtin.List.listLengthHint
 refine wpAny_bind (wpAny_specialOf ty2 ZNP ?_)
 have sp:splitId "set.__len__" = some ("set","__len__"):=by kernel_rfl
 dsimp only
 rw [sp]
 dsimp only
 refine wpAny_bind (wpAny_isInstance ty2 sub_set_self ?_)
 simp only [Bool.not_true,Bool.false_eq_true,↓reduceIte]
 rw [if_pos (by decide +kernel)]
 refine wpAny_bind (wpAny_typeOf ty2 (wpAny_pure ?_))
 rw [if_pos (by decide +kernel)]
 refine wpAny_bind (wpAny_rule (wpAny_bind ?_))
 show wpAny _ A.in1 (updateSeq s.heap.objs.size (·.push .none) >>= fun _=>updateSeq s.heap.objs.size (·.pop)) _ _ _
 refine wpAny_bind (wpAny_updateSeq g2 rfl ?_)
 have g3:=Heap.get?_update_self (Obj.mapSeq (·.push Value.none)) g2 rfl
 refine wpAny_updateSeq g3 rfl ?_
 have g4:=Heap.get?_update_self (Obj.mapSeq (·.pop)) g3 rfl
 have k4:∀ b o,b ≠ s.heap.objs.size→h2.get? b=some o→((h2.update s.heap.objs.size (Obj.mapSeq (·.push Value.none))).update s.heap.objs.size (Obj.mapSeq (·.pop))).get? b=some o:=
  fun b o hb e=>(Heap.get?_update_other _ _ (Ne.symm hb)).trans ((Heap.get?_update_other _ _ (Ne.symm hb)).trans e)
 have W:=(ZL2 (prog:=prog) (A:=A.in1) (it:=h1.objs.size) (o:=o) (by simpa using hh) (show a ≠ h1.objs.size by rw [z1]; exact Nat.ne_of_lt (Nat.lt_succ_of_lt al)) hd he hm).toS
 have nS:s.heap.objs.size ∉ [h1.objs.size,a]:=by
  rw [z1]
  simp only [List.mem_cons,List.not_mem_nil,or_false,not_or]
  exact ⟨Nat.ne_of_lt (Nat.lt_succ_self _),Nat.ne_of_gt al⟩
 have ni:h1.objs.size ≠ s.heap.objs.size:=by rw [z1]; exact Nat.succ_ne_self _
 refine wpAny_pure ⟨plainId_quiet PySem.F.plain_extend_loop _,codeAny_extend_loopS W (Zcf (by omega)) _ nS _ (lowS m).length 0 _ _ _ rfl (Nat.zero_le _) ⟨k4 _ _ ni it1,k4 _ _ (Nat.ne_of_lt al) ho2⟩ g4 (ItemsOf.nil _) fun s' acc c mv gS ha=>?_⟩
 obtain ⟨hp',g',d',tk',os'⟩ :=s'
 obtain rfl:g'=s.gens:=mv.gens
 obtain rfl:d'=s.drawn:=mv.drawn
 obtain rfl:os'=s.os:=mv.os
 show wpAny _ A (load s.heap.objs.size >>= _) _ _ _
 refine wpAny_bind (wpAny_load gS (wpAny_pure ?_))
 have zo:(ordS w a ep es).size=es.size:=by
  have:=(Zws (w:=w) a ep es).length_eq
  simpa using this
 have ea:acc.toList=(ordS w a ep es).toList.map (·.2):=by
  obtain ⟨a1,a2⟩ :=ha
  have sz:=Zds he
  apply List.ext_getElem?
  intro i
  rw [Array.getElem?_toList,List.getElem?_map,Array.getElem?_toList]
  by_cases hi:i < acc.size
  ·obtain ⟨e,e1,e2⟩ :=a2 i _ (Array.getElem?_eq_getElem hi)
   rw [Array.getElem?_eq_getElem hi,e1,e2]
   rfl
  ·rw [Array.getElem?_eq_none (by omega),Array.getElem?_eq_none (by omega)]
   rfl
 show Q acc.toList _
 rw [ea]
 refine h hp' tk' es ep (Heap.lt_size gS) (fun b o e=>?_) he
 have bl:=Heap.lt_size e
 refine mv.heap b o ?_ (k4 b o (Nat.ne_of_lt bl) (k2 b o e))
 rw [z1]
 simp only [List.mem_cons,List.not_mem_nil,or_false,not_or]
 exact ⟨Nat.ne_of_lt bl,Nat.ne_of_lt (Nat.lt_succ_of_lt bl)⟩
end
end L2
set_option maxRecDepth 100000
set_option maxHeartbeats 4000000
namespace L2
open PySem PySem.Spec PyProof.Rows
section
variable {prog:Program} {w:World} {A:Around} {E:Value→Shared→Prop} {s:Shared}
theorem ZGb:∀ {es:List (Int × Value)} {ks:List Nat},Paired EntS es ks→∀ e ∈ es,∃ t,e.2=.int e.1 t
 | _,_,.nil,e,he=>by cases he
 | _,_,.cons r q,e,he=>by
  rcases List.mem_cons.mp he with rfl | he
  ·obtain ⟨h1,t,h2⟩ :=r
   exact ⟨t,by rw [h1]; exact h2⟩
  ·exact ZGb q e he
theorem ZIQ:∀ l:List (Int × Value),(∀ e ∈ l,∃ t,e.2=.int e.1 t)→IntsAre (l.map (·.2)) (l.map (·.1))
 | [],_=>.nil
 | e :: l,h=>by
  obtain ⟨t,ht⟩ :=h e List.mem_cons_self
  rw [List.map_cons,List.map_cons,ht]
  exact .cons _ t (ZIQ l fun x hx=>h x (List.mem_cons_of_mem _ hx))
def ZIP (m:Nat):List Int:=(lowS m).map fun i:Nat=>(i:Int)
theorem ZK6:∀ m,m < 64→(ZIP m).Pairwise (·≤·):=by decide +kernel
theorem ZHD (hh:A.handled=none) {a m:Nat} {Q:Value→Shared→Prop} (hS:Ztd w s.heap a m)
  (h:∀ (hp':Heap) (tk l c:Nat) (out:Array Value),(∀ b o,s.heap.get? b=some o→hp'.get? b=some o)→s.heap.objs.size≤l→hp'.get? l=some (seqObj "list" out c)→IntsAre out.toList (ZIP m)→Q (.ref l) { s with heap:=hp',toks:=tk }) :
  wpAny (model prog w) A (call (.builtin "sorted") [.ref a]) Q E s:=by
 have hm:m < 64:=by obtain ⟨_,_,_,_,_,_,_,hm⟩ :=hS; exact hm
 have l6:=ZxS m hm
 refine Calls.call_function_entry kind_sorted plain_sorted entry_sorted (args_sorted1 _) ?_
 unfold Builtin.«sorted»
 refine wpAny_bind (m:=checkCount "sorted" 1 1 _) (wpAny_pure (wpAny_bind (ZEN (A:=A.in1) (by simpa using hh) hS fun hp' tk es ep zz kp he=>?_)))
 have pm:=Zws (w:=w) a ep es
 have hI:=ZIQ (ordS w a ep es).toList fun e z=>ZGb he e (pm.mem_iff.mp z)
 have pn:((ordS w a ep es).toList.map (·.1)).Perm (ZIP m):=by
  have:=pm.map (·.1)
  rw [Zxr he] at this
  exact this
 have ln:((ordS w a ep es).toList.map (·.2)).length≤6:=by
  rw [List.length_map,pm.length_eq,Paired.length he]
  exact l6
 generalize (ordS w a ep es).toList.map (·.2)=vs at hI ln ⊢
 generalize (ordS w a ep es).toList.map (·.1)=ns at hI pn
 have sz:s.heap.objs.size≤hp'.objs.size:=Nat.le_of_lt zz
 refine wpAny_bind (wpAny_newList ?_ (Zcf (by omega)))
 have g1:(hp'.push (seqObj "list" vs.toArray 0)).get? hp'.objs.size=some (seqObj "list" vs.toArray 0):=Heap.get?_push_size _ rfl
 show wpAny _ _ _ _ _ { s with heap:=hp'.push (seqObj "list" vs.toArray 0),toks:=tk }
 refine wpAny_bind (wpAny_holding (wpAny_call_entry slot_list_sort ⟨_,g1,rfl⟩ entry_list_sort (list_sort_tree g1 hI (by omega) fun out ns' a1 a2 a3=>⟨_,rfl,?_⟩) (args_list_sort _)))
 refine wpAny_pure ⟨_,rfl,?_⟩
 obtain ⟨c,ec⟩ :=sortedHeap_at (out:=out) g1
 have en:ns'=ZIP m:=List.Perm.eq_of_pairwise (fun x y _ _ h1 h2=>Int.le_antisymm h1 h2) a3 (ZK6 m hm) (a2.trans pn)
 rw [en] at a1
 refine h _ tk hp'.objs.size c out (fun b o e=>?_) sz ec a1
 have bl:=Heap.lt_size (kp b o e)
 rw [sortedHeap_old (Nat.ne_of_lt bl) (by rw [size_push']; exact Nat.lt_succ_of_lt bl)]
 exact Heap.get?_push_of_some _ (kp b o e)
end
theorem ZGB {val:Nat→Nat}:∀ (n h:Nat),(metS val n).testBit h=true ↔ ∃ i,i < n∧val i=h
 | 0,h=>by unfold metS; simp
 | n + 1,h=>by
  unfold metS
  rw [Nat.testBit_or,Bool.or_eq_true,ZGB n h,Nat.testBit_two_pow]
  constructor
  ·rintro (⟨i,hi,e⟩ | e)
   ·exact ⟨i,by omega,e⟩
   ·exact ⟨n,by omega,of_decide_eq_true e⟩
  ·rintro ⟨i,hi,e⟩
   rcases (show i < n∨i=n by omega) with z | rfl
   ·exact .inl ⟨i,z,e⟩
   ·exact .inr (decide_eq_true e)
def dedS (ks:List Nat):List Nat:=(List.range 6).filter fun i=>decide (i ∈ ks)
theorem ZNU {ks:List Nat}:lowS (metS (fun i=>ks.getD i 0) ks.length)=dedS ks:=by
 unfold lowS dedS
 apply List.filter_congr
 intro i _
 rw [Bool.eq_iff_iff,ZGB,decide_eq_true_iff]
 constructor
 ·rintro ⟨j,hj,e⟩
  rw [List.getD_eq_getElem?_getD,List.getElem?_eq_getElem hj] at e
  rw [← e]
  exact List.getElem_mem hj
 ·intro h
  obtain ⟨j,hj,e⟩ :=List.getElem_of_mem h
  exact ⟨j,hj,by rw [List.getD_eq_getElem?_getD,List.getElem?_eq_getElem hj]; exact e⟩
section
variable {X:Cx}
def ZKD (K:PySem.W.Frag) (x:V) (H:Hp) (Q:VK):Prop:=∃ p ks,x=.ref p∧SqL K H p (ks.map fun k:Nat=>V.int (k:Int))∧(∀ k ∈ ks,k < 6)∧∀ l,H l=none→Q (.ref l) (upd H l (.lst ((dedS ks).map fun k:Nat=>V.int (k:Int))))
def ZG3 (K:PySem.W.Frag) (te:TE):TE:=fun σ H Q=>te σ H fun x H1=>ZKD K x H1 Q
theorem ZEd:∀ {ks:List Nat} {us:List Value},Vals (ks.map fun k:Nat=>V.int (k:Int)) us→∀ (i:Nat) (v:Value),us[i]?=some v→∃ t,v=.int ((ks.getD i 0:Nat):Int) t
 | [],_,r,i,v,h=>by cases r; simp at h
 | k :: ks,_,r,i,v,h=>by
  cases r with
  | cons r rr=>
   cases i with
   | zero=>
    obtain ⟨t,e⟩ :=r
    refine ⟨t,?_⟩
    have:_=v:=Option.some.inj h
    rw [← this,e]
    rfl
   | succ i=>exact ZEd rr i v h
theorem ZCQ:∀ {us:List Value} {ks:List Nat},IntsAre us (ks.map fun i:Nat=>(i:Int))→Vals (ks.map fun k:Nat=>V.int (k:Int)) us
 | _,[],h=>by cases h; exact .nil
 | _,k :: ks,h=>by
  cases h with
  | cons n t h=>exact .cons ⟨t,rfl⟩ (ZCQ h)
theorem ZHz {e:Expr} {te:TE} {p p2 pos pos2:Pos} (hc:X.calm=true) (hg:Gl X "sorted") (hm:X.mg "sorted" = none) (hg2:Gl X "set") (hm2:X.mg "set" = none) (ha:PE X e te)
  (he:starEach [e] X.env=(false,eval e X.env) :: starEach [] X.env:=by rfl) :
  PE X (.Call (.Name "sorted" p) [.Call (.Name "set" p2) [e] [] pos2] [] pos) (ZG3 X.K te):=by
 intro pins s σ H Q I h
 refine wpAny_Call_Name_kw (Zvx I hg hm ZH9 (PyProof.Rows.callWith_builtin1 ?_ rfl rfl))
 show wpAny _ _ (spliced ((false,eval (.Call (.Name "set" p2) [e] [] pos2) X.env) :: backTo pos (starEach [] X.env))) _ _ s
 refine Calls.spliced_cons (wpAny_Call_Name_kw (Zvx I hg2 hm2 ZOK ?_))
 let R:List V→Hp→Prop:=fun vs H1=>match vs with | [x]=>ZKD X.K x H1 Q | _=>False
 have h':Zs8 te tNil σ H R:=h
 refine PyProof.Rows.callWith_type1 (thn (Zaa ha Zaf he pos2 pins s σ H R I h') fun us s1 ⟨vs,H1,I1,r1,q1⟩ =>?_) he rfl
 match vs,r1,q1 with
 | [x],r1,q1=>
  obtain ⟨l,ks,rfl,hq,h6,q⟩ :=q1
  obtain ⟨u,rfl,rx⟩ :=ZFD r1
  cases rx
  obtain ⟨its,rv,pl,hz⟩ :=I1.list hq
  have hlen:=rv.length
  rw [List.length_map] at hlen
  have v6:∀ i,ks.getD i 0 < 6:=fun i=>by
   rw [List.getD_eq_getElem?_getD]
   cases z:ks[i]? with
   | none=>exact Nat.zero_lt_succ _
   | some k=>exact h6 k (List.mem_of_getElem? z)
  refine ZKN (val:=fun i=>ks.getD i 0) (I.ok.hd hc) pl.isList (fun i v z=>ZEd rv i v (by simpa using z)) v6 fun hp' tk S' kp=>?_
  refine Calls.spliced_nil ?_
  have e1:its.toArray.size=ks.length:=by rw [List.size_toArray]; exact hlen.symm
  rw [e1] at S'
  refine ZHD (s:={ s1 with heap:=hp',toks:=tk }) (I.ok.hd hc) S' fun hp2 tk2 l2 c out kp2 z2 ec a1=>?_
  have ol:s1.heap.objs.size≤l2:=by
   obtain ⟨o,_,_,ho,_⟩ :=S'
   exact Nat.le_trans (Nat.le_of_lt (Heap.lt_size ho)) z2
  have hf:H1 l2=none:=I1.hok.fresh ol
  unfold ZIP at a1
  rw [ZNU] at a1
  have zl:((dedS ks).map fun k:Nat=>V.int (k:Int)).length≤sizeLine:=by
   rw [List.length_map]
   unfold dedS
   exact Zcf (Nat.le_trans (List.length_filter_le _ _) (by simp))
  refine ⟨.ref l2,upd H1 l2 (.lst ((dedS ks).map fun k:Nat=>V.int (k:Int))),I1.laid (t':=tk2) (fun b o z=>kp2 b o (kp b o (Heap.lt_size z) z)) ol (show Zd8 X.prog X.w _ hp2 l2 (.lst _) from ⟨zl,out.toList,c,ZCQ a1,by rw [ec]⟩),rfl,q l2 hf⟩
theorem ZCN {te:TE} {σ:St} {H:Hp} {Q:VK} {K:PySem.W.Frag} (h:te σ H fun x H1=>ZKD K x H1 Q):ZG3 K te σ H Q:=h
theorem ZIW {K:PySem.W.Frag} {H:Hp} {Q:VK} {p:Addr} {ks:List Nat} (e:H p=some (.lst (ks.map fun k:Nat=>V.int (k:Int)))) (h6:∀ k ∈ ks,k < 6) (k:∀ (l:Addr) (H':Hp),Same H H'→H l=none→H' l=some (.lst ((dedS ks).map fun k:Nat=>V.int (k:Int)))→Q (.ref l) H'):ZKD K (.ref p) H Q:=
 ⟨p,ks,rfl,SqL.of e,h6,fun l hl=>k l _ (ZgJ hl _) hl ZaV⟩
end
end L2
set_option maxRecDepth 100000
set_option maxHeartbeats 4000000
namespace L2
open PySem PySem.Spec PyProof.Rows
section
variable {X:Cx} {k k':Nat} {x:Str} {ps:List Str} {sp:Sp} {e:Expr} {es:List Expr} {t:TA} {pos p:Pos} {E:XK}
def tFnP (sp:Sp) (E:XK) (t:TA):TE:=fun σ H Q=>t σ H fun vs H1=>sp vs H1 Q E
theorem ZMW (hp:ZoV (CX1 X.prog X.w) X E) (G:FnS1 X.prog X.w X.K X.mg X.base k x ps sp) (hr:Room k' X.A) (ha:PA X (e :: es) t) (hk:k≤k':=by omega) (hg:Gl X x:=by rfl) (hdb:(x == ("__debug__" : Str))=false:=by decide)
  (he:starEach (e :: es) X.env=(false,eval e X.env) :: starEach es X.env:=by rfl) (hpl:(backTo pos (starEach es X.env)).any (·.1)=false:=by rfl):PE X (.Call (.Name x p) (e :: es) [] pos) (tFnP sp E t):=by
 obtain ⟨f,fd,F,hb,kp,hm⟩ :=G
 have z:=ZFm (p:=p) (pos:=pos) F (hr.mono hk) hg hm kp hb .nil hp ha hdb he hpl
 intro pins s σ H Q I h
 refine z pins s σ H Q I ?_
 show t σ H fun vs H1=>sp (vs ++ []) H1 Q E
 simp only [List.append_nil]
 exact h
theorem ZQs {σ:St} {H:Hp} {Q:VK} (h:t σ H fun vs H1=>sp vs H1 Q E):tFnP sp E t σ H Q:=h
end
def isTx (z:Str):Value→Bool
 | .str a _=>a == z
 | _=>false
section
variable {X:Cx}
def ZJT:V→List V→Hp→VK→Prop:=fun x vs H Q=>∃ (l:Addr) (ns:List Str) (z:Str) (j:Nat),x=.ref l∧vs=[.str z]∧H l=some (.lst (ns.map V.str))∧ns[j]?=some z∧(∀ m,m < j→ns[m]? ≠ some z)∧j < 1000000∧Q (.int (j:Int)) H
theorem ZLm:MtM X "list.index" ZJT:=by
 intro pins s σ H x vs v us Q I rx rv h
 obtain ⟨l,ns,z,j,rfl,rfl,hH,hj,hno,hz,q⟩ :=h
 cases rx
 obtain ⟨u,rfl,ru⟩ :=rv.one
 obtain ⟨tu,rfl⟩ :=(show ∃ t,u=Value.str z t from ru)
 obtain ⟨_,its,n,r,hl,e⟩ :=I.lstM hH
 have at':∀ m (hm:m < its.toArray.size),∃ a t,ns[m]?=some a∧its.toArray[m]=Value.str a t:=fun m hm=>by
  rw [List.size_toArray] at hm
  have hn:m < ns.length:=by
   have:=r.length
   rw [List.length_map] at this
   omega
  obtain ⟨w',hw,rw'⟩ :=r.get (i:=m) (x:=V.str ns[m]) (by rw [List.getElem?_map,List.getElem?_eq_getElem hn]; rfl)
  obtain ⟨t,ht⟩ :=(show ∃ t,w'=Value.str ns[m] t from rw')
  refine ⟨ns[m],t,List.getElem?_eq_getElem hn,?_⟩
  rw [List.getElem?_eq_getElem hm] at hw
  rw [List.getElem_toArray,Option.some.inj hw,ht]
 have hjl:j < its.toArray.size:=by
  have h1:=(List.getElem?_eq_some_iff.mp hj).1
  have:=r.length
  rw [List.length_map] at this
  rw [List.size_toArray]
  omega
 refine call_meets F.slot_list_index ⟨_,e,rfl⟩ F.entry_list_index (F.args_list_index_2 _ _) (MeetsSeq.list_index l its.toArray n (.str z tu) (isTx z) (fun y hy=>?_) j hjl (by omega) ?_ (fun m hm hlt=>?_)) ⟨e,⟨.int (j:Int),H,I.tok _,⟨_,rfl⟩,q⟩⟩
 ·obtain ⟨m,hm,rfl⟩ :=Array.mem_iff_getElem.mp hy
  obtain ⟨a,t,_,e2⟩ :=at' m hm
  rw [e2]
  exact eqGives_str a z t tu
 ·obtain ⟨a,t,h1,e2⟩ :=at' j hjl
  rw [e2]
  rw [hj] at h1
  cases h1
  show (z == z)=true
  exact beq_self_eq_true z
 ·obtain ⟨a,t,h1,e2⟩ :=at' m hm
  rw [e2]
  show (a == z)=false
  have ne:a ≠ z:=fun y=>hno m hlt (by rw [h1,y])
  exact beq_false_of_ne ne
end
section
variable {H:Hp} {Q:VK}
theorem ZNA {l:Addr} {ns:List Str} {z:Str} {j:Nat} (h:H l=some (.lst (ns.map V.str))) (hj:ns[j]?=some z) (hno:∀ m,m < j→ns[m]? ≠ some z) (hz:j < 1000000) (q:Q (.int (j:Int)) H):ZJT (.ref l) [.str z] H Q:=⟨l,ns,z,j,rfl,rfl,h,hj,hno,hz,q⟩
end
end L2
set_option maxRecDepth 100000
set_option maxHeartbeats 4000000
namespace L2
open PySem PySem.Spec PyProof.Rows
def PEt (X:Cx) (e:Expr) (t:TE):Prop:=∀ (pins:List (Addr × Obj)) (s:Shared) (σ:St) (H:Hp) (Q:VK),Inv X pins σ H s→0 < s.toks→t σ H Q→wpAny (model X.prog X.w) X.A (eval e X.env) (EP X pins σ Q) X.xe s
def ZQi (to:TE) (y z:Str):TE:=fun σ H Q=>to σ H fun v H1=>∃ x:Str,v=.str x∧(y == z)=false∧x.length + (x.length + 1) * z.length≤16777216∧Q (.str (Txt.replace x y z)) H1
section
variable {X:Cx}
theorem ZPN {e:Expr} {t:TE} (h:PE X e t):PEt X e t:=fun pins s σ H Q I _ q=>h pins s σ H Q I q
theorem ZJM {o:Expr} {to:TE} {y z:Str} {i j:Nat} {p q ap cp:Pos} (ho:PEt X o to)
  (hbase:attributeBase o "replace" X.env (eval o X.env)=eval o X.env:=by rfl)
  (hfew:((backTo cp (starEach [.Constant (.str y) i p,.Constant (.str z) j q] X.env)).all (fun x=>!x.1) && (backToKw cp (keywordEach [] X.env)).all (fun x=>x.1.isSome)
   && decide ([Expr.Constant (.str y) i p,.Constant (.str z) j q].length + ([]:List Keyword).length + (if ([]:List Keyword).isEmpty then 0 else 1) < 30))=true:=by rfl)
  (hline:(ap.endLine == cp.line)=true:=by rfl) (h1:starEach [.Constant (.str y) i p,.Constant (.str z) j q] X.env=[(false,eval (.Constant (.str y) i p) X.env),(false,eval (.Constant (.str z) j q) X.env)]:=by rfl) :
  PEt X (.Call (.Attribute o "replace" ap) [.Constant (.str y) i p,.Constant (.str z) j q] [] cp) (ZQi to y z):=by
 intro pins s σ H Q I htk h
 refine wpAny_Call_method_late hbase hfew hline rfl (wpAny_mono (wpAny_toks_of (n:=1) htk (ho pins s σ H _ I htk h)) (fun v s1 hv=>?_) fun _ _ y=>y.2)
 obtain ⟨tk1,w',H1,I1,r1,x,rfl,hz,hlen,q1⟩ :=hv
 obtain ⟨t,rfl⟩ :=r1
 obtain ⟨t1,t2⟩ :=ZG5 (T:="str") I1 (x:=.str x) ⟨t,rfl⟩ tyS
 refine ⟨"str","str.replace",F.plainAttrs_str,F.slot_str_replace,F.type_str_replace,t1,t2,?_⟩
 rw [h1]
 refine Calls.callWith_builtin rfl (Calls.evalArgs_plain (Calls.spliced_cons (Calls.Constant_str (k:=i) (pos:=p) (Calls.spliced_cons (Calls.Constant_str (k:=j) (pos:=q) (Calls.spliced_nil ?_))))))
 refine SC.replace (Nat.ne_of_gt tk1) (Nat.succ_ne_zero _) (Nat.ne_of_lt (Nat.lt_succ_self _)) hz hlen fun t' k'=>?_
 exact ⟨.str (Txt.replace x y z),H1,I1.tok k',⟨t',rfl⟩,q1⟩
theorem ZOd {e:Expr} {t:TE} {pos:Pos} (h:PEt X e t):PSt X (.Return (some e) pos) (tRet t):=fun pins s σ H D I htk q=>wpAny_Return_some (thn (h pins s σ H _ I htk q) fun u s1 ⟨v,H1,I1,r,z⟩ =>⟨v,σ,H1,I1,r,z⟩)
theorem ZLD {st:Stmt} {t:TS} (h:PSt X st t):PSst X [st] t:=by
 intro pins s σ H D I htk q
 refine wpAny_execs_cons (thn (h pins s σ H D I htk q) fun f s1 q=>?_)
 cases f with
 | next=>exact wpAny_execs_nil q
 | ret v=>exact q
 | brk=>exact q
 | cont=>exact q
theorem ZPe {to:TE} {y z:Str} {σ:St} {H:Hp} {Q:VK} (h:to σ H fun v H1=>∃ x:Str,v=.str x∧(y == z)=false∧x.length + (x.length + 1) * z.length≤16777216∧Q (.str (Txt.replace x y z)) H1):ZQi to y z σ H Q:=h
end
section
variable {X:Cx}
def ZQK (K:PySem.W.Frag):List V→Hp→VK→Prop:=fun xs H Q=>∃ (p:Addr) (ns:List Int),xs=[.ref p]∧SqL K H p (ns.map V.int)∧0 < ns.length∧∀ M:Int,Q (.int M) H
theorem ZIe (hc:X.calm=true):ZlT X (.builtin "max") (ZQK X.K):=by
 intro pins s σ H xs us Q I r h
 obtain ⟨p,ns,rfl,hq,hn,q⟩ :=h
 cases r with
 | cons r rr=>
  cases rr
  cases r
  obtain ⟨its,rv,pl,hz⟩ :=I.list hq
  obtain ⟨zs,e,en⟩ :=ZxD rv
  have pl':s.heap.IsList p (intItems zs.toArray):=by
   have e':intItems zs.toArray=its.toArray:=by rw [e]; simp [intItems]
   rw [e']; exact pl.isList
  have hsz:0 < zs.toArray.size:=by
   rw [List.size_toArray]
   have:=congrArg List.length en
   rw [List.length_map] at this
   omega
  refine max_intList (I.ok.hd hc) pl' hsz fun v h' tk hv hk=>?_
  obtain ⟨t,rfl⟩ :=intItems_at hv
  exact ⟨.int _,H,I.kept hk,⟨t,rfl⟩,q _⟩
def ZQL:R2:=fun x y H Q=>ZOe x y H Q∨ZPU x y H Q
theorem ZFj:OpR X (binaryOp .Mult) ZQL:=OpR.or Zjj ZN6
end
end L2
open PySem L2
local macro_rules | `(tactic| walk_at "side") => `(tactic| first | omega | (show (_ : Int) < _; omega) | exact ⟨by omega, by omega⟩ | exact ⟨by omega, by omega, by decide⟩)
local macro_rules | `(tactic| walk_at "rd1") => `(tactic| first
 | (with_reducible first | refine ZAk ?_ | refine ZOZ ?_ | refine i_op ?_ | refine i_c ?_ | refine ZMo ?_ | refine ZPb ?_ | refine ZO6 ?_ | refine ZPg ?_ | refine i_fn ?_ | refine i_cb ?_ | refine ZMI ?_ | refine ZO2 ?_ | refine ZO3 ?_ | refine ZMJ ?_ | refine i_dy ?_ | refine i_mk ?_ | refine ZO4 ?_ | refine ZMH ?_ | refine ZMq ?_ | refine ZMD ?_ | refine i_retN ?_ | refine i_brk ?_ | refine i_cont ?_ | refine i_un ?_ | refine ZOY ?_ | refine i_or ?_ | refine ZPc ?_ | refine i_andV ?_ | refine i_orV ?_ | refine ZMF ?_ | refine i_if ?_ | refine ZPh ?_ | refine ZO7 ?_ | refine i_bm ?_ | refine ZO0 ?_ | refine i_sl ?_ | refine ZMG ?_ | refine ZGk ?_ | refine ZIL ?_ | refine i_forR2 ?_ | refine i_forR3 ?_ | refine i_compR3 ?_ | refine ZCM ?_ | refine ZCN ?_ | refine ZMu ?_ | refine i_forE ?_ | refine i_forEX ?_ | refine ZGj ?_ | refine i_forD ?_ | refine i_compD ?_ | refine i_compS2 ?_ | refine i_frzE ?_ | refine i_thawF ?_ | refine i_forK ?_ | refine i_compK ?_ | refine i_dpopT ?_ | refine i_dget ?_ | refine i_thawR ?_ | refine i_fmtI ?_ | refine ZO1 ?_ | refine ZQs ?_ | refine ZPe ?_ | refine i_listrng ?_ | refine i_frz ?_ | refine i_addF ?_ | refine i_forZ ?_ | refine i_forV ?_ | refine i_bitlen ?_ | refine ZII ?_ | refine i_truI ?_ | refine ZGi ?_ | refine i_compR2 ?_ | refine ZIJ ?_ | refine ZME ?_ | refine ZPd ?_ | refine ZMn ?_ | refine i_rU ?_ | refine ZMr ?_ | refine ZMs ?_ | refine i_eqAB ?_ | refine ZMB ?_ | refine ZMC ?_ | refine ZMA ?_ | refine i_fs ?_ | refine i_gsub ?_ | refine i_jc ?_ | refine ZO5 ?_ | refine ZMt ?_ | refine ZNw ?_ | refine ZNx ?_ | refine i_eqB ?_ | refine ZND ?_ | refine ZNE ?_ | refine ZNC ?_ | refine i_intI ?_ | refine ZMv ?_ | refine ZNB ?_ | refine ZO8 ?_)
 | ((with_reducible refine ZMz ?_); (try dsimp only [List.set_cons_succ,List.set_cons_zero]))
 | ((with_reducible refine' ZPj ?hv ?_); (case hv=>exact rfl))
 | ((with_reducible refine i_rI ?hc ?_); (case hc=>walk_at "side"))
 | ((with_reducible refine' ZMy ?hc ?_); (case hc=>assumption))
 | ((with_reducible refine' ZMx ?hc ?_); (case hc=>assumption))
 | ((with_reducible refine' i_lenT ?hc ?_); (case hc=>assumption))
 | ((with_reducible refine' ZMw ?ht ?he ?_); (case ht=>first | exact TyOf.bl _ | exact TyOf.int _ | exact TyOf.str _ | exact TyOf.non | exact TyOf.lst (by assumption) | exact TyOf.tup (by assumption)); (case he=>first | exact ZGt _ _ | exact Zvw _ | exact kit_bool_int _ | exact kit_str_bool _ | exact kit_str_int _ | exact kit_list_int _ | exact kit_list_bool _ | exact kit_none_int _ | exact kit_none_list _ | exact kit_none_str _ | exact kit_none_tuple _ | exact kit_list_tuple _ | exact kit_tuple_list _ | exact kit_str_list _ | exact kit_int_str _ | exact kit_int_list _ | exact kit_bool_str _ | exact kit_bool_list _ | exact kit_int_tuple _ | exact kit_str_tuple _ | exact kit_bool_tuple _ | exact kit_tuple_int _ | exact kit_tuple_bool _ | exact kit_tuple_str _ | exact kit_list_str _ | exact kit_none_bool _)))
local macro_rules | `(tactic| walk_at "rs1") => `(tactic| first
 | (with_reducible first | refine ZOZ ?_ | refine i_op ?_ | refine i_c ?_ | refine ZMo ?_ | refine ZPb ?_ | refine ZO6 ?_ | refine ZPg ?_ | refine i_fn ?_ | refine i_cb ?_ | refine ZMI ?_ | refine ZO2 ?_ | refine ZO3 ?_ | refine ZMJ ?_ | refine i_dy ?_ | refine i_mk ?_ | refine ZO4 ?_ | refine ZMH ?_ | refine ZMq ?_ | refine ZMD ?_ | refine i_retN ?_ | refine i_brk ?_ | refine i_cont ?_ | refine i_un ?_ | refine ZOY ?_ | refine i_or ?_ | refine ZPc ?_ | refine i_andV ?_ | refine i_orV ?_ | refine ZMF ?_ | refine i_if ?_ | refine ZPh ?_ | refine ZO7 ?_ | refine i_bm ?_ | refine ZO0 ?_ | refine i_sl ?_ | refine ZMG ?_ | refine ZGk ?_ | refine ZIL ?_ | refine i_forR2 ?_ | refine i_forR3 ?_ | refine i_compR3 ?_ | refine ZCM ?_ | refine ZCN ?_ | refine ZMu ?_ | refine i_forE ?_ | refine i_forEX ?_ | refine ZGj ?_ | refine i_forD ?_ | refine i_compD ?_ | refine i_compS2 ?_ | refine i_frzE ?_ | refine i_thawR ?_ | refine i_fmtI ?_ | refine ZO1 ?_ | refine i_listrng ?_ | refine i_frz ?_ | refine i_addF ?_ | refine i_forZ ?_ | refine i_forV ?_ | refine i_bitlen ?_ | refine ZII ?_ | refine i_truI ?_ | refine ZGi ?_ | refine i_compR2 ?_ | refine ZIJ ?_ | refine ZME ?_ | refine ZPd ?_ | refine ZMn ?_ | refine i_rU ?_ | refine ZMr ?_ | refine ZMs ?_ | refine i_eqAB ?_ | refine ZMB ?_ | refine ZMC ?_ | refine ZMA ?_ | refine i_fs ?_ | refine i_gsub ?_ | refine i_jc ?_ | refine ZO5 ?_ | refine ZMt ?_ | refine ZNw ?_ | refine ZNx ?_ | refine i_eqB ?_ | refine ZND ?_ | refine ZNE ?_ | refine ZNC ?_ | refine i_intI ?_ | refine ZMv ?_ | refine ZNB ?_ | refine ZO8 ?_)
 | ((with_reducible refine ZMz ?_); (try dsimp only [List.set_cons_succ,List.set_cons_zero]))
 | ((with_reducible refine' ZPj ?hv ?_); (case hv=>exact rfl))
 | ((with_reducible refine i_rI ?hc ?_); (case hc=>walk_at "side"))
 | ((with_reducible refine' ZMy ?hc ?_); (case hc=>assumption))
 | ((with_reducible refine' ZMx ?hc ?_); (case hc=>assumption))
 | ((with_reducible refine' i_lenT ?hc ?_); (case hc=>assumption))
 | ((with_reducible refine' ZMw ?ht ?he ?_); (case ht=>first | exact TyOf.bl _ | exact TyOf.int _ | exact TyOf.str _ | exact TyOf.non | exact TyOf.lst (by assumption) | exact TyOf.tup (by assumption)); (case he=>first | exact ZGt _ _ | exact Zvw _ | exact kit_bool_int _ | exact kit_str_bool _ | exact kit_str_int _ | exact kit_list_int _ | exact kit_list_bool _ | exact kit_none_int _ | exact kit_none_list _ | exact kit_none_str _ | exact kit_none_tuple _ | exact kit_list_tuple _ | exact kit_tuple_list _ | exact kit_str_list _ | exact kit_int_str _ | exact kit_int_list _ | exact kit_bool_str _ | exact kit_bool_list _ | exact kit_int_tuple _ | exact kit_str_tuple _ | exact kit_bool_tuple _ | exact kit_tuple_int _ | exact kit_tuple_bool _ | exact kit_tuple_str _ | exact kit_list_str _ | exact kit_none_bool _)))
local macro_rules | `(tactic| walk_at "rs") => `(tactic| repeat walk_at "rs1")
local macro_rules | `(tactic| walk_at "hp") => `(tactic| first | assumption | solve_by_elim (maxDepth := 16) only [*, Zat])
local macro_rules | `(tactic| walk_at "rd0") => `(tactic| ((try dsimp only [cxOf]); (try simp only [L2.start, List.map_cons, List.map_nil, List.length_cons, List.length_nil, Nat.reduceAdd, Nat.reduceSub, List.replicate_zero, List.append_nil, List.cons_append, List.nil_append, List.replicate_succ]); (repeat walk_at "rd1")))
local macro_rules | `(tactic| walk_at "rs0") => `(tactic| ((try dsimp only [cxOf]); (try simp only [L2.start, List.map_cons, List.map_nil, List.length_cons, List.length_nil, Nat.reduceAdd, Nat.reduceSub, List.replicate_zero, List.append_nil, List.cons_append, List.nil_append, List.replicate_succ]); (repeat walk_at "rs1")))
local macro_rules | `(tactic| walk_at "rd") => `(tactic| repeat walk_at "rd1")
local macro_rules | `(tactic| walk_at "tst") => `(tactic| repeat first | walk_at "rd1" | refine ZcG (decide_eq_true (by omega)) ?_ | refine ZaP (decide_eq_false (by omega)) ?_ | refine ZaP rfl ?_ | refine ZcG rfl ?_ | refine ⟨_, rfl, ?_⟩)
set_option maxRecDepth 100000
set_option maxHeartbeats 4000000
open PySem L2
namespace LW
open PySem L2 EM
def top (i:Nat):Stmt:=PySem.Challenge.pw_evernever_k06_read.main.body.getD i (.Pass ⟨0,0,0,0⟩)
abbrev Zb5:Stmt:=top 4
abbrev ZcE:Stmt:=top 6
abbrev Zjs:Stmt:=top 19
abbrev ZfO:Stmt:=top 22
abbrev ZcF:Stmt:=top 23
abbrev Zjr:Stmt:=top 24
abbrev ZfP:Stmt:=top 25
abbrev Zb6:Stmt:=top 27
abbrev Zpy:Stmt:=top 28
abbrev Zbo:Stmt:=top 30
abbrev Zb2:Stmt:=top 31
abbrev Zbp:Stmt:=top 32
abbrev ZcC:Stmt:=top 33
abbrev Zb3:Stmt:=top 34
abbrev ZcD:Stmt:=top 35
abbrev Zbz:Stmt:=top 36
abbrev ZbH:Stmt:=top 37
abbrev Zcd:Stmt:=top 38
abbrev ZaX:Stmt:=top 39
abbrev Zb4:Stmt:=top 40
abbrev ZbA:Stmt:=top 41
abbrev Za2:Stmt:=top 42
abbrev Za4:Stmt:=top 43
abbrev Zbb:Stmt:=top 44
abbrev ZbF:Stmt:=top 45
abbrev Zzc:Stmt:=top 46
abbrev ZaO:Stmt:=Za3 (top 7) 0
abbrev Zcw:Stmt:=Za3 (top 8) 0
abbrev ZbT:Stmt:=Za3 (top 8) 1
abbrev ZbS:Stmt:=Za3 (top 8) 2
abbrev ZbU:Stmt:=Za3 (top 8) 3
abbrev ZbV:Stmt:=Za3 (top 8) 4
abbrev ZcB:Stmt:=Za3 (top 9) 0
abbrev ZbZ:Stmt:=Za3 (top 9) 1
abbrev ZbY:Stmt:=Za3 (top 9) 2
abbrev Zb0:Stmt:=Za3 (top 9) 3
abbrev Zb1:Stmt:=Za3 (top 9) 4
abbrev Zdm:Stmt:=Za3 (top 10) 0
abbrev Zcy:Stmt:=Za3 (top 10) 1
abbrev Zcx:Stmt:=Za3 (top 10) 2
abbrev Zcz:Stmt:=Za3 (top 10) 3
abbrev ZcA:Stmt:=Za3 (top 10) 4
abbrev Zbx:Stmt:=Za3 (top 11) 0
abbrev Zbl:Stmt:=Za3 (top 11) 1
abbrev Zbm:Stmt:=Za3 (top 11) 2
abbrev Zba:Stmt:=Za3 (top 12) 0
abbrev Zbw:Stmt:=Za3 (top 12) 1
abbrev Zcv:Stmt:=Za3 (top 12) 2
abbrev Zcu:Stmt:=Za3 (top 12) 3
abbrev ZaS:Stmt:=Za3 (top 13) 0
abbrev Za6:Stmt:=Za3 (top 13) 1
abbrev Zbk:Stmt:=Za3 (top 13) 2
abbrev Zbj:Stmt:=Za3 (top 13) 3
abbrev Zbn:Stmt:=Za3 (top 14) 0
abbrev ZbX:Stmt:=Za3 (top 14) 1
abbrev Zdo:Stmt:=Za3 (top 14) 2
abbrev Zdn:Stmt:=Za3 (top 14) 3
abbrev ZbW:Stmt:=Za3 (top 26) 0
abbrev Za0:Stmt:=Za3 (top 26) 1
abbrev ZaZ:Stmt:=Za3 (top 26) 2
abbrev Za1:Stmt:=Za3 (top 26) 3
abbrev Zby:Stmt:=Za3 (top 26) 4
theorem ZBJ:FnScope ["many"] ["many"] (Zab Zb5):=⟨rfl,rfl,rfl,by decide +kernel,rfl,by decide +kernel,by decide +kernel⟩
theorem ZDR:FnScope ["part","text","bound"] ["part","text","bound"] (Zab ZcE):=⟨rfl,rfl,rfl,by decide +kernel,rfl,by decide +kernel,by decide +kernel⟩
theorem Zwy:FnScope ["text","sign","spaced","mark"] ["text"] (Zab Zjs):=⟨rfl,rfl,rfl,by decide +kernel,rfl,by decide +kernel,by decide +kernel⟩
theorem ZJ0:FnScope ["parts"] ["parts"] (Zab ZfO):=⟨rfl,rfl,rfl,by decide +kernel,rfl,by decide +kernel,by decide +kernel⟩
theorem ZDS:FnScope ["parts"] ["parts"] (Zab ZcF):=⟨rfl,rfl,rfl,by decide +kernel,rfl,by decide +kernel,by decide +kernel⟩
theorem ZLN:FnScope ["parts"] ["parts"] (Zab Zjr):=⟨rfl,rfl,rfl,by decide +kernel,rfl,by decide +kernel,by decide +kernel⟩
theorem ZJ2:FnScope ["word","names"] ["word","names"] (Zab ZfP):=⟨rfl,rfl,rfl,by decide +kernel,rfl,by decide +kernel,by decide +kernel⟩
theorem ZgL:FnScope ["found","names","levels","word","level"] ["found","names"] (Zab Zb6):=⟨rfl,rfl,rfl,by decide +kernel,rfl,by decide +kernel,by decide +kernel⟩
theorem ZJ1:FnScope ["text","names","found"] ["text","names"] (Zab Zpy):=⟨rfl,rfl,rfl,by decide +kernel,rfl,by decide +kernel,by decide +kernel⟩
theorem ZyA:FnScope ["_law_script","_law_k"] ["_law_script","_law_k"] (Zab Zbo):=⟨rfl,rfl,rfl,by decide +kernel,rfl,by decide +kernel,by decide +kernel⟩
theorem Zlr:FnScope ["_law_name_here","_law_names_here","_law_some"] ["_law_name_here","_law_names_here"] (Zab Zb2):=⟨rfl,rfl,rfl,by decide +kernel,rfl,by decide +kernel,by decide +kernel⟩
theorem Zce:FnScope ["_law_seed","_law_size","_law_some","_law_name_here","_law_state","_law_k"] ["_law_seed","_law_size"] (Zab Zbp):=⟨rfl,rfl,rfl,by decide +kernel,rfl,by decide +kernel,by decide +kernel⟩
theorem Zc5:FnScope ["_law_k","_law_cell","_law_some","_law_way","_law_size","_law_word","_law_place","_law_at"] ["_law_k","_law_cell"] (Zab ZcC):=⟨rfl,rfl,rfl,by decide +kernel,rfl,by decide +kernel,by decide +kernel⟩
theorem Zls:FnScope ["_law_many","_law_cell","_law_names_here","_law_k"] ["_law_many","_law_cell"] (Zab Zb3):=⟨rfl,rfl,rfl,by decide +kernel,rfl,by decide +kernel,by decide +kernel⟩
theorem ZvX:FnScope ["_law_tree_here","_law_wraps"] ["_law_tree_here","_law_wraps"] (Zab ZcD):=⟨rfl,rfl,rfl,by decide +kernel,rfl,by decide +kernel,by decide +kernel⟩
theorem Zzg:FnScope ["_law_entry","_law_bind"] ["_law_entry","_law_bind"] (Zab Zbz):=⟨rfl,rfl,rfl,by decide +kernel,rfl,by decide +kernel,by decide +kernel⟩
theorem Zcp:FnScope ["_law_pile","_law_kind","_law_more","_law_most","_law_nots","_law_top","_law_made","_law_left","_law_opened_here"] ["_law_pile","_law_kind","_law_more","_law_most","_law_nots"] (Zab ZbH):=⟨rfl,rfl,rfl,by decide +kernel,rfl,by decide +kernel,by decide +kernel⟩
theorem ZeF:FnScope ["_law_cells","_law_many","_law_last","_law_most","_law_nots","_law_pile","_law_cell","_law_kind","_law_more"] ["_law_cells","_law_many","_law_last","_law_most","_law_nots"] (Zab Zcd):=⟨rfl,rfl,rfl,by decide +kernel,rfl,by decide +kernel,by decide +kernel⟩
theorem ZaA:FnScope ["_law_tree_here","_law_names_here","_law_wraps","_law_kind","_law_bind","_law_found","_law_part","_law_inner"] ["_law_tree_here","_law_names_here","_law_wraps"] (Zab ZaX):=⟨rfl,rfl,rfl,by decide +kernel,rfl,by decide +kernel,by decide +kernel⟩
theorem Zs2:FnScope ["_law_tree_here","_law_names_here","_law_line"] ["_law_tree_here","_law_names_here"] (Zab Zb4):=⟨rfl,rfl,rfl,by decide +kernel,rfl,by decide +kernel,by decide +kernel⟩
theorem Zbq:FnScope ["_law_some","_law_seed","_law_line","_law_last","_law_state","_law_word","_law_gap"] ["_law_some","_law_seed"] (Zab ZbA):=⟨rfl,rfl,rfl,by decide +kernel,rfl,by decide +kernel,by decide +kernel⟩
theorem Zaz:FnScope ["_law_tree_here","_law_many","_law_whole","_law_found","_law_part","_law_one"] ["_law_tree_here","_law_many"] (Zab Za2):=⟨rfl,rfl,rfl,by decide +kernel,rfl,by decide +kernel,by decide +kernel⟩
theorem ZbB:FnScope ["_law_tree_here","_law_found","_law_part"] ["_law_tree_here"] (Zab Za4):=⟨rfl,rfl,rfl,by decide +kernel,rfl,by decide +kernel,by decide +kernel⟩
theorem Zch:FnScope ["_law_found","_law_tree_here","_law_kind"] ["_law_found","_law_tree_here"] (Zab Zbb):=⟨rfl,rfl,rfl,by decide +kernel,rfl,by decide +kernel,by decide +kernel⟩
theorem Zfl:FnScope ["_law_found","_law_tree_here","_law_many","_law_stand","_law_crowd_here","_law_due","_law_truth","_law_lamps_here"] ["_law_found","_law_tree_here","_law_many","_law_stand"] (Zab ZbF):=⟨rfl,rfl,rfl,by decide +kernel,rfl,by decide +kernel,by decide +kernel⟩
theorem ZlQ:FnScope ["_law_script","_law_many","_law_names_here","_law_tree_here","_law_line","_law_turned","_law_handed","_law_found","_law_other","_law_due","_law_told"] ["_law_script"] (Zab Zzc):=⟨rfl,rfl,rfl,by decide +kernel,rfl,by decide +kernel,by decide +kernel⟩
theorem Zd4:FnScope ["self"] ["self"] (Zab ZaO):=⟨rfl,rfl,rfl,by decide +kernel,rfl,by decide +kernel,by decide +kernel⟩
theorem ZDM:FnScope ["self","at"] ["self","at"] (Zab Zcw):=⟨rfl,rfl,rfl,by decide +kernel,rfl,by decide +kernel,by decide +kernel⟩
theorem ZBA:FnScope ["self","stand"] ["self","stand"] (Zab ZbT):=⟨rfl,rfl,rfl,by decide +kernel,rfl,by decide +kernel,by decide +kernel⟩
theorem ZgK:FnScope ["self","many","found","stand"] ["self","many"] (Zab ZbS):=⟨rfl,rfl,rfl,by decide +kernel,rfl,by decide +kernel,by decide +kernel⟩
theorem ZBB:FnScope ["self"] ["self"] (Zab ZbU):=⟨rfl,rfl,rfl,by decide +kernel,rfl,by decide +kernel,by decide +kernel⟩
theorem ZBC:FnScope ["self","names"] ["self","names"] (Zab ZbV):=⟨rfl,rfl,rfl,by decide +kernel,rfl,by decide +kernel,by decide +kernel⟩
theorem ZDQ:FnScope ["self","truth"] ["self","truth"] (Zab ZcB):=⟨rfl,rfl,rfl,by decide +kernel,rfl,by decide +kernel,by decide +kernel⟩
theorem ZBG:FnScope ["self","stand"] ["self","stand"] (Zab ZbZ):=⟨rfl,rfl,rfl,by decide +kernel,rfl,by decide +kernel,by decide +kernel⟩
theorem ZBF:FnScope ["self","many"] ["self","many"] (Zab ZbY):=⟨rfl,rfl,rfl,by decide +kernel,rfl,by decide +kernel,by decide +kernel⟩
theorem ZBH:FnScope ["self"] ["self"] (Zab Zb0):=⟨rfl,rfl,rfl,by decide +kernel,rfl,by decide +kernel,by decide +kernel⟩
theorem ZBI:FnScope ["self","names"] ["self","names"] (Zab Zb1):=⟨rfl,rfl,rfl,by decide +kernel,rfl,by decide +kernel,by decide +kernel⟩
theorem ZFv:FnScope ["self","part"] ["self","part"] (Zab Zdm):=⟨rfl,rfl,rfl,by decide +kernel,rfl,by decide +kernel,by decide +kernel⟩
theorem ZDO:FnScope ["self","stand"] ["self","stand"] (Zab Zcy):=⟨rfl,rfl,rfl,by decide +kernel,rfl,by decide +kernel,by decide +kernel⟩
theorem ZDN:FnScope ["self","many"] ["self","many"] (Zab Zcx):=⟨rfl,rfl,rfl,by decide +kernel,rfl,by decide +kernel,by decide +kernel⟩
theorem ZDP:FnScope ["self"] ["self"] (Zab Zcz):=⟨rfl,rfl,rfl,by decide +kernel,rfl,by decide +kernel,by decide +kernel⟩
theorem ZvW:FnScope ["self","names","text"] ["self","names"] (Zab ZcA):=⟨rfl,rfl,rfl,by decide +kernel,rfl,by decide +kernel,by decide +kernel⟩
theorem Zze:FnScope ["self","parts"] ["self","parts"] (Zab Zbx):=⟨rfl,rfl,rfl,by decide +kernel,rfl,by decide +kernel,by decide +kernel⟩
theorem ZhF:FnScope ["self","found","part"] ["self"] (Zab Zbl):=⟨rfl,rfl,rfl,by decide +kernel,rfl,by decide +kernel,by decide +kernel⟩
theorem ZhG:FnScope ["self","names","texts","part"] ["self","names"] (Zab Zbm):=⟨rfl,rfl,rfl,by decide +kernel,rfl,by decide +kernel,by decide +kernel⟩
theorem Zv9:FnScope ["self"] ["self"] (Zab Zba):=⟨rfl,rfl,rfl,by decide +kernel,rfl,by decide +kernel,by decide +kernel⟩
theorem Zzd:FnScope ["self"] ["self"] (Zab Zbw):=⟨rfl,rfl,rfl,by decide +kernel,rfl,by decide +kernel,by decide +kernel⟩
theorem ZvV:FnScope ["self","stand","part"] ["self","stand"] (Zab Zcv):=⟨rfl,rfl,rfl,by decide +kernel,rfl,by decide +kernel,by decide +kernel⟩
theorem ZiS:FnScope ["self","many","found","part"] ["self","many"] (Zab Zcu):=⟨rfl,rfl,rfl,by decide +kernel,rfl,by decide +kernel,by decide +kernel⟩
theorem ZqI:FnScope ["self"] ["self"] (Zab ZaS):=⟨rfl,rfl,rfl,by decide +kernel,rfl,by decide +kernel,by decide +kernel⟩
theorem ZtR:FnScope ["self"] ["self"] (Zab Za6):=⟨rfl,rfl,rfl,by decide +kernel,rfl,by decide +kernel,by decide +kernel⟩
theorem Zfj:FnScope ["self","stand","odd","part"] ["self","stand"] (Zab Zbk):=⟨rfl,rfl,rfl,by decide +kernel,rfl,by decide +kernel,by decide +kernel⟩
theorem Zfi:FnScope ["self","many","found","part"] ["self","many"] (Zab Zbj):=⟨rfl,rfl,rfl,by decide +kernel,rfl,by decide +kernel,by decide +kernel⟩
theorem Zyz:FnScope ["self"] ["self"] (Zab Zbn):=⟨rfl,rfl,rfl,by decide +kernel,rfl,by decide +kernel,by decide +kernel⟩
theorem ZBE:FnScope ["self"] ["self"] (Zab ZbX):=⟨rfl,rfl,rfl,by decide +kernel,rfl,by decide +kernel,by decide +kernel⟩
theorem Zyy:FnScope ["self","stand","part"] ["self","stand"] (Zab Zdo):=⟨rfl,rfl,rfl,by decide +kernel,rfl,by decide +kernel,by decide +kernel⟩
theorem Zlq:FnScope ["self","many","found","part"] ["self","many"] (Zab Zdn):=⟨rfl,rfl,rfl,by decide +kernel,rfl,by decide +kernel,by decide +kernel⟩
theorem ZBD:FnScope ["self"] ["self"] (Zab ZbW):=⟨rfl,rfl,rfl,by decide +kernel,rfl,by decide +kernel,by decide +kernel⟩
theorem Zfk:FnScope ["self","part","turn"] ["self","part"] (Zab Za0):=⟨rfl,rfl,rfl,by decide +kernel,rfl,by decide +kernel,by decide +kernel⟩
theorem Zs0:FnScope ["self","word"] ["self","word"] (Zab ZaZ):=⟨rfl,rfl,rfl,by decide +kernel,rfl,by decide +kernel,by decide +kernel⟩
theorem Zs1:FnScope ["self","word","names"] ["self","word","names"] (Zab Za1):=⟨rfl,rfl,rfl,by decide +kernel,rfl,by decide +kernel,by decide +kernel⟩
theorem Zzf:FnScope ["self"] ["self"] (Zab Zby):=⟨rfl,rfl,rfl,by decide +kernel,rfl,by decide +kernel,by decide +kernel⟩
structure Ad where
 ZdH:Addr
 Zu0:FuncData
 Zey:Addr
 Zxk:FuncData
 Zqb:Addr
 ZIn:FuncData
 ZkJ:Addr
 ZF4:FuncData
 Zez:Addr
 Zxl:FuncData
 Zqa:Addr
 ZIm:FuncData
 ZkK:Addr
 ZF5:FuncData
 ZdI:Addr
 Zu1:FuncData
 Zxv:Addr
 ZMj:FuncData
 Zcr:Addr
 Zpe:FuncData
 ZdD:Addr
 ZuV:FuncData
 Zcs:Addr
 Zpf:FuncData
 Zeu:Addr
 Zxg:FuncData
 ZdE:Addr
 ZuX:FuncData
 Zew:Addr
 Zxi:FuncData
 Zc9:Addr
 Zrx:FuncData
 Zev:Addr
 Zxh:FuncData
 Zex:Addr
 Zxj:FuncData
 ZbD:Addr
 ZmS:FuncData
 ZdF:Addr
 ZuY:FuncData
 Zda:Addr
 Zry:FuncData
 ZcZ:Addr
 ZuU:FuncData
 Zc0:Addr
 ZuW:FuncData
 Zca:Addr
 ZmR:FuncData
 ZdG:Addr
 ZuZ:FuncData
 f_law:Addr
 d_law:FuncData
 ZaE:Addr
 Zg0:FuncData
 Zdx:Addr
 Zxa:FuncData
 ZcQ:Addr
 ZuL:FuncData
 ZcP:Addr
 ZuK:FuncData
 ZcR:Addr
 ZuM:FuncData
 ZcS:Addr
 ZuN:FuncData
 ZdC:Addr
 Zxf:FuncData
 ZcW:Addr
 ZuR:FuncData
 ZcV:Addr
 ZuQ:FuncData
 ZcX:Addr
 ZuS:FuncData
 ZcY:Addr
 ZuT:FuncData
 ZeB:Addr
 ZzE:FuncData
 Zdz:Addr
 Zxc:FuncData
 Zdy:Addr
 Zxb:FuncData
 ZdA:Addr
 Zxd:FuncData
 ZdB:Addr
 Zxe:FuncData
 ZaT:Addr
 ZkE:FuncData
 ZaM:Addr
 Zpb:FuncData
 ZaN:Addr
 Zpc:FuncData
 ZbC:Addr
 ZmQ:FuncData
 Zcj:Addr
 Zrv:FuncData
 Zdw:Addr
 Zw9:FuncData
 Zdv:Addr
 Zw8:FuncData
 Za7:Addr
 Zie:FuncData
 Zbt:Addr
 ZlD:FuncData
 ZbM:Addr
 Zpa:FuncData
 ZbL:Addr
 Zo9:FuncData
 ZbN:Addr
 Zpd:FuncData
 ZcU:Addr
 ZuP:FuncData
 ZeD:Addr
 ZzG:FuncData
 ZeC:Addr
 ZzF:FuncData
 ZcT:Addr
 ZuO:FuncData
 Zbe:Addr
 ZjC:FuncData
 Zbd:Addr
 ZjB:FuncData
 Zbf:Addr
 ZjD:FuncData
 Zck:Addr
 Zrw:FuncData
 Zak:Addr
 Zav:Addr
 Zaw:Addr
 C_Not:Addr
 Zas:Addr
 C_And:Addr
 Zaj:Addr
 C_Or:Addr
 Zay:Addr
 ZaH:Addr
 v_JOINS:Addr
structure Txt (K:PySem.W.Frag) (mg:Str→Option Value) (t:Ad):Prop where
 Zl2:Fun K "all_stands" "all_stands" Zb5 t.ZdH t.Zu0
 Zuu:ZaW K t.Zu0 ["many"] []
 ZvC:mg "all_stands" = some (.ref t.ZdH)
 ZpG:Fun K "bracketed" "bracketed" ZcE t.Zey t.Zxk
 ZwU:ZaW K t.Zxk ["part","text","bound"] []
 ZxZ:mg "bracketed" = some (.ref t.Zey)
 ZEw:Fun K "words" "words" Zjs t.Zqb t.ZIn
 ZH5:ZaW K t.ZIn ["text"] []
 ZJf:mg "words" = some (.ref t.Zqb)
 ZzT:Fun K "and_of" "and_of" ZfO t.ZkJ t.ZF4
 ZFV:ZaW K t.ZF4 ["parts"] []
 ZGz:mg "and_of" = some (.ref t.ZkJ)
 ZpH:Fun K "either_of" "either_of" ZcF t.Zez t.Zxl
 ZwV:ZaW K t.Zxl ["parts"] []
 Zx0:mg "either_of" = some (.ref t.Zez)
 ZEv:Fun K "or_of" "or_of" Zjr t.Zqa t.ZIm
 ZH4:ZaW K t.ZIm ["parts"] []
 ZJe:mg "or_of" = some (.ref t.Zqa)
 ZzU:Fun K "single" "single" ZfP t.ZkK t.ZF5
 ZFW:ZaW K t.ZF5 ["word","names"] []
 ZGA:mg "single" = some (.ref t.ZkK)
 Zl3:Fun K "formula_in" "formula_in" Zb6 t.ZdI t.Zu1
 Zuv:ZaW K t.Zu1 ["found","names"] []
 ZvD:mg "formula_in" = some (.ref t.ZdI)
 ZHV:Fun K "read" "read" Zpy t.Zxv t.ZMj
 ZMf:ZaW K t.ZMj ["text","names"] []
 ZMQ:mg "read" = some (.ref t.Zxv)
 ZiT:Fun K "_law_cell_at" "_law_cell_at" Zbo t.Zcr t.Zpe
 Zo2:ZaW K t.Zpe ["_law_script","_law_k"] []
 Zpr:mg "_law_cell_at" = some (.ref t.Zcr)
 ZlY:Fun K "_law_fresh" "_law_fresh" Zb2 t.ZdD t.ZuV
 Zuq:ZaW K t.ZuV ["_law_name_here","_law_names_here"] []
 Zvy:mg "_law_fresh" = some (.ref t.ZdD)
 ZiU:Fun K "_law_letters" "_law_letters" Zbp t.Zcs t.Zpf
 Zo3:ZaW K t.Zpf ["_law_seed","_law_size"] []
 Zps:mg "_law_letters" = some (.ref t.Zcs)
 ZpC:Fun K "_law_name" "_law_name" ZcC t.Zeu t.Zxg
 ZwQ:ZaW K t.Zxg ["_law_k","_law_cell"] []
 ZxV:mg "_law_name" = some (.ref t.Zeu)
 ZlZ:Fun K "_law_names" "_law_names" Zb3 t.ZdE t.ZuX
 Zur:ZaW K t.ZuX ["_law_many","_law_cell"] []
 Zvz:mg "_law_names" = some (.ref t.ZdE)
 ZpE:Fun K "_law_rank" "_law_rank" ZcD t.Zew t.Zxi
 ZwS:ZaW K t.Zxi ["_law_tree_here","_law_wraps"] []
 ZxX:mg "_law_rank" = some (.ref t.Zew)
 Zj4:Fun K "_law_opened" "_law_opened" Zbz t.Zc9 t.Zrx
 Zra:ZaW K t.Zrx ["_law_entry","_law_bind"] []
 Zsm:mg "_law_opened" = some (.ref t.Zc9)
 ZpD:Fun K "_law_over" "_law_over" ZbH t.Zev t.Zxh
 ZwR:ZaW K t.Zxh ["_law_pile","_law_kind","_law_more","_law_most","_law_nots"] []
 ZxW:mg "_law_over" = some (.ref t.Zev)
 ZpF:Fun K "_law_tree" "_law_tree" Zcd t.Zex t.Zxj
 ZwT:ZaW K t.Zxj ["_law_cells","_law_many","_law_last","_law_most","_law_nots"] []
 ZxY:mg "_law_tree" = some (.ref t.Zex)
 ZeI:Fun K "_law_words_of" "_law_words_of" ZaX t.ZbD t.ZmS
 ZgQ:ZaW K t.ZmS ["_law_tree_here","_law_names_here","_law_wraps"] []
 Zhh:mg "_law_words_of" = some (.ref t.ZbD)
 Zl0:Fun K "_law_plain" "_law_plain" Zb4 t.ZdF t.ZuY
 Zus:ZaW K t.ZuY ["_law_tree_here","_law_names_here"] []
 ZvA:mg "_law_plain" = some (.ref t.ZdF)
 Zj5:Fun K "_law_spaced" "_law_spaced" ZbA t.Zda t.Zry
 Zrb:ZaW K t.Zry ["_law_some","_law_seed"] []
 Zsn:mg "_law_spaced" = some (.ref t.Zda)
 ZhL:Fun K "_law_crowd" "_law_crowd" Za2 t.ZcZ t.ZuU
 Zms:ZaW K t.ZuU ["_law_tree_here","_law_many"] []
 ZnE:mg "_law_crowd" = some (.ref t.ZcZ)
 ZhM:Fun K "_law_lamps" "_law_lamps" Za4 t.Zc0 t.ZuW
 Zmt:ZaW K t.ZuW ["_law_tree_here"] []
 ZnF:mg "_law_lamps" = some (.ref t.Zc0)
 ZeH:Fun K "_law_of_class" "_law_of_class" Zbb t.Zca t.ZmR
 ZgP:ZaW K t.ZmR ["_law_found","_law_tree_here"] []
 Zhg:mg "_law_of_class" = some (.ref t.Zca)
 Zl1:Fun K "_law_tells" "_law_tells" ZbF t.ZdG t.ZuZ
 Zut:ZaW K t.ZuZ ["_law_found","_law_tree_here","_law_many","_law_stand"] []
 ZvB:mg "_law_tells" = some (.ref t.ZdG)
 F_law:Fun K "law" "law" Zzc t.f_law t.d_law
 b_law:ZaW K t.d_law ["_law_script"] []
 m_law:mg "law" = some (.ref t.f_law)
 Zc6:Fun K "looseness" "Formula.looseness" ZaO t.ZaE t.Zg0
 Zc7:ZaW K t.Zg0 ["self"] []
 ZwC:Fun K "__init__" "Lamp.__init__" Zcw t.Zdx t.Zxa
 ZwO:ZaW K t.Zxa ["self","at"] []
 Zt0:Fun K "holds" "Lamp.holds" ZbT t.ZcQ t.ZuL
 Zml:ZaW K t.ZuL ["self","stand"] []
 ZtZ:Fun K "crowd" "Lamp.crowd" ZbS t.ZcP t.ZuK
 Zmk:ZaW K t.ZuK ["self","many"] []
 Zt1:Fun K "lamps" "Lamp.lamps" ZbU t.ZcR t.ZuM
 Zmm:ZaW K t.ZuM ["self"] []
 Zt2:Fun K "shown" "Lamp.shown" ZbV t.ZcS t.ZuN
 Zmn:ZaW K t.ZuN ["self","names"] []
 ZwH:Fun K "__init__" "Sure.__init__" ZcB t.ZdC t.Zxf
 ZwP:ZaW K t.Zxf ["self","truth"] []
 Zt6:Fun K "holds" "Sure.holds" ZbZ t.ZcW t.ZuR
 Zmp:ZaW K t.ZuR ["self","stand"] []
 Zt5:Fun K "crowd" "Sure.crowd" ZbY t.ZcV t.ZuQ
 Zmo:ZaW K t.ZuQ ["self","many"] []
 Zt7:Fun K "lamps" "Sure.lamps" Zb0 t.ZcX t.ZuS
 Zmq:ZaW K t.ZuS ["self"] []
 Zt8:Fun K "shown" "Sure.shown" Zb1 t.ZcY t.ZuT
 Zmr:ZaW K t.ZuT ["self","names"] []
 Zzw:Fun K "__init__" "Not.__init__" Zdm t.ZeB t.ZzE
 ZzA:ZaW K t.ZzE ["self","part"] []
 ZwE:Fun K "holds" "Not.holds" Zcy t.Zdz t.Zxc
 ZpU:ZaW K t.Zxc ["self","stand"] []
 ZwD:Fun K "crowd" "Not.crowd" Zcx t.Zdy t.Zxb
 ZpT:ZaW K t.Zxb ["self","many"] []
 ZwF:Fun K "lamps" "Not.lamps" Zcz t.ZdA t.Zxd
 ZpV:ZaW K t.Zxd ["self"] []
 ZwG:Fun K "shown" "Not.shown" ZcA t.ZdB t.Zxe
 ZpW:ZaW K t.Zxe ["self","names"] []
 ZqO:Fun K "__init__" "Joined.__init__" Zbx t.ZaT t.ZkE
 Zgu:ZaW K t.ZkE ["self","parts"] []
 ZoR:Fun K "lamps" "Joined.lamps" Zbl t.ZaM t.Zpb
 Zd9:ZaW K t.Zpb ["self"] []
 ZoS:Fun K "shown" "Joined.shown" Zbm t.ZaN t.Zpc
 Zea:ZaW K t.Zpc ["self","names"] []
 ZlX:Fun K "looseness" "And.looseness" Zba t.ZbC t.ZmQ
 Zmj:ZaW K t.ZmQ ["self"] []
 ZqN:Fun K "between" "And.between" Zbw t.Zcj t.Zrv
 Zq8:ZaW K t.Zrv ["self"] []
 ZwB:Fun K "holds" "And.holds" Zcv t.Zdw t.Zw9
 ZpS:ZaW K t.Zw9 ["self","stand"] []
 ZwA:Fun K "crowd" "And.crowd" Zcu t.Zdv t.Zw8
 ZpR:ZaW K t.Zw8 ["self","many"] []
 ZhK:Fun K "looseness" "Either.looseness" ZaS t.Za7 t.Zie
 ZhQ:ZaW K t.Zie ["self"] []
 Zlv:Fun K "between" "Either.between" Za6 t.Zbt t.ZlD
 Zlz:ZaW K t.ZlD ["self"] []
 ZoQ:Fun K "holds" "Either.holds" Zbk t.ZbM t.Zpa
 ZiY:ZaW K t.Zpa ["self","stand"] []
 ZoP:Fun K "crowd" "Either.crowd" Zbj t.ZbL t.Zo9
 ZiX:ZaW K t.Zo9 ["self","many"] []
 ZoT:Fun K "looseness" "Or.looseness" Zbn t.ZbN t.Zpd
 Zo1:ZaW K t.Zpd ["self"] []
 Zt4:Fun K "between" "Or.between" ZbX t.ZcU t.ZuP
 Zup:ZaW K t.ZuP ["self"] []
 Zzy:Fun K "holds" "Or.holds" Zdo t.ZeD t.ZzG
 Ztf:ZaW K t.ZzG ["self","stand"] []
 Zzx:Fun K "crowd" "Or.crowd" Zdn t.ZeC t.ZzF
 Zte:ZaW K t.ZzF ["self","many"] []
 Zt3:Fun K "__init__" "Level.__init__" ZbW t.ZcT t.ZuO
 Zuo:ZaW K t.ZuO ["self"] []
 Zju:Fun K "take_part" "Level.take_part" Za0 t.Zbe t.ZjC
 Zjy:ZaW K t.ZjC ["self","part"] []
 Zjt:Fun K "take_join" "Level.take_join" ZaZ t.Zbd t.ZjB
 Zjx:ZaW K t.ZjB ["self","word"] []
 Zjv:Fun K "take_word" "Level.take_word" Za1 t.Zbf t.ZjD
 Zjz:ZaW K t.ZjD ["self","word","names"] []
 ZqP:Fun K "whole" "Level.whole" Zby t.Zck t.Zrw
 Zq9:ZaW K t.Zrw ["self"] []
 ZC1:mg "Formula" = some (.ref t.Zak)
 ZIa:Cls K t.Zak
 ZKq:∀ (H:Hp) (a dx:Addr) (fs:List (Str × V)),H a=some (.ins t.Zak dx fs)→TyOf K H (.ref a) (.ref t.Zak)
 Zf1:ZaB K t.Zak "at"
 ZdN:ZaB K t.Zak "truth"
 Zeh:ZaB K t.Zak "part"
 ZdM:ZaB K t.Zak "parts"
 Zeg:ZaB K t.Zak "nots"
 Zef:ZaB K t.Zak "ands"
 ZcL:ZaB K t.Zak "eithers"
 Ze7:ZaB K t.Zak "ors"
 ZcM:ZaB K t.Zak "lacking"
 Zqg:Meth K t.Zak "looseness" t.ZaE
 ZxT:mg "Lamp" = some (.ref t.Zav)
 ZhR:Cls K t.Zav
 ZKr:∀ (H:Hp) (a dx:Addr) (fs:List (Str × V)),H a=some (.ins t.Zav dx fs)→TyOf K H (.ref a) (.ref t.Zav)
 ZML:Mk K t.Zav t.Zdx
 Zfb:ZaB K t.Zav "at"
 Zf4:ZaB K t.Zav "truth"
 Zhn:ZaB K t.Zav "part"
 Zf3:ZaB K t.Zav "parts"
 Zhm:ZaB K t.Zav "nots"
 Zhl:ZaB K t.Zav "ands"
 Zek:ZaB K t.Zav "eithers"
 ZjT:ZaB K t.Zav "ors"
 Zel:ZaB K t.Zav "lacking"
 Znc:Meth K t.Zav "holds" t.ZcQ
 Znb:Meth K t.Zav "crowd" t.ZcP
 Znd:Meth K t.Zav "lamps" t.ZcR
 Zne:Meth K t.Zav "shown" t.ZcS
 ZlI:Meth K t.Zav "looseness" t.ZaE
 ZxU:mg "Sure" = some (.ref t.Zaw)
 ZhY:Cls K t.Zaw
 ZKs:∀ (H:Hp) (a dx:Addr) (fs:List (Str × V)),H a=some (.ins t.Zaw dx fs)→TyOf K H (.ref a) (.ref t.Zaw)
 ZMM:Mk K t.Zaw t.ZdC
 ZnO:ZaB K t.Zaw "at"
 Zcn:ZaB K t.Zaw "truth"
 Zhs:ZaB K t.Zaw "part"
 Zf8:ZaB K t.Zaw "parts"
 Zhr:ZaB K t.Zaw "nots"
 Zhq:ZaB K t.Zaw "ands"
 Zem:ZaB K t.Zaw "eithers"
 ZjY:ZaB K t.Zaw "ors"
 Zen:ZaB K t.Zaw "lacking"
 Znh:Meth K t.Zaw "holds" t.ZcW
 Zng:Meth K t.Zaw "crowd" t.ZcV
 Zni:Meth K t.Zaw "lamps" t.ZcX
 Znj:Meth K t.Zaw "shown" t.ZcY
 ZlJ:Meth K t.Zaw "looseness" t.ZaE
 m_Not:mg "Not" = some (.ref t.C_Not)
 c_Not:Cls K t.C_Not
 y_Not:∀ (H:Hp) (a dx:Addr) (fs:List (Str × V)),H a=some (.ins t.C_Not dx fs)→TyOf K H (.ref a) (.ref t.C_Not)
 k_Not:Mk K t.C_Not t.ZeB
 Zsq:ZaB K t.C_Not "at"
 Zhp:ZaB K t.C_Not "truth"
 ZcN:ZaB K t.C_Not "part"
 Zho:ZaB K t.C_Not "parts"
 ZjW:ZaB K t.C_Not "nots"
 ZjV:ZaB K t.C_Not "ands"
 Zfe:ZaB K t.C_Not "eithers"
 ZnK:ZaB K t.C_Not "ors"
 Zff:ZaB K t.C_Not "lacking"
 Zqi:Meth K t.C_Not "holds" t.Zdz
 Zqh:Meth K t.C_Not "crowd" t.Zdy
 Zqj:Meth K t.C_Not "lamps" t.ZdA
 Zqk:Meth K t.C_Not "shown" t.ZdB
 Znf:Meth K t.C_Not "looseness" t.ZaE
 ZLh:mg "Joined" = some (.ref t.Zas)
 ZKL:Cls K t.Zas
 ZL5:∀ (H:Hp) (a dx:Addr) (fs:List (Str × V)),H a=some (.ins t.Zas dx fs)→TyOf K H (.ref a) (.ref t.Zas)
 ZLa:Mk K t.Zas t.ZaT
 Zhk:ZaB K t.Zas "at"
 Zej:ZaB K t.Zas "truth"
 Zfa:ZaB K t.Zas "part"
 Zei:ZaB K t.Zas "parts"
 Ze9:ZaB K t.Zas "nots"
 Ze8:ZaB K t.Zas "ands"
 Zdh:ZaB K t.Zas "eithers"
 Zf2:ZaB K t.Zas "ors"
 Zdi:ZaB K t.Zas "lacking"
 ZyY:Meth K t.Zas "lamps" t.ZaM
 ZyZ:Meth K t.Zas "shown" t.ZaN
 ZrU:Meth K t.Zas "looseness" t.ZaE
 m_And:mg "And" = some (.ref t.C_And)
 c_And:Cls K t.C_And
 y_And:∀ (H:Hp) (a dx:Addr) (fs:List (Str × V)),H a=some (.ins t.C_And dx fs)→TyOf K H (.ref a) (.ref t.C_And)
 k_And:Mk K t.C_And t.ZaT
 Zsp:ZaB K t.C_And "at"
 Zhi:ZaB K t.C_And "truth"
 ZjS:ZaB K t.C_And "part"
 Zct:ZaB K t.C_And "parts"
 ZjR:ZaB K t.C_And "nots"
 ZjQ:ZaB K t.C_And "ands"
 Ze2:ZaB K t.C_And "eithers"
 ZnJ:ZaB K t.C_And "ors"
 Ze3:ZaB K t.C_And "lacking"
 Zna:Meth K t.C_And "looseness" t.ZbC
 ZrT:Meth K t.C_And "between" t.Zcj
 Zqd:Meth K t.C_And "holds" t.Zdw
 Zqc:Meth K t.C_And "crowd" t.Zdv
 Zqe:Meth K t.C_And "lamps" t.ZaM
 Zqf:Meth K t.C_And "shown" t.ZaN
 Zla:mg "Either" = some (.ref t.Zaj)
 Zdq:Cls K t.Zaj
 ZCc:∀ (H:Hp) (a dx:Addr) (fs:List (Str × V)),H a=some (.ins t.Zaj dx fs)→TyOf K H (.ref a) (.ref t.Zaj)
 ZGr:Mk K t.Zaj t.ZaT
 Zhj:ZaB K t.Zaj "at"
 Zee:ZaB K t.Zaj "truth"
 Ze6:ZaB K t.Zaj "part"
 Zbi:ZaB K t.Zaj "parts"
 Ze5:ZaB K t.Zaj "nots"
 Ze4:ZaB K t.Zaj "ands"
 Zdf:ZaB K t.Zaj "eithers"
 Zf0:ZaB K t.Zaj "ors"
 Zdg:ZaB K t.Zaj "lacking"
 Zii:Meth K t.Zaj "looseness" t.Za7
 ZlH:Meth K t.Zaj "between" t.Zbt
 Zjd:Meth K t.Zaj "holds" t.ZbM
 Zjc:Meth K t.Zaj "crowd" t.ZbL
 Zje:Meth K t.Zaj "lamps" t.ZaM
 Zjf:Meth K t.Zaj "shown" t.ZaN
 m_Or:mg "Or" = some (.ref t.C_Or)
 c_Or:Cls K t.C_Or
 y_Or:∀ (H:Hp) (a dx:Addr) (fs:List (Str × V)),H a=some (.ins t.C_Or dx fs)→TyOf K H (.ref a) (.ref t.C_Or)
 k_Or:Mk K t.C_Or t.ZaT
 Zx3:ZaB K t.C_Or "at"
 ZjX:ZaB K t.C_Or "truth"
 ZnN:ZaB K t.C_Or "part"
 Zdl:ZaB K t.C_Or "parts"
 ZnM:ZaB K t.C_Or "nots"
 ZnL:ZaB K t.C_Or "ands"
 Zf6:ZaB K t.C_Or "eithers"
 Zsr:ZaB K t.C_Or "ors"
 Zf7:ZaB K t.C_Or "lacking"
 Zpl:Meth K t.C_Or "looseness" t.ZbN
 Zvg:Meth K t.C_Or "between" t.ZcU
 Zts:Meth K t.C_Or "holds" t.ZeD
 Ztr:Meth K t.C_Or "crowd" t.ZeC
 Ztt:Meth K t.C_Or "lamps" t.ZaM
 Ztu:Meth K t.C_Or "shown" t.ZaN
 ZJd:mg "Level" = some (.ref t.Zay)
 Zbh:Cls K t.Zay
 ZOF:∀ (H:Hp) (a dx:Addr) (fs:List (Str × V)),H a=some (.ins t.Zay dx fs)→TyOf K H (.ref a) (.ref t.Zay)
 ZI0:Mk K t.Zay t.ZcT
 ZjU:ZaB K t.Zay "at"
 Zfd:ZaB K t.Zay "truth"
 Zf5:ZaB K t.Zay "part"
 Zfc:ZaB K t.Zay "parts"
 ZbQ:ZaB K t.Zay "nots"
 Zcm:ZaB K t.Zay "ands"
 Zbr:ZaB K t.Zay "eithers"
 ZdO:ZaB K t.Zay "ors"
 ZaL:ZaB K t.Zay "lacking"
 ZjG:Meth K t.Zay "take_part" t.Zbe
 ZjF:Meth K t.Zay "take_join" t.Zbd
 ZjH:Meth K t.Zay "take_word" t.Zbf
 ZrV:Meth K t.Zay "whole" t.Zck
 b_ValueError:mg "ValueError" = none
 Zhf:mg "NoFormula" = some (.ref t.ZaH)
 Zga:PySem.W.typeIn K (.ref t.ZaH)=some (.type "type")
 ZCA:(PySem.W.clsIn K t.ZaH).isSome=true
 ZeE:PySem.W.mroIn K t.ZaH (.type "BaseException")=some true
 ZhB:ExcK K t.ZaH
 ZFC:PySem.W.kitOne K (.ref t.ZaH) (.type "ValueError")=some true
 Zbu:PySem.W.mroIn K t.ZaH (.ref t.ZaH)=some true
 ZlW:PySem.W.kitOne K (.ref t.ZaH) (.ref t.ZaH)=some true
 Zzm:t.Zak ≠ t.Zav
 Zzn:t.Zak ≠ t.Zaw
 ZB8:t.Zak ≠ t.C_Not
 Zwf:t.Zak ≠ t.Zas
 ZB7:t.Zak ≠ t.C_And
 Zwe:t.Zak ≠ t.Zaj
 ZEi:t.Zak ≠ t.C_Or
 ZyO:t.Zak ≠ t.Zay
 ZqM:t.Zav ≠ t.Zaw
 ZtW:t.Zav ≠ t.C_Not
 ZB9:t.Zav ≠ t.Zas
 ZtV:t.Zav ≠ t.C_And
 Zlt:t.Zav ≠ t.Zaj
 ZyQ:t.Zav ≠ t.C_Or
 ZvZ:t.Zav ≠ t.Zay
 ZtY:t.Zaw ≠ t.C_Not
 ZCb:t.Zaw ≠ t.Zas
 ZtX:t.Zaw ≠ t.C_And
 Zlu:t.Zaw ≠ t.Zaj
 ZyT:t.Zaw ≠ t.C_Or
 Zv0:t.Zaw ≠ t.Zay
 ZEk:t.C_Not ≠ t.Zas
 ZyR:t.C_Not ≠ t.C_And
 Zoi:t.C_Not ≠ t.Zaj
 ZCa:t.C_Not ≠ t.C_Or
 ZyS:t.C_Not ≠ t.Zay
 ZEj:t.Zas ≠ t.C_And
 ZyP:t.Zas ≠ t.Zaj
 ZFF:t.Zas ≠ t.C_Or
 Zzo:t.Zas ≠ t.Zay
 Zoh:t.C_And ≠ t.Zaj
 ZB6:t.C_And ≠ t.C_Or
 ZyN:t.C_And ≠ t.Zay
 ZqL:t.Zaj ≠ t.C_Or
 Zpz:t.Zaj ≠ t.Zay
 ZzS:t.C_Or ≠ t.Zay
 ZEo:PySem.W.kitOne K (.ref t.Zak) (.ref t.C_Or)=some false
 ZKu:PySem.W.kitOne K (.ref t.Zav) (.ref t.C_Or)=some false
 ZKy:PySem.W.kitOne K (.ref t.Zaw) (.ref t.C_Or)=some false
 ZL7:PySem.W.kitOne K (.ref t.C_Not) (.ref t.C_Or)=some false
 ZFI:PySem.W.kitOne K (.ref t.Zas) (.ref t.C_Or)=some false
 ZL6:PySem.W.kitOne K (.ref t.C_And) (.ref t.C_Or)=some false
 ZFH:PySem.W.kitOne K (.ref t.Zaj) (.ref t.C_Or)=some false
 ZHN:PySem.W.kitOne K (.ref t.Zay) (.ref t.C_Or)=some false
 ZKz:PySem.W.kitOne K (.type "NoneType") (.ref t.C_Or)=some false
 Zzp:PySem.W.kitOne K (.ref t.Zak) (.ref t.Zav)=some false
 ZFN:PySem.W.kitOne K (.ref t.Zaw) (.ref t.Zav)=some false
 ZHO:PySem.W.kitOne K (.ref t.C_Not) (.ref t.Zav)=some false
 ZCh:PySem.W.kitOne K (.ref t.Zas) (.ref t.Zav)=some false
 ZHJ:PySem.W.kitOne K (.ref t.C_And) (.ref t.Zav)=some false
 ZCd:PySem.W.kitOne K (.ref t.Zaj) (.ref t.Zav)=some false
 ZKw:PySem.W.kitOne K (.ref t.C_Or) (.ref t.Zav)=some false
 ZEr:PySem.W.kitOne K (.ref t.Zay) (.ref t.Zav)=some false
 ZFO:PySem.W.kitOne K (.type "NoneType") (.ref t.Zav)=some false
 Zzq:PySem.W.kitOne K (.ref t.Zak) (.ref t.Zaw)=some false
 ZFJ:PySem.W.kitOne K (.ref t.Zav) (.ref t.Zaw)=some false
 ZHP:PySem.W.kitOne K (.ref t.C_Not) (.ref t.Zaw)=some false
 ZCi:PySem.W.kitOne K (.ref t.Zas) (.ref t.Zaw)=some false
 ZHK:PySem.W.kitOne K (.ref t.C_And) (.ref t.Zaw)=some false
 ZCe:PySem.W.kitOne K (.ref t.Zaj) (.ref t.Zaw)=some false
 ZKx:PySem.W.kitOne K (.ref t.C_Or) (.ref t.Zaw)=some false
 ZEs:PySem.W.kitOne K (.ref t.Zay) (.ref t.Zaw)=some false
 ZFP:PySem.W.kitOne K (.type "NoneType") (.ref t.Zaw)=some false
 ZCg:PySem.W.kitOne K (.ref t.Zak) (.ref t.C_Not)=some false
 ZHM:PySem.W.kitOne K (.ref t.Zav) (.ref t.C_Not)=some false
 ZHR:PySem.W.kitOne K (.ref t.Zaw) (.ref t.C_Not)=some false
 ZEq:PySem.W.kitOne K (.ref t.Zas) (.ref t.C_Not)=some false
 ZKt:PySem.W.kitOne K (.ref t.C_And) (.ref t.C_Not)=some false
 ZEn:PySem.W.kitOne K (.ref t.Zaj) (.ref t.C_Not)=some false
 ZL9:PySem.W.kitOne K (.ref t.C_Or) (.ref t.C_Not)=some false
 ZFL:PySem.W.kitOne K (.ref t.Zay) (.ref t.C_Not)=some false
 ZHT:PySem.W.kitOne K (.type "NoneType") (.ref t.C_Not)=some false
 ZCf:PySem.W.kitOne K (.ref t.Zak) (.ref t.C_And)=some false
 ZHL:PySem.W.kitOne K (.ref t.Zav) (.ref t.C_And)=some false
 ZHQ:PySem.W.kitOne K (.ref t.Zaw) (.ref t.C_And)=some false
 ZKv:PySem.W.kitOne K (.ref t.C_Not) (.ref t.C_And)=some false
 ZEp:PySem.W.kitOne K (.ref t.Zas) (.ref t.C_And)=some false
 ZEm:PySem.W.kitOne K (.ref t.Zaj) (.ref t.C_And)=some false
 ZL8:PySem.W.kitOne K (.ref t.C_Or) (.ref t.C_And)=some false
 ZFK:PySem.W.kitOne K (.ref t.Zay) (.ref t.C_And)=some false
 ZHS:PySem.W.kitOne K (.type "NoneType") (.ref t.C_And)=some false
 Zwg:PySem.W.kitOne K (.ref t.Zak) (.ref t.Zaj)=some false
 ZCj:PySem.W.kitOne K (.ref t.Zav) (.ref t.Zaj)=some false
 ZCk:PySem.W.kitOne K (.ref t.Zaw) (.ref t.Zaj)=some false
 ZEt:PySem.W.kitOne K (.ref t.C_Not) (.ref t.Zaj)=some false
 ZyU:PySem.W.kitOne K (.ref t.Zas) (.ref t.Zaj)=some false
 ZEl:PySem.W.kitOne K (.ref t.C_And) (.ref t.Zaj)=some false
 ZFM:PySem.W.kitOne K (.ref t.C_Or) (.ref t.Zaj)=some false
 Zzr:PySem.W.kitOne K (.ref t.Zay) (.ref t.Zaj)=some false
 ZCl:PySem.W.kitOne K (.type "NoneType") (.ref t.Zaj)=some false
 ZpA:PySem.W.kitOne K (.ref t.Zav) (.ref t.Zak)=some true
 ZpB:PySem.W.kitOne K (.ref t.Zaw) (.ref t.Zak)=some true
 Zta:PySem.W.kitOne K (.ref t.C_Not) (.ref t.Zak)=some true
 Zwh:PySem.W.kitOne K (.ref t.Zas) (.ref t.Zak)=some true
 Zs9:PySem.W.kitOne K (.ref t.C_And) (.ref t.Zak)=some true
 ZlS:PySem.W.kitOne K (.ref t.Zaj) (.ref t.Zak)=some true
 Zv1:PySem.W.kitOne K (.ref t.C_Or) (.ref t.Zak)=some true
 ZyV:PySem.W.kitOne K (.ref t.Zay) (.ref t.Zak)=some false
 Zzs:PySem.W.kitOne K (.type "NoneType") (.ref t.Zak)=some false
 bl:∀ (s:Shared) (u:Value),BindsTo s t.d_law ⟨[u],[]⟩ [("_law_script",u)]
 B:Bt mg
 g_LETTERS:GC mg "LETTERS" (.str "abcdefghijklmnopqrstuvwxyz")
 g_MARKS:GC mg "MARKS" (.str "(),")
 g_BLANK:GC mg "BLANK" (.str " ")
 g_JOINS:GC mg "JOINS" (.ref t.v_JOINS)
 q_JOINS:∀ H,SqT K H t.v_JOINS ((["and","either","or"]:List Str).map V.str)
theorem txt_mk {K:PySem.W.Frag} {h:Heap} {mg:Str→Option Value} (X:K.In h) (G:h.Ns mainGlobals mg)
  {ZdH:Addr} {ZA8 Zq6:Option Addr} {ZB0:Array (Option Value)} {ZAQ Zsg ZrP ZsS ZkC Zrt:Value}
  {Zey:Addr} {ZDt Zum:Option Addr} {ZD5:Array (Option Value)} {ZDf Zvu Zve ZvS ZmH ZuI:Value}
  {Zqb:Addr} {ZLr ZFU:Option Addr} {ZLS:Array (Option Value)} {ZLp ZGq ZF7 ZGK Zz9 ZF2:Value}
  {ZkJ:Addr} {ZJr ZCs:Option Addr} {ZJ4:Array (Option Value)} {ZJp ZCU ZCE ZDI ZwZ ZCC:Value}
  {Zez:Addr} {ZDu Zun:Option Addr} {ZD6:Array (Option Value)} {ZDg Zvv Zvf ZvT ZmI ZuJ:Value}
  {Zqa:Addr} {ZLq ZFT:Option Addr} {ZLR:Array (Option Value)} {ZLo ZGp ZF6 ZGJ Zz8 ZF1:Value}
  {ZkK:Addr} {ZJs ZCt:Option Addr} {ZJ5:Array (Option Value)} {ZJq ZCV ZCF ZDJ Zw0 ZCD:Value}
  {ZdI:Addr} {ZA9 Zq7:Option Addr} {ZB1:Array (Option Value)} {ZAR Zsh ZrQ ZsT ZkD Zru:Value}
  {Zxv:Addr} {ZNX ZH1:Option Addr} {ZOo:Array (Option Value)} {ZNW ZIZ ZIo ZJO ZEM ZIk:Value}
  {Zcr:Addr} {Zyg Zmh:Option Addr} {ZyH:Array (Option Value)} {Zx9 ZnB ZmY ZnV ZgX ZmO:Value}
  {ZdD:Addr} {ZA3 Zq1:Option Addr} {ZBV:Array (Option Value)} {ZAL Zsb ZrK ZsN Zkx Zro:Value}
  {Zcs:Addr} {Zyh Zmi:Option Addr} {ZyI:Array (Option Value)} {Zya ZnC ZmZ ZnW ZgY ZmP:Value}
  {Zeu:Addr} {ZDp Zui:Option Addr} {ZD1:Array (Option Value)} {ZDb Zvq Zva ZvO ZmD ZuE:Value}
  {ZdE:Addr} {ZA5 Zq3:Option Addr} {ZBX:Array (Option Value)} {ZAN Zsd ZrM ZsP Zkz Zrq:Value}
  {Zew:Addr} {ZDr Zuk:Option Addr} {ZD3:Array (Option Value)} {ZDd Zvs Zvc ZvQ ZmF ZuG:Value}
  {Zc9:Addr} {Zy8 ZoZ:Option Addr} {Zzk:Array (Option Value)} {Zy3 Zpp Zpj Zpw Zi2 Zo7:Value}
  {Zev:Addr} {ZDq Zuj:Option Addr} {ZD2:Array (Option Value)} {ZDc Zvr Zvb ZvP ZmE ZuF:Value}
  {Zex:Addr} {ZDs Zul:Option Addr} {ZD4:Array (Option Value)} {ZDe Zvt Zvd ZvR ZmG ZuH:Value}
  {ZbD:Addr} {Zv8 Zly:Option Addr} {Zwc:Array (Option Value)} {Zv5 ZlM ZlG ZlP Zgd ZlC:Value}
  {ZdF:Addr} {ZA6 Zq4:Option Addr} {ZBY:Array (Option Value)} {ZAO Zse ZrN ZsQ ZkA Zrr:Value}
  {Zda:Addr} {Zy9 Zo0:Option Addr} {Zzl:Array (Option Value)} {Zy4 Zpq Zpk Zpx Zi3 Zo8:Value}
  {ZcZ:Addr} {ZA2 Zq0:Option Addr} {ZBU:Array (Option Value)} {ZAK Zsa ZrJ ZsM Zkw Zrn:Value}
  {Zc0:Addr} {ZA4 Zq2:Option Addr} {ZBW:Array (Option Value)} {ZAM Zsc ZrL ZsO Zky Zrp:Value}
  {Zca:Addr} {Zv7 Zlx:Option Addr} {Zwb:Array (Option Value)} {Zv4 ZlL ZlF ZlO Zgc ZlB:Value}
  {ZdG:Addr} {ZA7 Zq5:Option Addr} {ZBZ:Array (Option Value)} {ZAP Zsf ZrO ZsR ZkB Zrs:Value}
  {f_law:Addr} {ZPz ZMe:Option Addr} {ZP4:Array (Option Value)} {ZPy ZMK ZMk ZM0 ZIh ZMi:Value}
  {ZaE:Addr} {ZoK Zgn:Option Addr} {ZoL:Array (Option Value)} {ZoJ Zgr Zgq Zgs Zd2 Zgo:Value}
  {Zdx:Addr} {ZDj Zuc:Option Addr} {ZDV:Array (Option Value)} {ZC5 Zvk Zu4 ZvI Zmx Zuy:Value}
  {ZcQ:Addr} {ZAT ZqR:Option Addr} {ZBL:Array (Option Value)} {ZAB Zr1 ZrA ZsD Zkn Zre:Value}
  {ZcP:Addr} {ZAS ZqQ:Option Addr} {ZBK:Array (Option Value)} {ZAA Zr0 Zrz ZsC Zkm Zrd:Value}
  {ZcR:Addr} {ZAU ZqS:Option Addr} {ZBM:Array (Option Value)} {ZAC Zr2 ZrB ZsE Zko Zrf:Value}
  {ZcS:Addr} {ZAV ZqT:Option Addr} {ZBN:Array (Option Value)} {ZAD Zr3 ZrC ZsF Zkp Zrg:Value}
  {ZdC:Addr} {ZDo Zuh:Option Addr} {ZD0:Array (Option Value)} {ZDa Zvp Zu9 ZvN ZmC ZuD:Value}
  {ZcW:Addr} {ZAZ ZqX:Option Addr} {ZBR:Array (Option Value)} {ZAH Zr7 ZrG ZsJ Zkt Zrk:Value}
  {ZcV:Addr} {ZAY ZqW:Option Addr} {ZBQ:Array (Option Value)} {ZAG Zr6 ZrF ZsI Zks Zrj:Value}
  {ZcX:Addr} {ZA0 ZqY:Option Addr} {ZBS:Array (Option Value)} {ZAI Zr8 ZrH ZsK Zku Zrl:Value}
  {ZcY:Addr} {ZA1 ZqZ:Option Addr} {ZBT:Array (Option Value)} {ZAJ Zr9 ZrI ZsL Zkv Zrm:Value}
  {ZeB:Addr} {ZFc ZwK:Option Addr} {ZFw:Array (Option Value)} {ZE9 ZxG Zxm Zyl ZpX Zw4:Value}
  {Zdz:Addr} {ZDl Zue:Option Addr} {ZDX:Array (Option Value)} {ZC7 Zvm Zu6 ZvK Zmz ZuA:Value}
  {Zdy:Addr} {ZDk Zud:Option Addr} {ZDW:Array (Option Value)} {ZC6 Zvl Zu5 ZvJ Zmy Zuz:Value}
  {ZdA:Addr} {ZDm Zuf:Option Addr} {ZDY:Array (Option Value)} {ZC8 Zvn Zu7 ZvL ZmA ZuB:Value}
  {ZdB:Addr} {ZDn Zug:Option Addr} {ZDZ:Array (Option Value)} {ZC9 Zvo Zu8 ZvM ZmB ZuC:Value}
  {ZaT:Addr} {Zy6 ZoX:Option Addr} {Zzi:Array (Option Value)} {Zy1 Zpn Zph Zpu Zi0 Zo5:Value}
  {ZaM:Addr} {Zyd Zme:Option Addr} {ZyE:Array (Option Value)} {Zx6 Zny ZmV ZnS ZgU ZmL:Value}
  {ZaN:Addr} {Zye Zmf:Option Addr} {ZyF:Array (Option Value)} {Zx7 Znz ZmW ZnT ZgV ZmM:Value}
  {ZbC:Addr} {Zv6 Zlw:Option Addr} {Zwa:Array (Option Value)} {Zv3 ZlK ZlE ZlN Zgb ZlA:Value}
  {Zcj:Addr} {Zy5 ZoW:Option Addr} {Zzh:Array (Option Value)} {Zy0 Zpm Zpg Zpt ZiZ Zo4:Value}
  {Zdw:Addr} {ZDi Zub:Option Addr} {ZDU:Array (Option Value)} {ZC4 Zvj Zu3 ZvH Zmw Zux:Value}
  {Zdv:Addr} {ZDh Zua:Option Addr} {ZDT:Array (Option Value)} {ZC3 Zvi Zu2 ZvG Zmv Zuw:Value}
  {Za7:Addr} {Zqv ZgO:Option Addr} {ZqJ:Array (Option Value)} {Zqu Zg8 Zg1 Zhz Zes ZgZ:Value}
  {Zbt:Addr} {ZtD Zjw:Option Addr} {ZtT:Array (Option Value)} {ZtC ZjJ ZjE Zj1 Zfo ZjA:Value}
  {ZbM:Addr} {Zyc Zmd:Option Addr} {ZyD:Array (Option Value)} {Zx5 Znx ZmU ZnR ZgT ZmK:Value}
  {ZbL:Addr} {Zyb Zmc:Option Addr} {ZyC:Array (Option Value)} {Zx4 Znw ZmT ZnQ ZgS ZmJ:Value}
  {ZbN:Addr} {Zyf Zmg:Option Addr} {ZyG:Array (Option Value)} {Zx8 ZnA ZmX ZnU ZgW ZmN:Value}
  {ZcU:Addr} {ZAX ZqV:Option Addr} {ZBP:Array (Option Value)} {ZAF Zr5 ZrE ZsH Zkr Zri:Value}
  {ZeD:Addr} {ZFe ZwM:Option Addr} {ZFy:Array (Option Value)} {ZFb ZxI Zxo Zyn ZpZ Zw6:Value}
  {ZeC:Addr} {ZFd ZwL:Option Addr} {ZFx:Array (Option Value)} {ZFa ZxH Zxn Zym ZpY Zw5:Value}
  {ZcT:Addr} {ZAW ZqU:Option Addr} {ZBO:Array (Option Value)} {ZAE Zr4 ZrD ZsG Zkq Zrh:Value}
  {Zbe:Addr} {Zsw ZhO:Option Addr} {Zs6:Array (Option Value)} {Zst Zil Zig ZiQ ZeO Zic:Value}
  {Zbd:Addr} {Zsv ZhN:Option Addr} {Zs5:Array (Option Value)} {Zss Zik Zif ZiP ZeN Zib:Value}
  {Zbf:Addr} {Zsx ZhP:Option Addr} {Zs7:Array (Option Value)} {Zsu Zim Zih ZiR ZeP Zid:Value}
  {Zck:Addr} {Zy7 ZoY:Option Addr} {Zzj:Array (Option Value)} {Zy2 Zpo Zpi Zpv Zi1 Zo6:Value}
  {Zak:Addr}
  {Zav:Addr}
  {Zaw:Addr}
  {C_Not:Addr}
  {Zas:Addr}
  {C_And:Addr}
  {Zaj:Addr}
  {C_Or:Addr}
  {Zay:Addr}
  {ZaH:Addr}
  {tk_LETTERS:Tok}
  {tk_MARKS:Tok}
  {tk_BLANK:Tok}
  {v_JOINS:Addr} {nn_JOINS:Nat} {od_JOINS:Option Addr} {sl_JOINS:Array (Option Value)} {tk_JOINS_0 tk_JOINS_1 tk_JOINS_2:Tok}
  (Zma:PySem.W.nsIn K mainGlobals "all_stands" = some (some (.ref ZdH)))
  (ZpO:PySem.W.nsIn K mainGlobals "bracketed" = some (some (.ref Zey)))
  (ZEE:PySem.W.nsIn K mainGlobals "words" = some (some (.ref Zqb)))
  (ZzZ:PySem.W.nsIn K mainGlobals "and_of" = some (some (.ref ZkJ)))
  (ZpP:PySem.W.nsIn K mainGlobals "either_of" = some (some (.ref Zez)))
  (ZED:PySem.W.nsIn K mainGlobals "or_of" = some (some (.ref Zqa)))
  (Zz0:PySem.W.nsIn K mainGlobals "single" = some (some (.ref ZkK)))
  (Zmb:PySem.W.nsIn K mainGlobals "formula_in" = some (some (.ref ZdI)))
  (ZH0:PySem.W.nsIn K mainGlobals "read" = some (some (.ref Zxv)))
  (ZiV:PySem.W.nsIn K mainGlobals "_law_cell_at" = some (some (.ref Zcr)))
  (Zl5:PySem.W.nsIn K mainGlobals "_law_fresh" = some (some (.ref ZdD)))
  (ZiW:PySem.W.nsIn K mainGlobals "_law_letters" = some (some (.ref Zcs)))
  (ZpK:PySem.W.nsIn K mainGlobals "_law_name" = some (some (.ref Zeu)))
  (Zl7:PySem.W.nsIn K mainGlobals "_law_names" = some (some (.ref ZdE)))
  (ZpM:PySem.W.nsIn K mainGlobals "_law_rank" = some (some (.ref Zew)))
  (Zj6:PySem.W.nsIn K mainGlobals "_law_opened" = some (some (.ref Zc9)))
  (ZpL:PySem.W.nsIn K mainGlobals "_law_over" = some (some (.ref Zev)))
  (ZpN:PySem.W.nsIn K mainGlobals "_law_tree" = some (some (.ref Zex)))
  (ZgN:PySem.W.nsIn K mainGlobals "_law_words_of" = some (some (.ref ZbD)))
  (Zl8:PySem.W.nsIn K mainGlobals "_law_plain" = some (some (.ref ZdF)))
  (Zj7:PySem.W.nsIn K mainGlobals "_law_spaced" = some (some (.ref Zda)))
  (Zl4:PySem.W.nsIn K mainGlobals "_law_crowd" = some (some (.ref ZcZ)))
  (Zl6:PySem.W.nsIn K mainGlobals "_law_lamps" = some (some (.ref Zc0)))
  (ZgM:PySem.W.nsIn K mainGlobals "_law_of_class" = some (some (.ref Zca)))
  (Zl9:PySem.W.nsIn K mainGlobals "_law_tells" = some (some (.ref ZdG)))
  (a_law:PySem.W.nsIn K mainGlobals "law" = some (some (.ref f_law)))
  (ZwJ:PySem.W.nsIn K mainGlobals "Formula" = some (some (.ref Zak)))
  (ZHY:PySem.W.nsIn K mainGlobals "Lamp" = some (some (.ref Zav)))
  (ZHZ:PySem.W.nsIn K mainGlobals "Sure" = some (some (.ref Zaw)))
  (a_Not:PySem.W.nsIn K mainGlobals "Not" = some (some (.ref C_Not)))
  (ZzY:PySem.W.nsIn K mainGlobals "Joined" = some (some (.ref Zas)))
  (a_And:PySem.W.nsIn K mainGlobals "And" = some (some (.ref C_And)))
  (ZzX:PySem.W.nsIn K mainGlobals "Either" = some (some (.ref Zaj)))
  (a_Or:PySem.W.nsIn K mainGlobals "Or" = some (some (.ref C_Or)))
  (ZEC:PySem.W.nsIn K mainGlobals "Level" = some (some (.ref Zay)))
  (ZpJ:PySem.W.nsIn K mainGlobals "NoFormula" = some (some (.ref ZaH)))
  (Zij:PySem.W.isClsIn K ZaH=true)
  (Zga:PySem.W.typeIn K (.ref ZaH)=some (.type "type"))
  (ZeE:PySem.W.mroIn K ZaH (.type "BaseException")=some true)
  (Zon:PySem.W.excIn K ZaH [.type "ValueError",.type "Exception",.type "BaseException",.type "object"] "ValueError.__new__" = true)
  (Zok:PySem.W.findIn K (.ref ZaH) "__getattribute__" = some (some (.builtin "BaseException.__getattribute__")))
  (Zol:PySem.W.findIn K (.ref ZaH) "__getattr__" = some none)
  (Zoj:PySem.W.findIn K (.ref ZaH) "__class__" = some (some (.builtin "object.__class__")))
  (Zom:PySem.W.mroIn K ZaH (.type "object")=some true)
  (Zoo:PySem.W.subIn K (.ref ZaH) (.type "ValueError")=some true)
  (Zbu:PySem.W.mroIn K ZaH (.ref ZaH)=some true)
  (b_ValueError:PySem.W.nsIn K mainGlobals "ValueError" = some none)
  (ne_:[ZaH].Nodup)
  (Zet:PySem.W.findIn K (.ref Zak) "looseness" = some (some (.ref ZaE)))
  (Zp4:PySem.W.findIn K (.ref Zav) "__init__" = some (some (.ref Zdx)))
  (Zm1:PySem.W.findIn K (.ref Zav) "holds" = some (some (.ref ZcQ)))
  (Zm0:PySem.W.findIn K (.ref Zav) "crowd" = some (some (.ref ZcP)))
  (Zm2:PySem.W.findIn K (.ref Zav) "lamps" = some (some (.ref ZcR)))
  (Zm3:PySem.W.findIn K (.ref Zav) "shown" = some (some (.ref ZcS)))
  (Zgf:PySem.W.findIn K (.ref Zav) "looseness" = some (some (.ref ZaE)))
  (Zp9:PySem.W.findIn K (.ref Zaw) "__init__" = some (some (.ref ZdC)))
  (Zm7:PySem.W.findIn K (.ref Zaw) "holds" = some (some (.ref ZcW)))
  (Zm6:PySem.W.findIn K (.ref Zaw) "crowd" = some (some (.ref ZcV)))
  (Zm8:PySem.W.findIn K (.ref Zaw) "lamps" = some (some (.ref ZcX)))
  (Zm9:PySem.W.findIn K (.ref Zaw) "shown" = some (some (.ref ZcY)))
  (Zgg:PySem.W.findIn K (.ref Zaw) "looseness" = some (some (.ref ZaE)))
  (Ztl:PySem.W.findIn K (.ref C_Not) "__init__" = some (some (.ref ZeB)))
  (Zp6:PySem.W.findIn K (.ref C_Not) "holds" = some (some (.ref Zdz)))
  (Zp5:PySem.W.findIn K (.ref C_Not) "crowd" = some (some (.ref Zdy)))
  (Zp7:PySem.W.findIn K (.ref C_Not) "lamps" = some (some (.ref ZdA)))
  (Zp8:PySem.W.findIn K (.ref C_Not) "shown" = some (some (.ref ZdB)))
  (Zg3:PySem.W.findIn K (.ref C_Not) "looseness" = some (some (.ref ZaE)))
  (ZkH:PySem.W.findIn K (.ref Zas) "__init__" = some (some (.ref ZaT)))
  (Zi9:PySem.W.findIn K (.ref Zas) "lamps" = some (some (.ref ZaM)))
  (Zja:PySem.W.findIn K (.ref Zas) "shown" = some (some (.ref ZaN)))
  (ZeS:PySem.W.findIn K (.ref Zas) "looseness" = some (some (.ref ZaE)))
  (Zg2:PySem.W.findIn K (.ref C_And) "looseness" = some (some (.ref ZbC)))
  (ZkF:PySem.W.findIn K (.ref C_And) "between" = some (some (.ref Zcj)))
  (Zp1:PySem.W.findIn K (.ref C_And) "holds" = some (some (.ref Zdw)))
  (Zp0:PySem.W.findIn K (.ref C_And) "crowd" = some (some (.ref Zdv)))
  (Ztk:PySem.W.findIn K (.ref C_And) "__init__" = some (some (.ref ZaT)))
  (Zp2:PySem.W.findIn K (.ref C_And) "lamps" = some (some (.ref ZaM)))
  (Zp3:PySem.W.findIn K (.ref C_And) "shown" = some (some (.ref ZaN)))
  (ZeR:PySem.W.findIn K (.ref Zaj) "looseness" = some (some (.ref Za7)))
  (Zge:PySem.W.findIn K (.ref Zaj) "between" = some (some (.ref Zbt)))
  (Zi6:PySem.W.findIn K (.ref Zaj) "holds" = some (some (.ref ZbM)))
  (Zi5:PySem.W.findIn K (.ref Zaj) "crowd" = some (some (.ref ZbL)))
  (ZkG:PySem.W.findIn K (.ref Zaj) "__init__" = some (some (.ref ZaT)))
  (Zi7:PySem.W.findIn K (.ref Zaj) "lamps" = some (some (.ref ZaM)))
  (Zi8:PySem.W.findIn K (.ref Zaj) "shown" = some (some (.ref ZaN)))
  (Zjb:PySem.W.findIn K (.ref C_Or) "looseness" = some (some (.ref ZbN)))
  (Zm5:PySem.W.findIn K (.ref C_Or) "between" = some (some (.ref ZcU)))
  (Ztn:PySem.W.findIn K (.ref C_Or) "holds" = some (some (.ref ZeD)))
  (Ztm:PySem.W.findIn K (.ref C_Or) "crowd" = some (some (.ref ZeC)))
  (Zxp:PySem.W.findIn K (.ref C_Or) "__init__" = some (some (.ref ZaT)))
  (Zto:PySem.W.findIn K (.ref C_Or) "lamps" = some (some (.ref ZaM)))
  (Ztp:PySem.W.findIn K (.ref C_Or) "shown" = some (some (.ref ZaN)))
  (Zm4:PySem.W.findIn K (.ref Zay) "__init__" = some (some (.ref ZcT)))
  (Zfq:PySem.W.findIn K (.ref Zay) "take_part" = some (some (.ref Zbe)))
  (Zfp:PySem.W.findIn K (.ref Zay) "take_join" = some (some (.ref Zbd)))
  (Zfr:PySem.W.findIn K (.ref Zay) "take_word" = some (some (.ref Zbf)))
  (ZkI:PySem.W.findIn K (.ref Zay) "whole" = some (some (.ref Zck)))
  (ZiM:K.lookup ZdH=some ⟨ZAQ,ZA8,.func (PySem.W.fnOf "all_stands" "all_stands" (Zai Zb5) (Zag Zb5) (Zab Zb5) .none Zsg ZrP ZsS Zq6 ZkC Zrt),ZB0⟩)
  (Zh9:PySem.W.codeIn K ZkC "all_stands" = true)
  (Ziu:PySem.W.keepIn K (.ref ZdH)=true)
  (Zk7:K.lookup Zey=some ⟨ZDf,ZDt,.func (PySem.W.fnOf "bracketed" "bracketed" (Zai ZcE) (Zag ZcE) (Zab ZcE) .none Zvu Zve ZvS Zum ZmH ZuI),ZD5⟩)
  (Zkk:PySem.W.codeIn K ZmH "bracketed" = true)
  (ZkT:PySem.W.keepIn K (.ref Zey)=true)
  (ZAr:K.lookup Zqb=some ⟨ZLp,ZLr,.func (PySem.W.fnOf "words" "words" (Zai Zjs) (Zag Zjs) (Zab Zjs) .none ZGq ZF7 ZGK ZFU Zz9 ZF2),ZLS⟩)
  (Zz5:PySem.W.codeIn K Zz9 "words" = true)
  (ZAo:PySem.W.keepIn K (.ref Zqb)=true)
  (Zwp:K.lookup ZkJ=some ⟨ZJp,ZJr,.func (PySem.W.fnOf "and_of" "and_of" (Zai ZfO) (Zag ZfO) (Zab ZfO) .none ZCU ZCE ZDI ZCs ZwZ ZCC),ZJ4⟩)
  (Zwj:PySem.W.codeIn K ZwZ "and_of" = true)
  (Zwn:PySem.W.keepIn K (.ref ZkJ)=true)
  (Zk8:K.lookup Zez=some ⟨ZDg,ZDu,.func (PySem.W.fnOf "either_of" "either_of" (Zai ZcF) (Zag ZcF) (Zab ZcF) .none Zvv Zvf ZvT Zun ZmI ZuJ),ZD6⟩)
  (Zkl:PySem.W.codeIn K ZmI "either_of" = true)
  (ZkU:PySem.W.keepIn K (.ref Zez)=true)
  (ZAq:K.lookup Zqa=some ⟨ZLo,ZLq,.func (PySem.W.fnOf "or_of" "or_of" (Zai Zjr) (Zag Zjr) (Zab Zjr) .none ZGp ZF6 ZGJ ZFT Zz8 ZF1),ZLR⟩)
  (Zz4:PySem.W.codeIn K Zz8 "or_of" = true)
  (ZAn:PySem.W.keepIn K (.ref Zqa)=true)
  (Zwq:K.lookup ZkK=some ⟨ZJq,ZJs,.func (PySem.W.fnOf "single" "single" (Zai ZfP) (Zag ZfP) (Zab ZfP) .none ZCV ZCF ZDJ ZCt Zw0 ZCD),ZJ5⟩)
  (Zwk:PySem.W.codeIn K Zw0 "single" = true)
  (Zwo:PySem.W.keepIn K (.ref ZkK)=true)
  (ZiN:K.lookup ZdI=some ⟨ZAR,ZA9,.func (PySem.W.fnOf "formula_in" "formula_in" (Zai Zb6) (Zag Zb6) (Zab Zb6) .none Zsh ZrQ ZsT Zq7 ZkD Zru),ZB1⟩)
  (Zia:PySem.W.codeIn K ZkD "formula_in" = true)
  (Ziv:PySem.W.keepIn K (.ref ZdI)=true)
  (ZGu:K.lookup Zxv=some ⟨ZNW,ZNX,.func (PySem.W.fnOf "read" "read" (Zai Zpy) (Zag Zpy) (Zab Zpy) .none ZIZ ZIo ZJO ZH1 ZEM ZIk),ZOo⟩)
  (ZFZ:PySem.W.codeIn K ZEM "read" = true)
  (ZGs:PySem.W.keepIn K (.ref Zxv)=true)
  (ZfM:K.lookup Zcr=some ⟨Zx9,Zyg,.func (PySem.W.fnOf "_law_cell_at" "_law_cell_at" (Zai Zbo) (Zag Zbo) (Zab Zbo) .none ZnB ZmY ZnV Zmh ZgX ZmO),ZyH⟩)
  (ZfC:PySem.W.codeIn K ZgX "_law_cell_at" = true)
  (ZfF:PySem.W.keepIn K (.ref Zcr)=true)
  (ZiH:K.lookup ZdD=some ⟨ZAL,ZA3,.func (PySem.W.fnOf "_law_fresh" "_law_fresh" (Zai Zb2) (Zag Zb2) (Zab Zb2) .none Zsb ZrK ZsN Zq1 Zkx Zro),ZBV⟩)
  (Zh4:PySem.W.codeIn K Zkx "_law_fresh" = true)
  (Zip:PySem.W.keepIn K (.ref ZdD)=true)
  (ZfN:K.lookup Zcs=some ⟨Zya,Zyh,.func (PySem.W.fnOf "_law_letters" "_law_letters" (Zai Zbp) (Zag Zbp) (Zab Zbp) .none ZnC ZmZ ZnW Zmi ZgY ZmP),ZyI⟩)
  (ZfD:PySem.W.codeIn K ZgY "_law_letters" = true)
  (ZfG:PySem.W.keepIn K (.ref Zcs)=true)
  (Zk3:K.lookup Zeu=some ⟨ZDb,ZDp,.func (PySem.W.fnOf "_law_name" "_law_name" (Zai ZcC) (Zag ZcC) (Zab ZcC) .none Zvq Zva ZvO Zui ZmD ZuE),ZD1⟩)
  (Zkg:PySem.W.codeIn K ZmD "_law_name" = true)
  (ZkP:PySem.W.keepIn K (.ref Zeu)=true)
  (ZiJ:K.lookup ZdE=some ⟨ZAN,ZA5,.func (PySem.W.fnOf "_law_names" "_law_names" (Zai Zb3) (Zag Zb3) (Zab Zb3) .none Zsd ZrM ZsP Zq3 Zkz Zrq),ZBX⟩)
  (Zh6:PySem.W.codeIn K Zkz "_law_names" = true)
  (Zir:PySem.W.keepIn K (.ref ZdE)=true)
  (Zk5:K.lookup Zew=some ⟨ZDd,ZDr,.func (PySem.W.fnOf "_law_rank" "_law_rank" (Zai ZcD) (Zag ZcD) (Zab ZcD) .none Zvs Zvc ZvQ Zuk ZmF ZuG),ZD3⟩)
  (Zki:PySem.W.codeIn K ZmF "_law_rank" = true)
  (ZkR:PySem.W.keepIn K (.ref Zew)=true)
  (ZgG:K.lookup Zc9=some ⟨Zy3,Zy8,.func (PySem.W.fnOf "_law_opened" "_law_opened" (Zai Zbz) (Zag Zbz) (Zab Zbz) .none Zpp Zpj Zpw ZoZ Zi2 Zo7),Zzk⟩)
  (Zgy:PySem.W.codeIn K Zi2 "_law_opened" = true)
  (ZgB:PySem.W.keepIn K (.ref Zc9)=true)
  (Zk4:K.lookup Zev=some ⟨ZDc,ZDq,.func (PySem.W.fnOf "_law_over" "_law_over" (Zai ZbH) (Zag ZbH) (Zab ZbH) .none Zvr Zvb ZvP Zuj ZmE ZuF),ZD2⟩)
  (Zkh:PySem.W.codeIn K ZmE "_law_over" = true)
  (ZkQ:PySem.W.keepIn K (.ref Zev)=true)
  (Zk6:K.lookup Zex=some ⟨ZDe,ZDs,.func (PySem.W.fnOf "_law_tree" "_law_tree" (Zai Zcd) (Zag Zcd) (Zab Zcd) .none Zvt Zvd ZvR Zul ZmG ZuH),ZD4⟩)
  (Zkj:PySem.W.codeIn K ZmG "_law_tree" = true)
  (ZkS:PySem.W.keepIn K (.ref Zex)=true)
  (Ze1:K.lookup ZbD=some ⟨Zv5,Zv8,.func (PySem.W.fnOf "_law_words_of" "_law_words_of" (Zai ZaX) (Zag ZaX) (Zab ZaX) .none ZlM ZlG ZlP Zly Zgd ZlC),Zwc⟩)
  (ZeL:PySem.W.codeIn K Zgd "_law_words_of" = true)
  (ZeY:PySem.W.keepIn K (.ref ZbD)=true)
  (ZiK:K.lookup ZdF=some ⟨ZAO,ZA6,.func (PySem.W.fnOf "_law_plain" "_law_plain" (Zai Zb4) (Zag Zb4) (Zab Zb4) .none Zse ZrN ZsQ Zq4 ZkA Zrr),ZBY⟩)
  (Zh7:PySem.W.codeIn K ZkA "_law_plain" = true)
  (Zis:PySem.W.keepIn K (.ref ZdF)=true)
  (ZgH:K.lookup Zda=some ⟨Zy4,Zy9,.func (PySem.W.fnOf "_law_spaced" "_law_spaced" (Zai ZbA) (Zag ZbA) (Zab ZbA) .none Zpq Zpk Zpx Zo0 Zi3 Zo8),Zzl⟩)
  (Zgz:PySem.W.codeIn K Zi3 "_law_spaced" = true)
  (ZgC:PySem.W.keepIn K (.ref Zda)=true)
  (ZiG:K.lookup ZcZ=some ⟨ZAK,ZA2,.func (PySem.W.fnOf "_law_crowd" "_law_crowd" (Zai Za2) (Zag Za2) (Zab Za2) .none Zsa ZrJ ZsM Zq0 Zkw Zrn),ZBU⟩)
  (Zh3:PySem.W.codeIn K Zkw "_law_crowd" = true)
  (Zio:PySem.W.keepIn K (.ref ZcZ)=true)
  (ZiI:K.lookup Zc0=some ⟨ZAM,ZA4,.func (PySem.W.fnOf "_law_lamps" "_law_lamps" (Zai Za4) (Zag Za4) (Zab Za4) .none Zsc ZrL ZsO Zq2 Zky Zrp),ZBW⟩)
  (Zh5:PySem.W.codeIn K Zky "_law_lamps" = true)
  (Ziq:PySem.W.keepIn K (.ref Zc0)=true)
  (Ze0:K.lookup Zca=some ⟨Zv4,Zv7,.func (PySem.W.fnOf "_law_of_class" "_law_of_class" (Zai Zbb) (Zag Zbb) (Zab Zbb) .none ZlL ZlF ZlO Zlx Zgc ZlB),Zwb⟩)
  (ZeK:PySem.W.codeIn K Zgc "_law_of_class" = true)
  (ZeX:PySem.W.keepIn K (.ref Zca)=true)
  (ZiL:K.lookup ZdG=some ⟨ZAP,ZA7,.func (PySem.W.fnOf "_law_tells" "_law_tells" (Zai ZbF) (Zag ZbF) (Zab ZbF) .none Zsf ZrO ZsR Zq5 ZkB Zrs),ZBZ⟩)
  (Zh8:PySem.W.codeIn K ZkB "_law_tells" = true)
  (Zit:PySem.W.keepIn K (.ref ZdG)=true)
  (l_law:K.lookup f_law=some ⟨ZPy,ZPz,.func (PySem.W.fnOf "law" "law" (Zai Zzc) (Zag Zzc) (Zab Zzc) .none ZMK ZMk ZM0 ZMe ZIh ZMi),ZP4⟩)
  (c_law:PySem.W.codeIn K ZIh "law" = true)
  (k_law:PySem.W.keepIn K (.ref f_law)=true)
  (Zdc:K.lookup ZaE=some ⟨ZoJ,ZoK,.func (PySem.W.fnOf "looseness" "Formula.looseness" (Zai ZaO) (Zag ZaO) (Zab ZaO) .none Zgr Zgq Zgs Zgn Zd2 Zgo),ZoL⟩)
  (Zc8:PySem.W.codeIn K Zd2 "Formula.looseness" = true)
  (ZaU:PySem.W.keepIn K (.ref ZaE)=true)
  (Zbc:PySem.W.isFn K (.ref ZaE)=true)
  (ZkX:K.lookup Zdx=some ⟨ZC5,ZDj,.func (PySem.W.fnOf "__init__" "Lamp.__init__" (Zai Zcw) (Zag Zcw) (Zab Zcw) .none Zvk Zu4 ZvI Zuc Zmx Zuy),ZDV⟩)
  (Zka:PySem.W.codeIn K Zmx "Lamp.__init__" = true)
  (ZkN:PySem.W.keepIn K (.ref Zdx)=true)
  (Zqn:PySem.W.isFn K (.ref Zdx)=true)
  (Zix:K.lookup ZcQ=some ⟨ZAB,ZAT,.func (PySem.W.fnOf "holds" "Lamp.holds" (Zai ZbT) (Zag ZbT) (Zab ZbT) .none Zr1 ZrA ZsD ZqR Zkn Zre),ZBL⟩)
  (ZhT:PySem.W.codeIn K Zkn "Lamp.holds" = true)
  (ZfS:PySem.W.keepIn K (.ref ZcQ)=true)
  (Znl:PySem.W.isFn K (.ref ZcQ)=true)
  (Ziw:K.lookup ZcP=some ⟨ZAA,ZAS,.func (PySem.W.fnOf "crowd" "Lamp.crowd" (Zai ZbS) (Zag ZbS) (Zab ZbS) .none Zr0 Zrz ZsC ZqQ Zkm Zrd),ZBK⟩)
  (ZhS:PySem.W.codeIn K Zkm "Lamp.crowd" = true)
  (ZfR:PySem.W.keepIn K (.ref ZcP)=true)
  (Znk:PySem.W.isFn K (.ref ZcP)=true)
  (Ziy:K.lookup ZcR=some ⟨ZAC,ZAU,.func (PySem.W.fnOf "lamps" "Lamp.lamps" (Zai ZbU) (Zag ZbU) (Zab ZbU) .none Zr2 ZrB ZsE ZqS Zko Zrf),ZBM⟩)
  (ZhU:PySem.W.codeIn K Zko "Lamp.lamps" = true)
  (ZfT:PySem.W.keepIn K (.ref ZcR)=true)
  (Znm:PySem.W.isFn K (.ref ZcR)=true)
  (Ziz:K.lookup ZcS=some ⟨ZAD,ZAV,.func (PySem.W.fnOf "shown" "Lamp.shown" (Zai ZbV) (Zag ZbV) (Zab ZbV) .none Zr3 ZrC ZsF ZqT Zkp Zrg),ZBN⟩)
  (ZhV:PySem.W.codeIn K Zkp "Lamp.shown" = true)
  (ZfU:PySem.W.keepIn K (.ref ZcS)=true)
  (Znn:PySem.W.isFn K (.ref ZcS)=true)
  (Zk2:K.lookup ZdC=some ⟨ZDa,ZDo,.func (PySem.W.fnOf "__init__" "Sure.__init__" (Zai ZcB) (Zag ZcB) (Zab ZcB) .none Zvp Zu9 ZvN Zuh ZmC ZuD),ZD0⟩)
  (Zkf:PySem.W.codeIn K ZmC "Sure.__init__" = true)
  (ZkO:PySem.W.keepIn K (.ref ZdC)=true)
  (Zqs:PySem.W.isFn K (.ref ZdC)=true)
  (ZiD:K.lookup ZcW=some ⟨ZAH,ZAZ,.func (PySem.W.fnOf "holds" "Sure.holds" (Zai ZbZ) (Zag ZbZ) (Zab ZbZ) .none Zr7 ZrG ZsJ ZqX Zkt Zrk),ZBR⟩)
  (Zh0:PySem.W.codeIn K Zkt "Sure.holds" = true)
  (ZfX:PySem.W.keepIn K (.ref ZcW)=true)
  (Znr:PySem.W.isFn K (.ref ZcW)=true)
  (ZiC:K.lookup ZcV=some ⟨ZAG,ZAY,.func (PySem.W.fnOf "crowd" "Sure.crowd" (Zai ZbY) (Zag ZbY) (Zab ZbY) .none Zr6 ZrF ZsI ZqW Zks Zrj),ZBQ⟩)
  (ZhZ:PySem.W.codeIn K Zks "Sure.crowd" = true)
  (ZfW:PySem.W.keepIn K (.ref ZcV)=true)
  (Znq:PySem.W.isFn K (.ref ZcV)=true)
  (ZiE:K.lookup ZcX=some ⟨ZAI,ZA0,.func (PySem.W.fnOf "lamps" "Sure.lamps" (Zai Zb0) (Zag Zb0) (Zab Zb0) .none Zr8 ZrH ZsK ZqY Zku Zrl),ZBS⟩)
  (Zh1:PySem.W.codeIn K Zku "Sure.lamps" = true)
  (ZfY:PySem.W.keepIn K (.ref ZcX)=true)
  (Zns:PySem.W.isFn K (.ref ZcX)=true)
  (ZiF:K.lookup ZcY=some ⟨ZAJ,ZA1,.func (PySem.W.fnOf "shown" "Sure.shown" (Zai Zb1) (Zag Zb1) (Zab Zb1) .none Zr9 ZrI ZsL ZqZ Zkv Zrm),ZBT⟩)
  (Zh2:PySem.W.codeIn K Zkv "Sure.shown" = true)
  (ZfZ:PySem.W.keepIn K (.ref ZcY)=true)
  (Znt:PySem.W.isFn K (.ref ZcY)=true)
  (Zox:K.lookup ZeB=some ⟨ZE9,ZFc,.func (PySem.W.fnOf "__init__" "Not.__init__" (Zai Zdm) (Zag Zdm) (Zab Zdm) .none ZxG Zxm Zyl ZwK ZpX Zw4),ZFw⟩)
  (Zop:PySem.W.codeIn K ZpX "Not.__init__" = true)
  (Zov:PySem.W.keepIn K (.ref ZeB)=true)
  (Ztx:PySem.W.isFn K (.ref ZeB)=true)
  (ZkZ:K.lookup Zdz=some ⟨ZC7,ZDl,.func (PySem.W.fnOf "holds" "Not.holds" (Zai Zcy) (Zag Zcy) (Zab Zcy) .none Zvm Zu6 ZvK Zue Zmz ZuA),ZDX⟩)
  (Zkc:PySem.W.codeIn K Zmz "Not.holds" = true)
  (Zhc:PySem.W.keepIn K (.ref Zdz)=true)
  (Zqp:PySem.W.isFn K (.ref Zdz)=true)
  (ZkY:K.lookup Zdy=some ⟨ZC6,ZDk,.func (PySem.W.fnOf "crowd" "Not.crowd" (Zai Zcx) (Zag Zcx) (Zab Zcx) .none Zvl Zu5 ZvJ Zud Zmy Zuz),ZDW⟩)
  (Zkb:PySem.W.codeIn K Zmy "Not.crowd" = true)
  (Zhb:PySem.W.keepIn K (.ref Zdy)=true)
  (Zqo:PySem.W.isFn K (.ref Zdy)=true)
  (Zk0:K.lookup ZdA=some ⟨ZC8,ZDm,.func (PySem.W.fnOf "lamps" "Not.lamps" (Zai Zcz) (Zag Zcz) (Zab Zcz) .none Zvn Zu7 ZvL Zuf ZmA ZuB),ZDY⟩)
  (Zkd:PySem.W.codeIn K ZmA "Not.lamps" = true)
  (Zhd:PySem.W.keepIn K (.ref ZdA)=true)
  (Zqq:PySem.W.isFn K (.ref ZdA)=true)
  (Zk1:K.lookup ZdB=some ⟨ZC9,ZDn,.func (PySem.W.fnOf "shown" "Not.shown" (Zai ZcA) (Zag ZcA) (Zab ZcA) .none Zvo Zu8 ZvM Zug ZmB ZuC),ZDZ⟩)
  (Zke:PySem.W.codeIn K ZmB "Not.shown" = true)
  (Zhe:PySem.W.keepIn K (.ref ZdB)=true)
  (Zqr:PySem.W.isFn K (.ref ZdB)=true)
  (ZgE:K.lookup ZaT=some ⟨Zy1,Zy6,.func (PySem.W.fnOf "__init__" "Joined.__init__" (Zai Zbx) (Zag Zbx) (Zab Zbx) .none Zpn Zph Zpu ZoX Zi0 Zo5),Zzi⟩)
  (Zgw:PySem.W.codeIn K Zi0 "Joined.__init__" = true)
  (ZgA:PySem.W.keepIn K (.ref ZaT)=true)
  (ZdV:PySem.W.isFn K (.ref ZaT)=true)
  (ZfJ:K.lookup ZaM=some ⟨Zx6,Zyd,.func (PySem.W.fnOf "lamps" "Joined.lamps" (Zai Zbl) (Zag Zbl) (Zab Zbl) .none Zny ZmV ZnS Zme ZgU ZmL),ZyE⟩)
  (Zfz:PySem.W.codeIn K ZgU "Joined.lamps" = true)
  (ZbO:PySem.W.keepIn K (.ref ZaM)=true)
  (Zdj:PySem.W.isFn K (.ref ZaM)=true)
  (ZfK:K.lookup ZaN=some ⟨Zx7,Zye,.func (PySem.W.fnOf "shown" "Joined.shown" (Zai Zbm) (Zag Zbm) (Zab Zbm) .none Znz ZmW ZnT Zmf ZgV ZmM),ZyF⟩)
  (ZfA:PySem.W.codeIn K ZgV "Joined.shown" = true)
  (ZbP:PySem.W.keepIn K (.ref ZaN)=true)
  (Zdk:PySem.W.isFn K (.ref ZaN)=true)
  (ZeZ:K.lookup ZbC=some ⟨Zv3,Zv6,.func (PySem.W.fnOf "looseness" "And.looseness" (Zai Zba) (Zag Zba) (Zab Zba) .none ZlK ZlE ZlN Zlw Zgb ZlA),Zwa⟩)
  (ZeJ:PySem.W.codeIn K Zgb "And.looseness" = true)
  (ZdK:PySem.W.keepIn K (.ref ZbC)=true)
  (Zg5:PySem.W.isFn K (.ref ZbC)=true)
  (ZgD:K.lookup Zcj=some ⟨Zy0,Zy5,.func (PySem.W.fnOf "between" "And.between" (Zai Zbw) (Zag Zbw) (Zab Zbw) .none Zpm Zpg Zpt ZoW ZiZ Zo4),Zzh⟩)
  (Zgv:PySem.W.codeIn K ZiZ "And.between" = true)
  (ZeV:PySem.W.keepIn K (.ref Zcj)=true)
  (ZkL:PySem.W.isFn K (.ref Zcj)=true)
  (ZkW:K.lookup Zdw=some ⟨ZC4,ZDi,.func (PySem.W.fnOf "holds" "And.holds" (Zai Zcv) (Zag Zcv) (Zab Zcv) .none Zvj Zu3 ZvH Zub Zmw Zux),ZDU⟩)
  (Zj9:PySem.W.codeIn K Zmw "And.holds" = true)
  (Zha:PySem.W.keepIn K (.ref Zdw)=true)
  (Zqm:PySem.W.isFn K (.ref Zdw)=true)
  (ZkV:K.lookup Zdv=some ⟨ZC3,ZDh,.func (PySem.W.fnOf "crowd" "And.crowd" (Zai Zcu) (Zag Zcu) (Zab Zcu) .none Zvi Zu2 ZvG Zua Zmv Zuw),ZDT⟩)
  (Zj8:PySem.W.codeIn K Zmv "And.crowd" = true)
  (Zg9:PySem.W.keepIn K (.ref Zdv)=true)
  (Zql:PySem.W.isFn K (.ref Zdv)=true)
  (Zdt:K.lookup Za7=some ⟨Zqu,Zqv,.func (PySem.W.fnOf "looseness" "Either.looseness" (Zai ZaS) (Zag ZaS) (Zab ZaS) .none Zg8 Zg1 Zhz ZgO Zes ZgZ),ZqJ⟩)
  (Zdr:PySem.W.codeIn K Zes "Either.looseness" = true)
  (Zcl:PySem.W.keepIn K (.ref Za7)=true)
  (ZeU:PySem.W.isFn K (.ref Za7)=true)
  (Zep:K.lookup Zbt=some ⟨ZtC,ZtD,.func (PySem.W.fnOf "between" "Either.between" (Zai Za6) (Zag Za6) (Zab Za6) .none ZjJ ZjE Zj1 Zjw Zfo ZjA),ZtT⟩)
  (Zeo:PySem.W.codeIn K Zfo "Either.between" = true)
  (Zde:PySem.W.keepIn K (.ref Zbt)=true)
  (Zgh:PySem.W.isFn K (.ref Zbt)=true)
  (ZfI:K.lookup ZbM=some ⟨Zx5,Zyc,.func (PySem.W.fnOf "holds" "Either.holds" (Zai Zbk) (Zag Zbk) (Zab Zbk) .none Znx ZmU ZnR Zmd ZgT ZmK),ZyD⟩)
  (Zfy:PySem.W.codeIn K ZgT "Either.holds" = true)
  (Zec:PySem.W.keepIn K (.ref ZbM)=true)
  (Zjh:PySem.W.isFn K (.ref ZbM)=true)
  (ZfH:K.lookup ZbL=some ⟨Zx4,Zyb,.func (PySem.W.fnOf "crowd" "Either.crowd" (Zai Zbj) (Zag Zbj) (Zab Zbj) .none Znw ZmT ZnQ Zmc ZgS ZmJ),ZyC⟩)
  (Zfx:PySem.W.codeIn K ZgS "Either.crowd" = true)
  (Zeb:PySem.W.keepIn K (.ref ZbL)=true)
  (Zjg:PySem.W.isFn K (.ref ZbL)=true)
  (ZfL:K.lookup ZbN=some ⟨Zx8,Zyf,.func (PySem.W.fnOf "looseness" "Or.looseness" (Zai Zbn) (Zag Zbn) (Zab Zbn) .none ZnA ZmX ZnU Zmg ZgW ZmN),ZyG⟩)
  (ZfB:PySem.W.codeIn K ZgW "Or.looseness" = true)
  (Zed:PySem.W.keepIn K (.ref ZbN)=true)
  (Zji:PySem.W.isFn K (.ref ZbN)=true)
  (ZiB:K.lookup ZcU=some ⟨ZAF,ZAX,.func (PySem.W.fnOf "between" "Or.between" (Zai ZbX) (Zag ZbX) (Zab ZbX) .none Zr5 ZrE ZsH ZqV Zkr Zri),ZBP⟩)
  (ZhX:PySem.W.codeIn K Zkr "Or.between" = true)
  (ZfV:PySem.W.keepIn K (.ref ZcU)=true)
  (Znp:PySem.W.isFn K (.ref ZcU)=true)
  (Zoz:K.lookup ZeD=some ⟨ZFb,ZFe,.func (PySem.W.fnOf "holds" "Or.holds" (Zai Zdo) (Zag Zdo) (Zab Zdo) .none ZxI Zxo Zyn ZwM ZpZ Zw6),ZFy⟩)
  (Zor:PySem.W.codeIn K ZpZ "Or.holds" = true)
  (ZjL:PySem.W.keepIn K (.ref ZeD)=true)
  (Ztz:PySem.W.isFn K (.ref ZeD)=true)
  (Zoy:K.lookup ZeC=some ⟨ZFa,ZFd,.func (PySem.W.fnOf "crowd" "Or.crowd" (Zai Zdn) (Zag Zdn) (Zab Zdn) .none ZxH Zxn Zym ZwL ZpY Zw5),ZFx⟩)
  (Zoq:PySem.W.codeIn K ZpY "Or.crowd" = true)
  (ZjK:PySem.W.keepIn K (.ref ZeC)=true)
  (Zty:PySem.W.isFn K (.ref ZeC)=true)
  (ZiA:K.lookup ZcT=some ⟨ZAE,ZAW,.func (PySem.W.fnOf "__init__" "Level.__init__" (Zai ZbW) (Zag ZbW) (Zab ZbW) .none Zr4 ZrD ZsG ZqU Zkq Zrh),ZBO⟩)
  (ZhW:PySem.W.codeIn K Zkq "Level.__init__" = true)
  (Zin:PySem.W.keepIn K (.ref ZcT)=true)
  (Zno:PySem.W.isFn K (.ref ZcT)=true)
  (ZdX:K.lookup Zbe=some ⟨Zst,Zsw,.func (PySem.W.fnOf "take_part" "Level.take_part" (Zai Za0) (Zag Za0) (Zab Za0) .none Zil Zig ZiQ ZhO ZeO Zic),Zs6⟩)
  (ZdS:PySem.W.codeIn K ZeO "Level.take_part" = true)
  (ZcJ:PySem.W.keepIn K (.ref Zbe)=true)
  (Zft:PySem.W.isFn K (.ref Zbe)=true)
  (ZdW:K.lookup Zbd=some ⟨Zss,Zsv,.func (PySem.W.fnOf "take_join" "Level.take_join" (Zai ZaZ) (Zag ZaZ) (Zab ZaZ) .none Zik Zif ZiP ZhN ZeN Zib),Zs5⟩)
  (ZdR:PySem.W.codeIn K ZeN "Level.take_join" = true)
  (ZcI:PySem.W.keepIn K (.ref Zbd)=true)
  (Zfs:PySem.W.isFn K (.ref Zbd)=true)
  (ZdY:K.lookup Zbf=some ⟨Zsu,Zsx,.func (PySem.W.fnOf "take_word" "Level.take_word" (Zai Za1) (Zag Za1) (Zab Za1) .none Zim Zih ZiR ZhP ZeP Zid),Zs7⟩)
  (ZdT:PySem.W.codeIn K ZeP "Level.take_word" = true)
  (ZcK:PySem.W.keepIn K (.ref Zbf)=true)
  (Zfu:PySem.W.isFn K (.ref Zbf)=true)
  (ZgF:K.lookup Zck=some ⟨Zy2,Zy7,.func (PySem.W.fnOf "whole" "Level.whole" (Zai Zby) (Zag Zby) (Zab Zby) .none Zpo Zpi Zpv ZoY Zi1 Zo6),Zzj⟩)
  (Zgx:PySem.W.codeIn K Zi1 "Level.whole" = true)
  (ZeW:PySem.W.keepIn K (.ref Zck)=true)
  (ZkM:PySem.W.isFn K (.ref Zck)=true)
  (ZoE:PySem.W.plainGet K Zak Str.empty=true)
  (Zou:PySem.W.hasDictIn K Zak=true)
  (ZoF:PySem.W.plainOver K Zak=true)
  (ZoH:PySem.W.findIn K (.ref Zak) "__setattr__" = some (some (.builtin "object.__setattr__")))
  (ZzJ:PySem.W.keepIn K (.ref Zak)=true)
  (Ztv:PySem.W.findIn K (.ref Zak) "__class__" = some (some (.builtin "object.__class__")))
  (Ztw:PySem.W.mroIn K Zak (.type "object")=some true)
  (Zf1:PySem.W.findIn K (.ref Zak) "at" = some none)
  (ZdN:PySem.W.findIn K (.ref Zak) "truth" = some none)
  (Zeh:PySem.W.findIn K (.ref Zak) "part" = some none)
  (ZdM:PySem.W.findIn K (.ref Zak) "parts" = some none)
  (Zeg:PySem.W.findIn K (.ref Zak) "nots" = some none)
  (Zef:PySem.W.findIn K (.ref Zak) "ands" = some none)
  (ZcL:PySem.W.findIn K (.ref Zak) "eithers" = some none)
  (Ze7:PySem.W.findIn K (.ref Zak) "ors" = some none)
  (ZcM:PySem.W.findIn K (.ref Zak) "lacking" = some none)
  (ZBl:PySem.W.plainGet K Zav Str.empty=true)
  (ZAf:PySem.W.hasDictIn K Zav=true)
  (ZBo:PySem.W.plainOver K Zav=true)
  (ZBy:PySem.W.findIn K (.ref Zav) "__setattr__" = some (some (.builtin "object.__setattr__")))
  (ZEW:PySem.W.keepIn K (.ref Zav)=true)
  (ZEQ:PySem.W.findIn K (.ref Zav) "__class__" = some (some (.builtin "object.__class__")))
  (ZES:PySem.W.mroIn K Zav (.type "object")=some true)
  (ZE6:PySem.W.makesIn K Zav=true)
  (Zfb:PySem.W.findIn K (.ref Zav) "at" = some none)
  (Zf4:PySem.W.findIn K (.ref Zav) "truth" = some none)
  (Zhn:PySem.W.findIn K (.ref Zav) "part" = some none)
  (Zf3:PySem.W.findIn K (.ref Zav) "parts" = some none)
  (Zhm:PySem.W.findIn K (.ref Zav) "nots" = some none)
  (Zhl:PySem.W.findIn K (.ref Zav) "ands" = some none)
  (Zek:PySem.W.findIn K (.ref Zav) "eithers" = some none)
  (ZjT:PySem.W.findIn K (.ref Zav) "ors" = some none)
  (Zel:PySem.W.findIn K (.ref Zav) "lacking" = some none)
  (ZBm:PySem.W.plainGet K Zaw Str.empty=true)
  (ZAg:PySem.W.hasDictIn K Zaw=true)
  (ZBp:PySem.W.plainOver K Zaw=true)
  (ZBz:PySem.W.findIn K (.ref Zaw) "__setattr__" = some (some (.builtin "object.__setattr__")))
  (ZEX:PySem.W.keepIn K (.ref Zaw)=true)
  (ZER:PySem.W.findIn K (.ref Zaw) "__class__" = some (some (.builtin "object.__class__")))
  (ZET:PySem.W.mroIn K Zaw (.type "object")=some true)
  (ZE7:PySem.W.makesIn K Zaw=true)
  (ZnO:PySem.W.findIn K (.ref Zaw) "at" = some none)
  (Zcn:PySem.W.findIn K (.ref Zaw) "truth" = some none)
  (Zhs:PySem.W.findIn K (.ref Zaw) "part" = some none)
  (Zf8:PySem.W.findIn K (.ref Zaw) "parts" = some none)
  (Zhr:PySem.W.findIn K (.ref Zaw) "nots" = some none)
  (Zhq:PySem.W.findIn K (.ref Zaw) "ands" = some none)
  (Zem:PySem.W.findIn K (.ref Zaw) "eithers" = some none)
  (ZjY:PySem.W.findIn K (.ref Zaw) "ors" = some none)
  (Zen:PySem.W.findIn K (.ref Zaw) "lacking" = some none)
  (ZGH:PySem.W.plainGet K C_Not Str.empty=true)
  (ZGh:PySem.W.hasDictIn K C_Not=true)
  (ZGM:PySem.W.plainOver K C_Not=true)
  (ZGU:PySem.W.findIn K (.ref C_Not) "__setattr__" = some (some (.builtin "object.__setattr__")))
  (ZI2:PySem.W.keepIn K (.ref C_Not)=true)
  (ZID:PySem.W.findIn K (.ref C_Not) "__class__" = some (some (.builtin "object.__class__")))
  (ZIH:PySem.W.mroIn K C_Not (.type "object")=some true)
  (ZJh:PySem.W.makesIn K C_Not=true)
  (Zsq:PySem.W.findIn K (.ref C_Not) "at" = some none)
  (Zhp:PySem.W.findIn K (.ref C_Not) "truth" = some none)
  (ZcN:PySem.W.findIn K (.ref C_Not) "part" = some none)
  (Zho:PySem.W.findIn K (.ref C_Not) "parts" = some none)
  (ZjW:PySem.W.findIn K (.ref C_Not) "nots" = some none)
  (ZjV:PySem.W.findIn K (.ref C_Not) "ands" = some none)
  (Zfe:PySem.W.findIn K (.ref C_Not) "eithers" = some none)
  (ZnK:PySem.W.findIn K (.ref C_Not) "ors" = some none)
  (Zff:PySem.W.findIn K (.ref C_Not) "lacking" = some none)
  (ZsB:PySem.W.plainGet K Zas Str.empty=true)
  (ZrX:PySem.W.hasDictIn K Zas=true)
  (ZsV:PySem.W.plainOver K Zas=true)
  (ZsZ:PySem.W.findIn K (.ref Zas) "__setattr__" = some (some (.builtin "object.__setattr__")))
  (ZxK:PySem.W.keepIn K (.ref Zas)=true)
  (Zxy:PySem.W.findIn K (.ref Zas) "__class__" = some (some (.builtin "object.__class__")))
  (ZxA:PySem.W.mroIn K Zas (.type "object")=some true)
  (Zx2:PySem.W.makesIn K Zas=true)
  (Zhk:PySem.W.findIn K (.ref Zas) "at" = some none)
  (Zej:PySem.W.findIn K (.ref Zas) "truth" = some none)
  (Zfa:PySem.W.findIn K (.ref Zas) "part" = some none)
  (Zei:PySem.W.findIn K (.ref Zas) "parts" = some none)
  (Ze9:PySem.W.findIn K (.ref Zas) "nots" = some none)
  (Ze8:PySem.W.findIn K (.ref Zas) "ands" = some none)
  (Zdh:PySem.W.findIn K (.ref Zas) "eithers" = some none)
  (Zf2:PySem.W.findIn K (.ref Zas) "ors" = some none)
  (Zdi:PySem.W.findIn K (.ref Zas) "lacking" = some none)
  (ZGG:PySem.W.plainGet K C_And Str.empty=true)
  (ZGg:PySem.W.hasDictIn K C_And=true)
  (ZGL:PySem.W.plainOver K C_And=true)
  (ZGT:PySem.W.findIn K (.ref C_And) "__setattr__" = some (some (.builtin "object.__setattr__")))
  (ZI1:PySem.W.keepIn K (.ref C_And)=true)
  (ZIC:PySem.W.findIn K (.ref C_And) "__class__" = some (some (.builtin "object.__class__")))
  (ZIG:PySem.W.mroIn K C_And (.type "object")=some true)
  (ZJg:PySem.W.makesIn K C_And=true)
  (Zsp:PySem.W.findIn K (.ref C_And) "at" = some none)
  (Zhi:PySem.W.findIn K (.ref C_And) "truth" = some none)
  (ZjS:PySem.W.findIn K (.ref C_And) "part" = some none)
  (Zct:PySem.W.findIn K (.ref C_And) "parts" = some none)
  (ZjR:PySem.W.findIn K (.ref C_And) "nots" = some none)
  (ZjQ:PySem.W.findIn K (.ref C_And) "ands" = some none)
  (Ze2:PySem.W.findIn K (.ref C_And) "eithers" = some none)
  (ZnJ:PySem.W.findIn K (.ref C_And) "ors" = some none)
  (Ze3:PySem.W.findIn K (.ref C_And) "lacking" = some none)
  (ZsA:PySem.W.plainGet K Zaj Str.empty=true)
  (ZrW:PySem.W.hasDictIn K Zaj=true)
  (ZsU:PySem.W.plainOver K Zaj=true)
  (ZsY:PySem.W.findIn K (.ref Zaj) "__setattr__" = some (some (.builtin "object.__setattr__")))
  (ZxJ:PySem.W.keepIn K (.ref Zaj)=true)
  (Zxx:PySem.W.findIn K (.ref Zaj) "__class__" = some (some (.builtin "object.__class__")))
  (Zxz:PySem.W.mroIn K Zaj (.type "object")=some true)
  (Zx1:PySem.W.makesIn K Zaj=true)
  (Zhj:PySem.W.findIn K (.ref Zaj) "at" = some none)
  (Zee:PySem.W.findIn K (.ref Zaj) "truth" = some none)
  (Ze6:PySem.W.findIn K (.ref Zaj) "part" = some none)
  (Zbi:PySem.W.findIn K (.ref Zaj) "parts" = some none)
  (Ze5:PySem.W.findIn K (.ref Zaj) "nots" = some none)
  (Ze4:PySem.W.findIn K (.ref Zaj) "ands" = some none)
  (Zdf:PySem.W.findIn K (.ref Zaj) "eithers" = some none)
  (Zf0:PySem.W.findIn K (.ref Zaj) "ors" = some none)
  (Zdg:PySem.W.findIn K (.ref Zaj) "lacking" = some none)
  (pg_Or:PySem.W.plainGet K C_Or Str.empty=true)
  (hd_Or:PySem.W.hasDictIn K C_Or=true)
  (po_Or:PySem.W.plainOver K C_Or=true)
  (sa_Or:PySem.W.findIn K (.ref C_Or) "__setattr__" = some (some (.builtin "object.__setattr__")))
  (kc_Or:PySem.W.keepIn K (.ref C_Or)=true)
  (ha_Or:PySem.W.findIn K (.ref C_Or) "__class__" = some (some (.builtin "object.__class__")))
  (hm_Or:PySem.W.mroIn K C_Or (.type "object")=some true)
  (mk_Or:PySem.W.makesIn K C_Or=true)
  (Zx3:PySem.W.findIn K (.ref C_Or) "at" = some none)
  (ZjX:PySem.W.findIn K (.ref C_Or) "truth" = some none)
  (ZnN:PySem.W.findIn K (.ref C_Or) "part" = some none)
  (Zdl:PySem.W.findIn K (.ref C_Or) "parts" = some none)
  (ZnM:PySem.W.findIn K (.ref C_Or) "nots" = some none)
  (ZnL:PySem.W.findIn K (.ref C_Or) "ands" = some none)
  (Zf6:PySem.W.findIn K (.ref C_Or) "eithers" = some none)
  (Zsr:PySem.W.findIn K (.ref C_Or) "ors" = some none)
  (Zf7:PySem.W.findIn K (.ref C_Or) "lacking" = some none)
  (Zwu:PySem.W.plainGet K Zay Str.empty=true)
  (Zwm:PySem.W.hasDictIn K Zay=true)
  (Zwv:PySem.W.plainOver K Zay=true)
  (Zwx:PySem.W.findIn K (.ref Zay) "__setattr__" = some (some (.builtin "object.__setattr__")))
  (ZAp:PySem.W.keepIn K (.ref Zay)=true)
  (ZAe:PySem.W.findIn K (.ref Zay) "__class__" = some (some (.builtin "object.__class__")))
  (ZAh:PySem.W.mroIn K Zay (.type "object")=some true)
  (ZAy:PySem.W.makesIn K Zay=true)
  (ZjU:PySem.W.findIn K (.ref Zay) "at" = some none)
  (Zfd:PySem.W.findIn K (.ref Zay) "truth" = some none)
  (Zf5:PySem.W.findIn K (.ref Zay) "part" = some none)
  (Zfc:PySem.W.findIn K (.ref Zay) "parts" = some none)
  (ZbQ:PySem.W.findIn K (.ref Zay) "nots" = some none)
  (Zcm:PySem.W.findIn K (.ref Zay) "ands" = some none)
  (Zbr:PySem.W.findIn K (.ref Zay) "eithers" = some none)
  (ZdO:PySem.W.findIn K (.ref Zay) "ors" = some none)
  (ZaL:PySem.W.findIn K (.ref Zay) "lacking" = some none)
  (nd_:[Zak,Zav,Zaw,C_Not,Zas,C_And,Zaj,C_Or,Zay].Nodup)
  (hn_:PySem.W.specialIn K (.builtin "object.__class__") "__get__" = some (some (.builtin "getset_descriptor.__get__")))
  (htk_:PySem.W.takesIn K (.builtin "object.__class__")=some true)
  (ic_Or:PySem.W.isClsIn K C_Or=true)
  (ty_Or:PySem.W.typeIn K (.ref C_Or)=some (.type "type"))
  (Zn5:PySem.W.subIn K (.ref Zak) (.ref C_Or)=some false)
  (Zyr:PySem.W.subIn K (.ref Zav) (.ref C_Or)=some false)
  (Zyv:PySem.W.subIn K (.ref Zaw) (.ref C_Or)=some false)
  (ZBv:PySem.W.subIn K (.ref C_Not) (.ref C_Or)=some false)
  (ZqA:PySem.W.subIn K (.ref Zas) (.ref C_Or)=some false)
  (ZBu:PySem.W.subIn K (.ref C_And) (.ref C_Or)=some false)
  (Zqz:PySem.W.subIn K (.ref Zaj) (.ref C_Or)=some false)
  (ZtK:PySem.W.subIn K (.ref Zay) (.ref C_Or)=some false)
  (Zyw:PySem.W.subIn K (.type "NoneType") (.ref C_Or)=some false)
  (Zg6:PySem.W.isClsIn K Zav=true)
  (ZhH:PySem.W.typeIn K (.ref Zav)=some (.type "type"))
  (Zjl:PySem.W.subIn K (.ref Zak) (.ref Zav)=some false)
  (ZqF:PySem.W.subIn K (.ref Zaw) (.ref Zav)=some false)
  (ZtL:PySem.W.subIn K (.ref C_Not) (.ref Zav)=some false)
  (Zlk:PySem.W.subIn K (.ref Zas) (.ref Zav)=some false)
  (ZtG:PySem.W.subIn K (.ref C_And) (.ref Zav)=some false)
  (Zlg:PySem.W.subIn K (.ref Zaj) (.ref Zav)=some false)
  (Zyt:PySem.W.subIn K (.ref C_Or) (.ref Zav)=some false)
  (Zn8:PySem.W.subIn K (.ref Zay) (.ref Zav)=some false)
  (ZqG:PySem.W.subIn K (.type "NoneType") (.ref Zav)=some false)
  (Zg7:PySem.W.isClsIn K Zaw=true)
  (ZhI:PySem.W.typeIn K (.ref Zaw)=some (.type "type"))
  (Zjm:PySem.W.subIn K (.ref Zak) (.ref Zaw)=some false)
  (ZqB:PySem.W.subIn K (.ref Zav) (.ref Zaw)=some false)
  (ZtM:PySem.W.subIn K (.ref C_Not) (.ref Zaw)=some false)
  (Zll:PySem.W.subIn K (.ref Zas) (.ref Zaw)=some false)
  (ZtH:PySem.W.subIn K (.ref C_And) (.ref Zaw)=some false)
  (Zlh:PySem.W.subIn K (.ref Zaj) (.ref Zaw)=some false)
  (Zyu:PySem.W.subIn K (.ref C_Or) (.ref Zaw)=some false)
  (Zn9:PySem.W.subIn K (.ref Zay) (.ref Zaw)=some false)
  (ZqH:PySem.W.subIn K (.type "NoneType") (.ref Zaw)=some false)
  (Znv:PySem.W.isClsIn K C_Not=true)
  (Zog:PySem.W.typeIn K (.ref C_Not)=some (.type "type"))
  (Zlj:PySem.W.subIn K (.ref Zak) (.ref C_Not)=some false)
  (ZtJ:PySem.W.subIn K (.ref Zav) (.ref C_Not)=some false)
  (ZtO:PySem.W.subIn K (.ref Zaw) (.ref C_Not)=some false)
  (Zn7:PySem.W.subIn K (.ref Zas) (.ref C_Not)=some false)
  (Zyq:PySem.W.subIn K (.ref C_And) (.ref C_Not)=some false)
  (Zn4:PySem.W.subIn K (.ref Zaj) (.ref C_Not)=some false)
  (ZBx:PySem.W.subIn K (.ref C_Or) (.ref C_Not)=some false)
  (ZqD:PySem.W.subIn K (.ref Zay) (.ref C_Not)=some false)
  (ZtQ:PySem.W.subIn K (.type "NoneType") (.ref C_Not)=some false)
  (Znu:PySem.W.isClsIn K C_And=true)
  (Zof:PySem.W.typeIn K (.ref C_And)=some (.type "type"))
  (Zli:PySem.W.subIn K (.ref Zak) (.ref C_And)=some false)
  (ZtI:PySem.W.subIn K (.ref Zav) (.ref C_And)=some false)
  (ZtN:PySem.W.subIn K (.ref Zaw) (.ref C_And)=some false)
  (Zys:PySem.W.subIn K (.ref C_Not) (.ref C_And)=some false)
  (Zn6:PySem.W.subIn K (.ref Zas) (.ref C_And)=some false)
  (Zn3:PySem.W.subIn K (.ref Zaj) (.ref C_And)=some false)
  (ZBw:PySem.W.subIn K (.ref C_Or) (.ref C_And)=some false)
  (ZqC:PySem.W.subIn K (.ref Zay) (.ref C_And)=some false)
  (ZtP:PySem.W.subIn K (.type "NoneType") (.ref C_And)=some false)
  (ZdJ:PySem.W.isClsIn K Zaj=true)
  (ZdQ:PySem.W.typeIn K (.ref Zaj)=some (.type "type"))
  (Zgj:PySem.W.subIn K (.ref Zak) (.ref Zaj)=some false)
  (Zlm:PySem.W.subIn K (.ref Zav) (.ref Zaj)=some false)
  (Zlo:PySem.W.subIn K (.ref Zaw) (.ref Zaj)=some false)
  (Zoa:PySem.W.subIn K (.ref C_Not) (.ref Zaj)=some false)
  (ZhD:PySem.W.subIn K (.ref Zas) (.ref Zaj)=some false)
  (Zn2:PySem.W.subIn K (.ref C_And) (.ref Zaj)=some false)
  (ZqE:PySem.W.subIn K (.ref C_Or) (.ref Zaj)=some false)
  (Zjo:PySem.W.subIn K (.ref Zay) (.ref Zaj)=some false)
  (Zlp:PySem.W.subIn K (.type "NoneType") (.ref Zaj)=some false)
  (ZcH:PySem.W.isClsIn K Zak=true)
  (ZcO:PySem.W.typeIn K (.ref Zak)=some (.type "type"))
  (Zjn:PySem.W.subIn K (.ref Zav) (.ref Zak)=some true)
  (Zjp:PySem.W.subIn K (.ref Zaw) (.ref Zak)=some true)
  (Zln:PySem.W.subIn K (.ref C_Not) (.ref Zak)=some true)
  (Zgk:PySem.W.subIn K (.ref Zas) (.ref Zak)=some true)
  (Zlf:PySem.W.subIn K (.ref C_And) (.ref Zak)=some true)
  (Zgi:PySem.W.subIn K (.ref Zaj) (.ref Zak)=some true)
  (Zob:PySem.W.subIn K (.ref C_Or) (.ref Zak)=some true)
  (ZhE:PySem.W.subIn K (.ref Zay) (.ref Zak)=some false)
  (Zjq:PySem.W.subIn K (.type "NoneType") (.ref Zak)=some false)
  (b_len:PySem.W.nsIn K mainGlobals "len" = some none)
  (b_range:PySem.W.nsIn K mainGlobals "range" = some none)
  (b_isinstance:PySem.W.nsIn K mainGlobals "isinstance" = some none)
  (b_int:PySem.W.nsIn K mainGlobals "int" = some none)
  (b_bool:PySem.W.nsIn K mainGlobals "bool" = some none)
  (b_str:PySem.W.nsIn K mainGlobals "str" = some none)
  (b_list:PySem.W.nsIn K mainGlobals "list" = some none)
  (b_tuple:PySem.W.nsIn K mainGlobals "tuple" = some none)
  (b_dict:PySem.W.nsIn K mainGlobals "dict" = some none)
  (b_set:PySem.W.nsIn K mainGlobals "set" = some none)
  (b_sorted:PySem.W.nsIn K mainGlobals "sorted" = some none)
  (b_max:PySem.W.nsIn K mainGlobals "max" = some none)
  (b_min:PySem.W.nsIn K mainGlobals "min" = some none)
  (b_sum:PySem.W.nsIn K mainGlobals "sum" = some none)
  (b_any:PySem.W.nsIn K mainGlobals "any" = some none)
  (b_all:PySem.W.nsIn K mainGlobals "all" = some none)
  (b_abs:PySem.W.nsIn K mainGlobals "abs" = some none)
  (b_reversed:PySem.W.nsIn K mainGlobals "reversed" = some none)
  (b_enumerate:PySem.W.nsIn K mainGlobals "enumerate" = some none)
  (b_zip:PySem.W.nsIn K mainGlobals "zip" = some none)
  (g_LETTERS:PySem.W.nsIn K mainGlobals "LETTERS" = some (some (.str "abcdefghijklmnopqrstuvwxyz" tk_LETTERS)))
  (g_MARKS:PySem.W.nsIn K mainGlobals "MARKS" = some (some (.str "()," tk_MARKS)))
  (g_BLANK:PySem.W.nsIn K mainGlobals "BLANK" = some (some (.str " " tk_BLANK)))
  (g_JOINS:PySem.W.nsIn K mainGlobals "JOINS" = some (some (.ref v_JOINS)))
  (lk_JOINS:K.lookup v_JOINS=some ⟨.type "tuple",od_JOINS,.seq #[.str "and" tk_JOINS_0,.str "either" tk_JOINS_1,.str "or" tk_JOINS_2] nn_JOINS,sl_JOINS⟩)
  : ∃ t:Ad,Txt K mg t:=by
 refine ⟨⟨ZdH,PySem.W.fnOf "all_stands" "all_stands" (Zai Zb5) (Zag Zb5) (Zab Zb5) .none Zsg ZrP ZsS Zq6 ZkC Zrt,Zey,PySem.W.fnOf "bracketed" "bracketed" (Zai ZcE) (Zag ZcE) (Zab ZcE) .none Zvu Zve ZvS Zum ZmH ZuI,Zqb,PySem.W.fnOf "words" "words" (Zai Zjs) (Zag Zjs) (Zab Zjs) .none ZGq ZF7 ZGK ZFU Zz9 ZF2,ZkJ,PySem.W.fnOf "and_of" "and_of" (Zai ZfO) (Zag ZfO) (Zab ZfO) .none ZCU ZCE ZDI ZCs ZwZ ZCC,Zez,PySem.W.fnOf "either_of" "either_of" (Zai ZcF) (Zag ZcF) (Zab ZcF) .none Zvv Zvf ZvT Zun ZmI ZuJ,Zqa,PySem.W.fnOf "or_of" "or_of" (Zai Zjr) (Zag Zjr) (Zab Zjr) .none ZGp ZF6 ZGJ ZFT Zz8 ZF1,ZkK,PySem.W.fnOf "single" "single" (Zai ZfP) (Zag ZfP) (Zab ZfP) .none ZCV ZCF ZDJ ZCt Zw0 ZCD,ZdI,PySem.W.fnOf "formula_in" "formula_in" (Zai Zb6) (Zag Zb6) (Zab Zb6) .none Zsh ZrQ ZsT Zq7 ZkD Zru,Zxv,PySem.W.fnOf "read" "read" (Zai Zpy) (Zag Zpy) (Zab Zpy) .none ZIZ ZIo ZJO ZH1 ZEM ZIk,Zcr,PySem.W.fnOf "_law_cell_at" "_law_cell_at" (Zai Zbo) (Zag Zbo) (Zab Zbo) .none ZnB ZmY ZnV Zmh ZgX ZmO,ZdD,PySem.W.fnOf "_law_fresh" "_law_fresh" (Zai Zb2) (Zag Zb2) (Zab Zb2) .none Zsb ZrK ZsN Zq1 Zkx Zro,Zcs,PySem.W.fnOf "_law_letters" "_law_letters" (Zai Zbp) (Zag Zbp) (Zab Zbp) .none ZnC ZmZ ZnW Zmi ZgY ZmP,Zeu,PySem.W.fnOf "_law_name" "_law_name" (Zai ZcC) (Zag ZcC) (Zab ZcC) .none Zvq Zva ZvO Zui ZmD ZuE,ZdE,PySem.W.fnOf "_law_names" "_law_names" (Zai Zb3) (Zag Zb3) (Zab Zb3) .none Zsd ZrM ZsP Zq3 Zkz Zrq,Zew,PySem.W.fnOf "_law_rank" "_law_rank" (Zai ZcD) (Zag ZcD) (Zab ZcD) .none Zvs Zvc ZvQ Zuk ZmF ZuG,Zc9,PySem.W.fnOf "_law_opened" "_law_opened" (Zai Zbz) (Zag Zbz) (Zab Zbz) .none Zpp Zpj Zpw ZoZ Zi2 Zo7,Zev,PySem.W.fnOf "_law_over" "_law_over" (Zai ZbH) (Zag ZbH) (Zab ZbH) .none Zvr Zvb ZvP Zuj ZmE ZuF,Zex,PySem.W.fnOf "_law_tree" "_law_tree" (Zai Zcd) (Zag Zcd) (Zab Zcd) .none Zvt Zvd ZvR Zul ZmG ZuH,ZbD,PySem.W.fnOf "_law_words_of" "_law_words_of" (Zai ZaX) (Zag ZaX) (Zab ZaX) .none ZlM ZlG ZlP Zly Zgd ZlC,ZdF,PySem.W.fnOf "_law_plain" "_law_plain" (Zai Zb4) (Zag Zb4) (Zab Zb4) .none Zse ZrN ZsQ Zq4 ZkA Zrr,Zda,PySem.W.fnOf "_law_spaced" "_law_spaced" (Zai ZbA) (Zag ZbA) (Zab ZbA) .none Zpq Zpk Zpx Zo0 Zi3 Zo8,ZcZ,PySem.W.fnOf "_law_crowd" "_law_crowd" (Zai Za2) (Zag Za2) (Zab Za2) .none Zsa ZrJ ZsM Zq0 Zkw Zrn,Zc0,PySem.W.fnOf "_law_lamps" "_law_lamps" (Zai Za4) (Zag Za4) (Zab Za4) .none Zsc ZrL ZsO Zq2 Zky Zrp,Zca,PySem.W.fnOf "_law_of_class" "_law_of_class" (Zai Zbb) (Zag Zbb) (Zab Zbb) .none ZlL ZlF ZlO Zlx Zgc ZlB,ZdG,PySem.W.fnOf "_law_tells" "_law_tells" (Zai ZbF) (Zag ZbF) (Zab ZbF) .none Zsf ZrO ZsR Zq5 ZkB Zrs,f_law,PySem.W.fnOf "law" "law" (Zai Zzc) (Zag Zzc) (Zab Zzc) .none ZMK ZMk ZM0 ZMe ZIh ZMi,ZaE,PySem.W.fnOf "looseness" "Formula.looseness" (Zai ZaO) (Zag ZaO) (Zab ZaO) .none Zgr Zgq Zgs Zgn Zd2 Zgo,Zdx,PySem.W.fnOf "__init__" "Lamp.__init__" (Zai Zcw) (Zag Zcw) (Zab Zcw) .none Zvk Zu4 ZvI Zuc Zmx Zuy,ZcQ,PySem.W.fnOf "holds" "Lamp.holds" (Zai ZbT) (Zag ZbT) (Zab ZbT) .none Zr1 ZrA ZsD ZqR Zkn Zre,ZcP,PySem.W.fnOf "crowd" "Lamp.crowd" (Zai ZbS) (Zag ZbS) (Zab ZbS) .none Zr0 Zrz ZsC ZqQ Zkm Zrd,ZcR,PySem.W.fnOf "lamps" "Lamp.lamps" (Zai ZbU) (Zag ZbU) (Zab ZbU) .none Zr2 ZrB ZsE ZqS Zko Zrf,ZcS,PySem.W.fnOf "shown" "Lamp.shown" (Zai ZbV) (Zag ZbV) (Zab ZbV) .none Zr3 ZrC ZsF ZqT Zkp Zrg,ZdC,PySem.W.fnOf "__init__" "Sure.__init__" (Zai ZcB) (Zag ZcB) (Zab ZcB) .none Zvp Zu9 ZvN Zuh ZmC ZuD,ZcW,PySem.W.fnOf "holds" "Sure.holds" (Zai ZbZ) (Zag ZbZ) (Zab ZbZ) .none Zr7 ZrG ZsJ ZqX Zkt Zrk,ZcV,PySem.W.fnOf "crowd" "Sure.crowd" (Zai ZbY) (Zag ZbY) (Zab ZbY) .none Zr6 ZrF ZsI ZqW Zks Zrj,ZcX,PySem.W.fnOf "lamps" "Sure.lamps" (Zai Zb0) (Zag Zb0) (Zab Zb0) .none Zr8 ZrH ZsK ZqY Zku Zrl,ZcY,PySem.W.fnOf "shown" "Sure.shown" (Zai Zb1) (Zag Zb1) (Zab Zb1) .none Zr9 ZrI ZsL ZqZ Zkv Zrm,ZeB,PySem.W.fnOf "__init__" "Not.__init__" (Zai Zdm) (Zag Zdm) (Zab Zdm) .none ZxG Zxm Zyl ZwK ZpX Zw4,Zdz,PySem.W.fnOf "holds" "Not.holds" (Zai Zcy) (Zag Zcy) (Zab Zcy) .none Zvm Zu6 ZvK Zue Zmz ZuA,Zdy,PySem.W.fnOf "crowd" "Not.crowd" (Zai Zcx) (Zag Zcx) (Zab Zcx) .none Zvl Zu5 ZvJ Zud Zmy Zuz,ZdA,PySem.W.fnOf "lamps" "Not.lamps" (Zai Zcz) (Zag Zcz) (Zab Zcz) .none Zvn Zu7 ZvL Zuf ZmA ZuB,ZdB,PySem.W.fnOf "shown" "Not.shown" (Zai ZcA) (Zag ZcA) (Zab ZcA) .none Zvo Zu8 ZvM Zug ZmB ZuC,ZaT,PySem.W.fnOf "__init__" "Joined.__init__" (Zai Zbx) (Zag Zbx) (Zab Zbx) .none Zpn Zph Zpu ZoX Zi0 Zo5,ZaM,PySem.W.fnOf "lamps" "Joined.lamps" (Zai Zbl) (Zag Zbl) (Zab Zbl) .none Zny ZmV ZnS Zme ZgU ZmL,ZaN,PySem.W.fnOf "shown" "Joined.shown" (Zai Zbm) (Zag Zbm) (Zab Zbm) .none Znz ZmW ZnT Zmf ZgV ZmM,ZbC,PySem.W.fnOf "looseness" "And.looseness" (Zai Zba) (Zag Zba) (Zab Zba) .none ZlK ZlE ZlN Zlw Zgb ZlA,Zcj,PySem.W.fnOf "between" "And.between" (Zai Zbw) (Zag Zbw) (Zab Zbw) .none Zpm Zpg Zpt ZoW ZiZ Zo4,Zdw,PySem.W.fnOf "holds" "And.holds" (Zai Zcv) (Zag Zcv) (Zab Zcv) .none Zvj Zu3 ZvH Zub Zmw Zux,Zdv,PySem.W.fnOf "crowd" "And.crowd" (Zai Zcu) (Zag Zcu) (Zab Zcu) .none Zvi Zu2 ZvG Zua Zmv Zuw,Za7,PySem.W.fnOf "looseness" "Either.looseness" (Zai ZaS) (Zag ZaS) (Zab ZaS) .none Zg8 Zg1 Zhz ZgO Zes ZgZ,Zbt,PySem.W.fnOf "between" "Either.between" (Zai Za6) (Zag Za6) (Zab Za6) .none ZjJ ZjE Zj1 Zjw Zfo ZjA,ZbM,PySem.W.fnOf "holds" "Either.holds" (Zai Zbk) (Zag Zbk) (Zab Zbk) .none Znx ZmU ZnR Zmd ZgT ZmK,ZbL,PySem.W.fnOf "crowd" "Either.crowd" (Zai Zbj) (Zag Zbj) (Zab Zbj) .none Znw ZmT ZnQ Zmc ZgS ZmJ,ZbN,PySem.W.fnOf "looseness" "Or.looseness" (Zai Zbn) (Zag Zbn) (Zab Zbn) .none ZnA ZmX ZnU Zmg ZgW ZmN,ZcU,PySem.W.fnOf "between" "Or.between" (Zai ZbX) (Zag ZbX) (Zab ZbX) .none Zr5 ZrE ZsH ZqV Zkr Zri,ZeD,PySem.W.fnOf "holds" "Or.holds" (Zai Zdo) (Zag Zdo) (Zab Zdo) .none ZxI Zxo Zyn ZwM ZpZ Zw6,ZeC,PySem.W.fnOf "crowd" "Or.crowd" (Zai Zdn) (Zag Zdn) (Zab Zdn) .none ZxH Zxn Zym ZwL ZpY Zw5,ZcT,PySem.W.fnOf "__init__" "Level.__init__" (Zai ZbW) (Zag ZbW) (Zab ZbW) .none Zr4 ZrD ZsG ZqU Zkq Zrh,Zbe,PySem.W.fnOf "take_part" "Level.take_part" (Zai Za0) (Zag Za0) (Zab Za0) .none Zil Zig ZiQ ZhO ZeO Zic,Zbd,PySem.W.fnOf "take_join" "Level.take_join" (Zai ZaZ) (Zag ZaZ) (Zab ZaZ) .none Zik Zif ZiP ZhN ZeN Zib,Zbf,PySem.W.fnOf "take_word" "Level.take_word" (Zai Za1) (Zag Za1) (Zab Za1) .none Zim Zih ZiR ZhP ZeP Zid,Zck,PySem.W.fnOf "whole" "Level.whole" (Zai Zby) (Zag Zby) (Zab Zby) .none Zpo Zpi Zpv ZoY Zi1 Zo6,Zak,Zav,Zaw,C_Not,Zas,C_And,Zaj,C_Or,Zay,ZaH,v_JOINS⟩,?_⟩
 exact {
  Zl2:=Zao (st:=Zb5) ZiM Zh9 Ziu,
  Zuu:=(Zao (st:=Zb5) ZiM Zh9 Ziu).binds (ps:=["many"]) fun _ _ _ _ _ _ us hl=>match us,hl with | [_],_=>rfl,
  ZvC:=PySem.W.mg_of X G Zma,
  ZpG:=Zao (st:=ZcE) Zk7 Zkk ZkT,
  ZwU:=(Zao (st:=ZcE) Zk7 Zkk ZkT).binds (ps:=["part","text","bound"]) fun _ _ _ _ _ _ us hl=>match us,hl with | [_,_,_],_=>rfl,
  ZxZ:=PySem.W.mg_of X G ZpO,
  ZEw:=Zao (st:=Zjs) ZAr Zz5 ZAo,
  ZH5:=(Zao (st:=Zjs) ZAr Zz5 ZAo).binds (ps:=["text"]) fun _ _ _ _ _ _ us hl=>match us,hl with | [_],_=>rfl,
  ZJf:=PySem.W.mg_of X G ZEE,
  ZzT:=Zao (st:=ZfO) Zwp Zwj Zwn,
  ZFV:=(Zao (st:=ZfO) Zwp Zwj Zwn).binds (ps:=["parts"]) fun _ _ _ _ _ _ us hl=>match us,hl with | [_],_=>rfl,
  ZGz:=PySem.W.mg_of X G ZzZ,
  ZpH:=Zao (st:=ZcF) Zk8 Zkl ZkU,
  ZwV:=(Zao (st:=ZcF) Zk8 Zkl ZkU).binds (ps:=["parts"]) fun _ _ _ _ _ _ us hl=>match us,hl with | [_],_=>rfl,
  Zx0:=PySem.W.mg_of X G ZpP,
  ZEv:=Zao (st:=Zjr) ZAq Zz4 ZAn,
  ZH4:=(Zao (st:=Zjr) ZAq Zz4 ZAn).binds (ps:=["parts"]) fun _ _ _ _ _ _ us hl=>match us,hl with | [_],_=>rfl,
  ZJe:=PySem.W.mg_of X G ZED,
  ZzU:=Zao (st:=ZfP) Zwq Zwk Zwo,
  ZFW:=(Zao (st:=ZfP) Zwq Zwk Zwo).binds (ps:=["word","names"]) fun _ _ _ _ _ _ us hl=>match us,hl with | [_,_],_=>rfl,
  ZGA:=PySem.W.mg_of X G Zz0,
  Zl3:=Zao (st:=Zb6) ZiN Zia Ziv,
  Zuv:=(Zao (st:=Zb6) ZiN Zia Ziv).binds (ps:=["found","names"]) fun _ _ _ _ _ _ us hl=>match us,hl with | [_,_],_=>rfl,
  ZvD:=PySem.W.mg_of X G Zmb,
  ZHV:=Zao (st:=Zpy) ZGu ZFZ ZGs,
  ZMf:=(Zao (st:=Zpy) ZGu ZFZ ZGs).binds (ps:=["text","names"]) fun _ _ _ _ _ _ us hl=>match us,hl with | [_,_],_=>rfl,
  ZMQ:=PySem.W.mg_of X G ZH0,
  ZiT:=Zao (st:=Zbo) ZfM ZfC ZfF,
  Zo2:=(Zao (st:=Zbo) ZfM ZfC ZfF).binds (ps:=["_law_script","_law_k"]) fun _ _ _ _ _ _ us hl=>match us,hl with | [_,_],_=>rfl,
  Zpr:=PySem.W.mg_of X G ZiV,
  ZlY:=Zao (st:=Zb2) ZiH Zh4 Zip,
  Zuq:=(Zao (st:=Zb2) ZiH Zh4 Zip).binds (ps:=["_law_name_here","_law_names_here"]) fun _ _ _ _ _ _ us hl=>match us,hl with | [_,_],_=>rfl,
  Zvy:=PySem.W.mg_of X G Zl5,
  ZiU:=Zao (st:=Zbp) ZfN ZfD ZfG,
  Zo3:=(Zao (st:=Zbp) ZfN ZfD ZfG).binds (ps:=["_law_seed","_law_size"]) fun _ _ _ _ _ _ us hl=>match us,hl with | [_,_],_=>rfl,
  Zps:=PySem.W.mg_of X G ZiW,
  ZpC:=Zao (st:=ZcC) Zk3 Zkg ZkP,
  ZwQ:=(Zao (st:=ZcC) Zk3 Zkg ZkP).binds (ps:=["_law_k","_law_cell"]) fun _ _ _ _ _ _ us hl=>match us,hl with | [_,_],_=>rfl,
  ZxV:=PySem.W.mg_of X G ZpK,
  ZlZ:=Zao (st:=Zb3) ZiJ Zh6 Zir,
  Zur:=(Zao (st:=Zb3) ZiJ Zh6 Zir).binds (ps:=["_law_many","_law_cell"]) fun _ _ _ _ _ _ us hl=>match us,hl with | [_,_],_=>rfl,
  Zvz:=PySem.W.mg_of X G Zl7,
  ZpE:=Zao (st:=ZcD) Zk5 Zki ZkR,
  ZwS:=(Zao (st:=ZcD) Zk5 Zki ZkR).binds (ps:=["_law_tree_here","_law_wraps"]) fun _ _ _ _ _ _ us hl=>match us,hl with | [_,_],_=>rfl,
  ZxX:=PySem.W.mg_of X G ZpM,
  Zj4:=Zao (st:=Zbz) ZgG Zgy ZgB,
  Zra:=(Zao (st:=Zbz) ZgG Zgy ZgB).binds (ps:=["_law_entry","_law_bind"]) fun _ _ _ _ _ _ us hl=>match us,hl with | [_,_],_=>rfl,
  Zsm:=PySem.W.mg_of X G Zj6,
  ZpD:=Zao (st:=ZbH) Zk4 Zkh ZkQ,
  ZwR:=(Zao (st:=ZbH) Zk4 Zkh ZkQ).binds (ps:=["_law_pile","_law_kind","_law_more","_law_most","_law_nots"]) fun _ _ _ _ _ _ us hl=>match us,hl with | [_,_,_,_,_],_=>rfl,
  ZxW:=PySem.W.mg_of X G ZpL,
  ZpF:=Zao (st:=Zcd) Zk6 Zkj ZkS,
  ZwT:=(Zao (st:=Zcd) Zk6 Zkj ZkS).binds (ps:=["_law_cells","_law_many","_law_last","_law_most","_law_nots"]) fun _ _ _ _ _ _ us hl=>match us,hl with | [_,_,_,_,_],_=>rfl,
  ZxY:=PySem.W.mg_of X G ZpN,
  ZeI:=Zao (st:=ZaX) Ze1 ZeL ZeY,
  ZgQ:=(Zao (st:=ZaX) Ze1 ZeL ZeY).binds (ps:=["_law_tree_here","_law_names_here","_law_wraps"]) fun _ _ _ _ _ _ us hl=>match us,hl with | [_,_,_],_=>rfl,
  Zhh:=PySem.W.mg_of X G ZgN,
  Zl0:=Zao (st:=Zb4) ZiK Zh7 Zis,
  Zus:=(Zao (st:=Zb4) ZiK Zh7 Zis).binds (ps:=["_law_tree_here","_law_names_here"]) fun _ _ _ _ _ _ us hl=>match us,hl with | [_,_],_=>rfl,
  ZvA:=PySem.W.mg_of X G Zl8,
  Zj5:=Zao (st:=ZbA) ZgH Zgz ZgC,
  Zrb:=(Zao (st:=ZbA) ZgH Zgz ZgC).binds (ps:=["_law_some","_law_seed"]) fun _ _ _ _ _ _ us hl=>match us,hl with | [_,_],_=>rfl,
  Zsn:=PySem.W.mg_of X G Zj7,
  ZhL:=Zao (st:=Za2) ZiG Zh3 Zio,
  Zms:=(Zao (st:=Za2) ZiG Zh3 Zio).binds (ps:=["_law_tree_here","_law_many"]) fun _ _ _ _ _ _ us hl=>match us,hl with | [_,_],_=>rfl,
  ZnE:=PySem.W.mg_of X G Zl4,
  ZhM:=Zao (st:=Za4) ZiI Zh5 Ziq,
  Zmt:=(Zao (st:=Za4) ZiI Zh5 Ziq).binds (ps:=["_law_tree_here"]) fun _ _ _ _ _ _ us hl=>match us,hl with | [_],_=>rfl,
  ZnF:=PySem.W.mg_of X G Zl6,
  ZeH:=Zao (st:=Zbb) Ze0 ZeK ZeX,
  ZgP:=(Zao (st:=Zbb) Ze0 ZeK ZeX).binds (ps:=["_law_found","_law_tree_here"]) fun _ _ _ _ _ _ us hl=>match us,hl with | [_,_],_=>rfl,
  Zhg:=PySem.W.mg_of X G ZgM,
  Zl1:=Zao (st:=ZbF) ZiL Zh8 Zit,
  Zut:=(Zao (st:=ZbF) ZiL Zh8 Zit).binds (ps:=["_law_found","_law_tree_here","_law_many","_law_stand"]) fun _ _ _ _ _ _ us hl=>match us,hl with | [_,_,_,_],_=>rfl,
  ZvB:=PySem.W.mg_of X G Zl9,
  F_law:=Zao (st:=Zzc) l_law c_law k_law,
  b_law:=(Zao (st:=Zzc) l_law c_law k_law).binds (ps:=["_law_script"]) fun _ _ _ _ _ _ us hl=>match us,hl with | [_],_=>rfl,
  m_law:=PySem.W.mg_of X G a_law,
  Zc6:=Zao (st:=ZaO) Zdc Zc8 ZaU,
  Zc7:=(Zao (st:=ZaO) Zdc Zc8 ZaU).binds (ps:=["self"]) fun _ _ _ _ _ _ us hl=>match us,hl with | [_],_=>rfl,
  ZwC:=Zao (st:=Zcw) ZkX Zka ZkN,
  ZwO:=(Zao (st:=Zcw) ZkX Zka ZkN).binds (ps:=["self","at"]) fun _ _ _ _ _ _ us hl=>match us,hl with | [_,_],_=>rfl,
  Zt0:=Zao (st:=ZbT) Zix ZhT ZfS,
  Zml:=(Zao (st:=ZbT) Zix ZhT ZfS).binds (ps:=["self","stand"]) fun _ _ _ _ _ _ us hl=>match us,hl with | [_,_],_=>rfl,
  ZtZ:=Zao (st:=ZbS) Ziw ZhS ZfR,
  Zmk:=(Zao (st:=ZbS) Ziw ZhS ZfR).binds (ps:=["self","many"]) fun _ _ _ _ _ _ us hl=>match us,hl with | [_,_],_=>rfl,
  Zt1:=Zao (st:=ZbU) Ziy ZhU ZfT,
  Zmm:=(Zao (st:=ZbU) Ziy ZhU ZfT).binds (ps:=["self"]) fun _ _ _ _ _ _ us hl=>match us,hl with | [_],_=>rfl,
  Zt2:=Zao (st:=ZbV) Ziz ZhV ZfU,
  Zmn:=(Zao (st:=ZbV) Ziz ZhV ZfU).binds (ps:=["self","names"]) fun _ _ _ _ _ _ us hl=>match us,hl with | [_,_],_=>rfl,
  ZwH:=Zao (st:=ZcB) Zk2 Zkf ZkO,
  ZwP:=(Zao (st:=ZcB) Zk2 Zkf ZkO).binds (ps:=["self","truth"]) fun _ _ _ _ _ _ us hl=>match us,hl with | [_,_],_=>rfl,
  Zt6:=Zao (st:=ZbZ) ZiD Zh0 ZfX,
  Zmp:=(Zao (st:=ZbZ) ZiD Zh0 ZfX).binds (ps:=["self","stand"]) fun _ _ _ _ _ _ us hl=>match us,hl with | [_,_],_=>rfl,
  Zt5:=Zao (st:=ZbY) ZiC ZhZ ZfW,
  Zmo:=(Zao (st:=ZbY) ZiC ZhZ ZfW).binds (ps:=["self","many"]) fun _ _ _ _ _ _ us hl=>match us,hl with | [_,_],_=>rfl,
  Zt7:=Zao (st:=Zb0) ZiE Zh1 ZfY,
  Zmq:=(Zao (st:=Zb0) ZiE Zh1 ZfY).binds (ps:=["self"]) fun _ _ _ _ _ _ us hl=>match us,hl with | [_],_=>rfl,
  Zt8:=Zao (st:=Zb1) ZiF Zh2 ZfZ,
  Zmr:=(Zao (st:=Zb1) ZiF Zh2 ZfZ).binds (ps:=["self","names"]) fun _ _ _ _ _ _ us hl=>match us,hl with | [_,_],_=>rfl,
  Zzw:=Zao (st:=Zdm) Zox Zop Zov,
  ZzA:=(Zao (st:=Zdm) Zox Zop Zov).binds (ps:=["self","part"]) fun _ _ _ _ _ _ us hl=>match us,hl with | [_,_],_=>rfl,
  ZwE:=Zao (st:=Zcy) ZkZ Zkc Zhc,
  ZpU:=(Zao (st:=Zcy) ZkZ Zkc Zhc).binds (ps:=["self","stand"]) fun _ _ _ _ _ _ us hl=>match us,hl with | [_,_],_=>rfl,
  ZwD:=Zao (st:=Zcx) ZkY Zkb Zhb,
  ZpT:=(Zao (st:=Zcx) ZkY Zkb Zhb).binds (ps:=["self","many"]) fun _ _ _ _ _ _ us hl=>match us,hl with | [_,_],_=>rfl,
  ZwF:=Zao (st:=Zcz) Zk0 Zkd Zhd,
  ZpV:=(Zao (st:=Zcz) Zk0 Zkd Zhd).binds (ps:=["self"]) fun _ _ _ _ _ _ us hl=>match us,hl with | [_],_=>rfl,
  ZwG:=Zao (st:=ZcA) Zk1 Zke Zhe,
  ZpW:=(Zao (st:=ZcA) Zk1 Zke Zhe).binds (ps:=["self","names"]) fun _ _ _ _ _ _ us hl=>match us,hl with | [_,_],_=>rfl,
  ZqO:=Zao (st:=Zbx) ZgE Zgw ZgA,
  Zgu:=(Zao (st:=Zbx) ZgE Zgw ZgA).binds (ps:=["self","parts"]) fun _ _ _ _ _ _ us hl=>match us,hl with | [_,_],_=>rfl,
  ZoR:=Zao (st:=Zbl) ZfJ Zfz ZbO,
  Zd9:=(Zao (st:=Zbl) ZfJ Zfz ZbO).binds (ps:=["self"]) fun _ _ _ _ _ _ us hl=>match us,hl with | [_],_=>rfl,
  ZoS:=Zao (st:=Zbm) ZfK ZfA ZbP,
  Zea:=(Zao (st:=Zbm) ZfK ZfA ZbP).binds (ps:=["self","names"]) fun _ _ _ _ _ _ us hl=>match us,hl with | [_,_],_=>rfl,
  ZlX:=Zao (st:=Zba) ZeZ ZeJ ZdK,
  Zmj:=(Zao (st:=Zba) ZeZ ZeJ ZdK).binds (ps:=["self"]) fun _ _ _ _ _ _ us hl=>match us,hl with | [_],_=>rfl,
  ZqN:=Zao (st:=Zbw) ZgD Zgv ZeV,
  Zq8:=(Zao (st:=Zbw) ZgD Zgv ZeV).binds (ps:=["self"]) fun _ _ _ _ _ _ us hl=>match us,hl with | [_],_=>rfl,
  ZwB:=Zao (st:=Zcv) ZkW Zj9 Zha,
  ZpS:=(Zao (st:=Zcv) ZkW Zj9 Zha).binds (ps:=["self","stand"]) fun _ _ _ _ _ _ us hl=>match us,hl with | [_,_],_=>rfl,
  ZwA:=Zao (st:=Zcu) ZkV Zj8 Zg9,
  ZpR:=(Zao (st:=Zcu) ZkV Zj8 Zg9).binds (ps:=["self","many"]) fun _ _ _ _ _ _ us hl=>match us,hl with | [_,_],_=>rfl,
  ZhK:=Zao (st:=ZaS) Zdt Zdr Zcl,
  ZhQ:=(Zao (st:=ZaS) Zdt Zdr Zcl).binds (ps:=["self"]) fun _ _ _ _ _ _ us hl=>match us,hl with | [_],_=>rfl,
  Zlv:=Zao (st:=Za6) Zep Zeo Zde,
  Zlz:=(Zao (st:=Za6) Zep Zeo Zde).binds (ps:=["self"]) fun _ _ _ _ _ _ us hl=>match us,hl with | [_],_=>rfl,
  ZoQ:=Zao (st:=Zbk) ZfI Zfy Zec,
  ZiY:=(Zao (st:=Zbk) ZfI Zfy Zec).binds (ps:=["self","stand"]) fun _ _ _ _ _ _ us hl=>match us,hl with | [_,_],_=>rfl,
  ZoP:=Zao (st:=Zbj) ZfH Zfx Zeb,
  ZiX:=(Zao (st:=Zbj) ZfH Zfx Zeb).binds (ps:=["self","many"]) fun _ _ _ _ _ _ us hl=>match us,hl with | [_,_],_=>rfl,
  ZoT:=Zao (st:=Zbn) ZfL ZfB Zed,
  Zo1:=(Zao (st:=Zbn) ZfL ZfB Zed).binds (ps:=["self"]) fun _ _ _ _ _ _ us hl=>match us,hl with | [_],_=>rfl,
  Zt4:=Zao (st:=ZbX) ZiB ZhX ZfV,
  Zup:=(Zao (st:=ZbX) ZiB ZhX ZfV).binds (ps:=["self"]) fun _ _ _ _ _ _ us hl=>match us,hl with | [_],_=>rfl,
  Zzy:=Zao (st:=Zdo) Zoz Zor ZjL,
  Ztf:=(Zao (st:=Zdo) Zoz Zor ZjL).binds (ps:=["self","stand"]) fun _ _ _ _ _ _ us hl=>match us,hl with | [_,_],_=>rfl,
  Zzx:=Zao (st:=Zdn) Zoy Zoq ZjK,
  Zte:=(Zao (st:=Zdn) Zoy Zoq ZjK).binds (ps:=["self","many"]) fun _ _ _ _ _ _ us hl=>match us,hl with | [_,_],_=>rfl,
  Zt3:=Zao (st:=ZbW) ZiA ZhW Zin,
  Zuo:=(Zao (st:=ZbW) ZiA ZhW Zin).binds (ps:=["self"]) fun _ _ _ _ _ _ us hl=>match us,hl with | [_],_=>rfl,
  Zju:=Zao (st:=Za0) ZdX ZdS ZcJ,
  Zjy:=(Zao (st:=Za0) ZdX ZdS ZcJ).binds (ps:=["self","part"]) fun _ _ _ _ _ _ us hl=>match us,hl with | [_,_],_=>rfl,
  Zjt:=Zao (st:=ZaZ) ZdW ZdR ZcI,
  Zjx:=(Zao (st:=ZaZ) ZdW ZdR ZcI).binds (ps:=["self","word"]) fun _ _ _ _ _ _ us hl=>match us,hl with | [_,_],_=>rfl,
  Zjv:=Zao (st:=Za1) ZdY ZdT ZcK,
  Zjz:=(Zao (st:=Za1) ZdY ZdT ZcK).binds (ps:=["self","word","names"]) fun _ _ _ _ _ _ us hl=>match us,hl with | [_,_,_],_=>rfl,
  ZqP:=Zao (st:=Zby) ZgF Zgx ZeW,
  Zq9:=(Zao (st:=Zby) ZgF Zgx ZeW).binds (ps:=["self"]) fun _ _ _ _ _ _ us hl=>match us,hl with | [_],_=>rfl,
  ZC1:=PySem.W.mg_of X G ZwJ,
  ZIa:=⟨ZoE,Zou,ZoF,ZoH⟩,
  ZKq:=fun H a dx fs e=>TyOf.ins e ⟨ZoE,Zou,ZoF,ZoH⟩ Ztv hn_ htk_ Ztw,
  Zf1:=Zf1,
  ZdN:=ZdN,
  Zeh:=Zeh,
  ZdM:=ZdM,
  Zeg:=Zeg,
  Zef:=Zef,
  ZcL:=ZcL,
  Ze7:=Ze7,
  ZcM:=ZcM,
  Zqg:=⟨Zet,Zbc,ZaU⟩,
  ZxT:=PySem.W.mg_of X G ZHY,
  ZhR:=⟨ZBl,ZAf,ZBo,ZBy⟩,
  ZKr:=fun H a dx fs e=>TyOf.ins e ⟨ZBl,ZAf,ZBo,ZBy⟩ ZEQ hn_ htk_ ZES,
  ZML:=⟨ZE6,Zp4,Zqn,ZEW⟩,
  Zfb:=Zfb,
  Zf4:=Zf4,
  Zhn:=Zhn,
  Zf3:=Zf3,
  Zhm:=Zhm,
  Zhl:=Zhl,
  Zek:=Zek,
  ZjT:=ZjT,
  Zel:=Zel,
  Znc:=⟨Zm1,Znl,ZfS⟩,
  Znb:=⟨Zm0,Znk,ZfR⟩,
  Znd:=⟨Zm2,Znm,ZfT⟩,
  Zne:=⟨Zm3,Znn,ZfU⟩,
  ZlI:=⟨Zgf,Zbc,ZaU⟩,
  ZxU:=PySem.W.mg_of X G ZHZ,
  ZhY:=⟨ZBm,ZAg,ZBp,ZBz⟩,
  ZKs:=fun H a dx fs e=>TyOf.ins e ⟨ZBm,ZAg,ZBp,ZBz⟩ ZER hn_ htk_ ZET,
  ZMM:=⟨ZE7,Zp9,Zqs,ZEX⟩,
  ZnO:=ZnO,
  Zcn:=Zcn,
  Zhs:=Zhs,
  Zf8:=Zf8,
  Zhr:=Zhr,
  Zhq:=Zhq,
  Zem:=Zem,
  ZjY:=ZjY,
  Zen:=Zen,
  Znh:=⟨Zm7,Znr,ZfX⟩,
  Zng:=⟨Zm6,Znq,ZfW⟩,
  Zni:=⟨Zm8,Zns,ZfY⟩,
  Znj:=⟨Zm9,Znt,ZfZ⟩,
  ZlJ:=⟨Zgg,Zbc,ZaU⟩,
  m_Not:=PySem.W.mg_of X G a_Not,
  c_Not:=⟨ZGH,ZGh,ZGM,ZGU⟩,
  y_Not:=fun H a dx fs e=>TyOf.ins e ⟨ZGH,ZGh,ZGM,ZGU⟩ ZID hn_ htk_ ZIH,
  k_Not:=⟨ZJh,Ztl,Ztx,ZI2⟩,
  Zsq:=Zsq,
  Zhp:=Zhp,
  ZcN:=ZcN,
  Zho:=Zho,
  ZjW:=ZjW,
  ZjV:=ZjV,
  Zfe:=Zfe,
  ZnK:=ZnK,
  Zff:=Zff,
  Zqi:=⟨Zp6,Zqp,Zhc⟩,
  Zqh:=⟨Zp5,Zqo,Zhb⟩,
  Zqj:=⟨Zp7,Zqq,Zhd⟩,
  Zqk:=⟨Zp8,Zqr,Zhe⟩,
  Znf:=⟨Zg3,Zbc,ZaU⟩,
  ZLh:=PySem.W.mg_of X G ZzY,
  ZKL:=⟨ZsB,ZrX,ZsV,ZsZ⟩,
  ZL5:=fun H a dx fs e=>TyOf.ins e ⟨ZsB,ZrX,ZsV,ZsZ⟩ Zxy hn_ htk_ ZxA,
  ZLa:=⟨Zx2,ZkH,ZdV,ZxK⟩,
  Zhk:=Zhk,
  Zej:=Zej,
  Zfa:=Zfa,
  Zei:=Zei,
  Ze9:=Ze9,
  Ze8:=Ze8,
  Zdh:=Zdh,
  Zf2:=Zf2,
  Zdi:=Zdi,
  ZyY:=⟨Zi9,Zdj,ZbO⟩,
  ZyZ:=⟨Zja,Zdk,ZbP⟩,
  ZrU:=⟨ZeS,Zbc,ZaU⟩,
  m_And:=PySem.W.mg_of X G a_And,
  c_And:=⟨ZGG,ZGg,ZGL,ZGT⟩,
  y_And:=fun H a dx fs e=>TyOf.ins e ⟨ZGG,ZGg,ZGL,ZGT⟩ ZIC hn_ htk_ ZIG,
  k_And:=⟨ZJg,Ztk,ZdV,ZI1⟩,
  Zsp:=Zsp,
  Zhi:=Zhi,
  ZjS:=ZjS,
  Zct:=Zct,
  ZjR:=ZjR,
  ZjQ:=ZjQ,
  Ze2:=Ze2,
  ZnJ:=ZnJ,
  Ze3:=Ze3,
  Zna:=⟨Zg2,Zg5,ZdK⟩,
  ZrT:=⟨ZkF,ZkL,ZeV⟩,
  Zqd:=⟨Zp1,Zqm,Zha⟩,
  Zqc:=⟨Zp0,Zql,Zg9⟩,
  Zqe:=⟨Zp2,Zdj,ZbO⟩,
  Zqf:=⟨Zp3,Zdk,ZbP⟩,
  Zla:=PySem.W.mg_of X G ZzX,
  Zdq:=⟨ZsA,ZrW,ZsU,ZsY⟩,
  ZCc:=fun H a dx fs e=>TyOf.ins e ⟨ZsA,ZrW,ZsU,ZsY⟩ Zxx hn_ htk_ Zxz,
  ZGr:=⟨Zx1,ZkG,ZdV,ZxJ⟩,
  Zhj:=Zhj,
  Zee:=Zee,
  Ze6:=Ze6,
  Zbi:=Zbi,
  Ze5:=Ze5,
  Ze4:=Ze4,
  Zdf:=Zdf,
  Zf0:=Zf0,
  Zdg:=Zdg,
  Zii:=⟨ZeR,ZeU,Zcl⟩,
  ZlH:=⟨Zge,Zgh,Zde⟩,
  Zjd:=⟨Zi6,Zjh,Zec⟩,
  Zjc:=⟨Zi5,Zjg,Zeb⟩,
  Zje:=⟨Zi7,Zdj,ZbO⟩,
  Zjf:=⟨Zi8,Zdk,ZbP⟩,
  m_Or:=PySem.W.mg_of X G a_Or,
  c_Or:=⟨pg_Or,hd_Or,po_Or,sa_Or⟩,
  y_Or:=fun H a dx fs e=>TyOf.ins e ⟨pg_Or,hd_Or,po_Or,sa_Or⟩ ha_Or hn_ htk_ hm_Or,
  k_Or:=⟨mk_Or,Zxp,ZdV,kc_Or⟩,
  Zx3:=Zx3,
  ZjX:=ZjX,
  ZnN:=ZnN,
  Zdl:=Zdl,
  ZnM:=ZnM,
  ZnL:=ZnL,
  Zf6:=Zf6,
  Zsr:=Zsr,
  Zf7:=Zf7,
  Zpl:=⟨Zjb,Zji,Zed⟩,
  Zvg:=⟨Zm5,Znp,ZfV⟩,
  Zts:=⟨Ztn,Ztz,ZjL⟩,
  Ztr:=⟨Ztm,Zty,ZjK⟩,
  Ztt:=⟨Zto,Zdj,ZbO⟩,
  Ztu:=⟨Ztp,Zdk,ZbP⟩,
  ZJd:=PySem.W.mg_of X G ZEC,
  Zbh:=⟨Zwu,Zwm,Zwv,Zwx⟩,
  ZOF:=fun H a dx fs e=>TyOf.ins e ⟨Zwu,Zwm,Zwv,Zwx⟩ ZAe hn_ htk_ ZAh,
  ZI0:=⟨ZAy,Zm4,Zno,ZAp⟩,
  ZjU:=ZjU,
  Zfd:=Zfd,
  Zf5:=Zf5,
  Zfc:=Zfc,
  ZbQ:=ZbQ,
  Zcm:=Zcm,
  Zbr:=Zbr,
  ZdO:=ZdO,
  ZaL:=ZaL,
  ZjG:=⟨Zfq,Zft,ZcJ⟩,
  ZjF:=⟨Zfp,Zfs,ZcI⟩,
  ZjH:=⟨Zfr,Zfu,ZcK⟩,
  ZrV:=⟨ZkI,ZkM,ZeW⟩,
  b_ValueError:=PySem.W.mg_none_of X G b_ValueError,
  Zhf:=PySem.W.mg_of X G ZpJ,
  Zga:=Zga,
  ZCA:=Zij,
  ZeE:=ZeE,
  ZhB:=⟨Zon,Zij,Zok,Zol,Zoj,ZeE,Zom⟩,
  ZFC:=ZNM Zoo,
  Zbu:=Zbu,
  ZlW:=ZI5 _ _,
  Zzm:=ZaK nd_ (i:=0) (j:=1) rfl rfl (by decide),
  Zzn:=ZaK nd_ (i:=0) (j:=2) rfl rfl (by decide),
  ZB8:=ZaK nd_ (i:=0) (j:=3) rfl rfl (by decide),
  Zwf:=ZaK nd_ (i:=0) (j:=4) rfl rfl (by decide),
  ZB7:=ZaK nd_ (i:=0) (j:=5) rfl rfl (by decide),
  Zwe:=ZaK nd_ (i:=0) (j:=6) rfl rfl (by decide),
  ZEi:=ZaK nd_ (i:=0) (j:=7) rfl rfl (by decide),
  ZyO:=ZaK nd_ (i:=0) (j:=8) rfl rfl (by decide),
  ZqM:=ZaK nd_ (i:=1) (j:=2) rfl rfl (by decide),
  ZtW:=ZaK nd_ (i:=1) (j:=3) rfl rfl (by decide),
  ZB9:=ZaK nd_ (i:=1) (j:=4) rfl rfl (by decide),
  ZtV:=ZaK nd_ (i:=1) (j:=5) rfl rfl (by decide),
  Zlt:=ZaK nd_ (i:=1) (j:=6) rfl rfl (by decide),
  ZyQ:=ZaK nd_ (i:=1) (j:=7) rfl rfl (by decide),
  ZvZ:=ZaK nd_ (i:=1) (j:=8) rfl rfl (by decide),
  ZtY:=ZaK nd_ (i:=2) (j:=3) rfl rfl (by decide),
  ZCb:=ZaK nd_ (i:=2) (j:=4) rfl rfl (by decide),
  ZtX:=ZaK nd_ (i:=2) (j:=5) rfl rfl (by decide),
  Zlu:=ZaK nd_ (i:=2) (j:=6) rfl rfl (by decide),
  ZyT:=ZaK nd_ (i:=2) (j:=7) rfl rfl (by decide),
  Zv0:=ZaK nd_ (i:=2) (j:=8) rfl rfl (by decide),
  ZEk:=ZaK nd_ (i:=3) (j:=4) rfl rfl (by decide),
  ZyR:=ZaK nd_ (i:=3) (j:=5) rfl rfl (by decide),
  Zoi:=ZaK nd_ (i:=3) (j:=6) rfl rfl (by decide),
  ZCa:=ZaK nd_ (i:=3) (j:=7) rfl rfl (by decide),
  ZyS:=ZaK nd_ (i:=3) (j:=8) rfl rfl (by decide),
  ZEj:=ZaK nd_ (i:=4) (j:=5) rfl rfl (by decide),
  ZyP:=ZaK nd_ (i:=4) (j:=6) rfl rfl (by decide),
  ZFF:=ZaK nd_ (i:=4) (j:=7) rfl rfl (by decide),
  Zzo:=ZaK nd_ (i:=4) (j:=8) rfl rfl (by decide),
  Zoh:=ZaK nd_ (i:=5) (j:=6) rfl rfl (by decide),
  ZB6:=ZaK nd_ (i:=5) (j:=7) rfl rfl (by decide),
  ZyN:=ZaK nd_ (i:=5) (j:=8) rfl rfl (by decide),
  ZqL:=ZaK nd_ (i:=6) (j:=7) rfl rfl (by decide),
  Zpz:=ZaK nd_ (i:=6) (j:=8) rfl rfl (by decide),
  ZzS:=ZaK nd_ (i:=7) (j:=8) rfl rfl (by decide),
  ZEo:=ZaF (fun e=>ZaK nd_ (i:=0) (j:=7) rfl rfl (by decide) (Value.ref.inj e)) ic_Or ty_Or Zn5,
  ZKu:=ZaF (fun e=>ZaK nd_ (i:=1) (j:=7) rfl rfl (by decide) (Value.ref.inj e)) ic_Or ty_Or Zyr,
  ZKy:=ZaF (fun e=>ZaK nd_ (i:=2) (j:=7) rfl rfl (by decide) (Value.ref.inj e)) ic_Or ty_Or Zyv,
  ZL7:=ZaF (fun e=>ZaK nd_ (i:=3) (j:=7) rfl rfl (by decide) (Value.ref.inj e)) ic_Or ty_Or ZBv,
  ZFI:=ZaF (fun e=>ZaK nd_ (i:=4) (j:=7) rfl rfl (by decide) (Value.ref.inj e)) ic_Or ty_Or ZqA,
  ZL6:=ZaF (fun e=>ZaK nd_ (i:=5) (j:=7) rfl rfl (by decide) (Value.ref.inj e)) ic_Or ty_Or ZBu,
  ZFH:=ZaF (fun e=>ZaK nd_ (i:=6) (j:=7) rfl rfl (by decide) (Value.ref.inj e)) ic_Or ty_Or Zqz,
  ZHN:=ZaF (fun e=>ZaK nd_ (i:=8) (j:=7) rfl rfl (by decide) (Value.ref.inj e)) ic_Or ty_Or ZtK,
  ZKz:=ZaF (fun e=>nomatch e) ic_Or ty_Or Zyw,
  Zzp:=ZaF (fun e=>ZaK nd_ (i:=0) (j:=1) rfl rfl (by decide) (Value.ref.inj e)) Zg6 ZhH Zjl,
  ZFN:=ZaF (fun e=>ZaK nd_ (i:=2) (j:=1) rfl rfl (by decide) (Value.ref.inj e)) Zg6 ZhH ZqF,
  ZHO:=ZaF (fun e=>ZaK nd_ (i:=3) (j:=1) rfl rfl (by decide) (Value.ref.inj e)) Zg6 ZhH ZtL,
  ZCh:=ZaF (fun e=>ZaK nd_ (i:=4) (j:=1) rfl rfl (by decide) (Value.ref.inj e)) Zg6 ZhH Zlk,
  ZHJ:=ZaF (fun e=>ZaK nd_ (i:=5) (j:=1) rfl rfl (by decide) (Value.ref.inj e)) Zg6 ZhH ZtG,
  ZCd:=ZaF (fun e=>ZaK nd_ (i:=6) (j:=1) rfl rfl (by decide) (Value.ref.inj e)) Zg6 ZhH Zlg,
  ZKw:=ZaF (fun e=>ZaK nd_ (i:=7) (j:=1) rfl rfl (by decide) (Value.ref.inj e)) Zg6 ZhH Zyt,
  ZEr:=ZaF (fun e=>ZaK nd_ (i:=8) (j:=1) rfl rfl (by decide) (Value.ref.inj e)) Zg6 ZhH Zn8,
  ZFO:=ZaF (fun e=>nomatch e) Zg6 ZhH ZqG,
  Zzq:=ZaF (fun e=>ZaK nd_ (i:=0) (j:=2) rfl rfl (by decide) (Value.ref.inj e)) Zg7 ZhI Zjm,
  ZFJ:=ZaF (fun e=>ZaK nd_ (i:=1) (j:=2) rfl rfl (by decide) (Value.ref.inj e)) Zg7 ZhI ZqB,
  ZHP:=ZaF (fun e=>ZaK nd_ (i:=3) (j:=2) rfl rfl (by decide) (Value.ref.inj e)) Zg7 ZhI ZtM,
  ZCi:=ZaF (fun e=>ZaK nd_ (i:=4) (j:=2) rfl rfl (by decide) (Value.ref.inj e)) Zg7 ZhI Zll,
  ZHK:=ZaF (fun e=>ZaK nd_ (i:=5) (j:=2) rfl rfl (by decide) (Value.ref.inj e)) Zg7 ZhI ZtH,
  ZCe:=ZaF (fun e=>ZaK nd_ (i:=6) (j:=2) rfl rfl (by decide) (Value.ref.inj e)) Zg7 ZhI Zlh,
  ZKx:=ZaF (fun e=>ZaK nd_ (i:=7) (j:=2) rfl rfl (by decide) (Value.ref.inj e)) Zg7 ZhI Zyu,
  ZEs:=ZaF (fun e=>ZaK nd_ (i:=8) (j:=2) rfl rfl (by decide) (Value.ref.inj e)) Zg7 ZhI Zn9,
  ZFP:=ZaF (fun e=>nomatch e) Zg7 ZhI ZqH,
  ZCg:=ZaF (fun e=>ZaK nd_ (i:=0) (j:=3) rfl rfl (by decide) (Value.ref.inj e)) Znv Zog Zlj,
  ZHM:=ZaF (fun e=>ZaK nd_ (i:=1) (j:=3) rfl rfl (by decide) (Value.ref.inj e)) Znv Zog ZtJ,
  ZHR:=ZaF (fun e=>ZaK nd_ (i:=2) (j:=3) rfl rfl (by decide) (Value.ref.inj e)) Znv Zog ZtO,
  ZEq:=ZaF (fun e=>ZaK nd_ (i:=4) (j:=3) rfl rfl (by decide) (Value.ref.inj e)) Znv Zog Zn7,
  ZKt:=ZaF (fun e=>ZaK nd_ (i:=5) (j:=3) rfl rfl (by decide) (Value.ref.inj e)) Znv Zog Zyq,
  ZEn:=ZaF (fun e=>ZaK nd_ (i:=6) (j:=3) rfl rfl (by decide) (Value.ref.inj e)) Znv Zog Zn4,
  ZL9:=ZaF (fun e=>ZaK nd_ (i:=7) (j:=3) rfl rfl (by decide) (Value.ref.inj e)) Znv Zog ZBx,
  ZFL:=ZaF (fun e=>ZaK nd_ (i:=8) (j:=3) rfl rfl (by decide) (Value.ref.inj e)) Znv Zog ZqD,
  ZHT:=ZaF (fun e=>nomatch e) Znv Zog ZtQ,
  ZCf:=ZaF (fun e=>ZaK nd_ (i:=0) (j:=5) rfl rfl (by decide) (Value.ref.inj e)) Znu Zof Zli,
  ZHL:=ZaF (fun e=>ZaK nd_ (i:=1) (j:=5) rfl rfl (by decide) (Value.ref.inj e)) Znu Zof ZtI,
  ZHQ:=ZaF (fun e=>ZaK nd_ (i:=2) (j:=5) rfl rfl (by decide) (Value.ref.inj e)) Znu Zof ZtN,
  ZKv:=ZaF (fun e=>ZaK nd_ (i:=3) (j:=5) rfl rfl (by decide) (Value.ref.inj e)) Znu Zof Zys,
  ZEp:=ZaF (fun e=>ZaK nd_ (i:=4) (j:=5) rfl rfl (by decide) (Value.ref.inj e)) Znu Zof Zn6,
  ZEm:=ZaF (fun e=>ZaK nd_ (i:=6) (j:=5) rfl rfl (by decide) (Value.ref.inj e)) Znu Zof Zn3,
  ZL8:=ZaF (fun e=>ZaK nd_ (i:=7) (j:=5) rfl rfl (by decide) (Value.ref.inj e)) Znu Zof ZBw,
  ZFK:=ZaF (fun e=>ZaK nd_ (i:=8) (j:=5) rfl rfl (by decide) (Value.ref.inj e)) Znu Zof ZqC,
  ZHS:=ZaF (fun e=>nomatch e) Znu Zof ZtP,
  Zwg:=ZaF (fun e=>ZaK nd_ (i:=0) (j:=6) rfl rfl (by decide) (Value.ref.inj e)) ZdJ ZdQ Zgj,
  ZCj:=ZaF (fun e=>ZaK nd_ (i:=1) (j:=6) rfl rfl (by decide) (Value.ref.inj e)) ZdJ ZdQ Zlm,
  ZCk:=ZaF (fun e=>ZaK nd_ (i:=2) (j:=6) rfl rfl (by decide) (Value.ref.inj e)) ZdJ ZdQ Zlo,
  ZEt:=ZaF (fun e=>ZaK nd_ (i:=3) (j:=6) rfl rfl (by decide) (Value.ref.inj e)) ZdJ ZdQ Zoa,
  ZyU:=ZaF (fun e=>ZaK nd_ (i:=4) (j:=6) rfl rfl (by decide) (Value.ref.inj e)) ZdJ ZdQ ZhD,
  ZEl:=ZaF (fun e=>ZaK nd_ (i:=5) (j:=6) rfl rfl (by decide) (Value.ref.inj e)) ZdJ ZdQ Zn2,
  ZFM:=ZaF (fun e=>ZaK nd_ (i:=7) (j:=6) rfl rfl (by decide) (Value.ref.inj e)) ZdJ ZdQ ZqE,
  Zzr:=ZaF (fun e=>ZaK nd_ (i:=8) (j:=6) rfl rfl (by decide) (Value.ref.inj e)) ZdJ ZdQ Zjo,
  ZCl:=ZaF (fun e=>nomatch e) ZdJ ZdQ Zlp,
  ZpA:=ZaF (fun e=>ZaK nd_ (i:=1) (j:=0) rfl rfl (by decide) (Value.ref.inj e)) ZcH ZcO Zjn,
  ZpB:=ZaF (fun e=>ZaK nd_ (i:=2) (j:=0) rfl rfl (by decide) (Value.ref.inj e)) ZcH ZcO Zjp,
  Zta:=ZaF (fun e=>ZaK nd_ (i:=3) (j:=0) rfl rfl (by decide) (Value.ref.inj e)) ZcH ZcO Zln,
  Zwh:=ZaF (fun e=>ZaK nd_ (i:=4) (j:=0) rfl rfl (by decide) (Value.ref.inj e)) ZcH ZcO Zgk,
  Zs9:=ZaF (fun e=>ZaK nd_ (i:=5) (j:=0) rfl rfl (by decide) (Value.ref.inj e)) ZcH ZcO Zlf,
  ZlS:=ZaF (fun e=>ZaK nd_ (i:=6) (j:=0) rfl rfl (by decide) (Value.ref.inj e)) ZcH ZcO Zgi,
  Zv1:=ZaF (fun e=>ZaK nd_ (i:=7) (j:=0) rfl rfl (by decide) (Value.ref.inj e)) ZcH ZcO Zob,
  ZyV:=ZaF (fun e=>ZaK nd_ (i:=8) (j:=0) rfl rfl (by decide) (Value.ref.inj e)) ZcH ZcO ZhE,
  Zzs:=ZaF (fun e=>nomatch e) ZcH ZcO Zjq,
  bl:=fun s u=>.of_eq rfl,
  B:=⟨PySem.W.mg_none_of X G b_len,PySem.W.mg_none_of X G b_range,PySem.W.mg_none_of X G b_isinstance,PySem.W.mg_none_of X G b_int,PySem.W.mg_none_of X G b_bool,PySem.W.mg_none_of X G b_str,PySem.W.mg_none_of X G b_list,PySem.W.mg_none_of X G b_tuple,PySem.W.mg_none_of X G b_dict,PySem.W.mg_none_of X G b_set,PySem.W.mg_none_of X G b_sorted,PySem.W.mg_none_of X G b_max,PySem.W.mg_none_of X G b_min,PySem.W.mg_none_of X G b_sum,PySem.W.mg_none_of X G b_any,PySem.W.mg_none_of X G b_all,PySem.W.mg_none_of X G b_abs,PySem.W.mg_none_of X G b_reversed,PySem.W.mg_none_of X G b_enumerate,PySem.W.mg_none_of X G b_zip⟩,
  g_LETTERS:=⟨_,PySem.W.mg_of X G g_LETTERS,⟨_,rfl⟩⟩,
  g_MARKS:=⟨_,PySem.W.mg_of X G g_MARKS,⟨_,rfl⟩⟩,
  g_BLANK:=⟨_,PySem.W.mg_of X G g_BLANK,⟨_,rfl⟩⟩,
  g_JOINS:=⟨_,PySem.W.mg_of X G g_JOINS,rfl⟩,
  q_JOINS:=fun H=>.inr ⟨_,_,_,lk_JOINS,rfl,rfl,Nat.le_of_ble_eq_true rfl,.cons ⟨_,rfl⟩ (.cons ⟨_,rfl⟩ (.cons ⟨_,rfl⟩ (.nil)))⟩ }
theorem Zz1 (x y:Nat):Builtin.bitAnd (x:Int) (y:Int)=((x &&& y:Nat):Int):=by simp [Builtin.bitAnd]
theorem ZE8 (x:Int):Builtin.bitNot (Builtin.bitNot x)=x:=by unfold Builtin.bitNot; omega
theorem ZGD (x y:Nat):Builtin.bitOr (x:Int) (y:Int)=((x ||| y:Nat):Int):=by
 show Builtin.bitNot (Builtin.bitAnd (Builtin.bitNot x) (Builtin.bitNot y))=_
 rw [PyProof.Rows.bitAnd_nn (by unfold Builtin.bitNot; omega) (by unfold Builtin.bitNot; omega),ZE8,ZE8,ZE8]
 simp
theorem ZFG (x y:Nat):Builtin.bitXor (x:Int) (y:Int)=((x ^^^ y:Nat):Int):=by
 show Builtin.bitOr x y - Builtin.bitAnd x y=_
 rw [ZGD,Zz1,ZGE (x + 1) x y (by omega)]
 omega
def cell (ns:List Int) (k:Nat):Int:=ns.getD k 0
def spLaw (K:PySem.W.Frag):Sp:=fun vs H Q _=>∃ (a:Addr) (ns:List Int),vs=[.ref a]∧SqL K H a (ns.map V.int)∧ns.length≤63∧Only H∧∀ H',Q (.bl true) H'
def ZP8 (K:PySem.W.Frag):Sp:=fun vs H Q _=>∃ (a:Addr) (ns:List Int) (k:Nat),vs=[.ref a,.int (k:Int)]∧SqL K H a (ns.map V.int)∧Q (.int (cell ns k)) H
section
variable {P:Program} {w:World} {K:PySem.W.Frag} {mg:Str→Option Value} {base:Heap} {t:Ad}
theorem ZHt (T:Txt K mg t):FnS P w K mg base 1 "_law_cell_at" ["_law_script","_law_k"] (ZP8 K):=by
 refine ⟨_,_,T.ZiT.ok ZyA (fun vs H Q E h=>?_) (fun cdv A outer s H vs Q E hr h=>?_),T.Zo2,T.ZiT.kp,T.Zpr⟩
 ·obtain ⟨a,ns,k,rfl,_⟩ :=h
  rfl
 ·obtain ⟨a,ns,k,rfl,hS,q⟩ :=h
  refine ⟨_,(Zac (ZaI (Zah ZN5 (pv 1) (Zax Zb9 rfl T.B.len ZgR (Zaa (pv 0) Zaf)) (Zap _))
   (Zad (Zam (ZaG Zar (pv 0) (pv 1) (fun _ _=>rfl))))
   Zaq)
   (Zad (Zam Zae))),?_⟩
  walk_at "rd0"
  refine Zd3 (fun h=>?_) (fun h=>?_)
  ·rw [List.length_map] at h
   have hk:k < ns.length:=by omega
   walk_at "rd"
   refine ZQu (j:=k) (v:=.int (cell ns k)) hS ?_ q
   rw [List.getElem?_map,List.getElem?_eq_getElem hk]
   simp [cell,List.getD_eq_getElem?_getD,List.getElem?_eq_getElem hk]
  ·rw [List.length_map] at h
   walk_at "rd"
   have e:cell ns k=0:=by
    simp only [cell,List.getD_eq_getElem?_getD]
    rw [List.getElem?_eq_none (by omega)]
    rfl
   rw [e] at q
   exact q
end
theorem ZrY {t u:TS} {D:Ends} {σ:St} {H:Hp} (Pn:St→Hp→Prop) (h2:∀ σ H,Pn σ H→u D σ H) (h1:∀ Kn:St→Hp→Prop,(∀ σ H,Pn σ H→Kn σ H)→t { D with nx:=Kn } σ H):tSeq t u D σ H:=h1 (u D) h2
def cw (t:Ad):W3→Addr
 | .a=>t.C_And
 | .e=>t.Zaj
 | .o=>t.C_Or
def FmAt (t:Ad) (H:Hp):Nat→Addr→Fm→Prop
 | 0,_,_=>False
 | n + 1,p,f=>match f with
  | .lamp k=>∃ dx,H p=some (.ins t.Zav dx [(("at" : Str),.int (k:Int))])
  | .sure b=>∃ dx,H p=some (.ins t.Zaw dx [(("truth" : Str),.bl b)])
  | .neg g=>∃ dx q,H p=some (.ins t.C_Not dx [(("part" : Str),.ref q)])∧FmAt t H n q g
  | .join w gs=>∃ dx tp ps,H p=some (.ins (cw t w) dx [(("parts" : Str),.ref tp)])∧H tp=some (.tup (ps.map V.ref))∧Paired (FmAt t H n) ps gs
def isFm (t:Ad) (C:Addr):Prop:=C=t.Zav∨C=t.Zaw∨C=t.C_Not∨C=t.C_And∨C=t.Zaj∨C=t.C_Or
theorem ZaR {α β:Type} {F G:α→β→Prop} (h:∀ a b,F a b→G a b):∀ {xs:List α} {ys:List β},Paired F xs ys→Paired G xs ys
 | _,_,.nil=>.nil
 | _,_,.cons r s=>.cons (h _ _ r) (ZaR h s)
theorem Zbs {α β:Type} {F:α→β→Prop}:∀ {xs:List α} {ys:List β} {i:Nat} {x:α},Paired F xs ys→xs[i]?=some x→∃ y,ys[i]?=some y∧F x y
 | _,_,_,_,.nil,e=>by simp at e
 | _,_,0,_,.cons r _,e=>by simp at e; subst e; exact ⟨_,rfl,r⟩
 | _,_,i + 1,x,.cons _ s,e=>by
  obtain ⟨u,h1,h2⟩ :=Zbs (i:=i) (x:=x) s (by simpa using e)
  exact ⟨u,by simpa using h1,h2⟩
theorem Zd0 {α β:Type} {F:α→β→Prop}:∀ {xs xs':List α} {ys ys':List β},Paired F xs ys→Paired F xs' ys'→Paired F (xs ++ xs') (ys ++ ys')
 | _,_,_,_,.nil,s=>s
 | _,_,_,_,.cons r q,s=>.cons r (Zd0 q s)
theorem Zqx {α β:Type} {F:α→β→Prop}:∀ {xs:List α} {ys:List β} (n:Nat),Paired F xs ys→Paired F (xs.take n) (ys.take n)
 | _,_,0,_=>by rw [List.take_zero,List.take_zero]; exact .nil
 | _,_,_ + 1,.nil=>by rw [List.take_nil,List.take_nil]; exact .nil
 | _,_,n + 1,.cons r q=>by rw [List.take_succ_cons,List.take_succ_cons]; exact .cons r (Zqx n q)
theorem Zqw {α β:Type} {F:α→β→Prop}:∀ {xs:List α} {ys:List β} (n:Nat),Paired F xs ys→Paired F (xs.drop n) (ys.drop n)
 | _,_,0,q=>q
 | _,_,_ + 1,.nil=>by rw [List.drop_nil,List.drop_nil]; exact .nil
 | _,_,n + 1,.cons r q=>by rw [List.drop_succ_cons,List.drop_succ_cons]; exact Zqw n q
theorem ZaY {α β:Type} {F:α→β→Prop} {xs:List α} {ys:List β} (h:Paired F xs ys):xs.length=ys.length:=Paired.length h
theorem ZFl {α β:Type} {F:α→β→Prop} {xs:List α} {ys:List β} {x:α} {y:β} (h:Paired F (xs ++ [x]) (ys ++ [y])):Paired F xs ys∧F x y:=by
 have hl:xs.length=ys.length:=by have:=ZaY h; simpa using this
 have a:=Zqx xs.length h
 have b:=Zqw xs.length h
 rw [List.take_left,hl,List.take_left] at a
 rw [List.drop_left,hl,List.drop_left] at b
 cases b with
 | cons r _=>exact ⟨a,r⟩
theorem ZeT {ps:List Addr} {i:Nat} {x:V} (h:(ps.map V.ref)[i]?=some x):∃ p,x=V.ref p∧ps[i]?=some p:=by
 rw [List.getElem?_map] at h
 cases e:ps[i]? with
 | none=>rw [e] at h; cases h
 | some p=>rw [e] at h; exact ⟨p,(Option.some.inj h).symm,rfl⟩
theorem ZbJ {α:Type} {l:List α} {i:Nat} {x:α} (h:l[i]?=some x):l.take (i + 1)=l.take i ++ [x]:=by
 rw [List.take_add_one,h]; rfl
section
variable {P:Program} {w:World} {K:PySem.W.Frag} {mg:Str→Option Value} {base:Heap} {t:Ad} {H H':Hp} {n:Nat} {p:Addr} {f:Fm}
theorem FmAt.mono (s:Ext H H'):∀ {n:Nat} {p:Addr} {f:Fm},FmAt t H n p f→FmAt t H' n p f
 | 0,_,_,h=>h
 | n + 1,p,f,h=>by
  cases f with
  | lamp k=>obtain ⟨dx,e⟩ :=h; exact ⟨dx,s _ _ e (fun _ z=>nomatch z)⟩
  | sure b=>obtain ⟨dx,e⟩ :=h; exact ⟨dx,s _ _ e (fun _ z=>nomatch z)⟩
  | neg g=>obtain ⟨dx,q,e,h⟩ :=h; exact ⟨dx,q,s _ _ e (fun _ z=>nomatch z),FmAt.mono s h⟩
  | join w gs=>obtain ⟨dx,tp,ps,e,e2,h⟩ :=h; exact ⟨dx,tp,ps,s _ _ e (fun _ z=>nomatch z),s _ _ e2 (fun _ z=>nomatch z),ZaR (fun a b h=>FmAt.mono s h) h⟩
theorem FmAt.le:∀ {n m:Nat} {p:Addr} {f:Fm},n≤m→FmAt t H n p f→FmAt t H m p f
 | 0,_,_,_,_,h=>h.elim
 | n + 1,0,_,_,hm,_=>absurd hm (by omega)
 | n + 1,m + 1,p,f,hm,h=>by
  have hm':n≤m:=by omega
  cases f with
  | lamp k=>exact h
  | sure b=>exact h
  | neg g=>obtain ⟨dx,q,e,h⟩ :=h; exact ⟨dx,q,e,FmAt.le hm' h⟩
  | join w gs=>obtain ⟨dx,tp,ps,e,e2,h⟩ :=h; exact ⟨dx,tp,ps,e,e2,ZaR (fun a b h=>FmAt.le hm' h) h⟩
theorem ZNF (t:Ad) (w:W3):isFm t (cw t w):=by
 cases w
 ·exact .inr (.inr (.inr (.inl rfl)))
 ·exact .inr (.inr (.inr (.inr (.inl rfl))))
 ·exact .inr (.inr (.inr (.inr (.inr rfl))))
theorem FmAt.ins (h:FmAt t H n p f) (m:Str) (h1 : ¬ m = "at") (h2 : ¬ m = "truth") (h3 : ¬ m = "part") (h4 : ¬ m = "parts"):∃ C dx fs,H p=some (.ins C dx fs)∧isFm t C∧fs.lookup m=none:=by
 cases n with
 | zero=>exact h.elim
 | succ n=>
  cases f with
  | lamp k=>obtain ⟨dx,e⟩ :=h; exact ⟨_,dx,_,e,.inl rfl,lk0 _ h1⟩
  | sure b=>obtain ⟨dx,e⟩ :=h; exact ⟨_,dx,_,e,.inr (.inl rfl),lk0 _ h2⟩
  | neg g=>obtain ⟨dx,q,e,h⟩ :=h; exact ⟨_,dx,_,e,.inr (.inr (.inl rfl)),lk0 _ h3⟩
  | join w gs=>obtain ⟨dx,tp,ps,e,e2,h⟩ :=h; exact ⟨_,dx,_,e,ZNF t w,lk0 _ h4⟩
theorem FmAt.lamp {dx:Addr} {fs:List (Str × V)} (T:Txt K mg t) (h:FmAt t H (n + 1) p f) (e:H p=some (.ins t.Zav dx fs)):∃ k:Nat,f=.lamp k∧fs=[(("at" : Str),.int (k:Int))]:=by
 cases f with
 | lamp k=>obtain ⟨dx',e'⟩ :=h; rw [e] at e'; injection e' with e'; injection e' with _ _ e'; exact ⟨k,rfl,e'⟩
 | sure b=>obtain ⟨dx',e'⟩ :=h; rw [e] at e'; injection e' with e'; injection e' with e' _ _; exact absurd e' T.ZqM
 | neg g=>obtain ⟨dx',q,e',_⟩ :=h; rw [e] at e'; injection e' with e'; injection e' with e' _ _; exact absurd e' T.ZtW
 | join w gs=>obtain ⟨dx',tp,ps,e',_⟩ :=h; rw [e] at e'; injection e' with e'; injection e' with e' _ _; cases w; exact absurd e' T.ZtV; exact absurd e' T.Zlt; exact absurd e' T.ZyQ
theorem FmAt.sure {dx:Addr} {fs:List (Str × V)} (T:Txt K mg t) (h:FmAt t H (n + 1) p f) (e:H p=some (.ins t.Zaw dx fs)):∃ b:Bool,f=.sure b∧fs=[(("truth" : Str),.bl b)]:=by
 cases f with
 | lamp k=>obtain ⟨dx',e'⟩ :=h; rw [e] at e'; injection e' with e'; injection e' with e' _ _; exact absurd e'.symm T.ZqM
 | sure b=>obtain ⟨dx',e'⟩ :=h; rw [e] at e'; injection e' with e'; injection e' with _ _ e'; exact ⟨b,rfl,e'⟩
 | neg g=>obtain ⟨dx',q,e',_⟩ :=h; rw [e] at e'; injection e' with e'; injection e' with e' _ _; exact absurd e' T.ZtY
 | join w gs=>obtain ⟨dx',tp,ps,e',_⟩ :=h; rw [e] at e'; injection e' with e'; injection e' with e' _ _; cases w; exact absurd e' T.ZtX; exact absurd e' T.Zlu; exact absurd e' T.ZyT
theorem FmAt.neg {dx:Addr} {fs:List (Str × V)} (T:Txt K mg t) (h:FmAt t H (n + 1) p f) (e:H p=some (.ins t.C_Not dx fs)):∃ g q,f=.neg g∧fs=[(("part" : Str),.ref q)]∧FmAt t H n q g:=by
 cases f with
 | lamp k=>obtain ⟨dx',e'⟩ :=h; rw [e] at e'; injection e' with e'; injection e' with e' _ _; exact absurd e'.symm T.ZtW
 | sure b=>obtain ⟨dx',e'⟩ :=h; rw [e] at e'; injection e' with e'; injection e' with e' _ _; exact absurd e'.symm T.ZtY
 | neg g=>obtain ⟨dx',q,e',h⟩ :=h; rw [e] at e'; injection e' with e'; injection e' with _ _ e'; exact ⟨g,q,rfl,e',h⟩
 | join w gs=>obtain ⟨dx',tp,ps,e',_⟩ :=h; rw [e] at e'; injection e' with e'; injection e' with e' _ _; cases w; exact absurd e' T.ZyR; exact absurd e' T.Zoi; exact absurd e' T.ZCa
theorem ZF3 (T:Txt K mg t) {v w:W3} (e:cw t v=cw t w):v=w:=by
 cases v <;> cases w <;> first
  | rfl
  | exact absurd e T.Zoh
  | exact absurd e T.ZB6
  | exact absurd e T.ZqL
  | exact absurd e.symm T.Zoh
  | exact absurd e.symm T.ZB6
  | exact absurd e.symm T.ZqL
theorem FmAt.join {dx:Addr} {fs:List (Str × V)} {w:W3} (T:Txt K mg t) (h:FmAt t H (n + 1) p f) (e:H p=some (.ins (cw t w) dx fs)) :
  ∃ gs tp ps,f=.join w gs∧fs=[(("parts" : Str),.ref tp)]∧H tp=some (.tup (ps.map V.ref))∧Paired (FmAt t H n) ps gs:=by
 cases f with
 | lamp k=>obtain ⟨dx',e'⟩ :=h; rw [e] at e'; injection e' with e'; injection e' with e' _ _; cases w; exact absurd e'.symm T.ZtV; exact absurd e'.symm T.Zlt; exact absurd e'.symm T.ZyQ
 | sure b=>obtain ⟨dx',e'⟩ :=h; rw [e] at e'; injection e' with e'; injection e' with e' _ _; cases w; exact absurd e'.symm T.ZtX; exact absurd e'.symm T.Zlu; exact absurd e'.symm T.ZyT
 | neg g=>obtain ⟨dx',q,e',_⟩ :=h; rw [e] at e'; injection e' with e'; injection e' with e' _ _; cases w; exact absurd e'.symm T.ZyR; exact absurd e'.symm T.Zoi; exact absurd e'.symm T.ZCa
 | join v gs=>
  obtain ⟨dx',tp,ps,e',e2,h⟩ :=h
  rw [e] at e'; injection e' with e'; injection e' with e1 _ e3
  obtain rfl:=ZF3 T e1
  exact ⟨gs,tp,ps,rfl,e3,e2,h⟩
theorem ZNZ (T:Txt K mg t):MkS P w K mg base 1 "Lamp" t.Zav ["self","at"] (ZB3 t.Zav "at"):=by
 refine ⟨T.ZxT,_,_,T.ZML,T.ZwC.ok ZDM (fun vs H Q E h=>?_) (fun cdv A outer s H vs Q E hr h=>?_),T.ZwO⟩
 ·obtain ⟨p,dx,v,rfl,_⟩ :=h
  rfl
 ·obtain ⟨p,dx,v,rfl,hp,q⟩ :=h
  refine ⟨_,(Zad (ZhA (pv 0) (pv 1) rfl)),?_⟩
  walk_at "rd0"
  exact ⟨p,_,_,_,rfl,hp,T.ZhR,T.Zfb,by decide,q⟩
theorem ZN0 (T:Txt K mg t):MkS P w K mg base 1 "Sure" t.Zaw ["self","truth"] (ZB3 t.Zaw "truth"):=by
 refine ⟨T.ZxU,_,_,T.ZMM,T.ZwH.ok ZDQ (fun vs H Q E h=>?_) (fun cdv A outer s H vs Q E hr h=>?_),T.ZwP⟩
 ·obtain ⟨p,dx,v,rfl,_⟩ :=h
  rfl
 ·obtain ⟨p,dx,v,rfl,hp,q⟩ :=h
  refine ⟨_,(Zad (ZhA (pv 0) (pv 1) rfl)),?_⟩
  walk_at "rd0"
  exact ⟨p,_,_,_,rfl,hp,T.ZhY,T.Zcn,by decide,q⟩
theorem ZPB (T:Txt K mg t):MkS P w K mg base 1 "Not" t.C_Not ["self","part"] (ZB3 t.C_Not "part"):=by
 refine ⟨T.m_Not,_,_,T.k_Not,T.Zzw.ok ZFv (fun vs H Q E h=>?_) (fun cdv A outer s H vs Q E hr h=>?_),T.ZzA⟩
 ·obtain ⟨p,dx,v,rfl,_⟩ :=h
  rfl
 ·obtain ⟨p,dx,v,rfl,hp,q⟩ :=h
  refine ⟨_,(Zad (ZhA (pv 0) (pv 1) rfl)),?_⟩
  walk_at "rd0"
  exact ⟨p,_,_,_,rfl,hp,T.c_Not,T.ZcN,by decide,q⟩
def ZyJ (C:Addr):Sp:=fun vs H Q _=>∃ p dx l ys,vs=[.ref p,.ref l]∧H p=some (.ins C dx [])∧H l=some (.lst ys)∧∀ tp,H tp=none→Q .non (upd (upd H tp (.tup ys)) p (.ins C dx [(("parts" : Str),.ref tp)]))
theorem ZtE {C:Addr} (T:Txt K mg t) (cl:Cls K C) (na:ZaB K C "parts"):FnOk P w K mg base CX0 1 t.ZaT t.ZkE ["self","parts"] (ZyJ C):=by
 refine T.ZqO.ok Zze (fun vs H Q E h=>?_) (fun cdv A outer s H vs Q E hr h=>?_)
 ·obtain ⟨p,dx,l,ys,rfl,_⟩ :=h
  rfl
 ·obtain ⟨p,dx,l,ys,rfl,hp,hl,q⟩ :=h
  refine ⟨_,(Zad (ZhA (pv 0) (Zco ZEL rfl T.B.tuple ZKK (Zaa (pv 1) Zaf)) rfl)),?_⟩
  walk_at "rd0"
  refine ZPi hl fun tp htp=>?_
  walk_at "rd"
  exact ⟨p,_,_,_,rfl,by rw [ZbG (Zat hp htp)]; exact hp,cl,na,by decide,q tp htp⟩
theorem ZPA (T:Txt K mg t):MkS P w K mg base 1 "And" t.C_And ["self","parts"] (ZyJ t.C_And):=⟨T.m_And,_,_,T.k_And,ZtE T T.c_And T.Zct,T.Zgu⟩
theorem ZJv (T:Txt K mg t):MkS P w K mg base 1 "Either" t.Zaj ["self","parts"] (ZyJ t.Zaj):=⟨T.Zla,_,_,T.ZGr,ZtE T T.Zdq T.Zbi,T.Zgu⟩
theorem ZQG (T:Txt K mg t):MkS P w K mg base 1 "Or" t.C_Or ["self","parts"] (ZyJ t.C_Or):=⟨T.m_Or,_,_,T.k_Or,ZtE T T.c_Or T.Zdl,T.Zgu⟩
theorem ZEU {C l:Addr} {ys:List V} {H:Hp} {Q:VK} (hl:H l=some (.lst ys)) (h:∀ (x dx tp:Addr) (H':Hp),Same H H'→H x=none→H' x=some (.ins C dx [(("parts" : Str),.ref tp)])→H' tp=some (.tup ys)→Q (.ref x) H') :
  MkG C (ZyJ C) [.ref l] H Q:=by
 intro x dx hx hdx ne
 have s2:=Zyx hx hdx (.ins C dx []) (.own x)
 refine ⟨x,dx,l,ys,rfl,ZaV,s2 _ _ hl,fun tp htp=>⟨rfl,?_⟩⟩
 have hxt:tp ≠ x:=by
  intro e; subst e; rw [ZaV] at htp; cases htp
 have htp0:H tp=none:=s2.free htp
 refine h x dx tp _ (fun b o e=>?_) hx ZaV (by rw [ZbG hxt,ZaV])
 rw [ZbG (Zat e hx),ZbG (Zat e htp0),ZbG (Zat e hx),ZbG (Zat e hdx)]
 exact e
end
def Lt (z:Str):Prop:=∀ c ∈ z.cps.toList,97≤c∧c≤122
theorem Zwr {z:Str} (h:Lt z) (lo hi:Option Int):Lt (Txt.slice z lo hi):=by
 unfold Txt.slice
 split
 ·exact h
 ·intro c hc
  have hc:c ∈ (Builtin.Str.strSliceIndices lo hi 1 z.length).filterMap (z.cps[·]?):=by simpa using hc
  obtain ⟨i,_,e⟩ :=List.mem_filterMap.mp hc
  obtain ⟨hi,e⟩ :=Array.getElem?_eq_some_iff.mp e
  exact h c (by rw [← e]; simp)
theorem ZjN {x y:Str} (hx:Lt x) (hy:Lt y):Lt (x ++ y):=by
 intro c hc
 have hc:c ∈ (x.cps ++ y.cps).toList:=hc
 rw [Array.toList_append,List.mem_append] at hc
 exact hc.elim (hx c) (hy c)
theorem ZGy {k:Nat} (h:k < 26):Lt ⟨#[97 + k]⟩ :=by
 intro c hc
 have hc:c ∈ [97 + k]:=hc
 rw [List.mem_singleton.mp hc]
 omega
def abc:Str:="abcdefghijklmnopqrstuvwxyz"
theorem ZI7:∀ k,k < 26→abc.cps.toList[k]?=some (97 + k):=by decide +kernel
theorem ZLe:∀ k,k < 26→Txt.find abc ⟨#[97 + k]⟩=(k:Int):=by decide +kernel
theorem ZEO {z:Str} {k:Nat} (h:k < z.length):∃ c,z.cps.toList[k]?=some c:=by
 have h:k < z.cps.toList.length:=by simpa [Str.length] using h
 exact ⟨_,List.getElem?_eq_getElem h⟩
theorem ZMZ {α:Type} [DecidableEq α] (f:Nat→α):∀ (k:Nat) (L:List α),(∀ i,i < k→f i ∈ L)→(∀ i j,i < j→j < k→f i ≠ f j)→k≤L.length
 | 0,_,_,_=>Nat.zero_le _
 | k + 1,L,h,d=>by
  have hk:=h k (by omega)
  have:=ZMZ f k (L.erase (f k)) (fun i hi=>(List.mem_erase_of_ne (d i k hi (by omega))).mpr (h i (by omega))) (fun i j hij hj=>d i j hij (by omega))
  rw [List.length_erase_of_mem hk] at this
  have:0 < L.length:=List.length_pos_of_mem hk
  omega
def rot (u:Str) (c j:Nat):Str:=u ++ ⟨#[97 + (c + j) % 26]⟩
theorem ZPZ {u:Str} {c i j:Nat} (h:i < j) (hj:j < 26):rot u c i ≠ rot u c j:=by
 intro e
 have e:(u.cps ++ #[97 + (c + i) % 26])=(u.cps ++ #[97 + (c + j) % 26]):=congrArg Str.cps e
 have e:=congrArg Array.toList e
 rw [Array.toList_append,Array.toList_append] at e
 have e:=List.append_cancel_left e
 simp at e
 omega
theorem ZIl {z:Str} (h:1≤z.length) (hz:Lt z):∃ c,c < 26∧z=rot (Txt.slice z none (some (-1))) c 0:=by
 have hl:z.cps.toList.length=z.length:=by simp [Str.length]
 obtain ⟨c,hc⟩ :=ZEO (z:=z) (k:=z.length - 1) (by omega)
 have hm:=hz c (List.mem_of_getElem? hc)
 refine ⟨c - 97,by omega,?_⟩
 have e1:Txt.slice z none (some (-1))=⟨(z.cps.toList.take (z.length - 1)).toArray⟩ :=by
  rw [PyProof.Rows.slice_to_neg (by decide)]
  show StrLaws.sliceText z none (some _)=_
  rw [StrLaws.sliceText_to (by constructor <;> omega)]
  rw [List.drop_zero,show ((max 0 ((z.length:Int) + -1)) - 0).toNat=z.length - 1 by omega]
 rw [e1]
 unfold rot
 have e2:z.cps.toList=z.cps.toList.take (z.length - 1) ++ [c]:=by
  have:=ZbJ hc
  rw [show z.length - 1 + 1=z.cps.toList.length by omega,List.take_length] at this
  exact this
 have e3:97 + (c - 97 + 0) % 26=c:=by omega
 rw [e3]
 show z=Str.append _ _
 unfold Str.append
 obtain ⟨a⟩ :=z
 congr 1
 apply Array.toList_inj.mp
 rw [Array.toList_append]
 exact e2
theorem ZJX (u:Str) (c j:Nat):Txt.slice (rot u c j) none (some (-1))=u:=by
 have hl:(rot u c j).length=u.length + 1:=by unfold rot; rw [ZaD]; rfl
 rw [PyProof.Rows.slice_to_neg (by decide)]
 show StrLaws.sliceText (rot u c j) none (some _)=_
 have hl2:(rot u c j).cps.toList.length=(rot u c j).length:=by simp [Str.length]
 rw [StrLaws.sliceText_to (by constructor <;> omega)]
 rw [List.drop_zero,show ((max 0 (((rot u c j).length:Int) + -1)) - 0).toNat=u.length by omega]
 obtain ⟨a⟩ :=u
 congr 1
 show ((a ++ #[97 + (c + j) % 26]).toList.take a.size).toArray=a
 rw [Array.toList_append,show a.size=a.toList.length by simp,List.take_left]
theorem ZLM (u:Str) (c j:Nat):atI (rot u c j).cps.toList (-1)=some (97 + (c + j) % 26):=by
 have e:(rot u c j).cps.toList=u.cps.toList ++ [97 + (c + j) % 26]:=by
  show (u.cps ++ #[97 + (c + j) % 26]).toList=_
  rw [Array.toList_append]
 rw [e]
 unfold atI ixN
 rw [if_neg (by decide),if_pos (by rw [List.length_append,List.length_singleton]; omega)]
 show (u.cps.toList ++ [97 + (c + j) % 26])[_]?=_
 rw [List.length_append,List.length_singleton,show (-1 + ((u.cps.toList.length + 1:Nat):Int)).toNat=u.cps.toList.length by omega,List.getElem?_append_right (Nat.le_refl _)]
 simp
theorem ZAl (x:Str):∀ ns:List Str,inV (.str x) (ns.map V.str)=decide (x ∈ ns)
 | []=>rfl
 | y :: ns=>by
  have ih:=ZAl x ns
  unfold inV at ih ⊢
  rw [List.map_cons,List.any_cons,ih]
  have e:eqV (.str y) (.str x)=decide (y=x):=rfl
  rw [e]
  by_cases h:y=x
  ·simp [h]
  ·have h' : ¬ x=y:=fun z=>h z.symm
   simp [h,h']
section
variable {P:Program} {w:World} {K:PySem.W.Frag} {mg:Str→Option Value} {base:Heap} {t:Ad} {n:Nat}
theorem ZNz {p:Addr} {x:Str} {ns:List Str} {H:Hp} {Q:VK} (h:H p=some (.lst (ns.map V.str))∨H p=some (.tup (ns.map V.str))) (k:Q (.bl (decide (x ∈ ns))) H):rInG K (.str x) (.ref p) H Q:=by
 refine .inr ⟨p,ns.map V.str,rfl,h.imp SqL.of SqT.of,rfl,?_,?_⟩
 ·rw [List.all_eq_true]
  intro v hv
  obtain ⟨z,_,rfl⟩ :=List.mem_map.mp hv
  rfl
 ·rw [ZAl]
  exact k
theorem ZQr {x:Int} {H:Hp} {Q:VK} (h:∀ e,e < 26→Q (.str ⟨#[97 + e]⟩) H):rIx K (.str "abcdefghijklmnopqrstuvwxyz") (.int (x % 26)) H Q:=by
 obtain ⟨e,he,he26⟩ : ∃ e:Nat,x % 26=(e:Int)∧e < 26:=⟨(x % 26).toNat,by omega,by omega⟩
 rw [he]
 exact ZHm (by decide) (ZpQ (ZI7 e he26)) (h e he26)
end
def jn (z:List Nat):List (List Nat)→List Nat
 | []=>[]
 | [p]=>p
 | p :: q :: r=>p ++ z ++ jn z (q :: r)
theorem list_append (x y:Str):(x ++ y).cps.toList=x.cps.toList ++ y.cps.toList:=by
 show (x.cps ++ y.cps).toList=_
 rw [Array.toList_append]
theorem ZjI (z:Str):∀ ps:List Str,(Str.join z ps).cps.toList=jn z.cps.toList (ps.map fun p=>p.cps.toList)
 | []=>rfl
 | [p]=>rfl
 | p :: q :: r=>by
  show (p ++ z ++ Str.join z (q :: r)).cps.toList=_
  rw [list_append,list_append,ZjI z (q :: r)]
  rfl
def rp (c:Nat) (z l:List Nat):List Nat:=l.flatMap fun d=>if d=c then z else [d]
theorem Zn0 (c:Nat) (z a b:List Nat):rp c z (a ++ b)=rp c z a ++ rp c z b:=by
 unfold rp; rw [List.flatMap_append]
theorem ZtF {c:Nat} {z:List Nat}:∀ {p:List Nat},c ∉ p→rp c z p=p
 | [],_=>rfl
 | d :: p,h=>by
  have h1 : ¬ d=c:=fun e=>h (by rw [e]; exact List.mem_cons_self)
  have h2:c ∉ p:=fun e=>h (List.mem_cons_of_mem _ e)
  show (if d=c then z else [d]) ++ rp c z p=d :: p
  rw [if_neg h1,ZtF h2]
  rfl
theorem ZP2 (c:Nat) (z:List Nat):rp c z [c]=z:=by
 show (if c=c then z else [c]) ++ []=z
 rw [if_pos rfl,List.append_nil]
theorem ZP0 (c:Nat) (z:List Nat):∀ ps:List (List Nat),(∀ p ∈ ps,c ∉ p)→rp c z (jn [c] ps)=jn z ps
 | [],_=>rfl
 | [p],h=>ZtF (h p List.mem_cons_self)
 | p :: q :: r,h=>by
  show rp c z (p ++ [c] ++ jn [c] (q :: r))=p ++ z ++ jn z (q :: r)
  rw [Zn0,Zn0,ZtF (h p List.mem_cons_self),ZP2,ZP0 c z (q :: r) fun x hx=>h x (List.mem_cons_of_mem _ hx)]
theorem ZHi (x:Str) (c:Nat):∀ p ∈ (Txt.split x ⟨#[c]⟩).map fun p=>p.cps.toList,c ∉ p:=by
 intro p hp
 obtain ⟨q,hq,rfl⟩ :=List.mem_map.mp hp
 exact StrLaws.split_free x c q hq
theorem ZLX (x:Str) (c:Nat):jn [c] ((Txt.split x ⟨#[c]⟩).map fun p=>p.cps.toList)=x.cps.toList:=by
 have e:=ZjI ⟨#[c]⟩ (Txt.split x ⟨#[c]⟩)
 rw [StrLaws.join_split] at e
 exact e.symm
theorem Zf9 (x z:Str) (c:Nat):(Txt.replace x ⟨#[c]⟩ z).cps.toList=rp c z.cps.toList x.cps.toList:=by
 rw [StrLaws.replace_one,ZjI,← ZP0 c _ _ (ZHi x c),ZLX]
theorem ZM2 {c:Nat} {z:List Nat} {n:Nat} (hz:z.length≤n) (h1:1≤n):∀ l:List Nat,(rp c z l).length≤l.length * n
 | []=>Nat.zero_le _
 | d :: l=>by
  have ih:=ZM2 (c:=c) hz h1 l
  show ((if d=c then z else [d]) ++ rp c z l).length≤(l.length + 1) * n
  rw [List.length_append,Nat.succ_mul]
  by_cases e:d=c
  ·rw [if_pos e]; omega
  ·rw [if_neg e]; simp only [List.length_singleton]; omega
theorem ZP1 {c:Nat} {z l:List Nat} {d:Nat} (h:d ∈ rp c z l):d ∈ l∨d ∈ z:=by
 unfold rp at h
 obtain ⟨e,he,hd⟩ :=List.mem_flatMap.mp h
 by_cases q:e=c
 ·rw [if_pos q] at hd; exact .inr hd
 ·rw [if_neg q] at hd; rw [List.mem_singleton.mp hd]; exact .inl he
def wl:List Nat→List Nat→List (List Nat)
 | [],cur=>if cur=[] then [] else [cur]
 | c :: cs,cur=>if c=32 then (if cur=[] then wl cs [] else cur :: wl cs []) else wl cs (cur ++ [c])
open StrLaws Builtin.Str in
def SwIs (x:Str) (cur:Nat) (st:SwSt):Prop:=
 st.fst=none∧(∀ p ∈ st.snd.fst.toList,p.2≤x.length)∧
 match st.snd.snd with
 | some b=>b < cur∧wsum st.snd.fst.toList≤b∧(st.snd.fst.toList.map fun p:Nat × Nat=>(strSub x p.1 p.2).cps.toList) ++ wl (x.cps.toList.drop cur) ((x.cps.toList.drop b).take (cur - b))=wl x.cps.toList []
 | none=>wsum st.snd.fst.toList≤cur∧(st.snd.fst.toList.map fun p:Nat × Nat=>(strSub x p.1 p.2).cps.toList) ++ wl (x.cps.toList.drop cur) []=wl x.cps.toList []
theorem ZKR {l:List Nat} {k c:Nat} (h:l[k]?=some c):l.drop k=c :: l.drop (k + 1):=by
 obtain ⟨hk,e⟩ :=List.getElem?_eq_some_iff.mp h
 rw [List.drop_eq_getElem_cons hk,e]
theorem ZG4 {l:List Nat} {b k c:Nat} (hb:b≤k) (h:l[k]?=some c):(l.drop b).take (k + 1 - b)=(l.drop b).take (k - b) ++ [c]:=by
 have e:k + 1 - b=(k - b) + 1:=by omega
 rw [e,List.take_add_one,List.getElem?_drop,show b + (k - b)=k by omega,h]
 rfl
open StrLaws Builtin.Str in
theorem ZyK (x:Str) (hsp:∀ c ∈ x.cps.toList,Unicode.isSpace c=decide (c=32)):∀ (m cur:Nat) (st:SwSt),cur + m≤x.length→SwIs x cur st→SwIs x (cur + m) (forIn (List.range' cur m) st (swBody x (x.length + 1))).run
 | 0,cur,st,_,h=>h
 | m + 1,cur,(r,words,sta),hm,h=>by
  rw [List.range'_succ,List.forIn_cons]
  have e:cur + (m + 1)=(cur + 1) + m:=by omega
  rw [e]
  obtain ⟨h1,h2,h3⟩ :=h
  have hcs:cur < x.cps.size:=by show cur < x.length; omega
  have hcl:x.cps.toList[cur]?=some x.cps[cur]:=by rw [Array.getElem?_toList]; simp [hcs]
  have hc0:x.cps.getD cur 0=x.cps[cur]:=by simp [Array.getD,hcs]
  have hs:Unicode.isSpace (x.cps.getD cur 0)=decide (x.cps[cur]=32):=by rw [hc0]; exact hsp _ (List.mem_of_getElem? hcl)
  have hd:=ZKR hcl
  have hsz : ¬ ((words.size == x.length + 1)=true):=by
   have a:=len_le_wsum words.toList
   have b:words.toList.length=words.size:=by simp
   have c:wsum words.toList≤cur:=by
    cases sta with
    | none=>exact h3.1
    | some b=>exact Nat.le_trans h3.2.1 (Nat.le_of_lt h3.1)
   rw [beq_iff_eq]; omega
  unfold swBody
  simp only [hsz,if_false]
  rw [hs]
  cases sta with
  | none=>
   obtain ⟨g1,g2⟩ :=h3
   rw [hd] at g2
   by_cases q:x.cps[cur]=32
   ·rw [decide_eq_true q]
    refine ZyK x hsp m (cur + 1) _ (by omega) ⟨rfl,h2,Nat.le_succ_of_le g1,?_⟩
    rw [show wl (x.cps[cur] :: x.cps.toList.drop (cur + 1)) []=wl (x.cps.toList.drop (cur + 1)) [] by show (if x.cps[cur]=32 then _ else _)=_; rw [if_pos q]; rfl] at g2
    exact g2
   ·rw [decide_eq_false q]
    refine ZyK x hsp m (cur + 1) _ (by omega) ⟨rfl,h2,Nat.lt_succ_self _,g1,?_⟩
    rw [show wl (x.cps[cur] :: x.cps.toList.drop (cur + 1)) []=wl (x.cps.toList.drop (cur + 1)) [x.cps[cur]] by show (if x.cps[cur]=32 then _ else _)=_; rw [if_neg q]; rfl] at g2
    rw [ZG4 (Nat.le_refl cur) hcl,Nat.sub_self,List.take_zero]
    exact g2
  | some b=>
   obtain ⟨g0,g1,g2⟩ :=h3
   have g0:b < cur:=g0
   have g1:wsum words.toList≤b:=g1
   rw [hd] at g2
   have hne:(x.cps.toList.drop b).take (cur - b) ≠ []:=by
    intro z
    have:=congrArg List.length z
    rw [List.length_take,List.length_drop,Array.length_toList] at this
    simp only [List.length_nil] at this
    omega
   by_cases q:x.cps[cur]=32
   ·rw [decide_eq_true q]
    refine ZyK x hsp m (cur + 1) _ (by omega) ⟨rfl,?_,?_,?_⟩
    ·intro p hp
     rw [Array.toList_push,List.mem_append,List.mem_singleton] at hp
     rcases hp with hp | rfl
     ·exact h2 p hp
     ·show cur≤x.length; omega
    ·show wsum (words.push (b,cur)).toList≤cur + 1
     rw [Array.toList_push,wsum_snoc]
     show wsum words.toList + (cur - b + 1)≤cur + 1
     omega
    ·show ((words.push (b,cur)).toList.map fun p:Nat × Nat=>(strSub x p.1 p.2).cps.toList) ++ wl (x.cps.toList.drop (cur + 1)) []=_
     rw [show wl (x.cps[cur] :: x.cps.toList.drop (cur + 1)) ((x.cps.toList.drop b).take (cur - b))=((x.cps.toList.drop b).take (cur - b)) :: wl (x.cps.toList.drop (cur + 1)) [] by show (if x.cps[cur]=32 then (if _=[] then _ else _) else _)=_; rw [if_pos q,if_neg hne]] at g2
     rw [Array.toList_push,List.map_append,List.append_assoc,← g2]
     congr 1
     show [(strSub x b cur).cps.toList] ++ _=_
     rw [strSub_toList]
     rfl
   ·rw [decide_eq_false q]
    refine ZyK x hsp m (cur + 1) _ (by omega) ⟨rfl,h2,Nat.lt_succ_of_lt g0,g1,?_⟩
    rw [show wl (x.cps[cur] :: x.cps.toList.drop (cur + 1)) ((x.cps.toList.drop b).take (cur - b))=wl (x.cps.toList.drop (cur + 1)) ((x.cps.toList.drop b).take (cur - b) ++ [x.cps[cur]]) by show (if x.cps[cur]=32 then _ else _)=_; rw [if_neg q]] at g2
    rw [ZG4 (Nat.le_of_lt g0) hcl]
    exact g2
open StrLaws Builtin.Str in
theorem ZFE (x:Str) (hsp:∀ c ∈ x.cps.toList,Unicode.isSpace c=decide (c=32)):(Txt.words x).map (fun p=>p.cps.toList)=wl x.cps.toList []:=by
 have key:(wordsOf x).map (fun p=>p.cps.toList)=wl x.cps.toList []:=by
  unfold wordsOf
  rw [sw_eq]
  have k:=ZyK x hsp x.length 0 ((none,#[],none):SwSt) (by omega) ⟨rfl,fun p hp=>by simp at hp,Nat.le_refl 0,rfl⟩
  rw [Nat.zero_add] at k
  generalize (forIn (List.range' 0 x.length) ((none,#[],none):SwSt) (swBody x (x.length + 1))).run=st at k
  obtain ⟨r,words,sta⟩ :=st
  obtain ⟨h1,h2,h3⟩ :=k
  have h1':r=none:=h1
  subst h1'
  have hdr:x.cps.toList.drop x.length=[]:=List.drop_of_length_le (by rw [Array.length_toList]; exact Nat.le_refl _)
  unfold swEnd
  cases sta with
  | none=>
   obtain ⟨g1,g2⟩ :=h3
   rw [hdr] at g2
   rw [List.map_map]
   rw [← g2]
   show _=_ ++ []
   rw [List.append_nil]
   rfl
  | some b=>
   obtain ⟨g0,g1,g2⟩ :=h3
   have g0:b < x.length:=g0
   rw [hdr] at g2
   have hne:(x.cps.toList.drop b).take (x.length - b) ≠ []:=by
    intro z
    have:=congrArg List.length z
    rw [List.length_take,List.length_drop,Array.length_toList] at this
    simp only [List.length_nil] at this
    have e:x.cps.size=x.length:=rfl
    omega
   show ((words.push (b,x.length)).toList.map _).map _=_
   rw [Array.toList_push,List.map_append,List.map_append,List.map_map,← g2]
   congr 1
   show [(strSub x b x.length).cps.toList]=if _=[] then [] else _
   rw [if_neg hne,strSub_toList]
 unfold Txt.words
 split
 ·rename_i hw
  have e:spaceWords x (x.length + 1)=[(0,x.length)]:=eq_of_beq hw
  unfold wordsOf at key
  rw [e] at key
  rw [← key]
  show [x.cps.toList]=[(strSub x 0 x.length).cps.toList]
  rw [sub_whole]
 ·exact key
theorem ZCY:∀ {a b:List Str},a.map (fun p=>p.cps.toList)=b.map (fun p=>p.cps.toList)→a=b
 | [],[],_=>rfl
 | [],_ :: _,h=>by cases h
 | _ :: _,[],h=>by cases h
 | x :: a,y :: b,h=>by
  have h1:x.cps.toList=y.cps.toList:=(List.cons.inj h).1
  have h2:=ZCY (List.cons.inj h).2
  have:x=y:=by
   cases x; cases y
   simp only [Str.mk.injEq]
   exact Array.toList_inj.mp h1
  rw [this,h2]
structure Lv where
 nots:Nat
 ands:List Fm
 eithers:List Fm
 ors:List Fm
 lack:Bool
def Lv.new:Lv:=⟨0,[],[],[],true⟩
def Lv.size (L:Lv):Nat:=L.nots + L.ands.length + L.eithers.length + L.ors.length
def negs:Nat→Fm→Fm
 | 0,f=>f
 | n + 1,f=>.neg (negs n f)
def Zc1 (w:W3):List Fm→Fm
 | [f]=>f
 | fs=>.join w fs
theorem ZrZ {w:W3} {fs:List Fm} (h:fs.length ≠ 1):Zc1 w fs=.join w fs:=by
 match fs,h with
 | [],_=>rfl
 | [f],h=>exact absurd rfl h
 | _ :: _ :: _,_=>rfl
def Lv.part (L:Lv) (f:Fm):Lv:=⟨0,L.ands ++ [negs L.nots f],L.eithers,L.ors,false⟩
def Lv.join (L:Lv):W3→Lv
 | .a=>⟨L.nots,L.ands,L.eithers,L.ors,true⟩
 | .e=>⟨L.nots,[],L.eithers ++ [Zc1 .a L.ands],L.ors,true⟩
 | .o=>⟨L.nots,[],[],L.ors ++ [Zc1 .e (L.eithers ++ [Zc1 .a L.ands])],true⟩
def Lv.whole (L:Lv):Fm:=Zc1 .o (L.join .o).ors
def kw3:W3→Str
 | .a=>"and"
 | .e=>"either"
 | .o=>"or"
def idxS (z:Str):List Str→Option Nat
 | []=>none
 | n :: r=>if n=z then some 0 else (idxS z r).map (· + 1)
theorem ZCP {z:Str}:∀ {ns:List Str} {j:Nat},idxS z ns=some j→ns[j]?=some z∧∀ m,m < j→ns[m]? ≠ some z
 | [],_,h=>by cases h
 | n :: r,j,h=>by
  unfold idxS at h
  by_cases e:n=z
  ·rw [if_pos e] at h
   cases h
   subst e
   exact ⟨rfl,fun m hm=>absurd hm (Nat.not_lt_zero _)⟩
  ·rw [if_neg e] at h
   obtain ⟨k,hk,rfl⟩ :=Option.map_eq_some_iff.mp h
   obtain ⟨h1,h2⟩ :=ZCP hk
   refine ⟨by simpa using h1,fun m hm=>?_⟩
   cases m with
   | zero=>simpa using e
   | succ m=>simpa using h2 m (by omega)
theorem ZCO {z:Str}:∀ {ns:List Str},idxS z ns=none→z ∉ ns
 | [],_=>by simp
 | n :: r,h=>by
  unfold idxS at h
  by_cases e:n=z
  ·rw [if_pos e] at h; cases h
  ·rw [if_neg e] at h
   have:=ZCO (Option.map_eq_none_iff.mp h)
   simp only [List.mem_cons,not_or]
   exact ⟨fun y=>e y.symm,this⟩
def Zoc (ns:List Str) (z:Str):Option Fm:=if z = "yes" then some (.sure true) else if z = "no" then some (.sure false) else (idxS z ns).map Fm.lamp
def ZHo (z:Str):Option W3:=if z = "and" then some .a else if z = "either" then some .e else if z = "or" then some .o else none
theorem ZK9 {z:Str} {w:W3} (h:ZHo z=some w):z=kw3 w:=by
 unfold ZHo at h
 by_cases h1:z = "and"
 ·rw [if_pos h1] at h; cases h; exact h1
 ·rw [if_neg h1] at h
  by_cases h2:z = "either"
  ·rw [if_pos h2] at h; cases h; exact h2
  ·rw [if_neg h2] at h
   by_cases h3:z = "or"
   ·rw [if_pos h3] at h; cases h; exact h3
   ·rw [if_neg h3] at h; cases h
def Lv.word (ns:List Str) (L:Lv) (z:Str):Option Lv:=
 if L.lack=true then (if z = "not" then some ⟨L.nots + 1,L.ands,L.eithers,L.ors,L.lack⟩ else (Zoc ns z).map L.part) else (ZHo z).map L.join
def Zd6 (ns:List Str):List Lv→Str→Option (List Lv)
 | [],_=>none
 | L :: R,z=>if z = "("∧L.lack=true then some (Lv.new :: L :: R) else match R with
  | []=>(L.word ns z).map ([·])
  | M :: R'=>if z = ")"∧L.lack=false then some (M.part L.whole :: R') else (L.word ns z).map (· :: M :: R')
def runW (ns:List Str):List Lv→List Str→Option (List Lv)
 | S,[]=>some S
 | S,z :: r=>(Zd6 ns S z).bind fun S'=>runW ns S' r
theorem ZhC (ns:List Str):∀ (a b:List Str) (S:List Lv),runW ns S (a ++ b)=(runW ns S a).bind fun S'=>runW ns S' b
 | [],b,S=>rfl
 | z :: a,b,S=>by
  show (Zd6 ns S z).bind _=((Zd6 ns S z).bind _).bind _
  cases Zd6 ns S z with
  | none=>rfl
  | some S'=>exact ZhC ns a b S'
def endF:Lv→Option Fm:=fun L=>if L.lack=true then none else some L.whole
def Zzb (ns:List Str) (ws:List Str):Option Fm:=(runW ns [Lv.new] ws).bind fun S=>S.getLast?.bind endF
theorem ZKe {ns:List Str} {S S':List Lv} {z:Str} {n:Nat} (h:Zd6 ns S z=some S') (hs:∀ L ∈ S,L.size≤n):∀ L ∈ S',L.size≤n + 1:=by
 have hp:∀ (L:Lv) (f:Fm),L.size≤n→(L.part f).size≤n + 1:=fun L f hl=>by
  unfold Lv.size Lv.part at *
  simp only [List.length_append,List.length_singleton] at *
  omega
 have hw:∀ (L L':Lv),L.size≤n→L.word ns z=some L'→L'.size≤n + 1:=fun L L' hl e=>by
  unfold Lv.word at e
  by_cases h1:L.lack=true
  ·rw [if_pos h1] at e
   by_cases h2:z = "not"
   ·rw [if_pos h2] at e
    cases e
    unfold Lv.size at *
    dsimp only at *
    omega
   ·rw [if_neg h2] at e
    obtain ⟨f,_,rfl⟩ :=Option.map_eq_some_iff.mp e
    exact hp L f hl
  ·rw [if_neg h1] at e
   obtain ⟨v,_,rfl⟩ :=Option.map_eq_some_iff.mp e
   cases v <;> (unfold Lv.size Lv.join at *; simp only [List.length_append,List.length_singleton,List.length_nil] at *; omega)
 cases S with
 | nil=>cases h
 | cons L R=>
  have hL:=hs L List.mem_cons_self
  have hR:∀ M ∈ R,M.size≤n + 1:=fun M hM=>Nat.le_succ_of_le (hs M (List.mem_cons_of_mem _ hM))
  simp only [Zd6] at h
  by_cases h1:z = "("∧L.lack=true
  ·rw [if_pos h1] at h
   cases h
   intro M hM
   rcases List.mem_cons.mp hM with rfl | hM
   ·exact Nat.zero_le _
   rcases List.mem_cons.mp hM with rfl | hM
   ·omega
   ·exact hR M hM
  ·rw [if_neg h1] at h
   cases R with
   | nil=>
    obtain ⟨L',e,rfl⟩ :=Option.map_eq_some_iff.mp h
    intro M hM
    rw [List.mem_singleton.mp hM]
    exact hw L L' hL e
   | cons N R'=>
    dsimp only at h
    by_cases h2:z = ")"∧L.lack=false
    ·rw [if_pos h2] at h
     cases h
     intro M hM
     rcases List.mem_cons.mp hM with rfl | hM
     ·exact hp N _ (hs N (List.mem_cons_of_mem _ List.mem_cons_self))
     ·exact hR M (List.mem_cons_of_mem _ hM)
    ·rw [if_neg h2] at h
     obtain ⟨L',e,rfl⟩ :=Option.map_eq_some_iff.mp h
     intro M hM
     rcases List.mem_cons.mp hM with rfl | hM
     ·exact hw L _ hL e
     ·exact hR M hM
theorem ZOw {ns:List Str} {S S':List Lv} {z:Str} (h:Zd6 ns S z=some S'):S' ≠ []:=by
 cases S with
 | nil=>cases h
 | cons L R=>
  simp only [Zd6] at h
  by_cases h1:z = "("∧L.lack=true
  ·rw [if_pos h1] at h; cases h; simp
  ·rw [if_neg h1] at h
   cases R with
   | nil=>obtain ⟨L',_,rfl⟩ :=Option.map_eq_some_iff.mp h; simp
   | cons N R'=>
    dsimp only at h
    by_cases h2:z = ")"∧L.lack=false
    ·rw [if_pos h2] at h; cases h; simp
    ·rw [if_neg h2] at h
     obtain ⟨L',_,rfl⟩ :=Option.map_eq_some_iff.mp h; simp
section
variable {P:Program} {w:World} {K:PySem.W.Frag} {mg:Str→Option Value} {base:Heap} {t:Ad}
def isL (c:Nat):Bool:=decide (97≤c) && decide (c≤122)
def isM (c:Nat):Bool:=c == 40 || c == 41 || c == 44
def al (c:Nat):Bool:=isL c || isM c || c == 32
theorem ZPk:∀ c,c < 128→(!(Builtin.Str.occurrences "abcdefghijklmnopqrstuvwxyz" ⟨#[c]⟩ 0 (Str.length "abcdefghijklmnopqrstuvwxyz") 1).isEmpty)=isL c:=by decide +kernel
theorem ZPl:∀ c,c < 128→(!(Builtin.Str.occurrences "()," ⟨#[c]⟩ 0 (Str.length "(),") 1).isEmpty)=isM c:=by decide +kernel
theorem ZQz:∀ c,c < 128→decide ((⟨#[c]⟩ : Str) = " ")=(c == 32):=by decide +kernel
theorem ZKF:∀ c,c < 128→al c=true→Unicode.isSpace c=decide (c=32):=by decide +kernel
theorem ZQp {c:Nat} (h:al c=true):c < 128:=by
 unfold al isL isM at h
 simp only [Bool.or_eq_true,Bool.and_eq_true,decide_eq_true_eq,beq_iff_eq] at h
 omega
def padC (x:Str) (c:Nat):Str:=Txt.replace x ⟨#[c]⟩ ⟨#[32,c,32]⟩
def pad (x:Str):Str:=padC (padC (padC x 40) 41) 44
theorem ZoC (x:Str) (c:Nat):(padC x c).length≤x.length * 3:=by
 show (padC x c).cps.size≤x.cps.size * 3
 rw [← Array.length_toList,← Array.length_toList]
 unfold padC
 rw [Zf9]
 exact ZM2 (Nat.le_refl 3) (by decide) _
theorem ZFk {x:Str} {c:Nat} (h:∀ d ∈ x.cps.toList,al d=true) (hc:al c=true):∀ d ∈ (padC x c).cps.toList,al d=true:=by
 intro d hd
 unfold padC at hd
 rw [Zf9] at hd
 rcases ZP1 hd with z | z
 ·exact h d z
 ·have z:d ∈ [32,c,32]:=z
  simp only [List.mem_cons,List.not_mem_nil,or_false] at z
  rcases z with rfl | rfl | rfl
  ·rfl
  ·exact hc
  ·rfl
theorem ZMU {x:Str} (h:∀ d ∈ x.cps.toList,al d=true):∀ d ∈ (pad x).cps.toList,al d=true:=ZFk (ZFk (ZFk h rfl) rfl) rfl
theorem ZJE (x:Str):(pad x).length≤x.length * 27:=by
 have a:=ZoC x 40
 have b:=ZoC (padC x 40) 41
 have c:=ZoC (padC (padC x 40) 41) 44
 unfold pad
 omega
theorem ZIA {σ:St} {H:Hp} {Q:VK} {c k:Nat} (e:σ[k]?=some (some (.str ⟨#[c]⟩))) (h:Q (.str ⟨#[32,c,32]⟩) H):tFs (tJc (tC (V.str " ")) (tJc (tFmt (tVar k)) (tJc (tC (V.str " ")) tJn))) σ H Q:=
 ⟨" ",rfl,Zcf (Nat.le_of_ble_eq_true rfl),_,e,⟨#[c]⟩,rfl,Zcf (Nat.le_of_ble_eq_true rfl),⟨#[c]⟩,rfl,Zcf (Nat.le_of_ble_eq_true rfl)," ",rfl,Zcf (Nat.le_of_ble_eq_true rfl),Zcf (Nat.le_of_ble_eq_true rfl),h⟩
theorem ZEh (x:Str):(Txt.words x).length≤x.length + 1:=by
 have:=StrLaws.words_weight x
 omega
def okW (z:Str):Bool:=z.cps.toList.all al
def ZOv:Sp:=fun vs H Q _=>∃ z:Str,vs=[.str z]∧Asc z∧z.length≤3600∧(okW z=false→Q .non H)∧(okW z=true→∀ H' p,Same H H'→H p=none→H' p=some (.lst ((Txt.words (pad z)).map V.str))→Q (.ref p) H')
theorem ZLx (T:Txt K mg t):FnS P w K mg base 1 "words" ["text"] (ZOv):=by
 refine ⟨_,_,T.ZEw.ok Zwy (fun vs H Q E h=>?_) (fun cdv A outer s H vs Q E hr h=>?_),T.ZH5,T.ZEw.kp,T.ZJf⟩
 ·obtain ⟨z,rfl,ha,hz,q1,q2⟩ :=h
  rfl
 obtain ⟨z,rfl,ha,hz,q1,q2⟩ :=h
 refine ⟨_,(Zac (Zc4 PassesOwn.never rfl (Zc3 (pv 0)) (sg 1 Zwy.nd)
   (Zad (ZaI (PW.pt (Zgt (Zah Zsy (pv 1) (ZJJ rfl T.g_LETTERS) (by with_unfolding_all rfl)) (Zgt (Zah Zsy (pv 1) (ZJJ rfl T.g_MARKS) (by with_unfolding_all rfl)) (Zfw (Zah (ZiO hr.units) (pv 1) (ZJJ rfl T.g_BLANK) (Zap _))))))
   (Zad (Zam ZMY))
   Zaq)))
   (ZPP (ssp 2 Zwy.nd (pv 0))
   (ZJQ (ZOc (i:=2) (j:=3) PassesOwn.never rfl Zwy.nd (ZJJ rfl T.g_MARKS) (ZHA (ZBn Zal (ZBn (ZJH (pv 3)) (ZBn Zal ZOb)))))
   (Zad (Zam (ZJG PySem.F.plainAttrs_str PySem.F.slot_str_split PySem.F.type_str_split ZLk (pv 2))))))),?_⟩
 walk_at "rd0"
 refine seqX (fun i σ H'=>H'=H∧(∀ j c,j < i→z.cps[j]?=some c→al c=true)∧∃ v,σ=[some (.str z),v,none,none]) ⟨rfl,fun j c hj=>absurd hj (Nat.not_lt_zero _),_,rfl⟩ ?_ ?_
 ·rintro i c σ H' hx ⟨rfl,hj,v,rfl⟩
  have hmem:c ∈ z.cps.toList:=List.mem_of_getElem? (by rw [Array.getElem?_toList]; exact hx)
  have c128:=ha c hmem
  have nx:al c=true→∀ j d,j < i + 1→z.cps[j]?=some d→al d=true:=fun h j d hj' hd=>by
   by_cases e:j=i
   ·subst e; rw [hx] at hd; cases hd; exact h
   ·exact hj j d (by omega) hd
  walk_at "rd"
  refine .inl ⟨_,_,rfl,rfl,?_⟩
  rw [ZPk c c128]
  dsimp only
  walk_at "rd"
  cases h1:isL c with
  | true=>
   refine ZaP rfl ?_
   refine ZaP rfl ?_
   walk_at "rd"
   exact ⟨rfl,nx (by unfold al; rw [h1]; rfl),_,rfl⟩
  | false=>
   refine ZcG rfl ?_
   walk_at "rd"
   refine .inl ⟨_,_,rfl,rfl,?_⟩
   rw [ZPl c c128]
   dsimp only
   walk_at "rd"
   cases h2:isM c with
   | true=>
    refine ZaP rfl ?_
    refine ZaP rfl ?_
    walk_at "rd"
    exact ⟨rfl,nx (by unfold al; rw [h2,Bool.or_true]; rfl),_,rfl⟩
   | false=>
    refine ZcG rfl ?_
    walk_at "rd"
    rw [ZQz c c128]
    cases h3:c == 32 with
    | true=>
     refine ZaP rfl ?_
     walk_at "rd"
     exact ⟨rfl,nx (by unfold al; rw [h3,Bool.or_true]),_,rfl⟩
    | false=>
     refine ZcG rfl ?_
     walk_at "rd"
     refine q1 ?_
     unfold okW
     rw [List.all_eq_false]
     refine ⟨c,hmem,?_⟩
     unfold al
     rw [h1,h2,h3]
     exact Bool.false_ne_true
 ·rintro σ H' ⟨rfl,hj,v,rfl⟩
  have hall:∀ d ∈ z.cps.toList,al d=true:=fun c hc=>by
   obtain ⟨j,hj',e⟩ :=List.mem_iff_getElem.mp hc
   have hj2:j < z.cps.size:=by simpa using hj'
   exact hj j c hj2 (by rw [← Array.getElem?_toList,List.getElem?_eq_getElem hj',e])
  have hok:okW z=true:=List.all_eq_true.mpr hall
  have n1:=ZoC z 40
  have n2:=ZoC (padC z 40) 41
  have n3:=ZoC (padC (padC z 40) 41) 44
  walk_at "rd"
  refine ⟨_,rfl,by decide +kernel,?_⟩
  show tRep 2 3 _ [40,41,44] _ _ _
  refine ZIO z rfl (ZIA rfl ⟨_,rfl,rfl,?_,?_⟩)
  ·show z.length + (z.length + 1) * 3≤_; omega
  refine ZIO (padC z 40) rfl (ZIA rfl ⟨_,rfl,rfl,?_,?_⟩)
  ·show (padC z 40).length + ((padC z 40).length + 1) * 3≤_; omega
  refine ZIO (padC (padC z 40) 41) rfl (ZIA rfl ⟨_,rfl,rfl,?_,?_⟩)
  ·show (padC (padC z 40) 41).length + ((padC (padC z 40) 41).length + 1) * 3≤_; omega
  refine ZPf ?_
  walk_at "rd"
  have n4:=ZEh (pad z)
  have n5:=ZJE z
  refine ⟨tyS,pad z,rfl,by omega,.inl ⟨rfl,ZeA (by rw [List.length_map]; omega) fun p H1 s1 n1 e1=>?_⟩⟩
  exact q2 hok H1 p s1 n1 e1
end
def FmE (t:Ad) (H:Hp) (p:Addr) (f:Fm):Prop:=∃ n,FmAt t H n p f
def FmsE (t:Ad) (H:Hp) (l:Addr) (fs:List Fm):Prop:=∃ ps,H l=some (.lst (ps.map V.ref))∧Paired (FmE t H) ps fs
def ExtL (t:Ad) (H H':Hp):Prop:=∀ x u,H x=some u→(∀ xs,u ≠ .lst xs)→(∀ dx fs,u ≠ .ins t.Zay dx fs)→H' x=some u
section
variable {K:PySem.W.Frag} {σ:St} {H:Hp}
theorem ZxF {p C dx:Addr} {fs:List (Str × V)} {f:Str} {y:V} {R:Hp→Prop} (h:H p=some (.ins C dx fs)) (c:Cls K C) (n:ZaB K C f) (z:fs.length < 1000) (k:∀ H',But p H H'→H' p=some (.ins C dx (putF f y fs))→R H') :
  ∃ a C dx fs,(V.ref p)=.ref a∧H a=some (.ins C dx fs)∧Cls K C∧ZaB K C f∧fs.length < 1000∧R (upd H a (.ins C dx (putF f y fs))):=⟨p,C,dx,fs,rfl,h,c,n,z,k _ ZwY ZaV⟩
end
def Off2 (p l:Addr) (H H':Hp):Prop:=∀ b u,b ≠ p→b ≠ l→H b=some u→H' b=some u
section
variable {P:Program} {w:World} {K:PySem.W.Frag} {mg:Str→Option Value} {base:Heap} {t:Ad} {H H' H'':Hp}
theorem ExtL.trans (a:ExtL t H H') (b:ExtL t H' H''):ExtL t H H'':=fun x u e h1 h2=>b x u (a x u e h1 h2) h1 h2
theorem ExtL.of (s:Same H H'):ExtL t H H':=fun x u e _ _=>s x u e
theorem ExtL.lst {l:Addr} {xs:List V} (b:But l H H') (e:H l=some (.lst xs)):ExtL t H H':=fun x u z h1 _=>b x u (fun y=>by rw [y,e] at z; cases z; exact h1 _ rfl) z
theorem ExtL.lev {p dx:Addr} {fs:List (Str × V)} (b:But p H H') (e:H p=some (.ins t.Zay dx fs)):ExtL t H H':=fun x u z _ h2=>b x u (fun y=>by rw [y,e] at z; cases z; exact h2 _ _ rfl) z
theorem ZOO (T:Txt K mg t) (v:W3):cw t v ≠ t.Zay:=by
 cases v
 ·exact T.ZyN
 ·exact T.Zpz
 ·exact T.ZzS
theorem FmAt.extL (T:Txt K mg t) (s:ExtL t H H'):∀ {n:Nat} {p:Addr} {f:Fm},FmAt t H n p f→FmAt t H' n p f
 | 0,_,_,h=>h
 | n + 1,p,f,h=>by
  cases f with
  | lamp k=>obtain ⟨dx,e⟩ :=h; exact ⟨dx,s _ _ e (fun _ z=>nomatch z) fun _ _ z=>T.ZvZ (HO.ins.inj z).1⟩
  | sure b=>obtain ⟨dx,e⟩ :=h; exact ⟨dx,s _ _ e (fun _ z=>nomatch z) fun _ _ z=>T.Zv0 (HO.ins.inj z).1⟩
  | neg g=>obtain ⟨dx,q,e,h⟩ :=h; exact ⟨dx,q,s _ _ e (fun _ z=>nomatch z) (fun _ _ z=>T.ZyS (HO.ins.inj z).1),FmAt.extL T s h⟩
  | join w gs=>obtain ⟨dx,tp,ps,e,e2,h⟩ :=h; exact ⟨dx,tp,ps,s _ _ e (fun _ z=>nomatch z) (fun _ _ z=>ZOO T w (HO.ins.inj z).1),s _ _ e2 (fun _ z=>nomatch z) (fun _ _ z=>nomatch z),ZaR (fun a b h=>FmAt.extL T s h) h⟩
theorem FmE.extL (T:Txt K mg t) (s:ExtL t H H') {p:Addr} {f:Fm} (h:FmE t H p f):FmE t H' p f:=let ⟨n,h⟩ :=h; ⟨n,h.extL T s⟩
theorem FmE.same (s:Same H H') {p:Addr} {f:Fm} (h:FmE t H p f):FmE t H' p f:=let ⟨n,h⟩ :=h; ⟨n,h.mono (Ext.of s)⟩
theorem FmE.neg {q p dx:Addr} {f:Fm} (e:H q=some (.ins t.C_Not dx [(("part" : Str),.ref p)])) (h:FmE t H p f):FmE t H q (.neg f):=let ⟨n,h⟩ :=h; ⟨n + 1,dx,p,e,h⟩
theorem ZOV:∀ {ps:List Addr} {fs:List Fm},Paired (FmE t H) ps fs→∃ n,Paired (FmAt t H n) ps fs
 | _,_,.nil=>⟨0,.nil⟩
 | _,_,.cons h r=>by
  obtain ⟨n,h⟩ :=h
  obtain ⟨m,r⟩ :=ZOV r
  exact ⟨max n m,.cons (h.le (Nat.le_max_left _ _)) (ZaR (fun _ _ z=>z.le (Nat.le_max_right _ _)) r)⟩
theorem FmE.join {x dx tp:Addr} {ps:List Addr} {fs:List Fm} {v:W3} (e:H x=some (.ins (cw t v) dx [(("parts" : Str),.ref tp)])) (e2:H tp=some (.tup (ps.map V.ref))) (h:Paired (FmE t H) ps fs):FmE t H x (.join v fs):=
 let ⟨n,h⟩ :=ZOV h; ⟨n + 1,dx,tp,ps,e,e2,h⟩
theorem FmsE.snoc {l:Addr} {ps:List Addr} {fs:List Fm} {q:Addr} {f:Fm} (e:H l=some (.lst (ps.map V.ref ++ [.ref q]))) (h:Paired (FmE t H) ps fs) (hq:FmE t H q f):FmsE t H l (fs ++ [f]):=
 ⟨ps ++ [q],by rw [List.map_append]; exact e,Zd0 h (.cons hq .nil)⟩
def Zfn (n:Nat) (a e o:Addr) (b:Bool):List (Str × V):=[(("nots" : Str),.int (n:Int)),(("ands" : Str),.ref a),(("eithers" : Str),.ref e),(("ors" : Str),.ref o),(("lacking" : Str),.bl b)]
structure LvAt (t:Ad) (H:Hp) (p dx a e o:Addr) (L:Lv):Prop where
 ob:H p=some (.ins t.Zay dx (Zfn L.nots a e o L.lack))
 la:FmsE t H a L.ands
 le:FmsE t H e L.eithers
 lo:FmsE t H o L.ors
 ae:a ≠ e
 ao:a ≠ o
 eo:e ≠ o
theorem FmsE.keep (T:Txt K mg t) (s:ExtL t H H') {l:Addr} {fs:List Fm} (h:FmsE t H l fs) (k:∀ xs,H l=some (.lst xs)→H' l=some (.lst xs)):FmsE t H' l fs:=by
 obtain ⟨ps,e,p⟩ :=h
 exact ⟨ps,k _ e,ZaR (fun _ _ z=>FmE.extL T s z) p⟩
theorem LvAt.keep (T:Txt K mg t) {p dx a e o:Addr} {L:Lv} (V:LvAt t H p dx a e o L) (s:ExtL t H H') (k:∀ x u,x=p∨x=a∨x=e∨x=o→H x=some u→H' x=some u):LvAt t H' p dx a e o L:=
 ⟨k _ _ (.inl rfl) V.ob,V.la.keep T s fun _ z=>k _ _ (.inr (.inl rfl)) z,V.le.keep T s fun _ z=>k _ _ (.inr (.inr (.inl rfl))) z,V.lo.keep T s fun _ z=>k _ _ (.inr (.inr (.inr rfl))) z,V.ae,V.ao,V.eo⟩
theorem LvAt.same (T:Txt K mg t) {p dx a e o:Addr} {L:Lv} (V:LvAt t H p dx a e o L) (s:Same H H'):LvAt t H' p dx a e o L:=V.keep T (ExtL.of s) fun x u _ z=>s x u z
def Zwz (t:Ad) (v:W3):Sp:=fun vs H Q _=>∃ (l:Addr) (fs:List Fm),vs=[.ref l]∧FmsE t H l fs∧∀ q H',Same H H'→FmE t H' q (Zc1 v fs)→Q (.ref q) H'
theorem ZJw (T:Txt K mg t):FnS P w K mg base 3 "and_of" ["parts"] ((Zwz t .a)):=by
 refine ⟨_,_,T.ZzT.ok ZJ0 (fun vs H Q E h=>?_) (fun cdv A outer s H vs Q E hr h=>?_),T.ZFV,T.ZzT.kp,T.ZGz⟩
 ·obtain ⟨l,fs,rfl,hF,q⟩ :=h
  rfl
 obtain ⟨l,fs,rfl,hF,q⟩ :=h
 obtain ⟨ps,hl,hp⟩ :=hF
 have M_And:=ZPA (P:=P) (w:=w) (base:=base) T
 have hz:=ZaY hp
 refine ⟨_,(Zad (Zam (ZoD (Zah (ZaC hr.units) (Zax Zb9 rfl T.B.len ZgR (Zaa (pv 0) Zaf)) Zae (Zap _)) (ZaG Zar (pv 0) Zae (fun _ _=>rfl)) (ZFn M_And hr (Zaa (pv 0) Zaf))))),?_⟩
 walk_at "rd0"
 rw [List.length_map,hz]
 refine Zd3 (fun h=>?_) (fun h=>?_)
 ·match ps,fs,hp,hz with
  | [p0],[f0],.cons h0 .nil,_=>
   walk_at "rd"
   refine ZlU (j:=0) (v:=.ref p0) hl rfl ?_
   exact q p0 H (Same.refl _) h0
  | [],[],_,_=>exact absurd h (by decide)
  | _ :: _ :: _,_ :: _ :: _,_,_=>simp only [List.length_cons] at h; omega
 ·walk_at "rd"
  refine ZEU hl fun x dx tp H1 s1 n1 e1 e2=>?_
  refine q x H1 s1 ?_
  rw [ZrZ (by omega)]
  exact FmE.join (v:=.a) e1 e2 (ZaR (fun _ _ z=>FmE.same s1 z) hp)
theorem ZDB (T:Txt K mg t):FnS P w K mg base 3 "either_of" ["parts"] ((Zwz t .e)):=by
 refine ⟨_,_,T.ZpH.ok ZDS (fun vs H Q E h=>?_) (fun cdv A outer s H vs Q E hr h=>?_),T.ZwV,T.ZpH.kp,T.Zx0⟩
 ·obtain ⟨l,fs,rfl,hF,q⟩ :=h
  rfl
 obtain ⟨l,fs,rfl,hF,q⟩ :=h
 obtain ⟨ps,hl,hp⟩ :=hF
 have ZKC:=ZJv (P:=P) (w:=w) (base:=base) T
 have hz:=ZaY hp
 refine ⟨_,(Zad (Zam (ZoD (Zah (ZaC hr.units) (Zax Zb9 rfl T.B.len ZgR (Zaa (pv 0) Zaf)) Zae (Zap _)) (ZaG Zar (pv 0) Zae (fun _ _=>rfl)) (ZFn ZKC hr (Zaa (pv 0) Zaf))))),?_⟩
 walk_at "rd0"
 rw [List.length_map,hz]
 refine Zd3 (fun h=>?_) (fun h=>?_)
 ·match ps,fs,hp,hz with
  | [p0],[f0],.cons h0 .nil,_=>
   walk_at "rd"
   refine ZlU (j:=0) (v:=.ref p0) hl rfl ?_
   exact q p0 H (Same.refl _) h0
  | [],[],_,_=>exact absurd h (by decide)
  | _ :: _ :: _,_ :: _ :: _,_,_=>simp only [List.length_cons] at h; omega
 ·walk_at "rd"
  refine ZEU hl fun x dx tp H1 s1 n1 e1 e2=>?_
  refine q x H1 s1 ?_
  rw [ZrZ (by omega)]
  exact FmE.join (v:=.e) e1 e2 (ZaR (fun _ _ z=>FmE.same s1 z) hp)
theorem ZLv (T:Txt K mg t):FnS P w K mg base 3 "or_of" ["parts"] ((Zwz t .o)):=by
 refine ⟨_,_,T.ZEv.ok ZLN (fun vs H Q E h=>?_) (fun cdv A outer s H vs Q E hr h=>?_),T.ZH4,T.ZEv.kp,T.ZJe⟩
 ·obtain ⟨l,fs,rfl,hF,q⟩ :=h
  rfl
 obtain ⟨l,fs,rfl,hF,q⟩ :=h
 obtain ⟨ps,hl,hp⟩ :=hF
 have M_Or:=ZQG (P:=P) (w:=w) (base:=base) T
 have hz:=ZaY hp
 refine ⟨_,(Zad (Zam (ZoD (Zah (ZaC hr.units) (Zax Zb9 rfl T.B.len ZgR (Zaa (pv 0) Zaf)) Zae (Zap _)) (ZaG Zar (pv 0) Zae (fun _ _=>rfl)) (ZFn M_Or hr (Zaa (pv 0) Zaf))))),?_⟩
 walk_at "rd0"
 rw [List.length_map,hz]
 refine Zd3 (fun h=>?_) (fun h=>?_)
 ·match ps,fs,hp,hz with
  | [p0],[f0],.cons h0 .nil,_=>
   walk_at "rd"
   refine ZlU (j:=0) (v:=.ref p0) hl rfl ?_
   exact q p0 H (Same.refl _) h0
  | [],[],_,_=>exact absurd h (by decide)
  | _ :: _ :: _,_ :: _ :: _,_,_=>simp only [List.length_cons] at h; omega
 ·walk_at "rd"
  refine ZEU hl fun x dx tp H1 s1 n1 e1 e2=>?_
  refine q x H1 s1 ?_
  rw [ZrZ (by omega)]
  exact FmE.join (v:=.o) e1 e2 (ZaR (fun _ _ z=>FmE.same s1 z) hp)
theorem ZQt {p:Addr} {x:Str} {ns:List Str} {Q:VK} (h:SqT K H p (ns.map V.str)) (k:Q (.bl (decide (x ∈ ns))) H):rInG K (.str x) (.ref p) H Q:=by
 refine .inr ⟨p,ns.map V.str,rfl,.inr h,rfl,?_,?_⟩
 ·rw [List.all_eq_true]
  intro v hv
  obtain ⟨z,_,rfl⟩ :=List.mem_map.mp hv
  rfl
 ·rw [ZAl]
  exact k
def ZEB (z:Str):Prop:=(reprText z).length≤900000
def ZLV (t:Ad):Sp:=fun vs H Q E=>∃ (z:Str) (nl:Addr) (ns:List Str),vs=[.str z,.ref nl]∧H nl=some (.lst (ns.map V.str))∧ns.length≤1000∧ZEB z∧(∀ f,Zoc ns z=some f→∀ q H',Same H H'→FmE t H' q f→Q (.ref q) H')∧(Zoc ns z=none→∀ H',Same H H'→E (.ref t.ZaH) none H')
theorem ZJy (T:Txt K mg t):FnS1 P w K mg base 3 "single" ["word","names"] ((ZLV t)):=by
 refine ⟨_,_,T.ZzU.ok1 ZJ2 (fun vs H Q E h=>?_) (fun cdv A outer s H vs Q E hr h=>?_),T.ZFW,T.ZzU.kp,T.ZGA⟩
 ·obtain ⟨z,nl,ns,rfl,hn,h1000,hpl,q1,q2⟩ :=h
  rfl
 obtain ⟨z,nl,ns,rfl,hn,h1000,hpl,q1,q2⟩ :=h
 have ZMb:=ZN0 (P:=P) (w:=w) (base:=base) T
 have ZOI:=ZNZ (P:=P) (w:=w) (base:=base) T
 unfold Zoc at q1 q2
 refine ⟨_,(Zac (PS.nox (ZaI (Zah (ZaC hr.units) (pv 0) Zal (Zap _))
   (Zad (Zam (ZFn ZMb hr (Zaa ZjZ Zaf))))
   Zaq))
   (Zac (PS.nox (ZaI (Zah (ZaC hr.units) (pv 0) Zal (Zap _))
   (Zad (Zam (ZFn ZMb hr (Zaa ZjZ Zaf))))
   Zaq))
   (Zac (PS.nox (ZaI (Zah ZDC (pv 0) (pv 1) (by with_unfolding_all rfl))
   (Zad (Zam (ZFn ZOI hr (Zaa (Zj0 PySem.F.plainAttrs_list PySem.F.slot_list_index PySem.F.type_list_index ZLm (pv 1) (Zaa (pv 0) Zaf)) Zaf))))
   Zaq))
   (Zad (Zww rfl ZLf T.ZhB.own rfl T.Zhf (PA.nox (Zaa (Zsz (Zlc (ZJI (pv 0)) (Zlc Zal ZGI))) Zaf))))))),?_⟩
 walk_at "rd0"
 refine Zd3 (fun h1=>?_) (fun h1=>?_)
 ·rw [if_pos h1] at q1
  walk_at "rd"
  refine ZAi fun x dx H1 s1 n1 e1=>?_
  exact q1 _ rfl x H1 s1 ⟨1,dx,e1⟩
 rw [if_neg h1] at q1 q2
 walk_at "rd"
 refine Zd3 (fun h2=>?_) (fun h2=>?_)
 ·rw [if_pos h2] at q1
  walk_at "rd"
  refine ZAi fun x dx H1 s1 n1 e1=>?_
  exact q1 _ rfl x H1 s1 ⟨1,dx,e1⟩
 rw [if_neg h2] at q1 q2
 walk_at "rd"
 refine ZNz (.inl hn) ?_
 walk_at "rd"
 cases hi:idxS z ns with
 | some j=>
  rw [hi] at q1
  obtain ⟨hj,hno⟩ :=ZCP hi
  have hjl:=(List.getElem?_eq_some_iff.mp hj).1
  refine ZcG (decide_eq_true (List.mem_of_getElem? hj)) ?_
  walk_at "rd"
  refine ⟨tyL hn,?_⟩
  walk_at "rd"
  refine ZNA hn hj hno (by omega) ?_
  walk_at "rd"
  refine ZAi fun x dx H1 s1 n1 e1=>?_
  exact q1 _ rfl x H1 s1 ⟨1,dx,e1⟩
 | none=>
  rw [hi] at q2
  refine ZaP (decide_eq_false (ZCO hi)) ?_
  walk_at "rd"
  (try dsimp only)
  refine ZAj ?_
  walk_at "rd"
  have hpl':(reprText z).length≤900000:=hpl
  have e0:Str.empty.length=0:=rfl
  have e:=ZaD Str.empty (reprText z)
  have e1:=ZaD (Str.empty ++ reprText z) " has no place there"
  have e2:Str.length " has no place there" = 19:=rfl
  refine ⟨_,rfl,Zcf (by omega),_,rfl,Zcf (by omega),?_⟩
  walk_at "rd"
  refine ⟨_,rfl,Zcf (by omega),Zcf (by omega),?_⟩
  walk_at "rd"
  exact ⟨Nat.le_of_ble_eq_true rfl,q2 rfl H (Same.refl _)⟩
def ZJ8 (t:Ad):Sp:=fun vs H Q _=>∃ (p dx:Addr),vs=[.ref p]∧H p=some (.ins t.Zay dx [])∧∀ a e o H',But p H H'→H a=none→H e=none→H o=none→LvAt t H' p dx a e o Lv.new→Q .non H'
theorem ZLs (T:Txt K mg t):MkS P w K mg base 2 "Level" t.Zay ["self"] (ZJ8 t):=by
 refine ⟨T.ZJd,_,_,T.ZI0,T.Zt3.ok ZBD (fun vs H Q E h=>?_) (fun cdv A outer s H vs Q E hr h=>?_),T.Zuo⟩
 ·obtain ⟨p,dx,rfl,_⟩ :=h
  rfl
 obtain ⟨p,dx,rfl,hp0,q⟩ :=h
 refine ⟨_,(Zac (ZhA (pv 0) Zae rfl)
   (Zac (ZhA (pv 0) (Za8 Zaf) rfl)
   (Zac (ZhA (pv 0) (Za8 Zaf) rfl)
   (Zac (ZhA (pv 0) (Za8 Zaf) rfl)
   (Zad (ZhA (pv 0) ZjZ rfl)))))),?_⟩
 walk_at "rd0"
 refine ZxF hp0 T.Zbh T.ZbQ (by decide) fun H1 b1 e1=>?_
 walk_at "rd"
 refine ZeA (by simp) fun a H2 s2 n2 e2=>?_
 walk_at "rd"
 refine ZxF (s2 _ _ e1) T.Zbh T.Zcm (Nat.le_of_ble_eq_true rfl) fun H3 b3 e3=>?_
 walk_at "rd"
 refine ZeA (by simp) fun e H4 s4 n4 e4=>?_
 walk_at "rd"
 refine ZxF (s4 _ _ e3) T.Zbh T.Zbr (Nat.le_of_ble_eq_true rfl) fun H5 b5 e5=>?_
 walk_at "rd"
 refine ZeA (by simp) fun o H6 s6 n6 e6=>?_
 walk_at "rd"
 refine ZxF (s6 _ _ e5) T.Zbh T.ZdO (Nat.le_of_ble_eq_true rfl) fun H7 b7 e7=>?_
 walk_at "rd"
 refine ZxF e7 T.Zbh T.ZaL (Nat.le_of_ble_eq_true rfl) fun H8 b8 e8=>?_
 have pa:a ≠ p:=(Zat e1 n2).symm
 have pe:e ≠ p:=(Zat e3 n4).symm
 have po:o ≠ p:=(Zat e5 n6).symm
 have a3:=b3 _ _ pa e2
 have a5:=b5 _ _ pa (s4 _ _ a3)
 have ee5:=b5 _ _ pe e4
 have k13:∀ x u,x ≠ p→H x=some u→H3 x=some u:=fun x u hx z=>b3 _ _ hx (s2 _ _ (b1 _ _ hx z))
 have k15:∀ x u,x ≠ p→H x=some u→H5 x=some u:=fun x u hx z=>b5 _ _ hx (s4 _ _ (k13 _ _ hx z))
 refine q a e o H8 (fun x u hx z=>b8 _ _ hx (b7 _ _ hx (s6 _ _ (k15 _ _ hx z)))) ?_ ?_ ?_ ⟨e8,⟨[],b8 _ _ pa (b7 _ _ pa (s6 _ _ a5)),.nil⟩,⟨[],b8 _ _ pe (b7 _ _ pe (s6 _ _ ee5)),.nil⟩,⟨[],b8 _ _ po (b7 _ _ po e6),.nil⟩,Zat a3 n4,Zat a5 n6,Zat ee5 n6⟩
 ·cases z:H a with
  | none=>rfl
  | some u=>rw [b1 _ _ pa z] at n2; cases n2
 ·cases z:H e with
  | none=>rfl
  | some u=>rw [k13 _ _ pe z] at n4; cases n4
 ·cases z:H o with
  | none=>rfl
  | some u=>rw [k15 _ _ po z] at n6; cases n6
theorem ZIN {Q:VK} (h:∀ (p dx a e o:Addr) (H':Hp),Same H H'→H p=none→H a=none→H e=none→H o=none→LvAt t H' p dx a e o Lv.new→Q (.ref p) H'):MkG t.Zay (ZJ8 t) [] H Q:=by
 intro x dx hx hdx ne
 have s2:=Zyx hx hdx (.ins t.Zay dx []) (.own x)
 refine ⟨x,dx,rfl,ZaV,fun a e o H' b ha he ho V=>⟨rfl,?_⟩⟩
 exact h x dx a e o H' (fun y u z=>b y u (Zat z hx) (s2 y u z)) hx (s2.free ha) (s2.free he) (s2.free ho) V
theorem ZGO (n m:Nat) (a e o:Addr) (b:Bool):putF "nots" (.int (m:Int)) (Zfn n a e o b)=Zfn m a e o b:=rfl
theorem ZLE (n:Nat) (a a' e o:Addr) (b:Bool):putF "ands" (.ref a') (Zfn n a e o b)=Zfn n a' e o b:=rfl
theorem ZFr (n:Nat) (a e e' o:Addr) (b:Bool):putF "eithers" (.ref e') (Zfn n a e o b)=Zfn n a e' o b:=rfl
theorem Zyo (n:Nat) (a e o:Addr) (b b':Bool):putF "lacking" (.bl b') (Zfn n a e o b)=Zfn n a e o b':=rfl
theorem ZGx (n:Nat) (a e o:Addr) (b:Bool):(Zfn n a e o b).lookup ("nots" : Str)=some (.int (n:Int)):=rfl
theorem ZGw (n:Nat) (a e o:Addr) (b:Bool):(Zfn n a e o b).lookup ("ands" : Str)=some (.ref a):=rfl
theorem ZxR (n:Nat) (a e o:Addr) (b:Bool):(Zfn n a e o b).lookup ("eithers" : Str)=some (.ref e):=rfl
theorem ZI8 (n:Nat) (a e o:Addr) (b:Bool):(Zfn n a e o b).lookup ("ors" : Str)=some (.ref o):=rfl
theorem Zfv (n:Nat) (a e o:Addr) (b:Bool):(Zfn n a e o b).lookup ("lacking" : Str)=some (.bl b):=rfl
theorem Zsl (n:Nat) (a e o:Addr) (b:Bool):(Zfn n a e o b).lookup ("take_part" : Str)=none:=rfl
theorem Zsk (n:Nat) (a e o:Addr) (b:Bool):(Zfn n a e o b).lookup ("take_join" : Str)=none:=rfl
theorem ZAw (n:Nat) (a e o:Addr) (b:Bool):(Zfn n a e o b).lookup ("take_word" : Str)=none:=rfl
theorem ZCZ (n:Nat) (a e o:Addr) (b:Bool):(Zfn n a e o b).lookup ("whole" : Str)=none:=rfl
def isLv (t:Ad) (C:Addr):Prop:=C=t.Zay
def ZQb (t:Ad):Sp:=fun vs H Q _=>∃ (p dx a e o q:Addr) (L:Lv) (f:Fm),vs=[.ref p,.ref q]∧LvAt t H p dx a e o L∧FmE t H q f∧L.size < 900000∧∀ H',Off2 p a H H'→LvAt t H' p dx a e o (L.part f)→Q .non H'
theorem ZoO (T:Txt K mg t):∀ C,isLv t C→MeS P w K mg base 3 C "take_part" ["self","part"] (spAt (ZQb t) C):=by
 rintro C rfl
 refine ⟨T.Zbh,_,_,T.Zju.ok Zfk (fun vs H Q E h=>?_) (fun cdv A outer s H vs Q E hr h=>?_),T.Zjy,T.ZjG⟩
 ·obtain ⟨⟨p,dx,a,e,o,q,L,f,rfl,_⟩,_⟩ :=h
  rfl
 obtain ⟨⟨p,dx,a,e,o,q,L,f,rfl,Y,hf,hz,k⟩,_⟩ :=h
 have M_Not:=ZPB (P:=P) (w:=w) (base:=base) T
 have hz':L.nots < 900000∧L.ands.length < 900000:=by unfold Lv.size at hz; omega
 refine ⟨_,(Zac (Zc4 PassesOwn.never rfl (ZdP rfl T.B.range (Zaa (ZbR (pv 0) rfl) Zaf)) (sg 2 Zfk.nd)
   (Zad (ss 1 Zfk.nd (ZFn M_Not hr (Zaa (pv 1) Zaf)))))
   (Zac (ZhA (pv 0) Zae rfl)
   (Zac (Zcg (Zj0 PySem.F.plainAttrs_list PySem.F.slot_list_append PySem.F.type_list_append Zcb (ZbR (pv 0) rfl) (Zaa (pv 1) Zaf)))
   (Zad (ZhA (pv 0) ZjZ rfl))))),?_⟩
 walk_at "rd0"
 refine ⟨p,_,_,_,_,rfl,Y.ob,T.Zbh,T.ZbQ,ZGx _ _ _ _ _,?_⟩
 walk_at "rd"
 refine ⟨_,rfl,by omega,by omega,?_⟩
 rw [Int.toNat_natCast]
 refine ZJa (n:=L.nots) (fun i σ H'=>Same H H'∧∃ q' v2,FmE t H' q' (negs i f)∧σ=[some (.ref p),some (.ref q'),v2]) ⟨Same.refl _,q,_,hf,rfl⟩ ?_ ?_
 ·rintro i σ H1 hi ⟨s1,q',v2,hq,rfl⟩
  walk_at "rd"
  refine ZAi fun x dx' H2 s2 n2 e2=>?_
  walk_at "rd"
  exact ⟨s1.trans s2,x,_,FmE.neg e2 (hq.same s2),rfl⟩
 rintro σ H1 ⟨s1,q',v2,hq,rfl⟩
 have V1:=Y.same T s1
 obtain ⟨ps,ea,pa⟩ :=V1.la
 have npa:a ≠ p:=ZgI ea V1.ob (by intro z; cases z)
 have zl:=ZaY pa
 walk_at "rd"
 refine ZxF V1.ob T.Zbh T.ZbQ (Nat.le_of_ble_eq_true rfl) fun H2 b2 e2=>?_
 rw [show V.int 0=V.int ((0:Nat):Int) from rfl,ZGO] at e2
 (try dsimp only)
 have ea2:=b2 _ _ npa ea
 walk_at "rd"
 refine ⟨p,_,_,_,_,rfl,e2,T.Zbh,T.Zcm,ZGw _ _ _ _ _,?_⟩
 walk_at "rd"
 refine ⟨tyL ea2,?_⟩
 walk_at "rd"
 refine ZfE ea2 (by rw [List.length_map]; omega) fun H3 b3 e3=>?_
 have e23:=b3 _ _ npa.symm e2
 walk_at "rd"
 refine ZxF e23 T.Zbh T.ZaL (Nat.le_of_ble_eq_true rfl) fun H4 b4 e4=>?_
 rw [Zyo] at e4
 have x4:ExtL t H1 H4:=(ExtL.lev b2 V1.ob).trans ((ExtL.lst b3 ea2).trans (ExtL.lev b4 e23))
 have kp:∀ x u,x ≠ p→x ≠ a→H1 x=some u→H4 x=some u:=fun x u h1 h2 z=>b4 _ _ h1 (b3 _ _ h2 (b2 _ _ h1 z))
 refine k H4 (fun x u h1 h2 z=>kp _ _ h1 h2 (s1 _ _ z)) ⟨e4,FmsE.snoc (b4 _ _ npa e3) (ZaR (fun _ _ z=>FmE.extL T x4 z) pa) (hq.extL T x4),V1.le.keep T x4 fun xs z=>kp _ _ (ZgI z V1.ob (by intro y; cases y)) Y.ae.symm z,V1.lo.keep T x4 fun xs z=>kp _ _ (ZgI z V1.ob (by intro y; cases y)) Y.ao.symm z,Y.ae,Y.ao,Y.eo⟩
def Off4 (p a e o:Addr) (H H':Hp):Prop:=∀ b u,b ≠ p→b ≠ a→b ≠ e→b ≠ o→H b=some u→H' b=some u
theorem ExtL.off4 {p dx a e o:Addr} {L:Lv} (Y:LvAt t H p dx a e o L) (k:Off4 p a e o H H'):ExtL t H H':=fun x u z h1 h2=>by
 obtain ⟨pa,ea,_⟩ :=Y.la
 obtain ⟨pe,ee,_⟩ :=Y.le
 obtain ⟨po,eo,_⟩ :=Y.lo
 exact k x u (fun y=>by rw [y,Y.ob] at z; cases z; exact h2 _ _ rfl) (fun y=>by rw [y,ea] at z; cases z; exact h1 _ rfl) (fun y=>by rw [y,ee] at z; cases z; exact h1 _ rfl) (fun y=>by rw [y,eo] at z; cases z; exact h1 _ rfl) z
def ZOq (t:Ad):Sp:=fun vs H Q _=>∃ (p dx a e o:Addr) (L:Lv) (v:W3),vs=[.ref p,.str (kw3 v)]∧LvAt t H p dx a e o L∧L.size < 900000∧∀ a' e' H',(a'=a∨H a'=none)→(e'=e∨H e'=none)→Off4 p a e o H H'→LvAt t H' p dx a' e' o (L.join v)→Q .non H'
theorem ZIU (T:Txt K mg t) {p dx a e o:Addr} {M:Lv} {R:Hp→Prop} (Y:LvAt t H p dx a e o M) (kk:∀ H'',But p H H''→LvAt t H'' p dx a e o ⟨M.nots,M.ands,M.eithers,M.ors,true⟩ →R H''):∃ a C dx fs,(V.ref p)=.ref a∧H a=some (.ins C dx fs)∧Cls K C∧ZaB K C "lacking"∧fs.length < 1000∧R (upd H a (.ins C dx (putF "lacking" (.bl true) fs))):=by
 refine ZxF Y.ob T.Zbh T.ZaL (Nat.le_of_ble_eq_true rfl) fun H'' b e1=>?_
 rw [Zyo] at e1
 have x:=ExtL.lev b Y.ob
 exact kk H'' b ⟨e1,Y.la.keep T x fun _ z=>b _ _ (ZgI z Y.ob (by intro y; cases y)) z,Y.le.keep T x fun _ z=>b _ _ (ZgI z Y.ob (by intro y; cases y)) z,Y.lo.keep T x fun _ z=>b _ _ (ZgI z Y.ob (by intro y; cases y)) z,Y.ae,Y.ao,Y.eo⟩
theorem ZoN (T:Txt K mg t):∀ C,isLv t C→MeS P w K mg base 5 C "take_join" ["self","word"] (spAt (ZOq t) C):=by
 rintro C rfl
 refine ⟨T.Zbh,_,_,T.Zjt.ok Zs0 (fun vs H Q E h=>?_) (fun cdv A outer s H vs Q E hr h=>?_),T.Zjx,T.ZjF⟩
 ·obtain ⟨⟨p,dx,a,e,o,L,v,rfl,_⟩,_⟩ :=h
  rfl
 obtain ⟨⟨p,dx,a,e,o,L,v,rfl,Y,hz,k⟩,_⟩ :=h
 have ZKA:=ZJw (P:=P) (w:=w) (base:=base) T
 have ZEA:=ZDB (P:=P) (w:=w) (base:=base) T
 have hz':L.ands.length < 900000∧L.eithers.length < 900000∧L.ors.length < 900000:=by unfold Lv.size at hz; omega
 refine ⟨_,(Zac (ZaI (Zah (ZiO hr.units) (pv 1) Zal (Zap _))
   (Zac (Zcg (Zj0 PySem.F.plainAttrs_list PySem.F.slot_list_append PySem.F.type_list_append Zcb (ZbR (pv 0) rfl) (Zaa (Zbv ZKA hr (Zaa (ZbR (pv 0) rfl) Zaf)) Zaf)))
   (Zad (ZhA (pv 0) (Za8 Zaf) rfl)))
   Zaq)
   (Zac (ZaI (Zah (ZaC hr.units) (pv 1) Zal (Zap _))
   (Zac (Zcg (Zj0 PySem.F.plainAttrs_list PySem.F.slot_list_append PySem.F.type_list_append Zcb (ZbR (pv 0) rfl) (Zaa (Zbv ZEA hr (Zaa (ZbR (pv 0) rfl) Zaf)) Zaf)))
   (Zad (ZhA (pv 0) (Za8 Zaf) rfl)))
   Zaq)
   (Zad (ZhA (pv 0) ZjZ rfl)))),?_⟩
 walk_at "rs"
 refine ZrY (fun σ H'=>(v=.a→H=H')∧(v ≠ .a→∃ a',H a'=none∧Off2 p e H H'∧LvAt t H' p dx a' e o ⟨L.nots,[],L.eithers ++ [Zc1 .a L.ands],L.ors,L.lack⟩)∧σ=[some (.ref p),some (.str (kw3 v))]) ?_ ?_
 rotate_left
 ·intro Kn hK
  have eithers:(v ≠ .a)→tSeq (ZOz (tBM K "list" ZBs (tFld K (tVar 0) "eithers") (Zs8 (tFn (Zwz t .a) (Zs8 (tFld K (tVar 0) "ands") tNil)) tNil))) (sFld K (tVar 0) (tLst tNil) "ands") { nx:=Kn,rt:=Q } [some (.ref p),some (.str (kw3 v))] H:=fun hv=>by
   obtain ⟨pe,ee,qe⟩ :=id Y.le
   have ze:=ZaY qe
   have npe:e ≠ p:=ZgI ee Y.ob (by intro z; cases z)
   walk_at "rd"
   refine ⟨p,_,_,_,_,rfl,Y.ob,T.Zbh,T.Zbr,ZxR _ _ _ _ _,?_⟩
   walk_at "rd"
   refine ⟨tyL ee,?_⟩
   walk_at "rd"
   refine ⟨p,_,_,_,_,rfl,Y.ob,T.Zbh,T.Zcm,ZGw _ _ _ _ _,?_⟩
   walk_at "rd"
   refine ⟨a,_,rfl,Y.la,fun q H1 s1 hq=>?_⟩
   have Y1:=Y.same T s1
   have ee1:=s1 _ _ ee
   walk_at "rd"
   refine ZfE ee1 (by rw [List.length_map]; omega) fun H2 b2 e2=>?_
   have ob2:=b2 _ _ npe.symm Y1.ob
   walk_at "rd"
   refine ZeA (by simp) fun a' H3 s3 n3 e3=>?_
   walk_at "rd"
   refine ZxF (s3 _ _ ob2) T.Zbh T.Zcm (Nat.le_of_ble_eq_true rfl) fun H4 b4 e4=>?_
   rw [ZLE] at e4
   have x24:ExtL t H2 H4:=(ExtL.of s3).trans (ExtL.lev b4 (s3 _ _ ob2))
   have x14:ExtL t H1 H4:=(ExtL.lst b2 ee1).trans x24
   have nap:a' ≠ p:=(Zat ob2 n3).symm
   have kp:∀ x u,x ≠ p→x ≠ e→H x=some u→H4 x=some u:=fun x u h1 h2 z=>b4 _ _ h1 (s3 _ _ (b2 _ _ h2 (s1 _ _ z)))
   obtain ⟨po,eo,qo⟩ :=id Y.lo
   have nop:o ≠ p:=ZgI eo Y.ob (by intro z; cases z)
   have na:H a'=none:=by
    cases z:H a' with
    | none=>rfl
    | some u=>
     by_cases y:a'=e
     ·subst y; rw [e2] at n3; cases n3
     ·rw [b2 _ _ y (s1 _ _ z)] at n3; cases n3
   refine hK _ _ ⟨fun z=>absurd z hv,fun _=>⟨a',na,fun x u h1 h3 z=>kp x u h1 h3 z,⟨e4,⟨[],b4 _ _ nap e3,.nil⟩,FmsE.snoc (b4 _ _ npe (s3 _ _ e2)) (ZaR (fun _ _ z=>FmE.extL T x14 (FmE.same s1 z)) qe) (hq.extL T x14),Y.lo.keep T ((ExtL.of s1).trans x14) fun xs z=>kp _ _ nop Y.eo.symm z,?_,?_,Y.eo⟩⟩,rfl⟩
   ·exact fun y=>by subst y; rw [e2] at n3; cases n3
   ·exact fun y=>by subst y; rw [b2 _ _ Y.eo.symm (s1 _ _ eo)] at n3; cases n3
  walk_at "rs"
  cases v with
  | a=>
   refine ZaP rfl ?_
   walk_at "rs"
   exact hK _ _ ⟨fun _=>rfl,fun z=>absurd rfl z,rfl⟩
  | e=>exact ZcG (by decide) (eithers (by decide))
  | o=>exact ZcG (by decide) (eithers (by decide))
 rintro σ H1 ⟨ha,hn,rfl⟩
 walk_at "rs"
 cases v with
 | a=>
  obtain rfl:=ha rfl
  refine ZAk ?_
  walk_at "rs"
  refine ZaP rfl ?_
  walk_at "rs"
  refine ZIU T Y fun H2 b2 Y2=>?_
  exact k a e H2 (.inl rfl) (.inl rfl) (fun x u h1 _ _ _ z=>b2 _ _ h1 z) Y2
 | e=>
  obtain ⟨a',na,o1,Y1⟩ :=hn (by decide)
  refine ZAk ?_
  walk_at "rs"
  refine ZaP rfl ?_
  walk_at "rs"
  refine ZIU T Y1 fun H2 b2 Y2=>?_
  exact k a' e H2 (.inr na) (.inl rfl) (fun x u h1 h2 h3 h4 z=>b2 _ _ h1 (o1 _ _ h1 h3 z)) Y2
 | o=>
  obtain ⟨a',na,o1,Y1⟩ :=hn (by decide)
  refine ZAk ?_
  walk_at "rs"
  refine ZcG rfl ?_
  obtain ⟨po,eo,qo⟩ :=id Y1.lo
  have zo:=ZaY qo
  have nop:o ≠ p:=ZgI eo Y1.ob (by intro z; cases z)
  obtain ⟨pa1,ea1,_⟩ :=id Y1.la
  obtain ⟨pe1,ee1,_⟩ :=id Y1.le
  walk_at "rd"
  refine ⟨p,_,_,_,_,rfl,Y1.ob,T.Zbh,T.ZdO,ZI8 _ _ _ _ _,?_⟩
  walk_at "rd"
  refine ⟨tyL eo,?_⟩
  walk_at "rd"
  refine ⟨p,_,_,_,_,rfl,Y1.ob,T.Zbh,T.Zbr,ZxR _ _ _ _ _,?_⟩
  walk_at "rd"
  refine ⟨e,_,rfl,Y1.le,fun q H2 s2 hq=>?_⟩
  have Y2:=Y1.same T s2
  have eo2:=s2 _ _ eo
  walk_at "rd"
  refine ZfE eo2 (by rw [List.length_map]; dsimp only at zo; omega) fun H3 b3 e3=>?_
  have ob3:=b3 _ _ nop.symm Y2.ob
  walk_at "rd"
  refine ZeA (by simp) fun e' H4 s4 n4 e4=>?_
  walk_at "rs"
  refine ZxF (s4 _ _ ob3) T.Zbh T.Zbr (Nat.le_of_ble_eq_true rfl) fun H5 b5 e5=>?_
  rw [ZFr] at e5
  have x35:ExtL t H3 H5:=(ExtL.of s4).trans (ExtL.lev b5 (s4 _ _ ob3))
  have x25:ExtL t H2 H5:=(ExtL.lst b3 eo2).trans x35
  have nep:e' ≠ p:=(Zat ob3 n4).symm
  have kp:∀ x u,x ≠ p→x ≠ o→H1 x=some u→H5 x=some u:=fun x u h1 h2 z=>b5 _ _ h1 (s4 _ _ (b3 _ _ h2 (s2 _ _ z)))
  have nap:a' ≠ p:=ZgI ea1 Y1.ob (by intro z; cases z)
  have nf:∀ x u,x ≠ o→H1 x=some u→e' ≠ x:=fun x u h2 z y=>by subst y; rw [b3 _ _ h2 (s2 _ _ z)] at n4; cases n4
  have neo:e' ≠ o:=fun y=>by subst y; rw [e3] at n4; cases n4
  have ne1:H1 e'=none:=by
   cases z:H1 e' with
   | none=>rfl
   | some u=>exact absurd rfl (nf e' u neo z)
  have ne0:H e'=none:=by
   cases z:H e' with
   | none=>rfl
   | some u=>rw [o1 e' u nep (fun y=>by rw [y,ee1] at ne1; cases ne1) z] at ne1; cases ne1
  have Y5:LvAt t H5 p dx a' e' o ⟨L.nots,[],[],L.ors ++ [Zc1 .e (L.eithers ++ [Zc1 .a L.ands])],L.lack⟩ :=⟨e5,Y1.la.keep T ((ExtL.of s2).trans x25) fun xs z=>kp _ _ nap Y1.ao z,⟨[],b5 _ _ nep e4,.nil⟩,FmsE.snoc (b5 _ _ nop (s4 _ _ e3)) (ZaR (fun _ _ z=>FmE.extL T x25 (FmE.same s2 z)) qo) (hq.extL T x25),(nf a' _ Y1.ao ea1).symm,Y1.ao,neo⟩
  walk_at "rs"
  refine ZIU T Y5 fun H6 b6 Y6=>?_
  exact k a' e' H6 (.inr na) (.inr ne0) (fun x u h1 h2 h3 h4 z=>b6 _ _ h1 (kp _ _ h1 h4 (o1 _ _ h1 h3 z))) Y6
def ZLW (t:Ad):Sp:=fun vs H Q _=>∃ (p dx a e o:Addr) (L:Lv),vs=[.ref p]∧LvAt t H p dx a e o L∧L.size < 900000∧∀ q H',Off4 p a e o H H'→FmE t H' q L.whole→Q (.ref q) H'
theorem ZHa (T:Txt K mg t):∀ C,isLv t C→MeS P w K mg base 6 C "whole" ["self"] (spAt (ZLW t) C):=by
 rintro C rfl
 refine ⟨T.Zbh,_,_,T.ZqP.ok Zzf (fun vs H Q E h=>?_) (fun cdv A outer s H vs Q E hr h=>?_),T.Zq9,T.ZrV⟩
 ·obtain ⟨⟨p,dx,a,e,o,L,rfl,_⟩,_⟩ :=h
  rfl
 obtain ⟨⟨p,dx,a,e,o,L,rfl,Y,hz,k⟩,_⟩ :=h
 have ZNc:=ZLv (P:=P) (w:=w) (base:=base) T
 have D_take_join:=ZoN (P:=P) (w:=w) (base:=base) T
 refine ⟨_,(Zac (Zcg (Zlb D_take_join hr (pv 0) (Zaa Zal Zaf)))
   (Zad (Zam (Zbv ZNc hr (Zaa (ZbR (pv 0) rfl) Zaf))))),?_⟩
 walk_at "rd0"
 refine ⟨p,_,_,_,rfl,Y.ob,rfl,Zsk _ _ _ _ _,?_⟩
 walk_at "rd"
 refine ⟨Y.ob,p,dx,a,e,o,L,.o,rfl,Y,hz,fun a' e' H1 ha he o1 Y1=>?_⟩
 walk_at "rd"
 refine ⟨p,_,_,_,_,rfl,Y1.ob,T.Zbh,T.ZdO,ZI8 _ _ _ _ _,?_⟩
 walk_at "rd"
 refine ⟨o,_,rfl,Y1.lo,fun q H2 s2 hq=>?_⟩
 exact k q H2 (fun x u h1 h2 h3 h4 z=>s2 _ _ (o1 _ _ h1 h2 h3 h4 z)) hq
def ZKc (t:Ad):Sp:=fun vs H Q E=>∃ (p dx a e o nl:Addr) (L:Lv) (z:Str) (ns:List Str),vs=[.ref p,.str z,.ref nl]∧LvAt t H p dx a e o L∧L.size < 900000∧H nl=some (.lst (ns.map V.str))∧ns.length≤1000∧ZEB z∧
 (L.word ns z=none→∀ H',Same H H'→E (.ref t.ZaH) none H')∧
 (∀ L',L.word ns z=some L'→∀ a' e' H',(a'=a∨H a'=none)→(e'=e∨H e'=none)→Off4 p a e o H H'→LvAt t H' p dx a' e' o L'→Q .non H')
theorem ZyW (T:Txt K mg t):∀ C,isLv t C→MeS1 P w K mg base 7 C "take_word" ["self","word","names"] (spAt (ZKc t) C):=by
 rintro C rfl
 refine ⟨T.Zbh,_,_,T.Zjv.ok1 Zs1 (fun vs H Q E h=>?_) (fun cdv A outer s H vs Q E hr h=>?_),T.Zjz,T.ZjH⟩
 ·obtain ⟨⟨p,dx,a,e,o,nl,L,z,ns,rfl,_⟩,_⟩ :=h
  rfl
 obtain ⟨⟨p,dx,a,e,o,nl,L,z,ns,rfl,Y,hz,hn,h1000,hpl,k1,k2⟩,_⟩ :=h
 have ZKB:=ZJy (P:=P) (w:=w) (base:=base) T
 have D_take_part:=ZoO (P:=P) (w:=w) (base:=base) T
 have D_take_join:=ZoN (P:=P) (w:=w) (base:=base) T
 unfold Lv.word at k1 k2
 refine ⟨_,(Zad (ZaI (PT.nox (PW.pt (Zgt (Zbg (ZbR (pv 0) rfl) (fun _=>rfl)) (Zfw (Zah (ZaC hr.units) (pv 1) Zal (Zap _))))))
   (PSs.nox (Zad (ZhA (pv 0) (Zau ZaQ (ZbR (pv 0) rfl) Zae) rfl)))
   (Zad (ZaI (PT.nox (Zbg (ZbR (pv 0) rfl) (fun _=>rfl)))
   (Zad (Zcg (Zlb D_take_part hr (pv 0) (Zaa (ZMW ZN9 ZKB hr (Zaa (pv 1) (Zaa (pv 2) Zaf))) Zaf))))
   (Zad (ZaI (PT.nox (Zah ZDC (pv 1) (ZJJ rfl T.g_JOINS) (by with_unfolding_all rfl)))
   (PSs.nox (Zad (Zcg (Zlb D_take_join hr (pv 0) (Zaa (pv 1) Zaf)))))
   (Zad (Zww rfl ZLf T.ZhB.own rfl T.Zhf (PA.nox (Zaa (Zsz (Zlc (ZJI (pv 1)) (Zlc Zal ZGI))) Zaf)))))))))),?_⟩
 walk_at "rd0"
 refine ⟨p,_,_,_,_,rfl,Y.ob,T.Zbh,T.ZaL,Zfv _ _ _ _ _,?_⟩
 walk_at "rd"
 cases hl:L.lack with
 | true=>
  rw [hl,if_pos rfl] at k1 k2
  refine ZcG rfl ?_
  walk_at "rd"
  refine Zd3 (fun h1=>?_) (fun h1=>?_)
  ·rw [if_pos h1] at k2
   walk_at "rd"
   refine ⟨p,_,_,_,_,rfl,Y.ob,T.Zbh,T.ZbQ,ZGx _ _ _ _ _,?_⟩
   walk_at "rd"
   refine ZxF Y.ob T.Zbh T.ZbQ (Nat.le_of_ble_eq_true rfl) fun H1 b1 e1=>?_
   rw [show (L.nots:Int) + 1=((L.nots + 1:Nat):Int) by omega,ZGO] at e1
   have x:=ExtL.lev b1 Y.ob
   rw [hl] at e1
   exact k2 _ rfl a e H1 (.inl rfl) (.inl rfl) (fun y u h1 _ _ _ z=>b1 _ _ h1 z) ⟨e1,Y.la.keep T x fun _ z=>b1 _ _ (ZgI z Y.ob (by intro y; cases y)) z,Y.le.keep T x fun _ z=>b1 _ _ (ZgI z Y.ob (by intro y; cases y)) z,Y.lo.keep T x fun _ z=>b1 _ _ (ZgI z Y.ob (by intro y; cases y)) z,Y.ae,Y.ao,Y.eo⟩
  ·rw [if_neg h1] at k1 k2
   walk_at "rd"
   refine ⟨p,_,_,_,_,rfl,Y.ob,T.Zbh,T.ZaL,Zfv _ _ _ _ _,?_⟩
   walk_at "rd"
   rw [hl]
   refine ZcG rfl ?_
   walk_at "rd"
   refine ⟨p,_,_,_,rfl,Y.ob,rfl,Zsl _ _ _ _ _,?_⟩
   walk_at "rd"
   refine ⟨z,nl,ns,rfl,hn,h1000,hpl,fun f hf q H1 s1 hq=>?_,fun hf H1 s1=>k1 (by rw [hf]; rfl) H1 s1⟩
   have Y1:=Y.same T s1
   walk_at "rd"
   refine ⟨Y1.ob,p,dx,a,e,o,q,L,f,rfl,Y1,hq,hz,fun H2 o2 Y2=>?_⟩
   walk_at "rd"
   exact k2 _ (by rw [hf]; rfl) a e H2 (.inl rfl) (.inl rfl) (fun y u h1 h2 _ _ z=>o2 _ _ h1 h2 (s1 _ _ z)) Y2
 | false=>
  rw [hl,if_neg (by decide)] at k1 k2
  refine ZaP rfl ?_
  refine ZaP rfl ?_
  walk_at "rd"
  refine ⟨p,_,_,_,_,rfl,Y.ob,T.Zbh,T.ZaL,Zfv _ _ _ _ _,?_⟩
  walk_at "rd"
  rw [hl]
  refine ZaP rfl ?_
  walk_at "rd"
  refine ZQt (T.q_JOINS H) ?_
  walk_at "rd"
  cases hj:ZHo z with
  | some v=>
   have ez:=ZK9 hj
   subst ez
   refine ZcG (by cases v <;> decide) ?_
   walk_at "rd"
   refine ⟨p,_,_,_,rfl,Y.ob,rfl,Zsk _ _ _ _ _,?_⟩
   walk_at "rd"
   refine ⟨Y.ob,p,dx,a,e,o,L,v,rfl,Y,hz,fun a' e' H1 ha he o1 Y1=>?_⟩
   walk_at "rd"
   exact k2 _ (by rw [hj]; rfl) a' e' H1 ha he o1 Y1
  | none=>
   have nz:z ∉ (["and","either","or"]:List Str):=fun hm=>by
    unfold ZHo at hj
    simp only [List.mem_cons,List.not_mem_nil,or_false] at hm
    rcases hm with rfl | rfl | rfl
    ·rw [if_pos rfl] at hj; cases hj
    ·exact absurd hj (by decide)
    ·exact absurd hj (by decide)
   refine ZaP (decide_eq_false nz) ?_
   (try dsimp only)
   refine ZAj ?_
   walk_at "rd"
   have hpl':(reprText z).length≤900000:=hpl
   have e0:Str.empty.length=0:=rfl
   have e:=ZaD Str.empty (reprText z)
   have e1:=ZaD (Str.empty ++ reprText z) " stands behind a part"
   have e2:Str.length " stands behind a part" = 21:=rfl
   refine ⟨_,rfl,Zcf (by omega),_,rfl,Zcf (by omega),?_⟩
   walk_at "rd"
   refine ⟨_,rfl,Zcf (by omega),Zcf (by omega),?_⟩
   walk_at "rd"
   exact ⟨Nat.le_of_ble_eq_true rfl,k1 (by rw [hj]; rfl) H (Same.refl _)⟩
end
end LW
set_option maxRecDepth 100000
set_option maxHeartbeats 4000000
open PySem L2
namespace LW
open PySem L2 EM
abbrev A5:=Addr × Addr × Addr × Addr × Addr
def cells:List A5→List Addr
 | []=>[]
 | x :: r=>x.1 :: x.2.2.1 :: x.2.2.2.1 :: x.2.2.2.2 :: cells r
def refs (ads:List A5):List V:=(ads.map (·.1)).reverse.map V.ref
theorem ZsX (x:A5) (r:List A5):refs (x :: r)=refs r ++ [.ref x.1]:=by unfold refs; simp
theorem ZBt (r:List A5):(refs r).length=r.length:=by unfold refs; simp
theorem ZH3 {α:Type} (xs:List α) (y:α):atI (xs ++ [y]) (-1)=some y:=by
 unfold atI ixN
 rw [if_neg (by decide),List.length_append,List.length_singleton,if_pos (by omega)]
 have e:((-1:Int) + ((xs.length + 1:Nat):Int)).toNat=xs.length:=by omega
 show (xs ++ [y])[((-1:Int) + ((xs.length + 1:Nat):Int)).toNat]?=some y
 rw [e,List.getElem?_append_right (Nat.le_refl _),Nat.sub_self]
 rfl
def Zv2 (t:Ad) (H:Hp):List A5→List Lv→Prop
 | [],[]=>True
 | x :: r,L :: S=>LvAt t H x.1 x.2.1 x.2.2.1 x.2.2.2.1 x.2.2.2.2 L∧Zv2 t H r S
 | _,_=>False
section
variable {P:Program} {w:World} {K:PySem.W.Frag} {mg:Str→Option Value} {base:Heap} {t:Ad} {H H' H'' H0:Hp}
theorem Zv2.keep (T:Txt K mg t) (s:ExtL t H H'):∀ {ads:List A5} {S:List Lv},Zv2 t H ads S→(∀ x u,x ∈ cells ads→H x=some u→H' x=some u)→Zv2 t H' ads S
 | [],[],_,_=>trivial
 | x :: r,L :: S,h,k=>by
  refine ⟨h.1.keep T s fun y u hy z=>k y u ?_ z,h.2.keep T s fun y u hy z=>k y u ?_ z⟩
  ·unfold cells
   rcases hy with rfl | rfl | rfl | rfl <;> simp
  ·unfold cells
   simp [hy]
 | [],_ :: _,h,_=>h.elim
 | _ :: _,[],h,_=>h.elim
theorem Zv2.len:∀ {ads:List A5} {S:List Lv},Zv2 t H ads S→ads.length=S.length
 | [],[],_=>rfl
 | _ :: _,_ :: _,h=>congrArg (· + 1) h.2.len
 | [],_ :: _,h=>h.elim
 | _ :: _,[],h=>h.elim
theorem Zv2.there:∀ {ads:List A5} {S:List Lv},Zv2 t H ads S→∀ x ∈ cells ads,∃ u,H x=some u
 | [],[],_,x,hx=>by cases hx
 | y :: r,L :: S,h,x,hx=>by
  obtain ⟨pa,ea,_⟩ :=h.1.la
  obtain ⟨pe,ee,_⟩ :=h.1.le
  obtain ⟨po,eo,_⟩ :=h.1.lo
  unfold cells at hx
  simp only [List.mem_cons] at hx
  rcases hx with rfl | rfl | rfl | rfl | hx
  ·exact ⟨_,h.1.ob⟩
  ·exact ⟨_,ea⟩
  ·exact ⟨_,ee⟩
  ·exact ⟨_,eo⟩
  ·exact h.2.there x hx
 | [],_ :: _,h,_,_=>h.elim
 | _ :: _,[],h,_,_=>h.elim
theorem Zv2.bottom:∀ {ads:List A5} {S:List Lv},Zv2 t H ads S→ads ≠ []→∃ (b:A5) (L0:Lv),(refs ads)[0]?=some (.ref b.1)∧S.getLast?=some L0∧LvAt t H b.1 b.2.1 b.2.2.1 b.2.2.2.1 b.2.2.2.2 L0∧∀ x ∈ [b.1,b.2.2.1,b.2.2.2.1,b.2.2.2.2],x ∈ cells ads
 | [],_,_,n=>absurd rfl n
 | [y],[L],h,_=>⟨y,L,rfl,rfl,h.1,fun x hx=>by simpa [cells] using hx⟩
 | y :: z :: r,L :: M :: S,h,_=>by
  obtain ⟨b,L0,h1,h2,h3,h4⟩ :=Zv2.bottom h.2 (by simp)
  refine ⟨b,L0,?_,?_,h3,fun x hx=>?_⟩
  ·rw [ZsX,List.getElem?_append_left (by rw [ZBt]; simp)]
   exact h1
  ·rw [List.getLast?_cons_cons]
   exact h2
  ·have:=h4 x hx
   unfold cells
   simp [this]
 | [_],[],h,_=>h.elim
 | [_],_ :: _ :: _,h,_=>h.2.elim
 | _ :: _ :: _,[],h,_=>h.elim
 | _ :: _ :: _,[_],h,_=>h.2.elim
structure SK (t:Ad) (H0 H:Hp) (lv:Addr) (ads:List A5) (S:List Lv):Prop where
 ls:H lv=some (.lst (refs ads))
 st:Zv2 t H ads S
 nd:(lv :: cells ads).Nodup
 fr:∀ x ∈ lv :: cells ads,H0 x=none
 sm:Same H0 H
theorem SK.kp {lv:Addr} {ads:List A5} {S:List Lv} (Z:SK t H0 H lv ads S) {x:Addr} (hx:x ∈ lv :: cells ads) {y:Addr} {u:HO} (e:H0 y=some u):y ≠ x:=Zat e (Z.fr x hx)
theorem SK.top (T:Txt K mg t) {lv p dx a e o a' e':Addr} {r:List A5} {L L':Lv} {S:List Lv} (Z:SK t H0 H lv ((p,dx,a,e,o) :: r) (L :: S)) (ha:a'=a∨H a'=none) (he:e'=e∨H e'=none) (k:Off4 p a e o H H') (Y:LvAt t H' p dx a' e' o L'):SK t H0 H' lv ((p,dx,a',e',o) :: r) (L' :: S):=by
 have hY:LvAt t H p dx a e o L:=Z.st.1
 have nd:=Z.nd
 have fr:=Z.fr
 unfold cells at nd fr
 simp only [List.nodup_cons,List.mem_cons,not_or] at nd
 obtain ⟨⟨n1,n2,n3,n4,n5⟩,⟨m1,m2,m3,m4⟩,⟨l1,l2,l3⟩,⟨k1,k2⟩,j1,jr⟩ :=nd
 have hr:∀ x u,x ∈ cells r→H x=some u→H' x=some u:=fun x u hx z=>k x u (fun y=>m4 (y ▸ hx)) (fun y=>l3 (y ▸ hx)) (fun y=>k2 (y ▸ hx)) (fun y=>j1 (y ▸ hx)) z
 have thr:=Z.st.there
 have nw:∀ x,(x=a∨H x=none)∨(x=e∨H x=none)→x ≠ lv∧x ∉ cells r:=fun x hx=>by
  have free:H x=none→x ≠ lv∧x ∉ cells r:=fun z=>⟨(Zat Z.ls z).symm,fun hm=>by
   obtain ⟨u,hu⟩ :=thr x (by unfold cells; simp [hm])
   rw [z] at hu
   cases hu⟩
  rcases hx with (rfl | z) | (rfl | z)
  ·exact ⟨fun y=>n2 y.symm,l3⟩
  ·exact free z
  ·exact ⟨fun y=>n3 y.symm,k2⟩
  ·exact free z
 obtain ⟨pa,ea,_⟩ :=Y.la
 obtain ⟨pe,ee,_⟩ :=Y.le
 obtain ⟨po,eo,_⟩ :=Y.lo
 have qa:=nw a' (.inl ha)
 have qe:=nw e' (.inr he)
 have npa:p ≠ a':=ZgI Y.ob ea (by intro z; cases z)
 have npe:p ≠ e':=ZgI Y.ob ee (by intro z; cases z)
 refine ⟨k _ _ n1 n2 n3 n4 Z.ls,⟨Y,Z.st.2.keep T (ExtL.off4 hY k) hr⟩,?_,fun x hx=>?_,fun x u z=>?_⟩
 ·unfold cells
  simp only [List.nodup_cons,List.mem_cons,not_or]
  exact ⟨⟨n1,qa.1.symm,qe.1.symm,n4,n5⟩,⟨npa,npe,m3,m4⟩,⟨Y.ae,Y.ao,qa.2⟩,⟨Y.eo,qe.2⟩,j1,jr⟩
 ·have old:∀ y,y ∈ lv :: cells ((p,dx,a,e,o) :: r)→H0 y=none:=Z.fr
  have mem:∀ y,(y=p∨y=a∨y=e∨y=o)→y ∈ lv :: cells ((p,dx,a,e,o) :: r):=fun y hy=>by unfold cells; simp; exact .inr (by rcases hy with h | h | h | h <;> simp [h])
  unfold cells at hx
  simp only [List.mem_cons] at hx
  rcases hx with rfl | rfl | rfl | rfl | rfl | hx
  ·exact old _ List.mem_cons_self
  ·exact old _ (mem _ (.inl rfl))
  ·rcases ha with rfl | z
   ·exact old _ (mem _ (.inr (.inl rfl)))
   ·exact Z.sm.free z
  ·rcases he with rfl | z
   ·exact old _ (mem _ (.inr (.inr (.inl rfl))))
   ·exact Z.sm.free z
  ·exact old _ (mem _ (.inr (.inr (.inr rfl))))
  ·exact old _ (by unfold cells; simp [hx])
 ·have mem:∀ y,(y=p∨y=a∨y=e∨y=o)→y ∈ lv :: cells ((p,dx,a,e,o) :: r):=fun y hy=>by unfold cells; simp; exact .inr (by rcases hy with h | h | h | h <;> simp [h])
  exact k x u (Z.kp (mem _ (.inl rfl)) z) (Z.kp (mem _ (.inr (.inl rfl))) z) (Z.kp (mem _ (.inr (.inr (.inl rfl)))) z) (Z.kp (mem _ (.inr (.inr (.inr rfl)))) z) (Z.sm x u z)
theorem SK.push (T:Txt K mg t) {lv p dx a e o:Addr} {ads:List A5} {S:List Lv} (Z:SK t H0 H lv ads S) (s:Same H H') (np:H p=none) (na:H a=none) (ne:H e=none) (no:H o=none) (Y:LvAt t H' p dx a e o Lv.new) (b:But lv H' H'') (el:H'' lv=some (.lst (refs ads ++ [.ref p]))):SK t H0 H'' lv ((p,dx,a,e,o) :: ads) (Lv.new :: S):=by
 have hl':=s _ _ Z.ls
 have thr:=Z.st.there
 have fre:∀ x,H x=none→x ≠ lv∧x ∉ cells ads:=fun x z=>⟨(Zat Z.ls z).symm,fun hm=>by
  obtain ⟨u,hu⟩ :=thr x hm
  rw [z] at hu
  cases hu⟩
 have nlv:∀ x,x ∈ cells ads→x ≠ lv:=fun x hx y=>by
  have:=(List.nodup_cons.mp Z.nd).1
  rw [y] at hx
  exact this hx
 have ex:ExtL t H H'':=(ExtL.of s).trans (ExtL.lst b hl')
 obtain ⟨pa,ea,_⟩ :=id Y.la
 obtain ⟨pe,ee,_⟩ :=id Y.le
 obtain ⟨po,eo,_⟩ :=id Y.lo
 have Y2:LvAt t H'' p dx a e o Lv.new:=Y.keep T (ExtL.lst b hl') fun x u hx z=>b x u (by
  rcases hx with rfl | rfl | rfl | rfl
  ·exact (fre _ np).1
  ·exact (fre _ na).1
  ·exact (fre _ ne).1
  ·exact (fre _ no).1) z
 refine ⟨by rw [ZsX]; exact el,⟨Y2,Z.st.keep T ex fun x u hx z=>b x u (nlv x hx) (s _ _ z)⟩,?_,fun x hx=>?_,fun x u z=>b x u (Z.kp List.mem_cons_self z) (s _ _ (Z.sm x u z))⟩
 ·have nd:=List.nodup_cons.mp Z.nd
  unfold cells
  simp only [List.nodup_cons,List.mem_cons,not_or]
  exact ⟨⟨(fre _ np).1.symm,(fre _ na).1.symm,(fre _ ne).1.symm,(fre _ no).1.symm,nd.1⟩,⟨ZgI Y.ob ea (by intro z; cases z),ZgI Y.ob ee (by intro z; cases z),ZgI Y.ob eo (by intro z; cases z),(fre _ np).2⟩,⟨Y.ae,Y.ao,(fre _ na).2⟩,⟨Y.eo,(fre _ ne).2⟩,(fre _ no).2,nd.2⟩
 ·unfold cells at hx
  simp only [List.mem_cons] at hx
  rcases hx with rfl | rfl | rfl | rfl | rfl | hx
  ·exact Z.fr _ List.mem_cons_self
  ·exact Z.sm.free np
  ·exact Z.sm.free na
  ·exact Z.sm.free ne
  ·exact Z.sm.free no
  ·exact Z.fr _ (List.mem_cons_of_mem _ hx)
theorem SK.pop (T:Txt K mg t) {lv p dx a e o:Addr} {r:List A5} {L:Lv} {S:List Lv} (Z:SK t H0 H lv ((p,dx,a,e,o) :: r) (L :: S)) (b:But lv H H') (el:H' lv=some (.lst (refs r))):SK t H0 H' lv r S∧LvAt t H' p dx a e o L:=by
 have ex:ExtL t H H':=ExtL.lst b Z.ls
 have nd:=List.nodup_cons.mp Z.nd
 have nlv:∀ x,x ∈ cells ((p,dx,a,e,o) :: r)→x ≠ lv:=fun x hx y=>nd.1 (y ▸ hx)
 have sub:∀ x,x ∈ cells r→x ∈ cells ((p,dx,a,e,o) :: r):=fun x hx=>by unfold cells; simp [hx]
 have nd2:=nd.2
 unfold cells at nd2
 simp only [List.nodup_cons] at nd2
 refine ⟨⟨el,Z.st.2.keep T ex fun x u hx z=>b x u (nlv x (sub x hx)) z,List.nodup_cons.mpr ⟨fun z=>nd.1 (sub _ z),nd2.2.2.2.2⟩,fun x hx=>?_,fun x u z=>b x u (Z.kp List.mem_cons_self z) (Z.sm x u z)⟩,?_⟩
 ·rcases List.mem_cons.mp hx with rfl | hx
  ·exact Z.fr _ List.mem_cons_self
  ·exact Z.fr _ (List.mem_cons_of_mem _ (sub x hx))
 ·exact (show LvAt t H p dx a e o L from Z.st.1).keep T ex fun x u hx z=>b x u (nlv x (by unfold cells; rcases hx with rfl | rfl | rfl | rfl <;> simp)) z
theorem SK.off (T:Txt K mg t) {lv p dx a e o:Addr} {r:List A5} {L:Lv} {S:List Lv} (Z:SK t H0 H lv r S) (Y:LvAt t H p dx a e o L) (hx:∀ x ∈ [p,a,e,o],x ∉ lv :: cells r∧H0 x=none) (k:Off4 p a e o H H'):SK t H0 H' lv r S:=by
 have st:∀ x u,x ∈ lv :: cells r→H x=some u→H' x=some u:=fun x u hm z=>k x u (fun y=>(hx p (by simp)).1 (y ▸ hm)) (fun y=>(hx a (by simp)).1 (y ▸ hm)) (fun y=>(hx e (by simp)).1 (y ▸ hm)) (fun y=>(hx o (by simp)).1 (y ▸ hm)) z
 exact ⟨st _ _ List.mem_cons_self Z.ls,Z.st.keep T (ExtL.off4 Y k) fun x u hm z=>st x u (List.mem_cons_of_mem _ hm) z,Z.nd,Z.fr,fun x u z=>k x u (Zat z (hx p (by simp)).2) (Zat z (hx a (by simp)).2) (Zat z (hx e (by simp)).2) (Zat z (hx o (by simp)).2) (Z.sm x u z)⟩
theorem SK.out {lv p dx a e o:Addr} {r:List A5} {L:Lv} {S:List Lv} (Z:SK t H0 H lv ((p,dx,a,e,o) :: r) (L :: S)):∀ x ∈ [p,a,e,o],x ∉ lv :: cells r∧H0 x=none:=fun x hx=>by
 have nd:=Z.nd
 unfold cells at nd
 simp only [List.nodup_cons,List.mem_cons,not_or] at nd
 obtain ⟨⟨n1,n2,n3,n4,n5⟩,⟨m1,m2,m3,m4⟩,⟨l1,l2,l3⟩,⟨k1,k2⟩,j1,jr⟩ :=nd
 have f:∀ y,y ∈ [p,a,e,o]→H0 y=none:=fun y hy=>Z.fr y (by unfold cells; simp only [List.mem_cons,List.not_mem_nil,or_false] at hy; simp; exact .inr (by rcases hy with h | h | h | h <;> simp [h]))
 refine ⟨?_,f x hx⟩
 simp only [List.mem_cons,List.not_mem_nil,or_false] at hx
 simp only [List.mem_cons,not_or]
 rcases hx with rfl | rfl | rfl | rfl
 ·exact ⟨fun y=>n1 y.symm,m4⟩
 ·exact ⟨fun y=>n2 y.symm,l3⟩
 ·exact ⟨fun y=>n3 y.symm,k2⟩
 ·exact ⟨fun y=>n4 y.symm,j1⟩
theorem ZHE {ns:List Str} {L:Lv} {R:List Lv} {z:Str} (h1 : ¬ (z = "("∧L.lack=true)) (h2 : ¬ (z = ")"∧L.lack=false∧R ≠ [])):Zd6 ns (L :: R) z=(L.word ns z).map (· :: R):=by
 cases R with
 | nil=>simp only [Zd6]; rw [if_neg h1]
 | cons M R'=>
  simp only [Zd6]
  rw [if_neg h1,if_neg fun y=>h2 ⟨y.1,y.2,by simp⟩]
def ZP9 (t:Ad):Sp:=fun vs H Q E=>∃ (fo nl:Addr) (ws ns:List Str),vs=[.ref fo,.ref nl]∧H fo=some (.lst (ws.map V.str))∧H nl=some (.lst (ns.map V.str))∧ns.length≤1000∧ws.length≤800000∧(∀ z ∈ ws,ZEB z)∧
 (Zzb ns ws=none→∀ H',Same H H'→E (.ref t.ZaH) none H')∧(∀ f,Zzb ns ws=some f→∀ q H',Same H H'→FmE t H' q f→Q (.ref q) H')
theorem ZBi (T:Txt K mg t):FnS1 P w K mg base 8 "formula_in" ["found","names"] ((ZP9 t)):=by
 refine ⟨_,_,T.Zl3.ok1 ZgL (fun vs H Q E h=>?_) (fun cdv A outer s H vs Q E hr h=>?_),T.Zuv,T.Zl3.kp,T.ZvD⟩
 ·obtain ⟨fo,nl,ws,ns,rfl,hf,hn,h1000,hz,hpl,k1,k2⟩ :=h
  rfl
 obtain ⟨fo,nl,ws,ns,rfl,hf,hn,h1000,hz,hpl,k1,k2⟩ :=h
 have ZHW:=ZLs (P:=P) (w:=w) (base:=base) T
 have D_take_part:=ZoO (P:=P) (w:=w) (base:=base) T
 have D_take_word:=ZyW (P:=P) (w:=w) (base:=base) T
 have D_whole:=ZHa (P:=P) (w:=w) (base:=base) T
 refine ⟨_,(Zac (PS.nox (ss 2 ZgL.nd (Za8 (Zaa (ZMX ZHW hr) Zaf))))
   (Zac (Zc4 PassesOwn.leaving rfl (Zc3 (pv 0)) (sg 3 ZgL.nd)
   (Zac (PS.nox (ss 4 ZgL.nd (ZaG Zar (pv 2) (ZJL ZEb Zae) (fun _ _=>rfl))))
   (Zad (ZaI (PT.nox (PW.pt (Zgt (Zah (ZaC hr.units) (pv 3) Zal (Zap _)) (Zfw (Zbg (ZbR (pv 4) rfl) (fun _=>rfl))))))
   (PSs.nox (Zad (Zcg (Zj0 PySem.F.plainAttrs_list PySem.F.slot_list_append PySem.F.type_list_append Zcb (pv 2) (Zaa (ZMX ZHW hr) Zaf)))))
   (Zad (ZaI (PT.nox (PW.pt (Zgt (Zah (ZaC hr.units) (pv 3) Zal (Zap _)) (Zgt (ZnY (Zbg (ZbR (pv 4) rfl) (fun _=>rfl))) (Zfw (Zah ZBj (Zax Zb9 rfl T.B.len ZgR (Zaa (pv 2) Zaf)) Zae (Zap _)))))))
   (PSs.nox (Zac (Zcg (ZJG PySem.F.plainAttrs_list PySem.F.slot_list_pop PySem.F.type_list_pop ZPv (pv 2)))
   (Zad (Zcg (Zlb D_take_part hr (ZaG Zar (pv 2) (ZJL ZEb Zae) (fun _ _=>rfl)) (Zaa (ZvF D_whole hr (pv 4)) Zaf))))))
   (Zad (Zcg (ZPL ZN9 D_take_word hr (pv 4) (Zaa (pv 3) (Zaa (pv 1) Zaf)))))))))))
   (Zac (ZaI (PT.nox (Zbg (ZbR (ZaG Zar (pv 2) Zae (fun _ _=>rfl)) rfl) (fun _=>rfl)))
   (Zad (Zww rfl ZLf T.ZhB.own rfl T.Zhf (PA.nox (Zaa Zal Zaf))))
   (PSs.nox Zaq))
   (PSs.nox (Zad (Zam (ZvF D_whole hr (ZaG Zar (pv 2) Zae (fun _ _=>rfl))))))))),?_⟩
 walk_at "rd0"
 refine ZIN fun p dx a e o H1 s1 np na ne no Y1=>?_
 walk_at "rd"
 refine ZeA (Nat.le_of_ble_eq_true rfl) fun lv H2 s2 n2 e2=>?_
 have Z0:SK t H H2 lv [(p,dx,a,e,o)] [Lv.new]:=by
  obtain ⟨pa,ea,_⟩ :=id Y1.la
  obtain ⟨pe,ee,_⟩ :=id Y1.le
  obtain ⟨po,eo,_⟩ :=id Y1.lo
  refine ⟨e2,⟨Y1.same T s2,trivial⟩,?_,fun x hx=>?_,s1.trans s2⟩
  ·simp only [cells,List.nodup_cons,List.mem_cons,List.not_mem_nil,or_false,not_or,not_false_eq_true,List.nodup_nil,and_true]
   exact ⟨⟨(Zat Y1.ob n2).symm,(Zat ea n2).symm,(Zat ee n2).symm,(Zat eo n2).symm⟩,⟨ZgI Y1.ob ea (by intro z; cases z),ZgI Y1.ob ee (by intro z; cases z),ZgI Y1.ob eo (by intro z; cases z)⟩,⟨Y1.ae,Y1.ao⟩,Y1.eo⟩
  ·simp only [cells,List.mem_cons,List.not_mem_nil,or_false] at hx
   rcases hx with rfl | rfl | rfl | rfl | rfl
   ·exact s1.free n2
   ·exact np
   ·exact na
   ·exact ne
   ·exact no
 clear Y1 s1 s2 n2 e2 np na ne no
 walk_at "rd"
 refine seqL (xs:=ws.map V.str) (fun i σ H'=>∃ ads S v3 v4,SK t H H' lv ads S∧runW ns [Lv.new] (ws.take i)=some S∧(∀ L ∈ S,L.size≤i)∧S ≠ []∧ads.length≤i + 1∧σ=[some (.ref fo),some (.ref nl),some (.ref lv),v3,v4]) ⟨_,_,_,_,Z0,rfl,(fun L hL=>by rw [List.mem_singleton.mp hL]; exact Nat.le_refl 0),by simp,Nat.le_refl _,rfl⟩ (fun i σ H' _ hp=>by obtain ⟨ads,S,v3,v4,Z,_⟩ :=hp; exact SqL.of (Z.sm _ _ hf)) ?_ ?_
 ·rintro i x σ H3 hx ⟨ads,S,v3,v4,Z,hrun,hsz,hne,hal,rfl⟩
  rw [List.getElem?_map] at hx
  obtain ⟨z,hzi,rfl⟩ :=Option.map_eq_some_iff.mp hx
  have hil:=(List.getElem?_eq_some_iff.mp hzi).1
  have rn:runW ns [Lv.new] (ws.take (i + 1))=(Zd6 ns S z):=by
   rw [ZbJ hzi,ZhC,hrun]
   show runW ns S [z]=_
   unfold runW
   cases Zd6 ns S z <;> rfl
  have rno:Zd6 ns S z=none→Zzb ns ws=none:=fun h=>by
   unfold Zzb
   have:runW ns [Lv.new] ws=none:=by
    rw [← List.take_append_drop (i + 1) ws,ZhC,rn,h]
    rfl
   rw [this]
   rfl
  have zpl:=hpl z (List.mem_of_getElem? hzi)
  match ads,S,Z,hne with
  | [],[],_,hne=>exact absurd rfl hne
  | [],_ :: _,Z,_=>exact Z.st.elim
  | _ :: _,[],Z,_=>exact Z.st.elim
  | (p,dx,a,e,o) :: r,L :: R,Z,_=>
   have Y:LvAt t H3 p dx a e o L:=Z.st.1
   have hls:=Z.ls
   rw [ZsX] at hls
   have rl:=Z.st.2.len
   have hL:=hsz L List.mem_cons_self
   have fin:∀ (H':Hp) (v3 v4:Option V) (ads':List A5) (S':List Lv),SK t H H' lv ads' S'→Zd6 ns (L :: R) z=some S'→ads'.length≤i + 2→∃ ads S w3 w4,SK t H H' lv ads S∧runW ns [Lv.new] (ws.take (i + 1))=some S∧(∀ L ∈ S,L.size≤i + 1)∧S ≠ []∧ads.length≤i + 1 + 1∧[some (.ref fo),some (.ref nl),some (.ref lv),v3,v4]=[some (.ref fo),some (.ref nl),some (.ref lv),w3,w4]:=fun H' v3 v4 ads' S' Z' h hl'=>⟨ads',S',v3,v4,Z',by rw [rn,h],ZKe h hsz,ZOw h,hl',rfl⟩
   have wrd:∀ (Q':VK),(∀ L' a' e' H',L.word ns z=some L'→SK t H H' lv ((p,dx,a',e',o) :: r) (L' :: R)→Q' .non H')→(L.word ns z=none→Zd6 ns (L :: R) z=none)→ZKc t [.ref p,.str z,.ref nl] H3 Q' E:=fun Q' h1 h2=>
    ⟨p,dx,a,e,o,nl,L,z,ns,rfl,Y,by omega,Z.sm _ _ hn,h1000,zpl,fun hw H' s'=>k1 (rno (h2 hw)) H' (Z.sm.trans s'),fun L' hw a' e' H' ha he k Y'=>h1 L' a' e' H' hw (Z.top T ha he k Y')⟩
   walk_at "rd"
   refine ZIM hls (ZH3 _ _) ?_
   walk_at "rd"
   have lp:((p,dx,a,e,o) :: r:List A5).length≤i + 1:=hal
   rw [List.length_cons] at lp
   refine (fun (key : ¬ (z = "("∧L.lack=true)→?G)=>?main) ?key
   case main=>
    refine Zd3 (fun h1=>?_) (fun h1=>?_)
    ·walk_at "rd"
     refine ⟨p,_,_,_,_,rfl,Y.ob,T.Zbh,T.ZaL,Zfv _ _ _ _ _,?_⟩
     walk_at "rd"
     cases hl:L.lack with
     | true=>
      refine ZcG rfl ?_
      walk_at "rd"
      refine ⟨tyL Z.ls,?_⟩
      walk_at "rd"
      refine ZIN fun p' dx' a' e' o' H4 s4 np na ne no Y4=>?_
      walk_at "rd"
      refine ZfE (s4 _ _ Z.ls) (by rw [ZBt]; simp only [List.length_cons]; omega) fun H5 b5 e5=>?_
      walk_at "rd"
      exact fin H5 _ _ _ _ (Z.push T s4 np na ne no Y4 b5 e5) (by simp only [Zd6]; rw [if_pos ⟨h1,hl⟩]) (by simp only [List.length_cons]; omega)
     | false=>
      refine ZaP rfl ?_
      exact key fun y=>by rw [hl] at y; exact absurd y.2 (by decide)
    ·refine ZaP rfl ?_
     exact key fun y=>h1 y.1
   intro hno
   refine (fun (key : ¬ (z = ")"∧L.lack=false∧R ≠ [])→?W)=>?main2) ?key2
   case main2=>
    walk_at "rd"
    refine Zd3 (fun h2=>?_) (fun h2=>?_)
    ·walk_at "rd"
     refine ⟨p,_,_,_,_,rfl,Y.ob,T.Zbh,T.ZaL,Zfv _ _ _ _ _,?_⟩
     walk_at "rd"
     cases hl:L.lack with
     | true=>
      refine ZaP rfl ?_
      refine ZaP rfl ?_
      exact key fun y=>by rw [hl] at y; exact absurd y.2.1 (by decide)
     | false=>
      refine ZcG rfl ?_
      walk_at "rd"
      rw [List.length_append,ZBt,List.length_singleton]
      refine Zd3 (fun h3=>?_) (fun h3=>?_)
      ·match r,R,Z,rl with
       | [],_,_,_=>exact absurd h3 (by decide)
       | _ :: _,[],_,rl=>cases rl
       | (p2,dx2,a2,e2,o2) :: r',M :: R',Z,_=>
        walk_at "rd"
        refine ⟨tyL hls,?_⟩
        walk_at "rd"
        refine ZQA hls fun H4 b4 e4=>?_
        obtain ⟨Z4,Y4⟩ :=Z.pop T b4 e4
        have ls4:=Z4.ls
        rw [ZsX] at ls4
        have Y2:LvAt t H4 p2 dx2 a2 e2 o2 M:=Z4.st.1
        have hM:=hsz M (List.mem_cons_of_mem _ List.mem_cons_self)
        walk_at "rd"
        refine ZIM ls4 (ZH3 _ _) ?_
        walk_at "rd"
        refine ⟨p2,_,_,_,rfl,Y2.ob,rfl,Zsl _ _ _ _ _,?_⟩
        walk_at "rd"
        refine ⟨p,_,_,_,rfl,Y4.ob,rfl,ZCZ _ _ _ _ _,?_⟩
        walk_at "rd"
        refine ⟨Y4.ob,p,dx,a,e,o,L,rfl,Y4,by omega,fun q H5 k5 hq=>?_⟩
        have Z5:=Z4.off T Y4 Z.out k5
        have Y25:LvAt t H5 p2 dx2 a2 e2 o2 M:=Z5.st.1
        walk_at "rd"
        refine ⟨Y25.ob,p2,dx2,a2,e2,o2,q,M,L.whole,rfl,Y25,hq,by omega,fun H6 o6 Y6=>?_⟩
        walk_at "rd"
        refine fin H6 _ _ _ _ (Z5.top T (.inl rfl) (.inl rfl) (fun x u h1 h2 _ _ zz=>o6 _ _ h1 h2 zz) Y6) ?_ (by simp only [List.length_cons] at lp ⊢; omega)
        simp only [Zd6]
        rw [if_neg hno,if_pos ⟨h2,hl⟩]
      ·exact key fun y=>by
        cases r with
        | nil=>exact y.2.2 (List.length_eq_zero_iff.mp rl.symm)
        | cons x r'=>simp only [List.length_cons] at h3; omega
    ·refine ZaP rfl ?_
     exact key fun y=>h2 y.1
   intro hn2
   have sw:=ZHE (ns:=ns) hno hn2
   walk_at "rd"
   refine ⟨p,_,_,_,rfl,Y.ob,rfl,ZAw _ _ _ _ _,?_⟩
   walk_at "rd"
   refine ⟨Y.ob,wrd _ (fun L' a' e' H' hw Z'=>?_) fun hw=>by rw [sw,hw]; rfl⟩
   walk_at "rd"
   exact fin H' _ _ _ _ Z' (by rw [sw,hw]; rfl) (by simp only [List.length_cons]; omega)
 ·rintro σ H3 ⟨ads,S,v3,v4,Z,hrun,hsz,hne,hal,rfl⟩
  rw [List.length_map,List.take_length] at hrun
  rw [List.length_map] at hsz
  have hane:ads ≠ []:=fun z=>by
   have:=Z.st.len
   rw [z] at this
   exact hne (List.length_eq_zero_iff.mp this.symm)
  obtain ⟨b,L0,hb,hS,Y0,hmem⟩ :=Z.st.bottom hane
  have hls:=Z.ls
  have rd:Zzb ns ws=endF L0:=by
   unfold Zzb
   rw [hrun]
   show S.getLast?.bind endF=_
   rw [hS]
   rfl
  have hL0:=hsz L0 (List.mem_of_getLast? hS)
  rw [rd] at k1 k2
  unfold endF at k1 k2
  walk_at "rd"
  refine ZlU (j:=0) hls hb ?_
  walk_at "rd"
  refine ⟨b.1,_,_,_,_,rfl,Y0.ob,T.Zbh,T.ZaL,Zfv _ _ _ _ _,?_⟩
  walk_at "rd"
  cases hl:L0.lack with
  | true=>
   rw [hl,if_pos rfl] at k1
   refine ZcG rfl ?_
   (try dsimp only)
   refine ZAj ?_
   walk_at "rd"
   exact ⟨Nat.le_of_ble_eq_true rfl,k1 rfl H3 Z.sm⟩
  | false=>
   rw [hl,if_neg (by decide)] at k2
   refine ZaP rfl ?_
   walk_at "rd"
   refine ZlU (j:=0) hls hb ?_
   walk_at "rd"
   refine ⟨b.1,_,_,_,rfl,Y0.ob,rfl,ZCZ _ _ _ _ _,?_⟩
   walk_at "rd"
   refine ⟨Y0.ob,b.1,_,_,_,_,L0,rfl,Y0,by omega,fun q H4 k4 hq=>?_⟩
   have kp:∀ y,y ∈ [b.1,b.2.2.1,b.2.2.2.1,b.2.2.2.2]→∀ {x u},H x=some u→x ≠ y:=fun y hy {x u} zz=>Z.kp (List.mem_cons_of_mem _ (hmem y hy)) zz
   exact k2 _ rfl q H4 (fun x u zz=>k4 x u (kp _ (by simp) zz) (kp _ (by simp) zz) (kp _ (by simp) zz) (kp _ (by simp) zz) (Z.sm x u zz)) hq
def ZQc (t:Ad):Sp:=fun vs H Q E=>∃ (z:Str) (nl:Addr) (ns:List Str),vs=[.str z,.ref nl]∧Asc z∧z.length≤3600∧H nl=some (.lst (ns.map V.str))∧ns.length≤1000∧(∀ y ∈ Txt.words (pad z),ZEB y)∧
 (okW z=false→∀ H',Same H H'→E (.ref t.ZaH) none H')∧(okW z=true→Zzb ns (Txt.words (pad z))=none→∀ H',Same H H'→E (.ref t.ZaH) none H')∧
 (okW z=true→∀ f,Zzb ns (Txt.words (pad z))=some f→∀ q H',Same H H'→FmE t H' q f→Q (.ref q) H')
theorem ZN3 (T:Txt K mg t):FnS1 P w K mg base 9 "read" ["text","names"] ((ZQc t)):=by
 refine ⟨_,_,T.ZHV.ok1 ZJ1 (fun vs H Q E h=>?_) (fun cdv A outer s H vs Q E hr h=>?_),T.ZMf,T.ZHV.kp,T.ZMQ⟩
 ·obtain ⟨z,nl,ns,rfl,ha,hz,hn,h1000,hpl,k0,k1,k2⟩ :=h
  rfl
 obtain ⟨z,nl,ns,rfl,ha,hz,hn,h1000,hpl,k0,k1,k2⟩ :=h
 have ZNe:=ZLx (P:=P) (w:=w) (base:=base) T
 have ZCr:=ZBi (P:=P) (w:=w) (base:=base) T
 have n4:=ZEh (pad z)
 have n5:=ZJE z
 refine ⟨_,(Zac (PS.nox (ss 2 ZJ1.nd (Zbv ZNe hr (Zaa (pv 0) Zaf))))
   (Zac (ZaI (PT.nox (Zah ZPF (pv 2) ZMY (Zap _)))
   (Zad (Zww rfl ZLf T.ZhB.own rfl T.Zhf (PA.nox (Zaa Zal Zaf))))
   (PSs.nox Zaq))
   (Zad (Zam (ZMW ZN9 ZCr hr (Zaa (pv 2) (Zaa (pv 1) Zaf))))))),?_⟩
 walk_at "rd0"
 refine ⟨z,rfl,ha,hz,fun hok=>?_,fun hok H1 p s1 n1 e1=>?_⟩
 ·walk_at "rd"
  refine ⟨rfl,?_⟩
  walk_at "rd"
  refine ZcG rfl ?_
  (try dsimp only)
  refine ZAj ?_
  walk_at "rd"
  exact ⟨Nat.le_of_ble_eq_true rfl,k0 hok H (Same.refl _)⟩
 ·walk_at "rd"
  refine ⟨rfl,?_⟩
  walk_at "rd"
  refine ZaP (by simp) ?_
  walk_at "rd"
  exact ⟨p,nl,_,ns,rfl,e1,s1 _ _ hn,h1000,by omega,hpl,fun h H2 s2=>k1 hok h H2 (s1.trans s2),fun f h q H2 s2 hq=>k2 hok f h q H2 (s1.trans s2) hq⟩
end
def rp2 (c d:Nat) (z:List Nat):List Nat→List Nat
 | []=>[]
 | [a]=>[a]
 | a :: b :: r=>if a=c∧b=d then z ++ rp2 c d z r else a :: rp2 c d z (b :: r)
theorem ZFt {c d:Nat} {z:List Nat}:∀ (n:Nat) (l:List Nat),n≤l.length→(∀ k,k < n→¬ (l[k]?=some c∧l[k + 1]?=some d))→rp2 c d z l=l.take n ++ rp2 c d z (l.drop n)
 | 0,l,_,_=>rfl
 | n + 1,[],h,_=>by simp at h
 | n + 1,[a],h,hn=>by
  have:n=0:=by simp at h; omega
  subst this
  rfl
 | n + 1,a :: b :: r,h,hn=>by
  have h0 : ¬ (a=c∧b=d):=fun y=>hn 0 (by omega) ⟨by simp [y.1],by simp [y.2]⟩
  show (if a=c∧b=d then z ++ rp2 c d z r else a :: rp2 c d z (b :: r))=_
  rw [if_neg h0,ZFt n (b :: r) (by simpa using h) fun k hk y=>hn (k + 1) (by omega) (by simpa using y)]
  rfl
theorem ZOh {c d:Nat} {z l:List Nat} (h:l[0]?=some c) (k:l[1]?=some d):rp2 c d z l=z ++ rp2 c d z (l.drop 2):=by
 match l,h,k with
 | a :: b :: r,h,k=>
  simp at h k
  show (if a=c∧b=d then z ++ rp2 c d z r else a :: rp2 c d z (b :: r))=_
  rw [if_pos ⟨h,k⟩]
  rfl
theorem at2 {x:Str} {c d k:Nat}:StrLaws.At x ⟨#[c,d]⟩ x.length k ↔ x.cps.toList[k]?=some c∧x.cps.toList[k + 1]?=some d:=by
 have ln:x.length=x.cps.toList.length:=by rw [Array.length_toList]; rfl
 unfold StrLaws.At Builtin.Str.subAt
 constructor
 ·rintro ⟨h1,h2⟩
  have h1':k + 2≤x.length:=h1
  have e:=eq_of_beq h2
  have e':=congrArg Array.toList e
  have ex:(x.cps.extract k (k + 2)).toList=(x.cps.toList.drop k).take 2:=by simp
  have e2:(x.cps.toList.drop k).take 2=[c,d]:=ex.symm.trans e'
  have g0:((x.cps.toList.drop k).take 2)[0]?=some c:=by rw [e2]; rfl
  have g1:((x.cps.toList.drop k).take 2)[1]?=some d:=by rw [e2]; rfl
  rw [List.getElem?_take_of_lt (by decide),List.getElem?_drop] at g0 g1
  exact ⟨by simpa using g0,g1⟩
 ·rintro ⟨h1,h2⟩
  have hl:k + 1 < x.cps.toList.length:=(List.getElem?_eq_some_iff.mp h2).1
  refine ⟨by show k + 2≤_; omega,?_⟩
  have ex:(x.cps.extract k (k + 2)).toList=(x.cps.toList.drop k).take 2:=by simp
  have e2:(x.cps.toList.drop k).take 2=[c,d]:=by
   rw [List.drop_eq_getElem_cons (by omega),List.drop_eq_getElem_cons hl]
   rw [List.getElem?_eq_getElem (by omega)] at h1
   rw [List.getElem?_eq_getElem hl] at h2
   rw [Option.some.inj h1,Option.some.inj h2]
   rfl
  have:x.cps.extract k (k + 2) = #[c,d]:=Array.toList_inj.mp (ex.trans e2)
  exact beq_iff_eq.mpr this
def segs (l:List Nat):Nat→List Nat→List (List Nat)
 | a,[]=>[l.drop a]
 | a,c :: r=>(l.drop a).take (c - a) :: segs l (c + 2) r
theorem ZOi (l:List Nat) (a:Nat) (cs:List Nat):segs l a cs ≠ []:=by cases cs <;> simp [segs]
theorem ZNJ {z p:List Nat} {r:List (List Nat)} (h:r ≠ []):jn z (p :: r)=p ++ z ++ jn z r:=by
 cases r with
 | nil=>exact absurd rfl h
 | cons q r=>rfl
theorem ZGQ {x:Str} {c d:Nat} {z:List Nat}:∀ (cs:List Nat) (a f:Nat),StrLaws.ChainG x ⟨#[c,d]⟩ x.length a cs f→(∀ k,f≤k→¬ StrLaws.At x ⟨#[c,d]⟩ x.length k)→a≤x.length→rp2 c d z (x.cps.toList.drop a)=jn z (segs x.cps.toList a cs)
 | [],a,f,h,hn,ha=>by
  have e:f=a:=h
  subst e
  have:=ZFt (c:=c) (d:=d) (z:=z) (x.cps.toList.drop f).length (x.cps.toList.drop f) (Nat.le_refl _) fun k _ y=>hn (f + k) (by omega) (at2.mpr (by rw [List.getElem?_drop,List.getElem?_drop] at y; exact y))
  rw [this,List.take_length,List.drop_length]
  show _ ++ []=_
  rw [List.append_nil]
  rfl
 | c1 :: r,a,f,h,hn,ha=>by
  obtain ⟨h1,h2,h3,h4⟩ :=h
  have hle:c1 + 2≤x.length:=h2.1
  have ln:x.length=x.cps.toList.length:=by rw [Array.length_toList]; rfl
  have g:=ZFt (c:=c) (d:=d) (z:=z) (c1 - a) (x.cps.toList.drop a) (by rw [List.length_drop]; omega) fun k hk y=>h3 (a + k) (by omega) (by omega) (at2.mpr (by rw [List.getElem?_drop,List.getElem?_drop] at y; exact y))
  have e:(x.cps.toList.drop a).drop (c1 - a)=x.cps.toList.drop c1:=by rw [List.drop_drop]; congr 1; omega
  obtain ⟨m1,m2⟩ :=at2.mp h2
  rw [g,e,ZOh (by rw [List.getElem?_drop]; exact m1) (by rw [List.getElem?_drop]; exact m2),List.drop_drop,ZGQ r (c1 + 2) f h4 hn hle]
  show _=jn z ((x.cps.toList.drop a).take (c1 - a) :: segs x.cps.toList (c1 + 2) r)
  rw [ZNJ (ZOi _ _ _),List.append_assoc]
theorem ZzM (x:Str):∀ (cs:List Nat) (a:Nat),(((a :: cs.map (· + 2)).zip (cs ++ [x.length])).map fun p=>(Builtin.Str.strSub x p.1 p.2).cps.toList)=segs x.cps.toList a cs
 | [],a=>by
  have ln:x.length=x.cps.toList.length:=by rw [Array.length_toList]; rfl
  show [(Builtin.Str.strSub x a x.length).cps.toList]=[x.cps.toList.drop a]
  rw [StrLaws.strSub_toList,List.take_of_length_le (by rw [List.length_drop]; omega)]
 | c :: r,a=>by
  show (Builtin.Str.strSub x a c).cps.toList :: _=(x.cps.toList.drop a).take (c - a) :: segs x.cps.toList (c + 2) r
  rw [StrLaws.strSub_toList]
  exact congrArg _ (ZzM x r (c + 2))
theorem Zle (x z:Str) (c d:Nat):(Txt.replace x ⟨#[c,d]⟩ z).cps.toList=rp2 c d z.cps.toList x.cps.toList:=by
 obtain ⟨f,h1,h2⟩ :=StrLaws.occ_tight x ⟨#[c,d]⟩ (by show 1≤2; decide)
 have key:=ZGQ (z:=z.cps.toList) _ 0 f h1 h2 (Nat.zero_le _)
 rw [List.drop_zero] at key
 have h10:((⟨#[c,d]⟩ : Str).length == 0)=false:=rfl
 unfold Txt.replace
 rw [h10,Bool.false_and,Bool.or_false]
 cases he:(Builtin.Str.occurrences x ⟨#[c,d]⟩ 0 x.length (x.length + 1)).isEmpty
 ·rw [if_neg Bool.false_ne_true,StrLaws.glued_eq_join,ZjI,key]
  congr 1
  unfold Builtin.Str.partsBetween
  rw [List.map_map]
  exact ZzM x _ 0
 ·rw [if_pos rfl,key,List.isEmpty_iff.mp he]
  rfl
def Wd (p:List Nat):Prop:=p=[40]∨p=[41]∨(p ≠ []∧∀ c ∈ p,97≤c∧c≤122)
def glue:List (List Nat)→List Nat
 | []=>[]
 | [p]=>p
 | p :: q :: r=>p ++ (if p=[40]∨q=[41] then [] else [32]) ++ glue (q :: r)
def gl1:List (List Nat)→List Nat
 | []=>[]
 | [p]=>p
 | p :: q :: r=>p ++ (if p=[40] then [] else [32]) ++ gl1 (q :: r)
theorem ZoG {c d:Nat} {z:List Nat}:∀ {p r:List Nat},c ∉ p→rp2 c d z (p ++ r)=p ++ rp2 c d z r
 | [],r,_=>rfl
 | [a],[],_=>by
  show rp2 c d z [a]=[a] ++ rp2 c d z []
  rfl
 | [a],b :: r,h=>by
  have h0 : ¬ (a=c∧b=d):=fun y=>h (by rw [y.1]; simp)
  show (if a=c∧b=d then z ++ rp2 c d z r else a :: rp2 c d z (b :: r))=_
  rw [if_neg h0]
  rfl
 | a :: b :: p,r,h=>by
  have h0 : ¬ (a=c∧b=d):=fun y=>h (by rw [y.1]; simp)
  have ih:=ZoG (d:=d) (z:=z) (p:=b :: p) (r:=r) fun y=>h (List.mem_cons_of_mem _ y)
  show (if a=c∧b=d then z ++ rp2 c d z (p ++ r) else a :: rp2 c d z (b :: p ++ r))=_
  rw [if_neg h0,ih]
  rfl
theorem ZJY:∀ ws:List (List Nat),(∀ p ∈ ws,Wd p)→rp2 40 32 [40] (jn [32] ws)=gl1 ws
 | [],_=>rfl
 | [p],h=>by
  show rp2 40 32 [40] p=p
  rcases h p (by simp) with rfl | rfl | hp
  ·rfl
  ·rfl
  ·have:(40:Nat) ∉ p:=fun y=>by have:=hp.2 40 y; omega
   have:=ZoG (d:=32) (z:=[40]) (r:=[]) this
   rw [List.append_nil] at this
   rw [this]
   exact List.append_nil _
 | p :: q :: r,h=>by
  have ih:=ZJY (q :: r) fun y hy=>h y (List.mem_cons_of_mem _ hy)
  show rp2 40 32 [40] (p ++ [32] ++ jn [32] (q :: r))=p ++ (if p=[40] then [] else [32]) ++ gl1 (q :: r)
  by_cases e:p=[40]
  ·subst e
   rw [if_pos rfl,List.append_nil,← ih]
   show (if (40:Nat)=40∧(32:Nat)=32 then [40] ++ rp2 40 32 [40] (jn [32] (q :: r)) else _)=_
   rw [if_pos ⟨rfl,rfl⟩]
  ·have hn:(40:Nat) ∉ p ++ [32]:=fun y=>by
    rcases List.mem_append.mp y with y | y
    ·rcases h p (by simp) with rfl | rfl | hp
     ·exact e rfl
     ·simp at y
     ·have:=hp.2 40 y; omega
    ·simp at y
   rw [if_neg e,ZoG hn,ih]
theorem ZGe {p:List Nat} {r:List (List Nat)} (hp:Wd p):∃ l,gl1 (p :: r)=p ++ l:=by
 cases r with
 | nil=>exact ⟨[],(List.append_nil _).symm⟩
 | cons q r=>exact ⟨_,List.append_assoc _ _ _⟩
theorem ZJZ:∀ ws:List (List Nat),(∀ p ∈ ws,Wd p)→rp2 32 41 [41] (gl1 ws)=glue ws
 | [],_=>rfl
 | [p],h=>by
  show rp2 32 41 [41] p=p
  have:(32:Nat) ∉ p:=fun y=>by
   rcases h p (by simp) with rfl | rfl | hp
   ·simp at y
   ·simp at y
   ·have:=hp.2 32 y; omega
  have:=ZoG (d:=41) (z:=[41]) (r:=[]) this
  rw [List.append_nil] at this
  rw [this]
  exact List.append_nil _
 | p :: q :: r,h=>by
  have ih:=ZJZ (q :: r) fun y hy=>h y (List.mem_cons_of_mem _ hy)
  have hq:=h q (by simp)
  have hp32:(32:Nat) ∉ p:=fun y=>by
   rcases h p (by simp) with rfl | rfl | hp
   ·simp at y
   ·simp at y
   ·have:=hp.2 32 y; omega
  show rp2 32 41 [41] (p ++ (if p=[40] then [] else [32]) ++ gl1 (q :: r))=p ++ (if p=[40]∨q=[41] then [] else [32]) ++ glue (q :: r)
  rw [List.append_assoc,ZoG hp32,List.append_assoc]
  congr 1
  by_cases e:p=[40]
  ·rw [if_pos e,if_pos (.inl e),← ih]
   rfl
  ·rw [if_neg e]
   by_cases e2:q=[41]
   ·rw [if_pos (.inr e2)]
    subst e2
    obtain ⟨l,hl⟩ :=ZGe (r:=r) hq
    rw [hl] at ih ⊢
    show rp2 32 41 [41] (32 :: 41 :: l)=_
    rw [show rp2 32 41 [41] (32 :: 41 :: l)=[41] ++ rp2 32 41 [41] l from by show (if (32:Nat)=32∧(41:Nat)=41 then _ else _)=_; rw [if_pos ⟨rfl,rfl⟩],← ih,ZoG (p:=[41]) (by decide)]
    rfl
   ·rw [if_neg (by rintro (h' | h') <;> contradiction),← ih]
    obtain ⟨l,hl⟩ :=ZGe (r:=r) hq
    rw [hl]
    have hd:∃ b q',q=b :: q'∧b ≠ 41:=by
     rcases hq with rfl | rfl | hq
     ·exact ⟨40,[],rfl,by decide⟩
     ·exact absurd rfl e2
     ·cases q with
      | nil=>exact absurd rfl hq.1
      | cons b q'=>exact ⟨b,q',rfl,fun y=>by have:=hq.2 b (by simp); omega⟩
    obtain ⟨b,q',rfl,hb⟩ :=hd
    show (if (32:Nat)=32∧b=41 then _ else 32 :: rp2 32 41 [41] (b :: (q' ++ l)))=_
    rw [if_neg fun y=>hb y.2]
    rfl
theorem ZEP (x:Str) (ws:List (List Nat)) (hx:x.cps.toList=jn [32] ws) (h:∀ p ∈ ws,Wd p):(Txt.replace (Txt.replace x ⟨#[40,32]⟩ ⟨#[40]⟩) ⟨#[32,41]⟩ ⟨#[41]⟩).cps.toList=glue ws:=by
 rw [Zle,Zle,hx]
 show rp2 32 41 [41] (rp2 40 32 [40] (jn [32] ws))=_
 rw [ZJY ws h,ZJZ ws h]
def ZyM:W3→Str
 | .a=>" and "
 | .e=>" either "
 | .o=>" or "
def ZeG:W3→Nat
 | .a=>1
 | .e=>2
 | .o=>3
def ZrR:Fm→Nat
 | .join w _=>ZeG w
 | _=>0
def brk (b:Bool) (z:Str):Str:=if b=true then Str.empty ++ "(" ++ z ++ ")" else z
mutual
def Zd1 (ns:List Str):Fm→Str
 | .lamp k=>ns.getD k Str.empty
 | .sure b=>if b=true then "yes" else "no"
 | .neg f=>Str.empty ++ "not " ++ brk (decide (1≤(ZrR f))) (Zd1 ns f)
 | .join w fs=>Txt.join (ZyM w) (Zcq ns (ZeG w) fs)
def Zcq (ns:List Str) (r:Nat):List Fm→List Str
 | []=>[]
 | f :: fs=>brk (decide (r≤(ZrR f))) (Zd1 ns f) :: Zcq ns r fs
end
def Zza (ns:List Str) (r:Nat) (f:Fm):Str:=brk (decide (r≤(ZrR f))) (Zd1 ns f)
theorem Zs3 (ns:List Str) (r:Nat):∀ fs:List Fm,Zcq ns r fs=fs.map (Zza ns r)
 | []=>by simp [Zcq]
 | f :: fs=>by simp [Zcq,Zs3 ns r fs,Zza]
theorem ZzN (ns:List Str) (w:W3) (fs:List Fm):Zd1 ns (Fm.join w fs)=Txt.join (ZyM w) (fs.map (Zza ns (ZeG w))):=by
 simp [Zd1,Zs3]
mutual
def fWt:Fm→Nat
 | .lamp _=>1
 | .sure _=>1
 | .neg f=>1 + fWt f
 | .join _ fs=>1 + fWtL fs
def fWtL:List Fm→Nat
 | []=>0
 | f :: fs=>1 + fWt f + fWtL fs
end
theorem ZNb {fs:List Fm} {f:Fm} (h:f ∈ fs):fWt f < fWtL fs:=by
 induction fs with
 | nil=>cases h
 | cons g gs ih=>
  rw [fWtL]
  rcases List.mem_cons.mp h with rfl | h
  ·omega
  ·have:=ih h
   omega
theorem ZKp:∀ fs:List Fm,fs.length≤fWtL fs
 | []=>Nat.zero_le _
 | f :: fs=>by rw [List.length_cons,fWtL]; have:=ZKp fs; omega
theorem ZEI (b:Bool) (z:Str):(brk b z).length≤z.length + 2:=by
 unfold brk
 split
 ·rw [ZaD,ZaD,ZaD]
  have:Str.length Str.empty=0:=rfl
  have:Str.length "(" = 1:=by decide +kernel
  have:Str.length ")" = 1:=by decide +kernel
  omega
 ·omega
theorem ZEg (w:W3):(ZyM w).length≤8:=by cases w <;> decide +kernel
theorem ZKU {ns:List Str} {B:Nat} (h:∀ z ∈ ns,z.length≤B) (k:Nat):(ns.getD k Str.empty).length≤B:=by
 rw [List.getD_eq_getElem?_getD]
 cases e:ns[k]? with
 | none=>exact Nat.zero_le _
 | some z=>exact h z (List.mem_of_getElem? e)
mutual
theorem Zs4 {ns:List Str} (h:∀ z ∈ ns,z.length≤20):∀ f:Fm,(Zd1 ns f).length≤20 * fWt f
 | .lamp k=>by simp only [Zd1,fWt]; exact ZKU h k
 | .sure b=>by cases b <;> simp only [Zd1,fWt] <;> decide +kernel
 | .neg f=>by
  have a:=Zs4 h f
  have b:=ZEI (decide (1≤(ZrR f))) (Zd1 ns f)
  have c:Str.length "not " = 4:=by decide +kernel
  have d:Str.length Str.empty=0:=rfl
  simp only [Zd1,fWt]
  rw [ZaD,ZaD]
  omega
 | .join w fs=>by
  have a:=ZtS h (ZeG w) fs
  have b:=ZEg w
  simp only [Zd1,fWt]
  have c:(Txt.join (ZyM w) (Zcq ns (ZeG w) fs)).length≤((Zcq ns (ZeG w) fs).map (·.length)).sum + (Zcq ns (ZeG w) fs).length * (ZyM w).length:=by
   show (Builtin.Str.glued _ _).length≤_
   rw [StrLaws.glued_eq_join]
   exact StrLaws.join_length_le _ _
  have d:(Zcq ns (ZeG w) fs).length * (ZyM w).length≤(Zcq ns (ZeG w) fs).length * 8:=Nat.mul_le_mul_left _ b
  omega
theorem ZtS {ns:List Str} (h:∀ z ∈ ns,z.length≤20) (r:Nat):∀ fs:List Fm,((Zcq ns r fs).map (·.length)).sum + (Zcq ns r fs).length * 8≤20 * fWtL fs
 | []=>by simp [Zcq]
 | f :: fs=>by
  have a:=Zs4 h f
  have b:=ZEI (decide (r≤(ZrR f))) (Zd1 ns f)
  have c:=ZtS h r fs
  simp only [Zcq,fWtL,List.map_cons,List.sum_cons,List.length_cons]
  omega
end
theorem ZCT {ns:List Str} (h:∀ z ∈ ns,z.length≤20) (w:W3) (fs:List Fm) (hw:fWtL fs≤1000):JoinOk (ZyM w) (fs.map (Zza ns (ZeG w)))=true:=by
 rw [← Zs3]
 unfold JoinOk Builtin.Str.tooLong
 rw [StrLaws.joinTotal]
 have a:=ZtS h (ZeG w) fs
 have b:=ZEg w
 have d:(Zcq ns (ZeG w) fs).length * (ZyM w).length≤(Zcq ns (ZeG w) fs).length * 8:=Nat.mul_le_mul_left _ b
 rw [decide_eq_false (Nat.not_lt.mpr (Zcf (by omega)))]
 rfl
section
variable {P:Program} {w:World} {K:PySem.W.Frag} {mg:Str→Option Value} {base:Heap} {t:Ad} {n:Nat}
def ZOr (t:Ad):Sp:=fun vs H Q _=>∃ (p:Addr) (f:Fm) (n:Nat),vs=[.ref p]∧FmAt t H (n + 1) p f∧Q (.int (ZrR f:Int)) H
theorem ZoM (T:Txt K mg t):∀ C,isFm t C→MeS P w K mg base 1 C "looseness" ["self"] (spAt (ZOr t) C):=by
 rintro C (rfl | rfl | rfl | rfl | rfl | rfl)
 ·refine ⟨T.ZhR,_,_,T.Zc6.ok Zd4 (fun vs H Q E h=>?_) (fun cdv A outer s H vs Q E hr h=>?_),T.Zc7,T.ZlI⟩
  ·obtain ⟨⟨p,f,n,rfl,_⟩,_⟩ :=h
   rfl
  ·obtain ⟨⟨p,f,n,rfl,hf,q⟩,a,dx,fs,r,e,ea⟩ :=h
   cases e
   obtain ⟨k,rfl,rfl⟩ :=hf.lamp T ea
   refine ⟨_,(Zad (Zam Zae)),?_⟩
   walk_at "rd0"
   exact q
 ·refine ⟨T.ZhY,_,_,T.Zc6.ok Zd4 (fun vs H Q E h=>?_) (fun cdv A outer s H vs Q E hr h=>?_),T.Zc7,T.ZlJ⟩
  ·obtain ⟨⟨p,f,n,rfl,_⟩,_⟩ :=h
   rfl
  ·obtain ⟨⟨p,f,n,rfl,hf,q⟩,a,dx,fs,r,e,ea⟩ :=h
   cases e
   obtain ⟨b,rfl,rfl⟩ :=hf.sure T ea
   refine ⟨_,(Zad (Zam Zae)),?_⟩
   walk_at "rd0"
   exact q
 ·refine ⟨T.c_Not,_,_,T.Zc6.ok Zd4 (fun vs H Q E h=>?_) (fun cdv A outer s H vs Q E hr h=>?_),T.Zc7,T.Znf⟩
  ·obtain ⟨⟨p,f,n,rfl,_⟩,_⟩ :=h
   rfl
  ·obtain ⟨⟨p,f,n,rfl,hf,q⟩,a,dx,fs,r,e,ea⟩ :=h
   cases e
   obtain ⟨g,p2,rfl,rfl,hg⟩ :=hf.neg T ea
   refine ⟨_,(Zad (Zam Zae)),?_⟩
   walk_at "rd0"
   exact q
 ·refine ⟨T.c_And,_,_,T.ZlX.ok Zv9 (fun vs H Q E h=>?_) (fun cdv A outer s H vs Q E hr h=>?_),T.Zmj,T.Zna⟩
  ·obtain ⟨⟨p,f,n,rfl,_⟩,_⟩ :=h
   rfl
  ·obtain ⟨⟨p,f,n,rfl,hf,q⟩,a,dx,fs,r,e,ea⟩ :=h
   cases e
   obtain ⟨gs,tp,ps,rfl,rfl,htp,hg⟩ :=hf.join (w:=.a) T ea
   refine ⟨_,(Zad (Zam Zae)),?_⟩
   walk_at "rd0"
   exact q
 ·refine ⟨T.Zdq,_,_,T.ZhK.ok ZqI (fun vs H Q E h=>?_) (fun cdv A outer s H vs Q E hr h=>?_),T.ZhQ,T.Zii⟩
  ·obtain ⟨⟨p,f,n,rfl,_⟩,_⟩ :=h
   rfl
  ·obtain ⟨⟨p,f,n,rfl,hf,q⟩,a,dx,fs,r,e,ea⟩ :=h
   cases e
   obtain ⟨gs,tp,ps,rfl,rfl,htp,hg⟩ :=hf.join (w:=.e) T ea
   refine ⟨_,(Zad (Zam Zae)),?_⟩
   walk_at "rd0"
   exact q
 ·refine ⟨T.c_Or,_,_,T.ZoT.ok Zyz (fun vs H Q E h=>?_) (fun cdv A outer s H vs Q E hr h=>?_),T.Zo1,T.Zpl⟩
  ·obtain ⟨⟨p,f,n,rfl,_⟩,_⟩ :=h
   rfl
  ·obtain ⟨⟨p,f,n,rfl,hf,q⟩,a,dx,fs,r,e,ea⟩ :=h
   cases e
   obtain ⟨gs,tp,ps,rfl,rfl,htp,hg⟩ :=hf.join (w:=.o) T ea
   refine ⟨_,(Zad (Zam Zae)),?_⟩
   walk_at "rd0"
   exact q
def isJn (t:Ad) (C:Addr):Prop:=∃ w,C=cw t w
def ZJ7 (t:Ad):Sp:=fun vs H Q _=>∃ (p dx:Addr) (fs:List (Str × V)) (w:W3),vs=[.ref p]∧H p=some (.ins (cw t w) dx fs)∧Q (.str (ZyM w)) H
theorem ZCn (T:Txt K mg t):∀ C,isJn t C→MeS P w K mg base 1 C "between" ["self"] (spAt (ZJ7 t) C):=by
 rintro C ⟨v,rfl⟩
 cases v
 ·refine ⟨T.c_And,_,_,T.ZqN.ok Zzd (fun vs H Q E h=>?_) (fun cdv A outer s H vs Q E hr h=>?_),T.Zq8,T.ZrT⟩
  ·obtain ⟨⟨p,dx,fs,w,rfl,_⟩,_⟩ :=h
   rfl
  ·obtain ⟨⟨p,dx,fs,w,rfl,hp,q⟩,a,dx',fs',r,e,ea⟩ :=h
   cases e
   rw [ea] at hp
   have e1:cw t .a=cw t w:=(HO.ins.inj (Option.some.inj hp)).1
   obtain rfl:=ZF3 T e1
   refine ⟨_,(Zad (Zam Zal)),?_⟩
   walk_at "rd0"
   exact q
 ·refine ⟨T.Zdq,_,_,T.Zlv.ok ZtR (fun vs H Q E h=>?_) (fun cdv A outer s H vs Q E hr h=>?_),T.Zlz,T.ZlH⟩
  ·obtain ⟨⟨p,dx,fs,w,rfl,_⟩,_⟩ :=h
   rfl
  ·obtain ⟨⟨p,dx,fs,w,rfl,hp,q⟩,a,dx',fs',r,e,ea⟩ :=h
   cases e
   rw [ea] at hp
   have e1:cw t .e=cw t w:=(HO.ins.inj (Option.some.inj hp)).1
   obtain rfl:=ZF3 T e1
   refine ⟨_,(Zad (Zam Zal)),?_⟩
   walk_at "rd0"
   exact q
 ·refine ⟨T.c_Or,_,_,T.Zt4.ok ZBE (fun vs H Q E h=>?_) (fun cdv A outer s H vs Q E hr h=>?_),T.Zup,T.Zvg⟩
  ·obtain ⟨⟨p,dx,fs,w,rfl,_⟩,_⟩ :=h
   rfl
  ·obtain ⟨⟨p,dx,fs,w,rfl,hp,q⟩,a,dx',fs',r,e,ea⟩ :=h
   cases e
   rw [ea] at hp
   have e1:cw t .o=cw t w:=(HO.ins.inj (Option.some.inj hp)).1
   obtain rfl:=ZF3 T e1
   refine ⟨_,(Zad (Zam Zal)),?_⟩
   walk_at "rd0"
   exact q
def ZQM (t:Ad):Sp:=fun vs H Q _=>∃ (p:Addr) (f:Fm) (n r:Nat) (z:Str),vs=[.ref p,.str z,.int (r:Int)]∧FmAt t H (n + 1) p f∧z.length≤900000∧Q (.str (brk (decide (r≤ZrR f)) z)) H
theorem ZvE (T:Txt K mg t):FnS P w K mg base 2 "bracketed" ["part","text","bound"] ((ZQM t)):=by
 refine ⟨_,_,T.ZpG.ok ZDR (fun vs H Q E h=>?_) (fun cdv A outer s H vs Q E hr h=>?_),T.ZwU,T.ZpG.kp,T.ZxZ⟩
 ·obtain ⟨p,f,n,r,z,rfl,hf,hz,q⟩ :=h
  rfl
 obtain ⟨p,f,n,r,z,rfl,hf,hz,q⟩ :=h
 have D_looseness:=ZoM (P:=P) (w:=w) (base:=base) T
 obtain ⟨C,dx',fs',e',hC,hl⟩ :=hf.ins "looseness" (by decide +kernel) (by decide +kernel) (by decide +kernel) (by decide +kernel)
 have l0:Str.length Str.empty=0:=rfl
 have l1:Str.length "(" = 1:=by decide +kernel
 have l2:Str.length ")" = 1:=by decide +kernel
 refine ⟨_,(Zad (Zam (ZoD (Zah ZJA (ZvF D_looseness hr (pv 0)) (pv 2) (Zap _)) (Zsz (Zlc Zal (Zlc (ZJH (pv 1)) (Zlc Zal ZGI)))) (pv 1)))),?_⟩
 walk_at "rd0"
 refine ⟨p,C,dx',fs',rfl,e',hC,hl,?_⟩
 walk_at "rd"
 refine ⟨e',p,f,n,rfl,hf,?_⟩
 walk_at "rd"
 refine Zd3 (fun h=>?_) (fun h=>?_)
 ·rw [decide_eq_true (by omega)] at q
  walk_at "rd"
  refine ⟨_,rfl,Zcf (by rw [ZaD]; omega),?_⟩
  walk_at "rd"
  refine ⟨_,rfl,Zcf (by omega),_,rfl,Zcf (by rw [ZaD,ZaD]; omega),?_⟩
  walk_at "rd"
  refine ⟨_,rfl,Zcf (by rw [ZaD,ZaD,ZaD]; omega),?_⟩
  refine i_jn (by rw [ZaD,ZaD,ZaD]; omega) ?_
  exact q
 ·rw [decide_eq_false (by omega)] at q
  walk_at "rd"
  exact q
def Zoe (t:Ad) (n:Nat):Sp:=fun vs H Q _=>∃ (p nl:Addr) (f:Fm) (ns:List Str),vs=[.ref p,.ref nl]∧FmAt t H n p f∧H nl=some (.lst (ns.map V.str))∧(∀ z ∈ ns,z.length≤20)∧f.low ns.length=true∧fWt f≤1000∧∀ H',Same H H'→Q (.str (Zd1 ns f)) H'
theorem ZBd (T:Txt K mg t):MeS P w K mg base (n + 3) t.Zav "shown" ["self","names"] (spAt (Zoe t (n + 1)) t.Zav):=by
 refine ⟨T.ZhR,_,_,T.Zt2.ok ZBC (fun vs H Q E h=>?_) (fun cdv A outer s H vs Q E hr h=>?_),T.Zmn,T.Zne⟩
 ·obtain ⟨⟨p,nl,f,ns,rfl,_⟩,_⟩ :=h
  rfl
 ·obtain ⟨⟨p,nl,f,ns,rfl,hf,hn,h20,hlow,hwt,q⟩,a,dx,fs,r,e,ea⟩ :=h
  cases e
  obtain ⟨k,rfl,rfl⟩ :=hf.lamp T ea
  simp only [Fm.low,decide_eq_true_iff] at hlow
  refine ⟨_,(Zad (Zam (ZaG Zar (pv 1) (ZbR (pv 0) rfl) (fun _ _=>rfl)))),?_⟩
  walk_at "rd0"
  refine ⟨p,_,_,_,_,rfl,ea,T.ZhR,T.Zfb,lk1 _ _,?_⟩
  walk_at "rd"
  refine ZlU (v:=.str (ns.getD k Str.empty)) hn (by rw [List.getElem?_map,List.getD_eq_getElem?_getD,List.getElem?_eq_getElem hlow]; rfl) ?_
  have:=q H (Same.refl _)
  simpa only [Zd1] using this
theorem ZBh (T:Txt K mg t):MeS P w K mg base (n + 3) t.Zaw "shown" ["self","names"] (spAt (Zoe t (n + 1)) t.Zaw):=by
 refine ⟨T.ZhY,_,_,T.Zt8.ok ZBI (fun vs H Q E h=>?_) (fun cdv A outer s H vs Q E hr h=>?_),T.Zmr,T.Znj⟩
 ·obtain ⟨⟨p,nl,f,ns,rfl,_⟩,_⟩ :=h
  rfl
 ·obtain ⟨⟨p,nl,f,ns,rfl,hf,hn,h20,hlow,hwt,q⟩,a,dx,fs,r,e,ea⟩ :=h
  cases e
  obtain ⟨b,rfl,rfl⟩ :=hf.sure T ea
  have q':=q H (Same.refl _)
  simp only [Zd1] at q'
  refine ⟨_,(Zad (Zam (ZoD (Zbg (ZbR (pv 0) rfl) (fun _=>rfl)) Zal Zal))),?_⟩
  walk_at "rd0"
  refine ⟨p,_,_,_,_,rfl,ea,T.ZhY,T.Zcn,lk1 _ _,?_⟩
  walk_at "rd"
  refine ZHl (fun h=>?_) (fun h=>?_)
  ·rw [if_pos h] at q'
   walk_at "rd"
   exact q'
  ·rw [if_neg (by rw [h]; decide)] at q'
   walk_at "rd"
   exact q'
theorem ZDA (T:Txt K mg t) (D_shown:∀ C,isFm t C→MeS P w K mg base (n + 2) C "shown" ["self","names"] (spAt (Zoe t n) C)):MeS P w K mg base (n + 3) t.C_Not "shown" ["self","names"] (spAt (Zoe t (n + 1)) t.C_Not):=by
 refine ⟨T.c_Not,_,_,T.ZwG.ok ZvW (fun vs H Q E h=>?_) (fun cdv A outer s H vs Q E hr h=>?_),T.ZpW,T.Zqk⟩
 ·obtain ⟨⟨p,nl,f,ns,rfl,_⟩,_⟩ :=h
  rfl
 ·obtain ⟨⟨p,nl,f,ns,rfl,hf,hn,h20,hlow,hwt,q⟩,a,dx,fs,r,e,ea⟩ :=h
  cases e
  obtain ⟨g,p',rfl,rfl,hg⟩ :=hf.neg T ea
  simp only [Fm.low] at hlow
  simp only [fWt] at hwt
  have ZpI:=ZvE (P:=P) (w:=w) (base:=base) T
  obtain ⟨C,dx',fs',e',hC,hl⟩ :=hg.ins "shown" (by decide +kernel) (by decide +kernel) (by decide +kernel) (by decide +kernel)
  have hsl:=Zs4 h20 g
  have hbl:=ZEI (decide (1≤ZrR g)) (Zd1 ns g)
  have l0:Str.length Str.empty=0:=rfl
  have l1:Str.length "not " = 4:=by decide +kernel
  refine ⟨_,(Zac (ss 2 ZvW.nd (Zbv ZpI hr (Zaa (ZbR (pv 0) rfl) (Zaa (Zlb D_shown hr (ZbR (pv 0) rfl) (Zaa (pv 1) Zaf)) (Zaa Zae Zaf)))))
   (Zad (Zam (Zsz (Zlc Zal (Zlc (ZJH (pv 2)) ZGI)))))),?_⟩
  walk_at "rd0"
  refine ⟨p,_,_,_,_,rfl,ea,T.c_Not,T.ZcN,lk1 _ _,?_⟩
  walk_at "rd"
  refine ⟨p,_,_,_,_,rfl,ea,T.c_Not,T.ZcN,lk1 _ _,?_⟩
  walk_at "rd"
  refine ⟨p',C,dx',fs',rfl,e',hC,hl,?_⟩
  walk_at "rd"
  refine ⟨e',p',nl,g,ns,rfl,hg,hn,h20,hlow,by omega,fun H1 s1=>?_⟩
  walk_at "rd"
  cases n with
  | zero=>exact hg.elim
  | succ n=>
   refine ⟨p',g,n,1,_,rfl,FmAt.mono (Ext.of s1) hg,by omega,?_⟩
   walk_at "rd"
   refine ⟨_,rfl,Zcf (by rw [ZaD]; omega),?_⟩
   walk_at "rd"
   refine ⟨_,rfl,Zcf (by omega),_,rfl,Zcf (by rw [ZaD,ZaD]; omega),?_⟩
   refine i_jn (by rw [ZaD,ZaD]; omega) ?_
   have:=q H1 s1
   simpa only [Zd1] using this
theorem Zhv {v:W3} (T:Txt K mg t) (cl:Cls K (cw t v)) (na:ZaB K (cw t v) "parts") (me:Meth K (cw t v) "shown" t.ZaN) (D_shown:∀ C,isFm t C→MeS P w K mg base (n + 2) C "shown" ["self","names"] (spAt (Zoe t n) C)):MeS P w K mg base (n + 3) (cw t v) "shown" ["self","names"] (spAt (Zoe t (n + 1)) (cw t v)):=by
 refine ⟨cl,_,_,T.ZoS.ok ZhG (fun vs H Q E h=>?_) (fun cdv A outer s H vs Q E hr h=>?_),T.Zea,me⟩
 ·obtain ⟨⟨p,nl,f,ns,rfl,_⟩,_⟩ :=h
  rfl
 ·obtain ⟨⟨p,nl,f,ns,rfl,hf,hn,h20,hlow,hwt,q⟩,a,dx,fs,r,e,ea⟩ :=h
  cases e
  obtain ⟨gs,tp,ps,rfl,rfl,htp,hg⟩ :=hf.join T ea
  rw [ZAx,List.all_eq_true] at hlow
  simp only [fWt] at hwt
  have ZpI:=ZvE (P:=P) (w:=w) (base:=base) T
  have D_looseness:=ZoM (P:=P) (w:=w) (base:=base) T
  have D_between:=ZCn (P:=P) (w:=w) (base:=base) T
  obtain ⟨C0,dx0,fs0,e0,hC0,hl0⟩ :=hf.ins "looseness" (by decide +kernel) (by decide +kernel) (by decide +kernel) (by decide +kernel)
  refine ⟨_,(Zac (ss 2 ZhG.nd (Za8 Zaf))
   (Zac (Zc4 PassesOwn.never rfl (Zc3 (ZbR (pv 0) rfl)) (sg 3 ZhG.nd)
   (Zad (Zcg (Zj0 PySem.F.plainAttrs_list PySem.F.slot_list_append PySem.F.type_list_append Zcb (pv 2) (Zaa (Zbv ZpI hr (Zaa (pv 3) (Zaa (Zlb D_shown hr (pv 3) (Zaa (pv 1) Zaf)) (Zaa (ZvF D_looseness hr (pv 0)) Zaf)))) Zaf)))))
   (Zad (Zam (Zj0 PySem.F.plainAttrs_str PySem.F.slot_str_join PySem.F.type_str_join ZJj (ZvF D_between hr (pv 0)) (Zaa (pv 2) Zaf)))))),?_⟩
  walk_at "rd0"
  refine ZeA (by simp) fun tl H1 s1 n1 e1=>?_
  walk_at "rd"
  refine ⟨p,_,_,_,_,rfl,s1 _ _ ea,cl,na,lk1 _ _,?_⟩
  refine seqT (xs:=ps.map V.ref) (fun i σ H'=>Same H H'∧H' tl=some (.lst (((gs.take i).map (Zza ns (ZeG v))).map V.str))∧∃ v3,σ=[some (.ref p),some (.ref nl),some (.ref tl),v3]) ⟨s1,e1,_,rfl⟩ (fun i σ H' _ hp=>by obtain ⟨s2,_⟩ :=hp; exact SqT.of (s2 _ _ htp)) ?_ ?_
  ·rintro i x σ H2 hx ⟨s2,e2,v3,rfl⟩
   obtain ⟨p',rfl,hx'⟩ :=ZeT hx
   obtain ⟨g,hgi,hf'⟩ :=Zbs hg hx'
   have hgm:=List.mem_of_getElem? hgi
   have hgw:=ZNb hgm
   have hsl:=Zs4 h20 g
   have hf2:=FmAt.mono (Ext.of s2) hf'
   obtain ⟨C,dx',fs',e',hC,hl⟩ :=hf2.ins "shown" (by decide +kernel) (by decide +kernel) (by decide +kernel) (by decide +kernel)
   walk_at "rd"
   refine ⟨tyL e2,?_⟩
   walk_at "rd"
   refine ⟨p',C,dx',fs',rfl,e',hC,hl,?_⟩
   walk_at "rd"
   refine ⟨e',p',nl,g,ns,rfl,hf2,s2 _ _ hn,h20,hlow g hgm,by omega,fun H3 s3=>?_⟩
   walk_at "rd"
   refine ⟨p,C0,dx0,fs0,rfl,s3 _ _ (s2 _ _ e0),hC0,hl0,?_⟩
   walk_at "rd"
   have hfj:=FmAt.mono (Ext.of (s2.trans s3)) hf
   refine ⟨s3 _ _ (s2 _ _ e0),p,_,n,rfl,hfj,?_⟩
   walk_at "rd"
   cases n with
   | zero=>exact hf'.elim
   | succ n=>
    refine ⟨p',g,n,ZeG v,_,rfl,FmAt.mono (Ext.of s3) hf2,by omega,?_⟩
    walk_at "rd"
    refine ZfE (s3 _ _ e2) (by rw [List.length_map,List.length_map,List.length_take]; have:=ZKp gs; omega) fun H4 b4 e4=>?_
    walk_at "rd"
    refine ⟨b4.same n1 (s2.trans s3),?_,_,rfl⟩
    rw [ZbJ hgi,List.map_append,List.map_append]
    exact e4
  ·rintro σ H2 ⟨s2,e2,v3,rfl⟩
   rw [List.length_map,ZaY hg,List.take_length] at e2
   walk_at "rd"
   refine ⟨p,_,dx,_,rfl,s2 _ _ ea,⟨v,rfl⟩,lk0 _ (by decide +kernel),?_⟩
   walk_at "rd"
   refine ⟨s2 _ _ ea,p,dx,_,v,rfl,s2 _ _ ea,?_⟩
   walk_at "rd"
   refine ⟨tyS,?_⟩
   walk_at "rd"
   refine ⟨_,tl,_,rfl,rfl,SqL.of e2,ZCT h20 v gs (by omega),?_⟩
   have:=q H2 s2
   rw [ZzN] at this
   exact this
theorem ZoA {k:Nat} {C f:Addr} {fd:FuncData} {m:Str} {ps:List Str} {sp:Sp} (no:∀ vs H Q E,¬ sp vs H Q E) (c:Cls K C) (b:ZaW K fd ps []) (h:Meth K C m f):MeS P w K mg base k C m ps sp:=
 ⟨c,f,fd,⟨fun vs H Q E h=>absurd h (no vs H Q E),fun A outer s H args us vs Q E _ _ _ _ h=>absurd h (no vs H Q E)⟩,b,h⟩
theorem Zzv (T:Txt K mg t):∀ n:Nat,∀ C,isFm t C→MeS P w K mg base (n + 2) C "shown" ["self","names"] (spAt (Zoe t n) C)
 | 0=>by
  have no:∀ C vs H Q E,¬ spAt (Zoe t 0) C vs H Q E:=fun C vs H Q E h=>by
   obtain ⟨⟨p,nl,f,ns,_,h,_⟩,_⟩ :=h
   exact h
  rintro C (rfl | rfl | rfl | rfl | rfl | rfl)
  ·exact ZoA (no _) T.ZhR T.Zmn T.Zne
  ·exact ZoA (no _) T.ZhY T.Zmr T.Znj
  ·exact ZoA (no _) T.c_Not T.ZpW T.Zqk
  ·exact ZoA (no _) T.c_And T.Zea T.Zqf
  ·exact ZoA (no _) T.Zdq T.Zea T.Zjf
  ·exact ZoA (no _) T.c_Or T.Zea T.Ztu
 | n + 1=>by
  have ih:=Zzv T n
  rintro C (rfl | rfl | rfl | rfl | rfl | rfl)
  ·exact ZBd T
  ·exact ZBh T
  ·exact ZDA T ih
  ·exact Zhv (v:=.a) T T.c_And T.Zct T.Zqf ih
  ·exact Zhv (v:=.e) T T.Zdq T.Zbi T.Zjf ih
  ·exact Zhv (v:=.o) T T.c_Or T.Zdl T.Ztu ih
end
def Zgm (t:Ad) (n:Nat):Sp:=fun vs H Q _=>∃ (p:Addr) (s:Nat) (f:Fm),vs=[.ref p,.int (s:Int)]∧FmAt t H n p f∧Q (.bl (f.holds s)) H
theorem ZPu (s k:Nat):decide (Builtin.bitAnd ((s:Int) / 2 ^ ((k:Int)).toNat) 1=1)=s.testBit k:=by
 have e:((s:Int) / 2 ^ ((k:Int)).toNat)=((s / 2 ^ k:Nat):Int):=by simp
 have h:Builtin.bitAnd ((s:Int) / 2 ^ ((k:Int)).toNat) 1=((s / 2 ^ k % 2:Nat):Int):=by
  rw [e,show (1:Int)=((1:Nat):Int) from rfl,Zz1,Nat.and_one_is_mod]
 rw [h,ZNS]
 exact decide_eq_decide.mpr (by omega)
section
variable {P:Program} {w:World} {K:PySem.W.Frag} {mg:Str→Option Value} {base:Heap} {t:Ad} {n:Nat}
theorem ZBb (T:Txt K mg t):MeS P w K mg base (n + 1) t.Zav "holds" ["self","stand"] (spAt (Zgm t (n + 1)) t.Zav):=by
 refine ⟨T.ZhR,_,_,T.Zt0.ok ZBA (fun vs H Q E h=>?_) (fun cdv A outer s H vs Q E hr h=>?_),T.Zml,T.Znc⟩
 ·obtain ⟨⟨p,s,f,rfl,_⟩,_⟩ :=h
  rfl
 ·obtain ⟨⟨p,s,f,rfl,hf,q⟩,a,dx,fs,r,e,ea⟩ :=h
  cases e
  obtain ⟨k,rfl,rfl⟩ :=hf.lamp T ea
  refine ⟨_,(Zad (Zam (Zyk (ZaC hr.units) (Zau ZzK (Zau ZPJ (pv 1) (ZbR (pv 0) rfl)) Zae) Zae (Zap _)))),?_⟩
  walk_at "rd0"
  refine ⟨p,_,_,_,_,rfl,ea,T.ZhR,T.Zfb,lk1 _ _,?_⟩
  walk_at "rd"
  rw [ZPu]
  simpa [Fm.holds] using q
theorem ZBf (T:Txt K mg t):MeS P w K mg base (n + 1) t.Zaw "holds" ["self","stand"] (spAt (Zgm t (n + 1)) t.Zaw):=by
 refine ⟨T.ZhY,_,_,T.Zt6.ok ZBG (fun vs H Q E h=>?_) (fun cdv A outer s H vs Q E hr h=>?_),T.Zmp,T.Znh⟩
 ·obtain ⟨⟨p,s,f,rfl,_⟩,_⟩ :=h
  rfl
 ·obtain ⟨⟨p,s,f,rfl,hf,q⟩,a,dx,fs,r,e,ea⟩ :=h
  cases e
  obtain ⟨b,rfl,rfl⟩ :=hf.sure T ea
  refine ⟨_,(Zad (Zam (ZbR (pv 0) rfl))),?_⟩
  walk_at "rd0"
  exact ⟨p,_,_,_,_,rfl,ea,T.ZhY,T.Zcn,lk1 _ _,by simpa [Fm.holds] using q⟩
theorem ZDy (T:Txt K mg t) (D_holds:∀ C,isFm t C→MeS P w K mg base n C "holds" ["self","stand"] (spAt (Zgm t n) C)):MeS P w K mg base (n + 1) t.C_Not "holds" ["self","stand"] (spAt (Zgm t (n + 1)) t.C_Not):=by
 refine ⟨T.c_Not,_,_,T.ZwE.ok ZDO (fun vs H Q E h=>?_) (fun cdv A outer s H vs Q E hr h=>?_),T.ZpU,T.Zqi⟩
 ·obtain ⟨⟨p,s,f,rfl,_⟩,_⟩ :=h
  rfl
 ·obtain ⟨⟨p,s,f,rfl,hf,q⟩,a,dx,fs,r,e,ea⟩ :=h
  cases e
  obtain ⟨g,p',rfl,rfl,hg⟩ :=hf.neg T ea
  obtain ⟨C,dx',fs',e',hC,hl⟩ :=hg.ins "holds" (by decide +kernel) (by decide +kernel) (by decide +kernel) (by decide +kernel)
  refine ⟨_,(Zad (Zam (ZJK (Zlb D_holds hr (ZbR (pv 0) rfl) (Zaa (pv 1) Zaf))))),?_⟩
  walk_at "rd0"
  refine ⟨p,_,_,_,_,rfl,ea,T.c_Not,T.ZcN,lk1 _ _,?_⟩
  walk_at "rd"
  refine ⟨p',C,dx',fs',rfl,e',hC,hl,?_⟩
  walk_at "rd"
  refine ⟨e',p',s,g,rfl,hg,?_⟩
  walk_at "rd"
  simpa [Fm.holds] using q
theorem ZDw (T:Txt K mg t) (D_holds:∀ C,isFm t C→MeS P w K mg base n C "holds" ["self","stand"] (spAt (Zgm t n) C)):MeS P w K mg base (n + 1) t.C_And "holds" ["self","stand"] (spAt (Zgm t (n + 1)) t.C_And):=by
 refine ⟨T.c_And,_,_,T.ZwB.ok ZvV (fun vs H Q E h=>?_) (fun cdv A outer s H vs Q E hr h=>?_),T.ZpS,T.Zqd⟩
 ·obtain ⟨⟨p,s,f,rfl,_⟩,_⟩ :=h
  rfl
 ·obtain ⟨⟨p,s,f,rfl,hf,q⟩,a,dx,fs,r,e,ea⟩ :=h
  cases e
  obtain ⟨gs,tp,ps,rfl,rfl,htp,hg⟩ :=hf.join (w:=.a) T ea
  refine ⟨_,(Zac (Zc4 PassesOwn.never rfl (Zc3 (ZbR (pv 0) rfl)) (sg 2 ZvV.nd)
   (Zad (ZaI (ZnY (Zbg (Zlb D_holds hr (pv 2) (Zaa (pv 1) Zaf)) (fun _=>rfl)))
   (Zad (Zam ZjZ))
   Zaq)))
   (Zad (Zam ZjZ))),?_⟩
  walk_at "rd0"
  refine ⟨p,_,_,_,_,rfl,ea,T.c_And,T.Zct,lk1 _ _,?_⟩
  refine seqT (xs:=ps.map V.ref) (fun i σ H'=>H'=H∧comb .a ((gs.take i).map (Fm.holds s))=true∧∃ v,σ=[some (.ref p),some (.int (s:Int)),v]) ⟨rfl,rfl,_,rfl⟩ (fun i σ H' _ hp=>by obtain ⟨rfl,_⟩ :=hp; exact SqT.of htp) ?_ ?_
  ·rintro i x σ H' hx ⟨rfl,hc,v,rfl⟩
   obtain ⟨p',rfl,hx'⟩ :=ZeT hx
   obtain ⟨g,hgi,hf'⟩ :=Zbs hg hx'
   obtain ⟨C,dx',fs',e',hC,hl⟩ :=hf'.ins "holds" (by decide +kernel) (by decide +kernel) (by decide +kernel) (by decide +kernel)
   walk_at "rd"
   refine ⟨p',C,dx',fs',rfl,e',hC,hl,?_⟩
   walk_at "rd"
   refine ⟨e',p',s,g,rfl,hf',?_⟩
   walk_at "rd"
   refine ZHl (fun hb=>?_) (fun hb=>?_)
   ·walk_at "rd"
    have hz:(Fm.join .a gs).holds s=false:=by
     rw [ZdU]
     have hm:g ∈ gs:=List.mem_of_getElem? hgi
     have hgf:g.holds s=false:=by simpa using hb
     simp only [comb]
     rw [List.all_eq_false]
     exact ⟨_,List.mem_map_of_mem hm,by simp [hgf]⟩
    rw [hz] at q
    exact q
   ·walk_at "rd"
    refine ⟨rfl,?_,_,rfl⟩
    have hgt:g.holds s=true:=by simpa using hb
    rw [ZbJ hgi,List.map_append,List.map_cons,List.map_nil,Zw1,hc,hgt]
    rfl
  ·rintro σ H' ⟨rfl,hc,v,rfl⟩
   walk_at "rd"
   rw [List.length_map,ZaY hg,List.take_length] at hc
   rw [ZdU,hc] at q
   exact q
theorem ZFg (T:Txt K mg t) (D_holds:∀ C,isFm t C→MeS P w K mg base n C "holds" ["self","stand"] (spAt (Zgm t n) C)):MeS P w K mg base (n + 1) t.C_Or "holds" ["self","stand"] (spAt (Zgm t (n + 1)) t.C_Or):=by
 refine ⟨T.c_Or,_,_,T.Zzy.ok Zyy (fun vs H Q E h=>?_) (fun cdv A outer s H vs Q E hr h=>?_),T.Ztf,T.Zts⟩
 ·obtain ⟨⟨p,s,f,rfl,_⟩,_⟩ :=h
  rfl
 ·obtain ⟨⟨p,s,f,rfl,hf,q⟩,a,dx,fs,r,e,ea⟩ :=h
  cases e
  obtain ⟨gs,tp,ps,rfl,rfl,htp,hg⟩ :=hf.join (w:=.o) T ea
  refine ⟨_,(Zac (Zc4 PassesOwn.never rfl (Zc3 (ZbR (pv 0) rfl)) (sg 2 Zyy.nd)
   (Zad (ZaI (Zbg (Zlb D_holds hr (pv 2) (Zaa (pv 1) Zaf)) (fun _=>rfl))
   (Zad (Zam ZjZ))
   Zaq)))
   (Zad (Zam ZjZ))),?_⟩
  walk_at "rd0"
  refine ⟨p,_,_,_,_,rfl,ea,T.c_Or,T.Zdl,lk1 _ _,?_⟩
  refine seqT (xs:=ps.map V.ref) (fun i σ H'=>H'=H∧comb .o ((gs.take i).map (Fm.holds s))=false∧∃ v,σ=[some (.ref p),some (.int (s:Int)),v]) ⟨rfl,rfl,_,rfl⟩ (fun i σ H' _ hp=>by obtain ⟨rfl,_⟩ :=hp; exact SqT.of htp) ?_ ?_
  ·rintro i x σ H' hx ⟨rfl,hc,v,rfl⟩
   obtain ⟨p',rfl,hx'⟩ :=ZeT hx
   obtain ⟨g,hgi,hf'⟩ :=Zbs hg hx'
   obtain ⟨C,dx',fs',e',hC,hl⟩ :=hf'.ins "holds" (by decide +kernel) (by decide +kernel) (by decide +kernel) (by decide +kernel)
   walk_at "rd"
   refine ⟨p',C,dx',fs',rfl,e',hC,hl,?_⟩
   walk_at "rd"
   refine ⟨e',p',s,g,rfl,hf',?_⟩
   walk_at "rd"
   refine ZHl (fun hb=>?_) (fun hb=>?_)
   ·walk_at "rd"
    have hz:(Fm.join .o gs).holds s=true:=by
     rw [ZdU]
     have hm:g ∈ gs:=List.mem_of_getElem? hgi
     simp only [comb]
     rw [List.any_eq_true]
     exact ⟨_,List.mem_map_of_mem hm,by simp [hb]⟩
    rw [hz] at q
    exact q
   ·walk_at "rd"
    refine ⟨rfl,?_,_,rfl⟩
    rw [ZbJ hgi,List.map_append,List.map_cons,List.map_nil,Zw3,hc,hb]
    rfl
  ·rintro σ H' ⟨rfl,hc,v,rfl⟩
   walk_at "rd"
   rw [List.length_map,ZaY hg,List.take_length] at hc
   rw [ZdU,hc] at q
   exact q
theorem Zyj (T:Txt K mg t) (D_holds:∀ C,isFm t C→MeS P w K mg base n C "holds" ["self","stand"] (spAt (Zgm t n) C)):MeS P w K mg base (n + 1) t.Zaj "holds" ["self","stand"] (spAt (Zgm t (n + 1)) t.Zaj):=by
 refine ⟨T.Zdq,_,_,T.ZoQ.ok Zfj (fun vs H Q E h=>?_) (fun cdv A outer s H vs Q E hr h=>?_),T.ZiY,T.Zjd⟩
 ·obtain ⟨⟨p,s,f,rfl,_⟩,_⟩ :=h
  rfl
 ·obtain ⟨⟨p,s,f,rfl,hf,q⟩,a,dx,fs,r,e,ea⟩ :=h
  cases e
  obtain ⟨gs,tp,ps,rfl,rfl,htp,hg⟩ :=hf.join (w:=.e) T ea
  refine ⟨_,(Zac (ss 2 Zfj.nd ZjZ)
   (Zac (Zc4 PassesOwn.never rfl (Zc3 (ZbR (pv 0) rfl)) (sg 3 Zfj.nd)
   (Zad (ZaI (Zbg (Zlb D_holds hr (pv 3) (Zaa (pv 1) Zaf)) (fun _=>rfl))
   (Zad (ss 2 Zfj.nd (ZJK (pv 2))))
   Zaq)))
   (Zad (Zam (pv 2))))),?_⟩
  walk_at "rd0"
  refine ⟨p,_,_,_,_,rfl,ea,T.Zdq,T.Zbi,lk1 _ _,?_⟩
  refine seqT (xs:=ps.map V.ref) (fun i σ H'=>H'=H∧∃ v,σ=[some (.ref p),some (.int (s:Int)),some (.bl (comb .e ((gs.take i).map (Fm.holds s)))),v]) ⟨rfl,_,rfl⟩ (fun i σ H' _ hp=>by obtain ⟨rfl,_⟩ :=hp; exact SqT.of htp) ?_ ?_
  ·rintro i x σ H' hx ⟨rfl,v,rfl⟩
   obtain ⟨p',rfl,hx'⟩ :=ZeT hx
   obtain ⟨g,hgi,hf'⟩ :=Zbs hg hx'
   obtain ⟨C,dx',fs',e',hC,hl⟩ :=hf'.ins "holds" (by decide +kernel) (by decide +kernel) (by decide +kernel) (by decide +kernel)
   have hs:comb .e ((gs.take (i + 1)).map (Fm.holds s))=xor (comb .e ((gs.take i).map (Fm.holds s))) (g.holds s):=by
    rw [ZbJ hgi,List.map_append,List.map_cons,List.map_nil,Zw2]
   walk_at "rd"
   refine ⟨p',C,dx',fs',rfl,e',hC,hl,?_⟩
   walk_at "rd"
   refine ⟨e',p',s,g,rfl,hf',?_⟩
   walk_at "rd"
   refine ZHl (fun hb=>?_) (fun hb=>?_)
   ·walk_at "rd"
    refine ⟨rfl,some (.ref p'),?_⟩
    rw [hs,hb,Bool.xor_true]
   ·walk_at "rd"
    refine ⟨rfl,some (.ref p'),?_⟩
    rw [hs,hb,Bool.xor_false]
  ·rintro σ H' ⟨rfl,v,rfl⟩
   walk_at "rd"
   rw [List.length_map,ZaY hg,List.take_length]
   rw [ZdU] at q
   exact q
theorem Zdp {C f:Addr} {fd:FuncData} {m:Str} {ps:List Str} {sp:Sp} (no:∀ vs H Q E,¬ sp vs H Q E) (c:Cls K C) (b:ZaW K fd ps []) (h:Meth K C m f):MeS P w K mg base 0 C m ps sp:=
 ⟨c,f,fd,⟨fun vs H Q E h=>absurd h (no vs H Q E),fun A outer s H args us vs Q E _ _ _ _ h=>absurd h (no vs H Q E)⟩,b,h⟩
theorem Ztb (T:Txt K mg t):∀ n:Nat,∀ C,isFm t C→MeS P w K mg base n C "holds" ["self","stand"] (spAt (Zgm t n) C)
 | 0=>by
  have no:∀ C vs H Q E,¬ spAt (Zgm t 0) C vs H Q E:=fun C vs H Q E h=>by
   obtain ⟨⟨p,s,f,_,h,_⟩,_⟩ :=h
   exact h
  rintro C (rfl | rfl | rfl | rfl | rfl | rfl)
  ·exact Zdp (no _) T.ZhR T.Zml T.Znc
  ·exact Zdp (no _) T.ZhY T.Zmp T.Znh
  ·exact Zdp (no _) T.c_Not T.ZpU T.Zqi
  ·exact Zdp (no _) T.c_And T.ZpS T.Zqd
  ·exact Zdp (no _) T.Zdq T.ZiY T.Zjd
  ·exact Zdp (no _) T.c_Or T.Ztf T.Zts
 | n + 1=>by
  have ih:=Ztb T n
  rintro C (rfl | rfl | rfl | rfl | rfl | rfl)
  ·exact ZBb T
  ·exact ZBf T
  ·exact ZDy T ih
  ·exact ZDw T ih
  ·exact Zyj T ih
  ·exact ZFg T ih
end
theorem ZnX {m:Nat} (h:m≤6):(2:Nat) ^ m≤64:=Nat.le_trans (Nat.pow_le_pow_right (by decide) h) (by decide)
theorem Zd5 (m:Nat):(1:Int) * 2 ^ ((m:Int)).toNat=((2 ^ m:Nat):Int):=by
 simp
section
variable {P:Program} {w:World} {K:PySem.W.Frag} {mg:Str→Option Value} {base:Heap} {t:Ad}
def ZFA:Sp:=fun vs H Q _=>∃ (m:Nat),vs=[.int (m:Int)]∧m≤6∧Q (.int ((2 ^ 2 ^ m - 1:Nat):Int)) H
theorem Zfg (T:Txt K mg t):FnS P w K mg base 1 "all_stands" ["many"] (ZFA):=by
 refine ⟨_,_,T.Zl2.ok ZBJ (fun vs H Q E h=>?_) (fun cdv A outer s H vs Q E hr h=>?_),T.Zuu,T.Zl2.kp,T.ZvC⟩
 ·obtain ⟨m,rfl,hm,q⟩ :=h
  rfl
 obtain ⟨m,rfl,hm,q⟩ :=h
 have hp:=ZnX hm
 have hp0:=Int.natCast_nonneg (2 ^ m)
 refine ⟨_,(Zad (Zam (Zau Zhw (Zau Zc2 Zae (Zau Zc2 Zae (pv 0))) Zae))),?_⟩
 walk_at "rd0"
 rw [Zd5]
 refine i_rI ⟨by omega,by omega,by decide⟩ ?_
 walk_at "rd"
 rw [Zd5]
 have:1≤2 ^ 2 ^ m:=Nat.one_le_two_pow
 have e:((2 ^ 2 ^ m:Nat):Int) - 1=((2 ^ 2 ^ m - 1:Nat):Int):=by omega
 rw [e]
 exact q
end
theorem ZN7 {f:Nat→Bool} {n:Nat} (h:f n=true):Builtin.bitOr ((bits f n:Nat):Int) (1 * 2 ^ (((0:Int) + (n:Int))).toNat)=((bits f (n + 1):Nat):Int):=by
 have e:(1:Int) * 2 ^ (((0:Int) + (n:Int))).toNat=((2 ^ n:Nat):Int):=by
  rw [Int.zero_add]; exact Zd5 n
 rw [e,ZGD,ZEG f n h]
section
variable {P:Program} {w:World} {K:PySem.W.Frag} {mg:Str→Option Value} {base:Heap} {t:Ad} {n:Nat}
def Zgl (t:Ad) (n:Nat):Sp:=fun vs H Q _=>∃ (p:Addr) (m:Nat) (f:Fm),vs=[.ref p,.int (m:Int)]∧m≤6∧FmAt t H n p f∧Q (.int ((f.crowd (2 ^ m):Nat):Int)) H
theorem ZBa (T:Txt K mg t):MeS P w K mg base (n + 2) t.Zav "crowd" ["self","many"] (spAt (Zgl t (n + 1)) t.Zav):=by
 refine ⟨T.ZhR,_,_,T.ZtZ.ok ZgK (fun vs H Q E h=>?_) (fun cdv A outer s H vs Q E hr h=>?_),T.Zmk,T.Znb⟩
 ·obtain ⟨⟨p,m,f,rfl,_⟩,_⟩ :=h
  rfl
 ·obtain ⟨⟨p,m,f,rfl,hm,hf,q⟩,a,dx,fs,r,e,ea⟩ :=h
  cases e
  have D_holds:=Ztb (P:=P) (w:=w) (base:=base) T (n + 1)
  have hp:=ZnX hm
  have hp0:=Int.natCast_nonneg (2 ^ m)
  refine ⟨_,(Zac (ss 2 ZgK.nd Zae)
   (Zac (Zc4 PassesOwn.never rfl (ZdP rfl T.B.range (Zaa (Zau Zc2 Zae (pv 1)) Zaf)) (sg 3 ZgK.nd)
   (Zad (ZaI (Zbg (Zlb D_holds hr (pv 0) (Zaa (pv 3) Zaf)) (fun _=>rfl))
   (Zad (ss 2 ZgK.nd (Zau ZHw (pv 2) (Zau Zc2 Zae (pv 3)))))
   Zaq)))
   (Zad (Zam (pv 2))))),?_⟩
  walk_at "rd0"
  rw [Zd5]
  refine ⟨_,rfl,by omega,by omega,?_⟩
  rw [Int.toNat_natCast]
  refine ZQD (fun i σ H'=>H'=H∧∃ v,σ=[some (.ref p),some (.int (m:Int)),some (.int ((f.crowd i:Nat):Int)),v]) ⟨rfl,_,rfl⟩ ?_ ?_
  ·rintro i σ H' hi ⟨rfl,v,rfl⟩
   obtain ⟨C,dx',fs',e',hC,hl⟩ :=hf.ins "holds" (by decide +kernel) (by decide +kernel) (by decide +kernel) (by decide +kernel)
   walk_at "rd"
   refine ⟨p,C,dx',fs',rfl,e',hC,hl,?_⟩
   walk_at "rd"
   have ei:(0:Int) + (i:Int)=((i:Nat):Int):=Int.zero_add _
   refine ⟨e',p,i,f,by rw [ei],hf,?_⟩
   walk_at "rd"
   refine ZHl (fun hb=>?_) (fun hb=>?_)
   ·walk_at "rd"
    refine ⟨rfl,some (.int (0 + (i:Int))),?_⟩
    have e2:=ZN7 (f:=fun s=>f.holds s) (n:=i) hb
    unfold Fm.crowd
    rw [e2]
    all_goals rfl
   ·walk_at "rd"
    refine ⟨rfl,some (.int (0 + (i:Int))),?_⟩
    unfold Fm.crowd
    rw [ZH7 (fun s=>f.holds s) i hb]
    all_goals rfl
  ·rintro σ H' ⟨rfl,v,rfl⟩
   walk_at "rd"
   exact q
theorem ZBe (T:Txt K mg t):MeS P w K mg base (n + 2) t.Zaw "crowd" ["self","many"] (spAt (Zgl t (n + 1)) t.Zaw):=by
 refine ⟨T.ZhY,_,_,T.Zt5.ok ZBF (fun vs H Q E h=>?_) (fun cdv A outer s H vs Q E hr h=>?_),T.Zmo,T.Zng⟩
 ·obtain ⟨⟨p,m,f,rfl,_⟩,_⟩ :=h
  rfl
 ·obtain ⟨⟨p,m,f,rfl,hm,hf,q⟩,a,dx,fs,r,e,ea⟩ :=h
  cases e
  obtain ⟨b,rfl,rfl⟩ :=hf.sure T ea
  have Zdu:=Zfg (P:=P) (w:=w) (base:=base) T
  rw [ZzD] at q
  refine ⟨_,(Zad (Zam (ZoD (Zbg (ZbR (pv 0) rfl) (fun _=>rfl)) (Zbv Zdu hr (Zaa (pv 1) Zaf)) Zae))),?_⟩
  walk_at "rd0"
  refine ⟨p,_,_,_,_,rfl,ea,T.ZhY,T.Zcn,lk1 _ _,?_⟩
  walk_at "rd"
  refine ZHl (fun hb=>?_) (fun hb=>?_)
  ·subst hb
   walk_at "rd"
   exact ⟨m,rfl,hm,q⟩
  ·subst hb
   walk_at "rd"
   exact q
theorem ZDx (T:Txt K mg t) (D_crowd:∀ C,isFm t C→MeS P w K mg base (n + 1) C "crowd" ["self","many"] (spAt (Zgl t n) C)):MeS P w K mg base (n + 2) t.C_Not "crowd" ["self","many"] (spAt (Zgl t (n + 1)) t.C_Not):=by
 refine ⟨T.c_Not,_,_,T.ZwD.ok ZDN (fun vs H Q E h=>?_) (fun cdv A outer s H vs Q E hr h=>?_),T.ZpT,T.Zqh⟩
 ·obtain ⟨⟨p,m,f,rfl,_⟩,_⟩ :=h
  rfl
 ·obtain ⟨⟨p,m,f,rfl,hm,hf,q⟩,a,dx,fs,r,e,ea⟩ :=h
  cases e
  have Zdu:=Zfg (P:=P) (w:=w) (base:=base) T
  obtain ⟨g,p',rfl,rfl,hg⟩ :=hf.neg T ea
  obtain ⟨C,dx',fs',e',hC,hl⟩ :=hg.ins "crowd" (by decide +kernel) (by decide +kernel) (by decide +kernel) (by decide +kernel)
  refine ⟨_,(Zad (Zam (Zau ZzL (Zbv Zdu hr (Zaa (pv 1) Zaf)) (Zlb D_crowd hr (ZbR (pv 0) rfl) (Zaa (pv 1) Zaf))))),?_⟩
  walk_at "rd0"
  refine ⟨m,rfl,hm,?_⟩
  walk_at "rd"
  refine ⟨p,_,_,_,_,rfl,ea,T.c_Not,T.ZcN,lk1 _ _,?_⟩
  walk_at "rd"
  refine ⟨p',C,dx',fs',rfl,e',hC,hl,?_⟩
  walk_at "rd"
  refine ⟨e',p',m,g,rfl,hm,hg,?_⟩
  walk_at "rd"
  rw [ZCB] at q
  rw [ZFG]
  exact q
theorem ZDv (T:Txt K mg t) (D_crowd:∀ C,isFm t C→MeS P w K mg base (n + 1) C "crowd" ["self","many"] (spAt (Zgl t n) C)):MeS P w K mg base (n + 2) t.C_And "crowd" ["self","many"] (spAt (Zgl t (n + 1)) t.C_And):=by
 refine ⟨T.c_And,_,_,T.ZwA.ok ZiS (fun vs H Q E h=>?_) (fun cdv A outer s H vs Q E hr h=>?_),T.ZpR,T.Zqc⟩
 ·obtain ⟨⟨p,m,f,rfl,_⟩,_⟩ :=h
  rfl
 ·obtain ⟨⟨p,m,f,rfl,hm,hf,q⟩,a,dx,fs,r,e,ea⟩ :=h
  cases e
  have Zdu:=Zfg (P:=P) (w:=w) (base:=base) T
  obtain ⟨gs,tp,ps,rfl,rfl,htp,hg⟩ :=hf.join (w:=.a) T ea
  refine ⟨_,(Zac (ss 2 ZiS.nd (Zbv Zdu hr (Zaa (pv 1) Zaf)))
   (Zac (Zc4 PassesOwn.never rfl (Zc3 (ZbR (pv 0) rfl)) (sg 3 ZiS.nd)
   (Zad (ss 2 ZiS.nd (Zau ZzK (pv 2) (Zlb D_crowd hr (pv 3) (Zaa (pv 1) Zaf))))))
   (Zad (Zam (pv 2))))),?_⟩
  walk_at "rd0"
  refine ⟨m,rfl,hm,?_⟩
  walk_at "rd"
  refine ⟨p,_,_,_,_,rfl,ea,T.c_And,T.Zct,lk1 _ _,?_⟩
  refine seqT (xs:=ps.map V.ref) (fun i σ H'=>H'=H∧∃ v,σ=[some (.ref p),some (.int (m:Int)),some (.int (((Fm.join .a (gs.take i)).crowd (2 ^ m):Nat):Int)),v]) ⟨rfl,_,by rw [List.take_zero,Zi4]; simp only [ZKl]; rw [ZwW]; all_goals rfl⟩ (fun i σ H' _ hp=>by obtain ⟨rfl,_⟩ :=hp; exact SqT.of htp) ?_ ?_
  ·rintro i x σ H' hx ⟨rfl,v,rfl⟩
   obtain ⟨p',rfl,hx'⟩ :=ZeT hx
   obtain ⟨g,hgi,hf'⟩ :=Zbs hg hx'
   obtain ⟨C,dx',fs',e',hC,hl⟩ :=hf'.ins "crowd" (by decide +kernel) (by decide +kernel) (by decide +kernel) (by decide +kernel)
   walk_at "rd"
   refine ⟨p',C,dx',fs',rfl,e',hC,hl,?_⟩
   walk_at "rd"
   refine ⟨e',p',m,g,rfl,hm,hf',?_⟩
   walk_at "rd"
   refine ⟨rfl,some (.ref p'),?_⟩
   rw [Zz1,ZbJ hgi,ZeQ]
   all_goals rfl
  ·rintro σ H' ⟨rfl,v,rfl⟩
   walk_at "rd"
   rw [List.length_map,ZaY hg,List.take_length]
   exact q
theorem Zyi (T:Txt K mg t) (D_crowd:∀ C,isFm t C→MeS P w K mg base (n + 1) C "crowd" ["self","many"] (spAt (Zgl t n) C)):MeS P w K mg base (n + 2) t.Zaj "crowd" ["self","many"] (spAt (Zgl t (n + 1)) t.Zaj):=by
 refine ⟨T.Zdq,_,_,T.ZoP.ok Zfi (fun vs H Q E h=>?_) (fun cdv A outer s H vs Q E hr h=>?_),T.ZiX,T.Zjc⟩
 ·obtain ⟨⟨p,m,f,rfl,_⟩,_⟩ :=h
  rfl
 ·obtain ⟨⟨p,m,f,rfl,hm,hf,q⟩,a,dx,fs,r,e,ea⟩ :=h
  cases e
  have Zdu:=Zfg (P:=P) (w:=w) (base:=base) T
  obtain ⟨gs,tp,ps,rfl,rfl,htp,hg⟩ :=hf.join (w:=.e) T ea
  refine ⟨_,(Zac (ss 2 Zfi.nd Zae)
   (Zac (Zc4 PassesOwn.never rfl (Zc3 (ZbR (pv 0) rfl)) (sg 3 Zfi.nd)
   (Zad (ss 2 Zfi.nd (Zau ZzL (pv 2) (Zlb D_crowd hr (pv 3) (Zaa (pv 1) Zaf))))))
   (Zad (Zam (pv 2))))),?_⟩
  walk_at "rd0"
  refine ⟨p,_,_,_,_,rfl,ea,T.Zdq,T.Zbi,lk1 _ _,?_⟩
  refine seqT (xs:=ps.map V.ref) (fun i σ H'=>H'=H∧∃ v,σ=[some (.ref p),some (.int (m:Int)),some (.int (((Fm.join .e (gs.take i)).crowd (2 ^ m):Nat):Int)),v]) ⟨rfl,_,by rw [List.take_zero,Zi4]; simp only [ZKl]; rw [Ztg]; all_goals rfl⟩ (fun i σ H' _ hp=>by obtain ⟨rfl,_⟩ :=hp; exact SqT.of htp) ?_ ?_
  ·rintro i x σ H' hx ⟨rfl,v,rfl⟩
   obtain ⟨p',rfl,hx'⟩ :=ZeT hx
   obtain ⟨g,hgi,hf'⟩ :=Zbs hg hx'
   obtain ⟨C,dx',fs',e',hC,hl⟩ :=hf'.ins "crowd" (by decide +kernel) (by decide +kernel) (by decide +kernel) (by decide +kernel)
   walk_at "rd"
   refine ⟨p',C,dx',fs',rfl,e',hC,hl,?_⟩
   walk_at "rd"
   refine ⟨e',p',m,g,rfl,hm,hf',?_⟩
   walk_at "rd"
   refine ⟨rfl,some (.ref p'),?_⟩
   rw [ZFG,ZbJ hgi,ZeQ]
   all_goals rfl
  ·rintro σ H' ⟨rfl,v,rfl⟩
   walk_at "rd"
   rw [List.length_map,ZaY hg,List.take_length]
   exact q
theorem ZFf (T:Txt K mg t) (D_crowd:∀ C,isFm t C→MeS P w K mg base (n + 1) C "crowd" ["self","many"] (spAt (Zgl t n) C)):MeS P w K mg base (n + 2) t.C_Or "crowd" ["self","many"] (spAt (Zgl t (n + 1)) t.C_Or):=by
 refine ⟨T.c_Or,_,_,T.Zzx.ok Zlq (fun vs H Q E h=>?_) (fun cdv A outer s H vs Q E hr h=>?_),T.Zte,T.Ztr⟩
 ·obtain ⟨⟨p,m,f,rfl,_⟩,_⟩ :=h
  rfl
 ·obtain ⟨⟨p,m,f,rfl,hm,hf,q⟩,a,dx,fs,r,e,ea⟩ :=h
  cases e
  have Zdu:=Zfg (P:=P) (w:=w) (base:=base) T
  obtain ⟨gs,tp,ps,rfl,rfl,htp,hg⟩ :=hf.join (w:=.o) T ea
  refine ⟨_,(Zac (ss 2 Zlq.nd Zae)
   (Zac (Zc4 PassesOwn.never rfl (Zc3 (ZbR (pv 0) rfl)) (sg 3 Zlq.nd)
   (Zad (ss 2 Zlq.nd (Zau ZHw (pv 2) (Zlb D_crowd hr (pv 3) (Zaa (pv 1) Zaf))))))
   (Zad (Zam (pv 2))))),?_⟩
  walk_at "rd0"
  refine ⟨p,_,_,_,_,rfl,ea,T.c_Or,T.Zdl,lk1 _ _,?_⟩
  refine seqT (xs:=ps.map V.ref) (fun i σ H'=>H'=H∧∃ v,σ=[some (.ref p),some (.int (m:Int)),some (.int (((Fm.join .o (gs.take i)).crowd (2 ^ m):Nat):Int)),v]) ⟨rfl,_,by rw [List.take_zero,Zi4]; simp only [ZKl]; rw [Ztg]; all_goals rfl⟩ (fun i σ H' _ hp=>by obtain ⟨rfl,_⟩ :=hp; exact SqT.of htp) ?_ ?_
  ·rintro i x σ H' hx ⟨rfl,v,rfl⟩
   obtain ⟨p',rfl,hx'⟩ :=ZeT hx
   obtain ⟨g,hgi,hf'⟩ :=Zbs hg hx'
   obtain ⟨C,dx',fs',e',hC,hl⟩ :=hf'.ins "crowd" (by decide +kernel) (by decide +kernel) (by decide +kernel) (by decide +kernel)
   walk_at "rd"
   refine ⟨p',C,dx',fs',rfl,e',hC,hl,?_⟩
   walk_at "rd"
   refine ⟨e',p',m,g,rfl,hm,hf',?_⟩
   walk_at "rd"
   refine ⟨rfl,some (.ref p'),?_⟩
   rw [ZGD,ZbJ hgi,ZeQ]
   all_goals rfl
  ·rintro σ H' ⟨rfl,v,rfl⟩
   walk_at "rd"
   rw [List.length_map,ZaY hg,List.take_length]
   exact q
theorem Zzt (T:Txt K mg t):∀ n:Nat,∀ C,isFm t C→MeS P w K mg base (n + 1) C "crowd" ["self","many"] (spAt (Zgl t n) C)
 | 0=>by
  have no:∀ C vs H Q E,¬ spAt (Zgl t 0) C vs H Q E:=fun C vs H Q E h=>by
   obtain ⟨⟨p,s,f,_,_,h,_⟩,_⟩ :=h
   exact h
  rintro C (rfl | rfl | rfl | rfl | rfl | rfl)
  ·exact (Zdp (no _) T.ZhR T.Zmk T.Znb).up (by omega)
  ·exact (Zdp (no _) T.ZhY T.Zmo T.Zng).up (by omega)
  ·exact (Zdp (no _) T.c_Not T.ZpT T.Zqh).up (by omega)
  ·exact (Zdp (no _) T.c_And T.ZpR T.Zqc).up (by omega)
  ·exact (Zdp (no _) T.Zdq T.ZiX T.Zjc).up (by omega)
  ·exact (Zdp (no _) T.c_Or T.Zte T.Ztr).up (by omega)
 | n + 1=>by
  have ih:=Zzt T n
  rintro C (rfl | rfl | rfl | rfl | rfl | rfl)
  ·exact ZBa T
  ·exact ZBe T
  ·exact ZDx T ih
  ·exact ZDv T ih
  ·exact Zyi T ih
  ·exact ZFf T ih
end
mutual
def Zci:Fm→List Nat
 | .lamp k=>[k]
 | .sure _=>[]
 | .neg f=>Zci f
 | .join _ fs=>dedS (Zxu fs)
def Zxu:List Fm→List Nat
 | []=>[]
 | f :: fs=>Zci f ++ Zxu fs
end
def Zht (ks:List Nat):List V:=ks.map fun k:Nat=>V.int (k:Int)
theorem ZxM:∀ fs:List Fm,Zxu fs=fs.flatMap Zci
 | []=>by simp [Zxu]
 | f :: fs=>by simp [Zxu,ZxM fs]
theorem ZOQ {ks:List Nat}:∀ k ∈ dedS ks,k < 6:=fun k h=>by
 unfold dedS at h
 exact List.mem_range.mp (List.mem_filter.mp h).1
theorem ZGv:∀ f:Fm,f.low 6=true→∀ k ∈ Zci f,k < 6
 | .lamp j,h,k,hk=>by
  simp only [Fm.low,decide_eq_true_iff] at h
  simp only [Zci,List.mem_singleton] at hk
  omega
 | .sure b,_,k,hk=>by simp [Zci] at hk
 | .neg f,h,k,hk=>by
  simp only [Fm.low] at h
  simp only [Zci] at hk
  exact ZGv f h k hk
 | .join w fs,_,k,hk=>by
  simp only [Zci] at hk
  exact ZOQ k hk
theorem Zsi:∀ f:Fm,(Zci f).length≤6
 | .lamp j=>by simp [Zci]
 | .sure b=>by simp [Zci]
 | .neg f=>by simp only [Zci]; exact Zsi f
 | .join w fs=>by
  simp only [Zci]
  unfold dedS
  exact Nat.le_trans (List.length_filter_le _ _) (by simp)
theorem ZGc:∀ fs:List Fm,(fs.flatMap Zci).length≤6 * fs.length
 | []=>by simp
 | f :: fs=>by
  rw [List.flatMap_cons,List.length_append,List.length_cons]
  have:=Zsi f
  have:=ZGc fs
  omega
section
variable {P:Program} {w:World} {K:PySem.W.Frag} {mg:Str→Option Value} {base:Heap} {t:Ad} {n:Nat}
def Zod (t:Ad) (n:Nat):Sp:=fun vs H Q _=>∃ (p:Addr) (f:Fm),vs=[.ref p]∧FmAt t H n p f∧f.low 6=true∧fWt f≤1000∧∀ l H',Same H H'→H l=none→H' l=some (.lst (Zht (Zci f)))→Q (.ref l) H'
theorem ZBc (T:Txt K mg t):MeS P w K mg base (n + 1) t.Zav "lamps" ["self"] (spAt (Zod t (n + 1)) t.Zav):=by
 refine ⟨T.ZhR,_,_,T.Zt1.ok ZBB (fun vs H Q E h=>?_) (fun cdv A outer s H vs Q E hr h=>?_),T.Zmm,T.Znd⟩
 ·obtain ⟨⟨p,f,rfl,_⟩,_⟩ :=h
  rfl
 ·obtain ⟨⟨p,f,rfl,hf,hlow,hwt,q⟩,a,dx,fs,r,e,ea⟩ :=h
  cases e
  obtain ⟨k,rfl,rfl⟩ :=hf.lamp T ea
  refine ⟨_,(Zad (Zam (Za8 (Zaa (ZbR (pv 0) rfl) Zaf)))),?_⟩
  walk_at "rd0"
  refine ⟨p,_,_,_,_,rfl,ea,T.ZhR,T.Zfb,lk1 _ _,?_⟩
  walk_at "rd"
  exact ZeA (by simp) fun l H1 s1 n1 e1=>q l H1 s1 n1 (by simpa only [Zci,Zht,List.map_cons,List.map_nil] using e1)
theorem ZBg (T:Txt K mg t):MeS P w K mg base (n + 1) t.Zaw "lamps" ["self"] (spAt (Zod t (n + 1)) t.Zaw):=by
 refine ⟨T.ZhY,_,_,T.Zt7.ok ZBH (fun vs H Q E h=>?_) (fun cdv A outer s H vs Q E hr h=>?_),T.Zmq,T.Zni⟩
 ·obtain ⟨⟨p,f,rfl,_⟩,_⟩ :=h
  rfl
 ·obtain ⟨⟨p,f,rfl,hf,hlow,hwt,q⟩,a,dx,fs,r,e,ea⟩ :=h
  cases e
  obtain ⟨b,rfl,rfl⟩ :=hf.sure T ea
  refine ⟨_,(Zad (Zam (Za8 Zaf))),?_⟩
  walk_at "rd0"
  exact ZeA (by simp) fun l H1 s1 n1 e1=>q l H1 s1 n1 (by simpa only [Zci,Zht,List.map_nil] using e1)
theorem ZDz (T:Txt K mg t) (D_lamps:∀ C,isFm t C→MeS P w K mg base n C "lamps" ["self"] (spAt (Zod t n) C)):MeS P w K mg base (n + 1) t.C_Not "lamps" ["self"] (spAt (Zod t (n + 1)) t.C_Not):=by
 refine ⟨T.c_Not,_,_,T.ZwF.ok ZDP (fun vs H Q E h=>?_) (fun cdv A outer s H vs Q E hr h=>?_),T.ZpV,T.Zqj⟩
 ·obtain ⟨⟨p,f,rfl,_⟩,_⟩ :=h
  rfl
 ·obtain ⟨⟨p,f,rfl,hf,hlow,hwt,q⟩,a,dx,fs,r,e,ea⟩ :=h
  cases e
  obtain ⟨g,p',rfl,rfl,hg⟩ :=hf.neg T ea
  simp only [Fm.low] at hlow
  simp only [fWt] at hwt
  obtain ⟨C,dx',fs',e',hC,hl⟩ :=hg.ins "lamps" (by decide +kernel) (by decide +kernel) (by decide +kernel) (by decide +kernel)
  refine ⟨_,(Zad (Zam (ZvF D_lamps hr (ZbR (pv 0) rfl)))),?_⟩
  walk_at "rd0"
  refine ⟨p,_,_,_,_,rfl,ea,T.c_Not,T.ZcN,lk1 _ _,?_⟩
  walk_at "rd"
  refine ⟨p',C,dx',fs',rfl,e',hC,hl,?_⟩
  walk_at "rd"
  refine ⟨e',p',g,rfl,hg,hlow,by omega,fun l H1 s1 n1 e1=>?_⟩
  exact q l H1 s1 n1 (by simpa only [Zci] using e1)
theorem Zhu {v:W3} (T:Txt K mg t) (cl:Cls K (cw t v)) (na:ZaB K (cw t v) "parts") (me:Meth K (cw t v) "lamps" t.ZaM) (D_lamps:∀ C,isFm t C→MeS P w K mg base n C "lamps" ["self"] (spAt (Zod t n) C)):MeS P w K mg base (n + 1) (cw t v) "lamps" ["self"] (spAt (Zod t (n + 1)) (cw t v)):=by
 refine ⟨cl,_,_,T.ZoR.ok ZhF (fun vs H Q E h=>?_) (fun cdv A outer s H vs Q E hr h=>?_),T.Zd9,me⟩
 ·obtain ⟨⟨p,f,rfl,_⟩,_⟩ :=h
  rfl
 ·obtain ⟨⟨p,f,rfl,hf,hlow,hwt,q⟩,a,dx,fs,r,e,ea⟩ :=h
  cases e
  obtain ⟨gs,tp,ps,rfl,rfl,htp,hg⟩ :=hf.join T ea
  rw [ZAx,List.all_eq_true] at hlow
  simp only [fWt] at hwt
  have hgl:=ZKp gs
  refine ⟨_,(Zac (ss 1 ZhF.nd (Za8 Zaf))
   (Zac (Zc4 PassesOwn.never rfl (Zc3 (ZbR (pv 0) rfl)) (sg 2 ZhF.nd)
   (Zad (Zcg (Zj0 PySem.F.plainAttrs_list PySem.F.slot_list_extend PySem.F.type_list_extend ZJk (pv 1) (Zaa (ZvF D_lamps hr (pv 2)) Zaf)))))
   (Zad (Zam (ZHz rfl rfl T.B.sorted rfl T.B.set (pv 1)))))),?_⟩
  walk_at "rd0"
  refine ZeA (by simp) fun fl H1 s1 n1 e1=>?_
  walk_at "rd"
  refine ⟨p,_,_,_,_,rfl,s1 _ _ ea,cl,na,lk1 _ _,?_⟩
  refine seqT (xs:=ps.map V.ref) (fun i σ H'=>Same H H'∧H' fl=some (.lst (Zht ((gs.take i).flatMap Zci)))∧∃ v2,σ=[some (.ref p),some (.ref fl),v2]) ⟨s1,e1,_,rfl⟩ (fun i σ H' _ hp=>by obtain ⟨s2,_⟩ :=hp; exact SqT.of (s2 _ _ htp)) ?_ ?_
  ·rintro i x σ H2 hx ⟨s2,e2,v2,rfl⟩
   obtain ⟨p',rfl,hx'⟩ :=ZeT hx
   obtain ⟨g,hgi,hf'⟩ :=Zbs hg hx'
   have hgm:=List.mem_of_getElem? hgi
   have hgw:=ZNb hgm
   have hf2:=FmAt.mono (Ext.of s2) hf'
   obtain ⟨C,dx',fs',e',hC,hl⟩ :=hf2.ins "lamps" (by decide +kernel) (by decide +kernel) (by decide +kernel) (by decide +kernel)
   walk_at "rd"
   refine ⟨tyL e2,?_⟩
   walk_at "rd"
   refine ⟨p',C,dx',fs',rfl,e',hC,hl,?_⟩
   walk_at "rd"
   refine ⟨e',p',g,rfl,hf2,hlow g hgm,by omega,fun l H3 s3 n3 e3=>?_⟩
   walk_at "rd"
   have l1:=ZGc (gs.take i)
   have l2:=Zsi g
   have l3:(gs.take i).length≤gs.length:=by rw [List.length_take]; omega
   refine ZK8 (s3 _ _ e2) e3 (by unfold Zht; rw [List.length_map,List.length_map]; omega) fun H4 b4 e4=>?_
   walk_at "rd"
   refine ⟨b4.same n1 (s2.trans s3),?_,_,rfl⟩
   rw [e4,ZbJ hgi,List.flatMap_append]
   unfold Zht
   rw [List.map_append]
   simp
  ·rintro σ H2 ⟨s2,e2,v2,rfl⟩
   rw [List.length_map,ZaY hg,List.take_length] at e2
   walk_at "rd"
   refine ZIW e2 (fun k hk=>?_) fun l H3 s3 n3 e3=>q l H3 (s2.trans s3) (s2.free n3) ?_
   ·obtain ⟨g,hgm,hk⟩ :=List.mem_flatMap.mp hk
    exact ZGv g (hlow g hgm) k hk
   ·rw [e3]
    simp only [Zci,ZxM,Zht]
theorem Zzu (T:Txt K mg t):∀ n:Nat,∀ C,isFm t C→MeS P w K mg base n C "lamps" ["self"] (spAt (Zod t n) C)
 | 0=>by
  have no:∀ C vs H Q E,¬ spAt (Zod t 0) C vs H Q E:=fun C vs H Q E h=>by
   obtain ⟨⟨p,f,_,h,_⟩,_⟩ :=h
   exact h
  rintro C (rfl | rfl | rfl | rfl | rfl | rfl)
  ·exact Zdp (no _) T.ZhR T.Zmm T.Znd
  ·exact Zdp (no _) T.ZhY T.Zmq T.Zni
  ·exact Zdp (no _) T.c_Not T.ZpV T.Zqj
  ·exact Zdp (no _) T.c_And T.Zd9 T.Zqe
  ·exact Zdp (no _) T.Zdq T.Zd9 T.Zje
  ·exact Zdp (no _) T.c_Or T.Zd9 T.Ztt
 | n + 1=>by
  have ih:=Zzu T n
  rintro C (rfl | rfl | rfl | rfl | rfl | rfl)
  ·exact ZBc T
  ·exact ZBg T
  ·exact ZDz T ih
  ·exact Zhu (v:=.a) T T.c_And T.Zct T.Zqe ih
  ·exact Zhu (v:=.e) T T.Zdq T.Zbi T.Zje ih
  ·exact Zhu (v:=.o) T T.c_Or T.Zdl T.Ztt ih
end
inductive Tr where
 | lamp (k:Nat)
 | sure (b:Bool)
 | neg (t:Tr)
 | wrap (t:Tr)
 | join (w:W3) (ts:List Tr)
mutual
def fmT (π:Nat→Nat):Tr→Fm
 | .lamp k=>.lamp (π k)
 | .sure b=>.sure b
 | .neg t=>.neg (fmT π t)
 | .wrap t=>fmT π t
 | .join w ts=>.join w (fmTL π ts)
def fmTL (π:Nat→Nat):List Tr→List Fm
 | []=>[]
 | t :: ts=>fmT π t :: fmTL π ts
end
def rkG (b:Bool):Tr→Nat
 | .wrap t=>if b=true then 0 else rkG b t
 | .join w _=>ZeG w
 | _=>0
def brW (b:Bool) (ws:List Str):List Str:=if b=true then "(" :: (ws ++ ([")"]:List Str)) else ws
def jnW (k:Str):List (List Str)→List Str
 | []=>[]
 | [p]=>p
 | p :: q :: r=>p ++ k :: jnW k (q :: r)
mutual
def wdG (b:Bool) (ns:List Str):Tr→List Str
 | .lamp k=>[ns.getD k Str.empty]
 | .sure c=>[if c=true then "yes" else "no"]
 | .neg t=>"not" :: brW (decide (1≤rkG b t)) (wdG b ns t)
 | .wrap t=>brW b (wdG b ns t)
 | .join w ts=>jnW (kw3 w) (wdGL b ns (ZeG w) ts)
def wdGL (b:Bool) (ns:List Str) (r:Nat):List Tr→List (List Str)
 | []=>[]
 | t :: ts=>brW (decide (r≤rkG b t)) (wdG b ns t) :: wdGL b ns r ts
end
mutual
def okT (m:Nat):Tr→Bool
 | .lamp k=>decide (k < m)
 | .sure _=>true
 | .neg t=>okT m t
 | .wrap t=>okT m t
 | .join _ ts=>decide (2≤ts.length) && okTL m ts
def okTL (m:Nat):List Tr→Bool
 | []=>true
 | t :: ts=>okT m t && okTL m ts
end
theorem ZGd (π:Nat→Nat):∀ ts:List Tr,(fmTL π ts).length=ts.length
 | []=>rfl
 | _ :: ts=>congrArg (· + 1) (ZGd π ts)
def ZOL (v:W3) (L:Lv):Prop:=L.nots=0∧L.lack=true∧(v ≠ .a→L.ands=[])∧(v=.o→L.eithers=[])
def cl0:W3→Lv→List Fm
 | .a,L=>L.ands
 | .e,L=>L.eithers
 | .o,L=>L.ors
def cl:W3→Lv→List Fm
 | .a,L=>L.ands
 | .e,L=>L.eithers ++ [Zc1 .a L.ands]
 | .o,L=>L.ors ++ [Zc1 .e (L.eithers ++ [Zc1 .a L.ands])]
def up3 (v:W3) (L L':Lv):Prop:=(v=.a→L'.eithers=L.eithers)∧(v ≠ .o→L'.ors=L.ors)
def D0 (ns:List Str) (ws:List Str) (f:Fm):Prop:=∀ (L:Lv) (R:List Lv),L.lack=true→runW ns (L :: R) ws=some (L.part f :: R)
def Pw (ns:List Str) (v:W3) (ws:List Str) (fs:List Fm):Prop:=∀ (L:Lv) (R:List Lv),ZOL v L→∃ L',runW ns (L :: R) ws=some (L' :: R)∧L'.lack=false∧L'.nots=0∧cl v L'=cl0 v L ++ fs∧up3 v L L'
def Ww (ns:List Str) (ws:List Str) (f:Fm):Prop:=∀ R:List Lv,∃ L',runW ns (Lv.new :: R) ws=some (L' :: R)∧L'.lack=false∧L'.whole=f
theorem D0.a {ns ws:List Str} {f:Fm} (h:D0 ns ws f):Pw ns .a ws [f]:=fun L R c=>⟨L.part f,h L R c.2.1,rfl,rfl,by show L.ands ++ [negs L.nots f]=_; rw [c.1]; rfl,fun _=>rfl,fun _=>rfl⟩
theorem Pw.ae {ns ws:List Str} {fs:List Fm} {f:Fm} (h:Pw ns .a ws fs) (e:Zc1 .a fs=f):Pw ns .e ws [f]:=fun L R c=>by
 obtain ⟨L',h1,h2,h3,h4,h5⟩ :=h L R ⟨c.1,c.2.1,fun z=>absurd rfl z,fun z=>nomatch z⟩
 have ha:L'.ands=fs:=by
  have:L'.ands=L.ands ++ fs:=h4
  rw [this,c.2.2.1 (by decide)]
  rfl
 refine ⟨L',h1,h2,h3,?_,(fun z=>nomatch z),fun z=>h5.2 (by decide)⟩
 show L'.eithers ++ [Zc1 .a L'.ands]=L.eithers ++ [f]
 rw [h5.1 rfl,ha,e]
theorem Pw.eo {ns ws:List Str} {fs:List Fm} {f:Fm} (h:Pw ns .e ws fs) (e:Zc1 .e fs=f):Pw ns .o ws [f]:=fun L R c=>by
 obtain ⟨L',h1,h2,h3,h4,h5⟩ :=h L R ⟨c.1,c.2.1,fun _=>c.2.2.1 (by decide),fun z=>nomatch z⟩
 have he:L'.eithers ++ [Zc1 .a L'.ands]=fs:=by
  have:L'.eithers ++ [Zc1 .a L'.ands]=L.eithers ++ fs:=h4
  rw [this,c.2.2.2 rfl]
  rfl
 refine ⟨L',h1,h2,h3,?_,(fun z=>nomatch z),fun z=>absurd rfl z⟩
 show L'.ors ++ [Zc1 .e (L'.eithers ++ [Zc1 .a L'.ands])]=L.ors ++ [f]
 rw [h5.2 (by decide),he,e]
theorem Pw.w {ns ws:List Str} {fs:List Fm} {f:Fm} (h:Pw ns .o ws fs) (e:Zc1 .o fs=f):Ww ns ws f:=fun R=>by
 obtain ⟨L',h1,h2,h3,h4,h5⟩ :=h Lv.new R ⟨rfl,rfl,fun _=>rfl,fun _=>rfl⟩
 refine ⟨L',h1,h2,?_⟩
 have:L'.ors ++ [Zc1 .e (L'.eithers ++ [Zc1 .a L'.ands])]=fs:=h4
 show Zc1 .o (L'.ors ++ [Zc1 .e (L'.eithers ++ [Zc1 .a L'.ands])])=f
 rw [this,e]
theorem ZNN (v:W3):ZHo (kw3 v)=some v:=by cases v <;> decide
theorem ZPt (v:W3):kw3 v ≠ "("∧kw3 v ≠ ")":=by cases v <;> decide
theorem ZKd {ns:List Str} {L:Lv} {R:List Lv} (v:W3) (h:L.lack=false):Zd6 ns (L :: R) (kw3 v)=some (L.join v :: R):=by
 have hw:L.word ns (kw3 v)=some (L.join v):=by
  unfold Lv.word
  rw [if_neg (by rw [h]; decide),ZNN]
  rfl
 have h1 : ¬ (kw3 v = "("∧L.lack=true):=fun y=>(ZPt v).1 y.1
 cases R with
 | nil=>simp only [Zd6]; rw [if_neg h1,hw]; rfl
 | cons M R=>simp only [Zd6]; rw [if_neg h1,if_neg fun y=>(ZPt v).2 y.1,hw]; rfl
theorem Zn1 {ns:List Str} {S S':List Lv} {z:Str} {r:List Str} (h:Zd6 ns S z=some S'):runW ns S (z :: r)=runW ns S' r:=by
 show (Zd6 ns S z).bind _=_
 rw [h]
 rfl
theorem Pw.join {ns:List Str} {v:W3}:∀ {txs:List (List Str)} {fs:List Fm},txs ≠ []→Paired (fun tx f=>Pw ns v tx [f]) txs fs→Pw ns v (jnW (kw3 v) txs) fs
 | [],_,n,_=>absurd rfl n
 | [tx],_,_,.cons h .nil=>h
 | tx :: ty :: r,f :: fs,_,.cons h t=>fun L R c=>by
  obtain ⟨L1,a1,a2,a3,a4,a5⟩ :=h L R c
  have ih:=Pw.join (txs:=ty :: r) (by simp) t
  have c1:ZOL v (L1.join v):=by
   refine ⟨?_,?_,fun hv=>?_,fun hv=>?_⟩
   ·cases v <;> exact a3
   ·cases v <;> rfl
   ·cases v
    ·exact absurd rfl hv
    ·rfl
    ·rfl
   ·subst hv; rfl
  have e0:cl0 v (L1.join v)=cl v L1:=by cases v <;> rfl
  obtain ⟨L2,b1,b2,b3,b4,b5⟩ :=ih (L1.join v) R c1
  refine ⟨L2,?_,b2,b3,?_,?_,?_⟩
  ·show runW ns (L :: R) (tx ++ kw3 v :: jnW (kw3 v) (ty :: r))=_
   rw [ZhC,a1]
   show runW ns (L1 :: R) (kw3 v :: jnW (kw3 v) (ty :: r))=_
   rw [Zn1 (ZKd v a2)]
   exact b1
  ·rw [b4,e0,a4,List.append_assoc]
   rfl
  ·intro hv
   subst hv
   exact (b5.1 rfl).trans (a5.1 rfl)
  ·intro hv
   refine (b5.2 hv).trans ?_
   have:(L1.join v).ors=L1.ors:=by
    cases v
    ·rfl
    ·rfl
    ·exact absurd rfl hv
   rw [this]
   exact a5.2 hv
theorem D0.br {ns ws:List Str} {f:Fm} (h:Ww ns ws f):D0 ns ("(" :: (ws ++ ([")"]:List Str))) f:=fun L R hl=>by
 obtain ⟨L',h1,h2,h3⟩ :=h (L :: R)
 have s1:Zd6 ns (L :: R) "(" = some (Lv.new :: L :: R):=by simp only [Zd6]; rw [if_pos ⟨trivial,hl⟩]
 rw [Zn1 s1,ZhC,h1]
 show runW ns (L' :: L :: R) [")"]=_
 have s2:Zd6 ns (L' :: L :: R) ")" = some (L.part L'.whole :: R):=by
  simp only [Zd6]
  rw [if_neg (by rintro ⟨y,_⟩; exact absurd y (by decide)),if_pos ⟨trivial,h2⟩]
 rw [Zn1 s2,h3]
 rfl
theorem D0.one {ns:List Str} {z:Str} {f:Fm} (h:Zoc ns z=some f) (h1:z ≠ "(") (h2:z ≠ ")") (h3:z ≠ "not"):D0 ns [z] f:=fun L R hl=>by
 have hw:L.word ns z=some (L.part f):=by
  unfold Lv.word
  rw [if_pos hl,if_neg h3,h]
  rfl
 have s1:Zd6 ns (L :: R) z=some (L.part f :: R):=by
  cases R with
  | nil=>simp only [Zd6]; rw [if_neg fun y=>h1 y.1,hw]; rfl
  | cons M R=>simp only [Zd6]; rw [if_neg fun y=>h1 y.1,if_neg fun y=>h2 y.1,hw]; rfl
 rw [Zn1 s1]
 rfl
theorem ZJl (n:Nat) (f:Fm):negs n (.neg f)=negs (n + 1) f:=by
 induction n with
 | zero=>rfl
 | succ n ih=>show Fm.neg (negs n (.neg f))=_; rw [ih]; rfl
theorem D0.not {ns ws:List Str} {f:Fm} (h:D0 ns ws f):D0 ns ("not" :: ws) (.neg f):=fun L R hl=>by
 have hw:L.word ns "not" = some ⟨L.nots + 1,L.ands,L.eithers,L.ors,L.lack⟩ :=by
  unfold Lv.word
  rw [if_pos hl,if_pos rfl]
 have s1:Zd6 ns (L :: R) "not" = some (⟨L.nots + 1,L.ands,L.eithers,L.ors,L.lack⟩ :: R):=by
  cases R with
  | nil=>simp only [Zd6]; rw [if_neg (by rintro ⟨y,_⟩; exact absurd y (by decide)),hw]; rfl
  | cons M R=>simp only [Zd6]; rw [if_neg (by rintro ⟨y,_⟩; exact absurd y (by decide)),if_neg (by rintro ⟨y,_⟩; exact absurd y (by decide)),hw]; rfl
 rw [Zn1 s1,h ⟨L.nots + 1,L.ands,L.eithers,L.ors,L.lack⟩ R hl]
 unfold Lv.part
 rw [ZJl]
structure GoodT (ns' ns:List Str) (π:Nat→Nat) (t:Tr):Prop where
 z:rkG true t=0→D0 ns' (wdG true ns t) (fmT π t)
 e:rkG true t≤1→Pw ns' .e (wdG true ns t) [fmT π t]
 o:rkG true t≤2→Pw ns' .o (wdG true ns t) [fmT π t]
 w:Ww ns' (wdG true ns t) (fmT π t)
theorem GoodT.of0 {ns' ns:List Str} {π:Nat→Nat} {t:Tr} (h:D0 ns' (wdG true ns t) (fmT π t)):GoodT ns' ns π t:=⟨fun _=>h,fun _=>h.a.ae rfl,fun _=>(h.a.ae rfl).eo rfl,((h.a.ae rfl).eo rfl).w rfl⟩
theorem GoodT.br0 {ns' ns:List Str} {π:Nat→Nat} {t:Tr} (g:GoodT ns' ns π t) {r:Nat} (h:r≤1):D0 ns' (brW (decide (r≤rkG true t)) (wdG true ns t)) (fmT π t):=by
 by_cases e:r≤rkG true t
 ·rw [decide_eq_true e]; exact D0.br g.w
 ·rw [decide_eq_false e]; exact g.z (by omega)
theorem GoodT.br1 {ns' ns:List Str} {π:Nat→Nat} {t:Tr} (g:GoodT ns' ns π t):Pw ns' .e (brW (decide (2≤rkG true t)) (wdG true ns t)) [fmT π t]:=by
 by_cases e:2≤rkG true t
 ·rw [decide_eq_true e]; exact (D0.br g.w).a.ae rfl
 ·rw [decide_eq_false e]; exact g.e (by omega)
theorem GoodT.br2 {ns' ns:List Str} {π:Nat→Nat} {t:Tr} (g:GoodT ns' ns π t):Pw ns' .o (brW (decide (3≤rkG true t)) (wdG true ns t)) [fmT π t]:=by
 by_cases e:3≤rkG true t
 ·rw [decide_eq_true e]; exact ((D0.br g.w).a.ae rfl).eo rfl
 ·rw [decide_eq_false e]; exact g.o (by omega)
structure NmsOk (ns' ns:List Str) (π:Nat→Nat) (m:Nat):Prop where
 at':∀ k,k < m→idxS (ns.getD k Str.empty) ns'=some (π k)
 no:∀ k,k < m→ns.getD k Str.empty ∉ (["yes","no","not","(",")"]:List Str)
mutual
theorem Zwl {ns' ns:List Str} {π:Nat→Nat} {m:Nat} (N:NmsOk ns' ns π m):∀ t:Tr,okT m t=true→GoodT ns' ns π t
 | .lamp k,h=>by
  have hk:k < m:=by simpa [okT] using h
  have no:=N.no k hk
  simp only [List.mem_cons,List.not_mem_nil,or_false,not_or] at no
  refine .of0 ?_
  show D0 ns' [ns.getD k Str.empty] (.lamp (π k))
  refine D0.one ?_ no.2.2.2.1 no.2.2.2.2 no.2.2.1
  unfold Zoc
  rw [if_neg no.1,if_neg no.2.1,N.at' k hk]
  rfl
 | .sure b,_=>by
  refine .of0 ?_
  cases b
  ·exact D0.one (z:="no") (by unfold Zoc; rw [if_neg (by decide),if_pos rfl]; rfl) (by decide) (by decide) (by decide)
  ·exact D0.one (z:="yes") (by unfold Zoc; rw [if_pos rfl]; rfl) (by decide) (by decide) (by decide)
 | .neg t,h=>.of0 (D0.not ((Zwl N t (by simpa [okT] using h)).br0 (Nat.le_refl 1)))
 | .wrap t,h=>.of0 (D0.br (Zwl N t (by simpa [okT] using h)).w)
 | .join v ts,h=>by
  simp only [okT,Bool.and_eq_true,decide_eq_true_iff] at h
  have gl:=ZCK N ts h.2
  have ne:∀ r,wdGL true ns r ts ≠ []:=fun r=>by
   cases ts with
   | nil=>simp at h
   | cons _ _=>simp [wdGL]
  have jl:∀ v,Zc1 v (fmTL π ts)=.join v (fmTL π ts):=fun v=>ZrZ (by rw [ZGd]; omega)
  cases v with
  | a=>
   have p:=Pw.join (v:=.a) (ne 1) (gl.1)
   exact ⟨(fun z:(1:Nat)=0=>nomatch z),fun _=>p.ae (jl .a),fun _=>(p.ae (jl .a)).eo rfl,((p.ae (jl .a)).eo rfl).w rfl⟩
  | e=>
   have p:=Pw.join (v:=.e) (ne 2) (gl.2.1)
   exact ⟨(fun z:(2:Nat)=0=>nomatch z),(fun z:(2:Nat)≤1=>absurd z (by decide)),fun _=>p.eo (jl .e),(p.eo (jl .e)).w rfl⟩
  | o=>
   have p:=Pw.join (v:=.o) (ne 3) (gl.2.2)
   exact ⟨(fun z:(3:Nat)=0=>nomatch z),(fun z:(3:Nat)≤1=>absurd z (by decide)),(fun z:(3:Nat)≤2=>absurd z (by decide)),p.w (jl .o)⟩
theorem ZCK {ns' ns:List Str} {π:Nat→Nat} {m:Nat} (N:NmsOk ns' ns π m):∀ ts:List Tr,okTL m ts=true→Paired (fun tx f=>Pw ns' .a tx [f]) (wdGL true ns 1 ts) (fmTL π ts)∧Paired (fun tx f=>Pw ns' .e tx [f]) (wdGL true ns 2 ts) (fmTL π ts)∧Paired (fun tx f=>Pw ns' .o tx [f]) (wdGL true ns 3 ts) (fmTL π ts)
 | [],_=>⟨.nil,.nil,.nil⟩
 | t :: ts,h=>by
  simp only [okTL,Bool.and_eq_true] at h
  have g:=Zwl N t h.1
  have r:=ZCK N ts h.2
  exact ⟨.cons (g.br0 (Nat.le_refl 1)).a r.1,.cons g.br1 r.2.1,.cons g.br2 r.2.2⟩
end
theorem ZsW {ns' ns:List Str} {π:Nat→Nat} {m:Nat} (N:NmsOk ns' ns π m) {t:Tr} (h:okT m t=true):Zzb ns' (wdG true ns t)=some (fmT π t):=by
 obtain ⟨L',h1,h2,h3⟩ :=(Zwl N t h).w []
 unfold Zzb
 rw [h1]
 show (some L').bind endF=_
 show endF L'=_
 unfold endF
 rw [if_neg (by rw [h2]; decide),h3]
def ZCW:Tr→Str
 | .lamp _=>"lamp"
 | .sure _=>"sure"
 | .neg _=>"not"
 | .wrap _=>"wrap"
 | .join v _=>kw3 v
def anyA:Addr→Prop:=fun _=>True
def TwAt (S:Addr→Prop) (H:Hp):Nat→Addr→Tr→Prop
 | 0,_,_=>False
 | n + 1,p,t=>match t with
  | .lamp k=>H p=some (.tup [.str "lamp",.int (k:Int)])
  | .sure b=>H p=some (.tup [.str "sure",.bl b])
  | .neg g=>∃ l q,H p=some (.tup [.str "not",.ref l])∧S l∧H l=some (.lst [.ref q])∧TwAt S H n q g
  | .wrap g=>∃ l q,H p=some (.tup [.str "wrap",.ref l])∧S l∧H l=some (.lst [.ref q])∧TwAt S H n q g
  | .join v gs=>∃ l ps,H p=some (.tup [.str (kw3 v),.ref l])∧S l∧H l=some (.lst (ps.map V.ref))∧Paired (TwAt S H n) ps gs
theorem TwAt.imp {S S':Addr→Prop} {H H':Hp} (ht:∀ p xs,H p=some (.tup xs)→H' p=some (.tup xs)) (hl:∀ l xs,S l→H l=some (.lst xs)→S' l∧H' l=some (.lst xs)):∀ {n:Nat} {p:Addr} {f:Tr},TwAt S H n p f→TwAt S' H' n p f
 | 0,_,_,h=>h
 | n + 1,p,f,h=>by
  cases f with
  | lamp k=>exact ht _ _ h
  | sure b=>exact ht _ _ h
  | neg g=>obtain ⟨l,q,e,sl,e2,h⟩ :=h; exact ⟨l,q,ht _ _ e,(hl _ _ sl e2).1,(hl _ _ sl e2).2,TwAt.imp ht hl h⟩
  | wrap g=>obtain ⟨l,q,e,sl,e2,h⟩ :=h; exact ⟨l,q,ht _ _ e,(hl _ _ sl e2).1,(hl _ _ sl e2).2,TwAt.imp ht hl h⟩
  | join w gs=>obtain ⟨l,ps,e,sl,e2,h⟩ :=h; exact ⟨l,ps,ht _ _ e,(hl _ _ sl e2).1,(hl _ _ sl e2).2,ZaR (fun a b h=>TwAt.imp ht hl h) h⟩
theorem TwAt.same {S:Addr→Prop} {H H':Hp} (s:Same H H') {n:Nat} {p:Addr} {f:Tr} (h:TwAt S H n p f):TwAt S H' n p f:=h.imp (fun _ _ e=>s _ _ e) fun _ _ z e=>⟨z,s _ _ e⟩
theorem TwAt.any {S:Addr→Prop} {H:Hp} {n:Nat} {p:Addr} {f:Tr} (h:TwAt S H n p f):TwAt anyA H n p f:=h.imp (fun _ _ e=>e) fun _ _ _ e=>⟨trivial,e⟩
theorem TwAt.le {S:Addr→Prop} {H:Hp}:∀ {n m:Nat} {p:Addr} {f:Tr},n≤m→TwAt S H n p f→TwAt S H m p f
 | 0,_,_,_,_,h=>h.elim
 | n + 1,0,_,_,hm,_=>absurd hm (by omega)
 | n + 1,m + 1,p,f,hm,h=>by
  have hm':n≤m:=by omega
  cases f with
  | lamp k=>exact h
  | sure b=>exact h
  | neg g=>obtain ⟨l,q,e,sl,e2,h⟩ :=h; exact ⟨l,q,e,sl,e2,TwAt.le hm' h⟩
  | wrap g=>obtain ⟨l,q,e,sl,e2,h⟩ :=h; exact ⟨l,q,e,sl,e2,TwAt.le hm' h⟩
  | join w gs=>obtain ⟨l,ps,e,sl,e2,h⟩ :=h; exact ⟨l,ps,e,sl,e2,ZaR (fun a b h=>TwAt.le hm' h) h⟩
theorem TwAt.kind {S:Addr→Prop} {H:Hp} {n:Nat} {p:Addr} {f:Tr} (h:TwAt S H n p f):∃ v,H p=some (.tup [.str (ZCW f),v]):=by
 cases n with
 | zero=>exact h.elim
 | succ n=>
  cases f with
  | lamp k=>exact ⟨_,h⟩
  | sure b=>exact ⟨_,h⟩
  | neg g=>obtain ⟨l,q,e,_⟩ :=h; exact ⟨_,e⟩
  | wrap g=>obtain ⟨l,q,e,_⟩ :=h; exact ⟨_,e⟩
  | join w gs=>obtain ⟨l,ps,e,_⟩ :=h; exact ⟨_,e⟩
mutual
def nT:Tr→Nat
 | .lamp _=>1
 | .sure _=>1
 | .neg t=>1 + nT t
 | .wrap t=>1 + nT t
 | .join _ ts=>1 + nTL ts
def nTL:List Tr→Nat
 | []=>0
 | t :: ts=>nT t + nTL ts
end
theorem ZjP:∀ a b:List Tr,nTL (a ++ b)=nTL a + nTL b
 | [],b=>by simp [nTL]
 | t :: a,b=>by
  show nT t + nTL (a ++ b)=nT t + nTL a + nTL b
  rw [ZjP a b]
  omega
theorem ZnI (t:Tr):nTL [t]=nT t:=by simp [nTL]
theorem ZoB (m:Nat):∀ ts:List Tr,okTL m ts=ts.all (okT m)
 | []=>rfl
 | t :: ts=>by
  show (okT m t && okTL m ts)=(okT m t && ts.all (okT m))
  rw [ZoB m ts]
def rkK:Tr→Nat
 | .join v _=>ZeG v
 | _=>0
theorem ZJ6 {α:Type} {l:List α} (h:l ≠ []):∃ a x,l=a ++ [x]:=⟨l.dropLast,l.getLast h,(List.dropLast_concat_getLast h).symm⟩
theorem ZNr {cs:List Int} {i:Nat} {x:V} (h:(cs.map V.int)[i]?=some x):∃ c,x=.int c∧cs[i]?=some c:=by
 rw [List.getElem?_map] at h
 obtain ⟨c,hc,rfl⟩ :=Option.map_eq_some_iff.mp h
 exact ⟨c,rfl,hc⟩
def w3of (i:Nat):W3:=if i=0 then .a else if i=1 then .e else .o
theorem ZNa {i:Nat} (h:i < 3):([.str "and",.str "either",.str "or"]:List V)[i]?=some (.str (kw3 (w3of i))):=by
 rcases (show i=0∨i=1∨i=2 by omega) with rfl | rfl | rfl <;> rfl
section
variable {P:Program} {w:World} {K:PySem.W.Frag} {mg:Str→Option Value} {base:Heap} {t:Ad} {n:Nat}
theorem ZIK {td ty tx:TE} {σ:St} {H:Hp} {Q:VK} (h:td σ H fun x H1=>∃ a,x=.ref a∧IsD H1 a∧ty σ H1 fun y H2=>tx σ H2 fun z H3=>∃ o,DGet H3 a y o∧Q (o.getD z) H3):ZM7 td ty tx σ H Q:=h
theorem ZMp {trs:List (TE × TE)} {σ:St} {H:Hp} {Q:VK} (h:∀ p,H p=none→ZzP trs σ (upd H p (.dK [])) fun ps H2=>H2 p=some (.dK [])∧∃ kvs:List (Key × V),ps=kvs.map (fun kv=>(kV kv.1,kv.2))∧kvs.length≤15∧Q (.ref p) (upd H2 p (.dK (ZnH [] kvs)))):ZQd trs σ H Q:=h
seal PE PA PS PSs
def ZKa:Sp:=fun vs H Q _=>∃ (p:Addr) (b:Bool) (S:Addr→Prop) (n:Nat) (tr:Tr),vs=[.ref p,.bl b]∧TwAt S H n p tr∧∀ H',Same H H'→Q (.int (rkG b tr:Int)) H'
theorem ZFh (T:Txt K mg t):FnS P w K mg base 1 "_law_rank" ["_law_tree_here","_law_wraps"] (ZKa):=by
 refine ⟨_,_,T.ZpE.ok ZvX (fun vs H Q E h=>?_) (fun cdv A outer s H vs Q E hr h=>?_),T.ZwS,T.ZpE.kp,T.ZxX⟩
 ·obtain ⟨p,b,S,n,tr,rfl,hT,q⟩ :=h
  rfl
 obtain ⟨p,b,S,n,tr,rfl,hT,q⟩ :=h
 refine ⟨_,(Zac (ZGN PassesOwn.never (PW.pt (Zgt (Zah (ZaC hr.units) (ZaG Zar (pv 0) Zae (fun _ _=>rfl)) Zal (Zap _)) (Zfw (ZnY (Zbg (pv 1) (fun _=>rfl))))))
   (Zad (ss 0 ZvX.nd (ZaG Zar (ZaG Zar (pv 0) Zae (fun _ _=>rfl)) Zae (fun _ _=>rfl)))))
   (Zad (Zam (Zwt (Nat.lt_of_le_of_lt (Nat.add_le_add_left (by decide) _) hr.units) (ZBk (Zdd Zal Zae (Zdd Zal Zae (Zdd Zal Zae ZBq))) rfl rfl (List.cons_ne_nil _ _) (Nat.le_of_ble_eq_true rfl)) (ZaG Zar (pv 0) Zae (fun _ _=>rfl)) Zae ⟨rfl,rfl,rfl,rfl⟩)))),?_⟩
 walk_at "rs0"
 refine ZrY (fun σ H'=>H=H'∧∃ p' t' v,H p'=some (.tup [.str (ZCW t'),v])∧rkK t'=rkG b tr∧σ=[some (.ref p'),some (.bl b)]) ?_ ?_
 rotate_left
 ·intro Kn hK
  refine ⟨fun mm σ H'=>H=H'∧∃ p' t',TwAt S H mm p' t'∧rkG b t'=rkG b tr∧σ=[some (.ref p'),some (.bl b)],⟨n,rfl,p,tr,hT,rfl,rfl⟩,?_⟩
  rintro mm σ H' ⟨rfl,p',t',h',e',rfl⟩
  obtain ⟨v,ek⟩ :=h'.kind
  walk_at "rd"
  refine ZbE ek (v:=.str (ZCW t')) rfl ?_
  walk_at "rd"
  have out:(∀ g,t'=.wrap g→b=true)→Kn [some (.ref p'),some (.bl b)] H:=fun hw=>by
   refine hK _ _ ⟨rfl,p',t',v,ek,?_,rfl⟩
   rw [← e']
   cases t' with
   | wrap g=>rw [hw g rfl]; rfl
   | _=>rfl
  cases t' with
  | wrap g=>
   refine ZcG rfl ?_
   walk_at "rd"
   cases b with
   | true=>
    refine ZaP rfl ?_
    exact out fun _ _=>rfl
   | false=>
    refine ZcG rfl ?_
    cases mm with
    | zero=>exact h'.elim
    | succ mm=>
     obtain ⟨l,q',e1,sl,e2,hq⟩ :=h'
     refine ⟨_,fun σ' H'' z=>z,?_⟩
     walk_at "rd"
     refine ZbE e1 (v:=.ref l) rfl ?_
     walk_at "rd"
     refine ZlU (j:=0) e2 (v:=.ref q') rfl ?_
     walk_at "rd"
     exact ⟨mm,Nat.lt_succ_self _,rfl,q',g,hq,e',rfl⟩
  | lamp k=>exact ZaP rfl (ZaP rfl (out fun g z=>nomatch z))
  | sure k=>exact ZaP rfl (ZaP rfl (out fun g z=>nomatch z))
  | neg k=>exact ZaP rfl (ZaP rfl (out fun g z=>nomatch z))
  | join u gs=>exact ZaP (by cases u <;> rfl) (ZaP rfl (out fun g z=>nomatch z))
 rintro σ H' ⟨rfl,p',t',v,ek,er,rfl⟩
 walk_at "rd"
 refine ZIK ?_
 refine ZMp fun d hd=>?_
 simp only [ZzP]
 walk_at "rd"
 refine ⟨ZaV,[(Sum.inr "and",.int 1),(Sum.inr "either",.int 2),(Sum.inr "or",.int 3)],rfl,by decide,d,rfl,.inl ⟨_,.inl ZaV⟩,?_⟩
 walk_at "rd"
 have ek':(upd (upd H d (.dK [])) d (.dK (ZnH [] [(Sum.inr "and",V.int 1),(Sum.inr "either",.int 2),(Sum.inr "or",.int 3)]))) p'=some (.tup [.str (ZCW t'),v]):=by
  have hbd:p' ≠ d:=Zat ek hd
  rw [ZbG hbd,ZbG hbd]
  exact ek
 refine ZbE ek' (v:=.str (ZCW t')) rfl ?_
 walk_at "rd"
 refine ⟨_,DGet.k (k:=Sum.inr (ZCW t')) ZaV,?_⟩
 have e:(valV (ZnH [] [(Sum.inr "and",V.int 1),(Sum.inr "either",.int 2),(Sum.inr "or",.int 3)]) (Sum.inr (ZCW t'):Key)).getD (.int 0)=.int (rkK t':Int):=by
  cases t' with
  | lamp k=>rfl
  | sure b=>rfl
  | neg g=>rfl
  | wrap g=>rfl
  | join w gs=>cases w <;> rfl
 rw [e,er]
 refine q _ fun b u hb=>?_
 have hbd:b ≠ d:=Zat hb hd
 rw [ZbG hbd,ZbG hbd]
 exact hb
unseal PE PA PS PSs
def EnAt (S:Addr→Prop) (H:Hp) (n:Nat) (x:Addr) (tr:Tr):Prop:=∃ (p:Addr) (o k:Int),H x=some (.tup [.ref p,.int o,.int k])∧TwAt S H n p tr
theorem EnAt.imp {S S':Addr→Prop} {H H':Hp} (ht:∀ p xs,H p=some (.tup xs)→H' p=some (.tup xs)) (hl:∀ l xs,S l→H l=some (.lst xs)→S' l∧H' l=some (.lst xs)) {n m:Nat} (hm:n≤m) {x:Addr} {f:Tr} (h:EnAt S H n x f):EnAt S' H' m x f:=by
 obtain ⟨p,o,k,h1,h2⟩ :=h
 exact ⟨p,o,k,ht _ _ h1,(h2.imp ht hl).le hm⟩
def ZLT:Sp:=fun vs H Q _=>∃ (x:Addr) (i:Int) (S:Addr→Prop) (n:Nat) (tr:Tr),vs=[.ref x,.int i]∧EnAt S H n x tr∧∀ (M:Int) H',Same H H'→Q (.int M) H'
theorem ZJx (T:Txt K mg t):FnS P w K mg base 2 "_law_opened" ["_law_entry","_law_bind"] (ZLT):=by
 refine ⟨_,_,T.Zj4.ok Zzg (fun vs H Q E h=>?_) (fun cdv A outer s H vs Q E hr h=>?_),T.Zra,T.Zj4.kp,T.Zsm⟩
 ·obtain ⟨x,i,S,n,tr,rfl,hE,q⟩ :=h
  rfl
 obtain ⟨x,i,S,n,tr,rfl,hE,q⟩ :=h
 have Zer:=ZFh (P:=P) (w:=w) (base:=base) T
 obtain ⟨p,o,k,h1,h2⟩ :=hE
 refine ⟨_,(Zad (Zam (Zau ZaQ (ZaG Zar (pv 0) Zae (fun _ _=>rfl)) (Zco ZeM rfl T.B.int Zmu (Zaa (Zyk ZJA (Zbv Zer hr (Zaa (ZaG Zar (pv 0) Zae (fun _ _=>rfl)) (Zaa ZjZ Zaf))) (pv 1) (Zap _)) Zaf))))),?_⟩
 walk_at "rd0"
 refine ZbE h1 (v:=.int o) rfl ?_
 walk_at "rd"
 refine ZbE h1 (v:=.ref p) rfl ?_
 walk_at "rd"
 refine ⟨p,true,S,n,tr,rfl,h2,fun H1 s1=>?_⟩
 walk_at "rd"
 exact q _ H1 s1
def ZM4:Sp:=fun vs H Q _=>∃ (pl:Addr) (kd mo ms nt:Int) (es:List Addr) (ts:List Tr) (n m:Nat),vs=[.ref pl,.int kd,.int mo,.int ms,.int nt]∧H pl=some (.lst (es.map V.ref))∧Paired (EnAt (· ≠ pl) H n) es ts∧4≤kd∧kd≤8∧0 < es.length∧(4 < kd→kd < 8→1 < es.length)∧es.length≤100∧(∀ tr ∈ ts,okT m tr=true)∧
 ∀ (a:Addr) (es':List Addr) (ts':List Tr) H',Same H H'→(a=pl∨H a=none)→H' a=some (.lst (es'.map V.ref))→Paired (EnAt (· ≠ a) H' (n + 1)) es' ts'→(∀ tr ∈ ts',okT m tr=true)→nTL ts'≤nTL ts + 1→es'.length≤es.length→Q (.ref a) H'
theorem ZN2 (T:Txt K mg t):FnS P w K mg base 3 "_law_over" ["_law_pile","_law_kind","_law_more","_law_most","_law_nots"] (ZM4):=by
 refine ⟨_,_,T.ZpD.ok Zcp (fun vs H Q E h=>?_) (fun cdv A outer s H vs Q E hr h=>?_),T.ZwR,T.ZpD.kp,T.ZxW⟩
 ·obtain ⟨pl,kd,mo,ms,nt,es,ts,n,m,rfl,hp,hE,k4,k8,h0,h1,h100,hok,q⟩ :=h
  rfl
 obtain ⟨pl,kd,mo,ms,nt,es,ts,n,m,rfl,hp,hE,k4,k8,h0,h1,h100,hok,q⟩ :=h
 have Zer:=ZFh (P:=P) (w:=w) (base:=base) T
 have ZzV:=ZJx (P:=P) (w:=w) (base:=base) T
 have hgl:=ZaY hE
 have hlen:(es.map V.ref).length=es.length:=List.length_map _
 obtain ⟨es0,el,rfl⟩ :=ZJ6 (l:=es) (fun e=>by rw [e] at h0; exact absurd h0 (by decide))
 obtain ⟨ts0,tl,rfl⟩ :=ZJ6 (l:=ts) (fun e=>by rw [e] at hgl; simp at hgl)
 obtain ⟨E0,pt,po,pk,ht1,ht2⟩ :=ZFl hE
 have hp':=hp
 rw [List.map_append,List.map_cons,List.map_nil] at hp'
 have hl0:(es0 ++ [el]).length=es0.length + 1:=by simp
 have keep:∀ H',Same H H'→Q (.ref pl) H':=fun H' s=>q pl _ _ H' s (.inl rfl) (s _ _ hp) (ZaR (fun _ _ h=>h.imp (fun _ _ e=>s _ _ e) (fun _ _ z e=>⟨z,s _ _ e⟩) (Nat.le_succ _)) hE) hok (Nat.le_succ _) (Nat.le_refl _)
 have cut:∀ c,nTL (ts0 ++ [tl])=nTL ((ts0 ++ [tl]).take c) + nTL ((ts0 ++ [tl]).drop c):=fun c=>by rw [← ZjP,List.take_append_drop]
 have cl:(ts0 ++ [tl]).take ts0.length=ts0∧(ts0 ++ [tl]).drop ts0.length=[tl]:=⟨List.take_left,List.drop_left⟩
 have z0:es0.length=ts0.length:=ZaY E0
 have tl1:=hok tl (by simp)
 refine ⟨_,(Zac (ZaI (PW.pt (Zqy (Zah (ZaC hr.units) (pv 1) Zae (Zap _)) (Zj2 (Zah (ZaC hr.units) (pv 1) Zae (Zap _)))))
   (Zac (ss 5 Zcp.nd (ZaG Zar (pv 0) (ZJL ZEb Zae) (fun _ _=>rfl)))
   (Zac (ZaI (Zah (ZaC hr.units) (pv 1) Zae (Zap _))
   (Zad (ss 6 Zcp.nd (Zhy (Zaa (Zhy (Zaa Zal (Zaa (Za8 (Zaa (ZaG Zar (pv 5) Zae (fun _ _=>rfl)) Zaf)) Zaf))) (Zaa (Zau ZaQ (ZaG Zar (pv 5) Zae (fun _ _=>rfl)) Zae) (Zaa Zae Zaf))))))
   (Zad (ZaI (Zah ZBj (Zbv Zer hr (Zaa (ZaG Zar (pv 5) Zae (fun _ _=>rfl)) (Zaa ZjZ Zaf))) Zae (Zap _))
   (Zad (ss 6 Zcp.nd (Zhy (Zaa (Zhy (Zaa Zal (Zaa (Za8 (Zaa (ZaG Zar (pv 5) Zae (fun _ _=>rfl)) Zaf)) Zaf))) (Zaa (Zau ZaQ (ZaG Zar (pv 5) Zae (fun _ _=>rfl)) Zae) (Zaa Zae Zaf))))))
   (Zad (ss 6 Zcp.nd (Zhy (Zaa (Zhy (Zaa Zal (Zaa (Za8 (Zaa (ZaG Zar (pv 5) Zae (fun _ _=>rfl)) Zaf)) Zaf))) (Zaa (ZaG Zar (pv 5) Zae (fun _ _=>rfl)) (Zaa (Zau ZaQ (ZaG Zar (pv 5) Zae (fun _ _=>rfl)) Zae) Zaf)))))))))
   (Zad (ss 7 Zcp.nd (Zau Zhw (Zax Zb9 rfl T.B.len ZgR (Zaa (pv 0) Zaf)) Zae)))))
   (Zac (ss 7 Zcp.nd (Zau Zhw (Zax Zb9 rfl T.B.len ZgR (Zaa (pv 0) Zaf)) (Zax (ZIg rfl) rfl T.B.min ZOJ (Zaa (Zax Zb9 rfl T.B.len ZgR (Zaa (pv 0) Zaf)) (Zaa (Zau ZaQ Zae (Zau Zcc (pv 2) Zae)) Zaf)))))
   (Zac (ss 8 Zcp.nd (Zax (ZIe rfl) rfl T.B.max ZMg (Zaa (Zhx (sc:=Zab ZbH) (N:=["_law_pile","_law_kind","_law_more","_law_most","_law_nots","_law_top","_law_made","_law_left","_law_opened_here"]) (ns:=["_law_kind"]) (ix:=[1]) rfl rfl (by decide +kernel) rfl (Zc3 (Zeq ZlR (pv 0) (Zfh (pv 7)) Zjk)) (fun _ _ _ _=>ZFq) (fun _ _ _ _=>(Zbv ZzV hr (Zaa (pv 0) (Zaa (Zau Zhw (pv 1) Zae) Zaf))))) Zaf)))
   (Zad (ss 6 Zcp.nd (Zhy (Zaa (Zhy (Zaa (ZaG Zar (Za8 (Zaa Zal (Zaa Zal (Zaa Zal Zaf)))) (Zau Zhw (pv 1) Zae) (fun _ _=>rfl)) (Zaa (Zhx (sc:=Zab ZbH) (N:=["_law_pile","_law_kind","_law_more","_law_most","_law_nots","_law_top","_law_made","_law_left","_law_opened_here"]) (ns:=[]) (ix:=[]) rfl rfl (by decide +kernel) rfl (Zc3 (Zeq ZlR (pv 0) (Zfh (pv 7)) Zjk)) (fun _ _ _ _=>ZFq) (fun _ _ _ _=>(ZaG (ZtA (K:=K) rfl) (pv 0) Zae (fun _ _=>rfl)))) Zaf))) (Zaa (pv 8) (Zaa Zae Zaf)))))))))
   (Zac (ZaI (PW.pt (Zqy (Zah ZBj (ZaG Zar (pv 6) Zae (fun _ _=>rfl)) (pv 3) (Zap _)) (Zj2 (Zah ZBj (ZaG Zar (pv 6) Zae (fun _ _=>rfl)) (pv 4) (Zap _)))))
   (Zad (Zam (pv 0)))
   Zaq)
   (Zad (Zam (Zau ZaQ (Zeq ZlR (pv 0) Zjk (Zfh (pv 7))) (Za8 (Zaa (pv 6) Zaf))))))),?_⟩
 walk_at "rs0"
 refine ZrY (fun σ H'=>∃ (y r:Addr) (o k:Int) (tr:Tr) (c:Nat) (v5 v8:Option V),Same H H'∧H' y=some (.tup [.ref r,.int o,.int k])∧TwAt (fun l=>H' l ≠ none) H' (n + 1) r tr∧okT m tr=true∧c≤es0.length∧nTL ((ts0 ++ [tl]).take c) + nT tr≤nTL (ts0 ++ [tl]) + 1∧σ=[some (.ref pl),some (.int kd),some (.int mo),some (.int ms),some (.int nt),v5,some (.ref y),some (.int (c:Int)),v8]) ?_ ?_
 rotate_left
 ·intro Kn hK
  refine (fun (key:(kd=4∨kd=8)→?G)=>?main) ?key
  case main=>
   walk_at "rs"
   refine Zd3 (fun h1'=>?_) (fun h1'=>?_)
   ·refine ZcG rfl ?_
    exact key (.inl h1')
   ·walk_at "rs"
    refine Zd3 (fun h2'=>?_) (fun h2'=>?_)
    ·exact key (.inr h2')
    ·have hj:=h1 (by omega) (by omega)
     obtain ⟨c,hc,hc2⟩ : ∃ c:Nat,((es0.length + 1:Nat):Int) - min ((es0.length + 1:Nat):Int) (2 + mo % 3)=(c:Int)∧c + 2≤es0.length + 1:=⟨(((es0.length + 1:Nat):Int) - min ((es0.length + 1:Nat):Int) (2 + mo % 3)).toNat,by omega,by omega⟩
     obtain ⟨j,hj',hj3⟩ : ∃ j:Nat,kd - 5=(j:Int)∧j < 3:=⟨(kd - 5).toNat,by omega,by omega⟩
     have hlen2:(List.map V.ref es0 ++ [V.ref el]).length=es0.length + 1:=by simp
     walk_at "rd"
     rw [hlen2,hc]
     refine .inl (j_sl (SqL.of hp) (ZAa (by rw [hlen]; omega)) fun a2 H3 s3 n3 e3=>?_)
     rw [← List.map_drop] at e3
     have E3:Paired (EnAt (fun l=>H3 l ≠ none) H3 n) ((es0 ++ [el]).drop c) ((ts0 ++ [tl]).drop c):=Zqw c (ZaR (fun _ _ h=>h.imp (fun _ _ e=>s3 _ _ e) (fun l xs _ e=>⟨by show H3 l ≠ none; rw [s3 _ _ e]; simp,s3 _ _ e⟩) (Nat.le_refl _)) hE)
     have ld:((es0 ++ [el]).drop c).length=es0.length + 1 - c:=by rw [List.length_drop,hl0]
     refine .inl ⟨a2,_,rfl,SqL.of e3,?_⟩
     refine Ztj (fun i ys=>∃ zs:List Int,ys=zs.map V.int∧zs.length=i) (ZB5 (SqL.of e3)) (by rw [List.length_map]; omega) ⟨[],rfl,rfl⟩ ?_ ?_
     ·rintro i x ys acc H' hx s1 hacc ea ⟨zs,rfl,hz⟩ _ R kk
      obtain ⟨xa,rfl,hxa⟩ :=ZeT hx
      obtain ⟨tr,htr,hen⟩ :=Zbs E3 hxa
      simp only [subS,List.map_cons,List.map_nil]
      walk_at "rd"
      refine kk _ H' (Same.refl _) (fun z=>nomatch z) fun z R2 k2=>?_
      walk_at "rd"
      refine ⟨xa,_,_,n,tr,rfl,hen.imp (fun _ _ e=>s1 _ _ e) (fun l xs z e=>⟨z,s1 _ _ e⟩) (Nat.le_refl _),fun M H4 s4=>?_⟩
      exact k2 _ H4 s4 ⟨zs ++ [M],by rw [List.map_append]; rfl,by rw [List.length_append,List.length_singleton,hz]⟩
     rintro acc ys H4 n4 s4 e4 ⟨zs,rfl,hz⟩
     rw [List.length_map,ld] at hz
     walk_at "rd"
     refine ⟨acc,zs,rfl,SqL.of e4,by omega,fun M=>?_⟩
     walk_at "rd"
     refine ZeA (by simp) fun wl H5 s5 n5 e5=>?_
     walk_at "rd"
     rw [hj']
     refine ZlU e5 (ZNa hj3) ?_
     walk_at "rd"
     refine .inl (j_sl (SqL.of (s5 _ _ (s4 _ _ (s3 _ _ hp)))) (ZAa (by rw [hlen]; omega)) fun a3 H6 s6 n6 e6=>?_)
     rw [← List.map_drop] at e6
     have s36:=s4.trans (s5.trans s6)
     have E6:Paired (EnAt (fun l=>H6 l ≠ none) H6 n) ((es0 ++ [el]).drop c) ((ts0 ++ [tl]).drop c):=ZaR (fun _ _ h=>h.imp (fun _ _ e=>s36 _ _ e) (fun l xs _ e=>⟨by show H6 l ≠ none; rw [s36 _ _ e]; simp,s36 _ _ e⟩) (Nat.le_refl _)) E3
     refine .inl ⟨a3,_,rfl,SqL.of e6,?_⟩
     refine Ztj (fun i ys=>∃ ps:List Addr,ys=ps.map V.ref∧Paired (TwAt (fun l=>H6 l ≠ none) H6 n) ps (((ts0 ++ [tl]).drop c).take i)) (ZB5 (SqL.of e6)) (by rw [List.length_map]; omega) ⟨[],rfl,.nil⟩ ?_ ?_
     ·rintro i x ys acc H' hx s1 hacc ea ⟨ps,rfl,hps⟩ _ R kk
      obtain ⟨xa,rfl,hxa⟩ :=ZeT hx
      obtain ⟨tr,htr,xp,xo,xk,hx1,hx2⟩ :=Zbs E6 hxa
      simp only [subS,List.map_nil]
      walk_at "rd"
      refine kk _ H' (Same.refl _) (fun z=>nomatch z) fun z R2 k2=>?_
      walk_at "rd"
      refine ZbE (s1 _ _ hx1) (v:=.ref xp) rfl ?_
      refine k2 _ H' (Same.refl _) ⟨ps ++ [xp],by rw [List.map_append]; rfl,?_⟩
      rw [ZbJ htr]
      exact Zd0 hps (.cons hx2 .nil)
     rintro acc2 ys2 H7 n7 s7 e7 ⟨ps,rfl,hps⟩
     rw [List.length_map,ld,List.take_of_length_le (by rw [List.length_drop,List.length_append,List.length_singleton]; omega)] at hps
     walk_at "rd"
     refine Zqt (by simp) fun r H8 s8 n8 e8=>?_
     walk_at "rd"
     refine Zqt (by simp) fun y H9 s9 n9 e9=>?_
     walk_at "rs"
     have s79:=s7.trans (s8.trans s9)
     have dl:((ts0 ++ [tl]).drop c).length=es0.length + 1 - c:=by rw [List.length_drop,List.length_append,List.length_singleton]; omega
     refine hK _ _ ⟨y,r,M,0,.join (w3of j) ((ts0 ++ [tl]).drop c),c,_,_,s3.trans (s36.trans s79),e9,⟨acc2,ps,s9 _ _ e8,by show H9 acc2 ≠ none; rw [s9 _ _ (s8 _ _ e7)]; simp,s9 _ _ (s8 _ _ e7),ZaR (fun _ _ h=>h.imp (fun _ _ e=>s79 _ _ e) fun l xs _ e=>⟨by show H9 l ≠ none; rw [s79 _ _ e]; simp,s79 _ _ e⟩) hps⟩,?_,by omega,?_,rfl⟩
     ·simp only [okT,Bool.and_eq_true,decide_eq_true_iff]
      refine ⟨by omega,?_⟩
      rw [ZoB,List.all_eq_true]
      exact fun g hg=>hok g (List.mem_of_mem_drop hg)
     ·have:=cut c
      show _ + (1 + nTL ((ts0 ++ [tl]).drop c))≤_
      omega
  intro hkd
  have done:∀ (H':Hp) (y r:Addr) (o k:Int) (tr:Tr) (v8:Option V),Same H H'→H' y=some (.tup [.ref r,.int o,.int k])→TwAt (fun l=>H' l ≠ none) H' (n + 1) r tr→okT m tr=true→nT tr=1 + nT tl→∃ (y' r:Addr) (o k:Int) (tr:Tr) (c:Nat) (v5 v8':Option V),Same H H'∧H' y'=some (.tup [.ref r,.int o,.int k])∧TwAt (fun l=>H' l ≠ none) H' (n + 1) r tr∧okT m tr=true∧c≤es0.length∧nTL ((ts0 ++ [tl]).take c) + nT tr≤nTL (ts0 ++ [tl]) + 1∧[some (.ref pl),some (.int kd),some (.int mo),some (.int ms),some (.int nt),some (.ref el),some (.ref y),some (.int (es0.length:Int)),v8]=[some (.ref pl),some (.int kd),some (.int mo),some (.int ms),some (.int nt),v5,some (.ref y'),some (.int (c:Int)),v8']:=fun H' y r o k tr v8 s e h1 h2 h3=>by
   refine ⟨y,r,o,k,tr,es0.length,_,_,s,e,h1,h2,Nat.le_refl _,?_,rfl⟩
   rw [z0,cl.1,ZjP,ZnI,h3]
   omega
  have ls:((es0.length + 1:Nat):Int) - 1=(es0.length:Int):=by omega
  have tw:∀ H',Same H H'→TwAt (fun l=>H' l ≠ none) H' n pt tl:=fun H' s=>ht2.imp (fun _ _ e=>s _ _ e) fun l xs _ e=>⟨by show H' l ≠ none; rw [s _ _ e]; simp,s _ _ e⟩
  walk_at "rd"
  refine ZIM hp' (ZH3 _ _) ?_
  walk_at "rs"
  refine ZrY (fun σ H'=>∃ (y r:Addr) (o k:Int) (tr:Tr),Same H H'∧H' y=some (.tup [.ref r,.int o,.int k])∧TwAt (fun l=>H' l ≠ none) H' (n + 1) r tr∧okT m tr=true∧nT tr=1 + nT tl∧σ=[some (.ref pl),some (.int kd),some (.int mo),some (.int ms),some (.int nt),some (.ref el),some (.ref y),none,none]) ?_ ?_
  rotate_left
  ·intro Kn2 hK2
   walk_at "rs"
   refine Zd3 (fun h3=>?_) (fun h3=>?_)
   ·walk_at "rs"
    refine ZbE ht1 (v:=.ref pt) rfl ?_
    walk_at "rs"
    refine ZeA (by simp) fun l1 H1 s1 n1 e1=>?_
    walk_at "rs"
    refine Zqt (by simp) fun r H2 s2 n2 e2=>?_
    walk_at "rs"
    refine ZbE ((s1.trans s2) _ _ ht1) (v:=.int po) rfl ?_
    walk_at "rs"
    refine Zqt (by simp) fun y H3 s3 n3 e3=>?_
    walk_at "rs"
    have s13:=s1.trans (s2.trans s3)
    exact hK2 _ _ ⟨y,r,_,_,.wrap tl,s13,e3,⟨l1,pt,s3 _ _ e2,by show H3 l1 ≠ none; rw [s3 _ _ (s2 _ _ e1)]; simp,s3 _ _ (s2 _ _ e1),tw _ s13⟩,by simpa [okT] using tl1,rfl,rfl⟩
   ·walk_at "rs"
    refine ZbE ht1 (v:=.ref pt) rfl ?_
    walk_at "rs"
    refine ⟨pt,true,_,n,tl,rfl,ht2,fun H0 s0=>?_⟩
    have ht0:=s0 _ _ ht1
    walk_at "rs"
    refine Zd3 (fun h4=>?_) (fun h4=>?_)
    ·walk_at "rs"
     refine ZbE ht0 (v:=.ref pt) rfl ?_
     walk_at "rs"
     refine ZeA (by simp) fun l1 H1 s1 n1 e1=>?_
     walk_at "rs"
     refine Zqt (by simp) fun r H2 s2 n2 e2=>?_
     walk_at "rs"
     refine ZbE ((s1.trans s2) _ _ ht0) (v:=.int po) rfl ?_
     walk_at "rs"
     refine Zqt (by simp) fun y H3 s3 n3 e3=>?_
     walk_at "rs"
     have s13:=s0.trans (s1.trans (s2.trans s3))
     exact hK2 _ _ ⟨y,r,_,_,.neg tl,s13,e3,⟨l1,pt,s3 _ _ e2,by show H3 l1 ≠ none; rw [s3 _ _ (s2 _ _ e1)]; simp,s3 _ _ (s2 _ _ e1),tw _ s13⟩,by simpa [okT] using tl1,rfl,rfl⟩
    ·walk_at "rs"
     refine ZbE ht0 (v:=.ref pt) rfl ?_
     walk_at "rs"
     refine ZeA (by simp) fun l1 H1 s1 n1 e1=>?_
     walk_at "rs"
     refine Zqt (by simp) fun r H2 s2 n2 e2=>?_
     walk_at "rs"
     refine ZbE ((s1.trans s2) _ _ ht0) (v:=.int po) rfl ?_
     walk_at "rs"
     refine ZbE ((s1.trans s2) _ _ ht0) (v:=.int pk) rfl ?_
     walk_at "rs"
     refine Zqt (by simp) fun y H3 s3 n3 e3=>?_
     walk_at "rs"
     have s13:=s0.trans (s1.trans (s2.trans s3))
     exact hK2 _ _ ⟨y,r,_,_,.neg tl,s13,e3,⟨l1,pt,s3 _ _ e2,by show H3 l1 ≠ none; rw [s3 _ _ (s2 _ _ e1)]; simp,s3 _ _ (s2 _ _ e1),tw _ s13⟩,by simpa [okT] using tl1,rfl,rfl⟩
  rintro σ H' ⟨y,r,o,k,tr,s1,e1,h1',h2',h3',rfl⟩
  have hp1:=s1 _ _ hp
  walk_at "rs"
  have hlen2:(List.map V.ref es0 ++ [V.ref el]).length=es0.length + 1:=by simp
  first
   | rw [hlen,hl0,ls]
   | rw [hlen2,ls]
  exact hK _ _ (done _ y r o k tr none s1 e1 h1' h2' h3')
 rintro σ H1 ⟨y,r,o,k,tr,c,v5,v8,s1,e1,h2,h3,hc,hw,rfl⟩
 have hp1:=s1 _ _ hp
 refine (fun (key : ?G2)=>?main2) ?key2
 case main2=>
  walk_at "rs"
  refine ZAk ?_
  walk_at "rs"
  refine ZbE e1 (v:=.int o) rfl ?_
  walk_at "rs"
  refine Zd3 (fun h4=>?_) (fun h4=>?_)
  ·refine ZcG rfl ?_
   walk_at "rs"
   exact keep _ s1
  ·walk_at "rs"
   refine ZbE e1 (v:=.int k) rfl ?_
   walk_at "rs"
   refine Zd3 (fun h5=>?_) (fun h5=>?_)
   ·walk_at "rs"
    exact keep _ s1
   ·walk_at "rs"
    exact key
 walk_at "rd"
 refine .inl (j_sl (SqL.of hp1) (ZON (by rw [hlen]; omega)) fun a1 H2 s2 n2 e2=>?_)
 rw [← List.map_take] at e2
 walk_at "rd"
 refine ZeA (by simp) fun a3 H3 s3 n3 e3=>?_
 refine ZIT (s3 _ _ e2) e3 (by rw [List.length_map,List.length_take]; simp; omega) fun a4 H4 s4 n4 e4=>?_
 have s14:=s2.trans (s3.trans s4)
 have s04:=s1.trans s14
 have n10:H1 a4=none:=(s2.trans s3).free n4
 refine q a4 ((es0 ++ [el]).take c ++ [y]) ((ts0 ++ [tl]).take c ++ [tr]) H4 s04 (.inr (s1.free n10)) (by rw [e4,List.map_append]; rfl) ?_ ?_ ?_ ?_
 ·refine Zd0 (Zqx c (ZaR (fun _ _ h=>h.imp (fun _ _ e=>s04 _ _ e) (fun l xs _ e=>⟨Zat (s1 _ _ e) n10,s04 _ _ e⟩) (Nat.le_succ _)) hE)) (.cons ⟨r,o,k,s14 _ _ e1,h2.imp (fun _ _ e=>s14 _ _ e) fun l xs z e=>⟨Zat e n10,s14 _ _ e⟩⟩ .nil)
 ·intro g hg
  rcases List.mem_append.mp hg with h | h
  ·exact hok g (List.mem_of_mem_take h)
  ·rw [List.mem_singleton.mp h]; exact h3
 ·rw [ZjP,ZnI]
  exact hw
 ·rw [List.length_append,List.length_take,List.length_singleton,hl0]
  omega
end
section
variable {P:Program} {w:World} {K:PySem.W.Frag} {mg:Str→Option Value} {base:Heap} {t:Ad} {n:Nat}
structure PW6 (H0 H:Hp) (mp:Addr) (n m:Nat) (es:List Addr) (ts:List Tr):Prop where
 sm:Same H0 H
 nm:H0 mp=none
 fm:H mp=some (.lst (es.map V.ref))
 ff:Paired (EnAt (· ≠ mp) H (n + 1)) es ts
 ok:∀ tr ∈ ts,okT m tr=true
 wt:nTL ts≤n
 ln:es.length≤n
theorem ZQk {S:Addr→Prop} {H:Hp} {n:Nat} {x:Addr} {tr:Tr} (h:EnAt S H n x tr):∃ (p:Addr) (o k:Int),H x=some (.tup [.ref p,.int o,.int k])∧TwAt anyA H n p tr:=by
 obtain ⟨p,o,k,h1,h2⟩ :=h
 exact ⟨p,o,k,h1,h2.any⟩
theorem ZC2 {ts:List Tr} {tr:Tr} (h:tr ∈ ts):nT tr≤nTL ts:=by
 induction ts with
 | nil=>cases h
 | cons x r ih=>
  show _≤nT x + nTL r
  rcases List.mem_cons.mp h with rfl | h
  ·omega
  ·have:=ih h; omega
def ZOu:Sp:=fun vs H Q _=>∃ (l:Addr) (cs:List Int) (m:Nat) (la ms nt:Int),vs=[.ref l,.int (m:Int),.int la,.int ms,.int nt]∧H l=some (.lst (cs.map V.int))∧cs.length≤60∧1≤m∧m≤6∧
 ∀ p tr H',Same H H'→TwAt anyA H' 63 p tr→okT m tr=true→nT tr≤61→Q (.ref p) H'
theorem ZN4 (T:Txt K mg t):FnS P w K mg base 4 "_law_tree" ["_law_cells","_law_many","_law_last","_law_most","_law_nots"] (ZOu):=by
 refine ⟨_,_,T.ZpF.ok ZeF (fun vs H Q E h=>?_) (fun cdv A outer s H vs Q E hr h=>?_),T.ZwT,T.ZpF.kp,T.ZxY⟩
 ·obtain ⟨l,cs,m,la,ms,nt,rfl,hl,hz,h1,hm,q⟩ :=h
  rfl
 obtain ⟨l,cs,m,la,ms,nt,rfl,hl,hz,h1,hm,q⟩ :=h
 have ZEy:=ZN2 (P:=P) (w:=w) (base:=base) T
 have md:∀ z:Int,∃ k:Nat,z % (m:Int)=(k:Int)∧k < m:=fun z=>by
  have v1:=Int.emod_nonneg z (show (m:Int) ≠ 0 by omega)
  have v2:=Int.emod_lt_of_pos z (show (0:Int) < (m:Int) by omega)
  exact ⟨(z % (m:Int)).toNat,by omega,by omega⟩
 refine ⟨_,(Zac (ss 5 ZeF.nd (Za8 Zaf))
   (Zac (Zc4 PassesOwn.never rfl (Zc3 (pv 0)) (sg 6 ZeF.nd)
   (Zac (ss 7 ZeF.nd (Zau Zcc (pv 6) Zae))
   (Zac (ss 8 ZeF.nd (Zau ZdZ (pv 6) Zae))
   (Zad (ZaI (PW.pt (Zgt (Zah ZBj (pv 7) Zae (Zap _)) (Zfw (Zah ZBj (Zax Zb9 rfl T.B.len ZgR (Zaa (pv 5) Zaf)) (Zco ZeM rfl T.B.int Zmu (Zaa (ZLz ZN5 ZN5 Zae (pv 7) Zae) Zaf)) (Zap _)))))
   (Zad (ss 5 ZeF.nd (Zbv ZEy hr (Zaa (pv 5) (Zaa (pv 7) (Zaa (pv 8) (Zaa (Zau Zhw (pv 3) Zae) (Zaa (pv 4) Zaf))))))))
   (Zad (ZaI (Zah (ZaC hr.units) (pv 7) Zae (Zap _))
   (Zad (Zcg (Zj0 PySem.F.plainAttrs_list PySem.F.slot_list_append PySem.F.type_list_append Zcb (pv 5) (Zaa (Zhy (Zaa (Zhy (Zaa Zal (Zaa (Zyk (ZaC hr.units) (Zau Zcc (pv 8) Zae) Zae (Zap _)) Zaf))) (Zaa Zae (Zaa Zae Zaf)))) Zaf))))
   (Zad (Zcg (Zj0 PySem.F.plainAttrs_list PySem.F.slot_list_append PySem.F.type_list_append Zcb (pv 5) (Zaa (Zhy (Zaa (Zhy (Zaa Zal (Zaa (Zau Zcc (pv 8) (pv 1)) Zaf))) (Zaa Zae (Zaa Zae Zaf)))) Zaf)))))))))))
   (Zac (ZaI (Zah (ZaC hr.units) (Zax Zb9 rfl T.B.len ZgR (Zaa (pv 5) Zaf)) Zae (Zap _))
   (Zad (Zam (Zhy (Zaa Zal (Zaa (Zau Zcc (pv 2) (pv 1)) Zaf)))))
   Zaq)
   (Zac (ZaI (Zah (ZaC hr.units) (Zax Zb9 rfl T.B.len ZgR (Zaa (pv 5) Zaf)) Zae (Zap _))
   (Zad (Zam (ZaG Zar (ZaG Zar (pv 5) Zae (fun _ _=>rfl)) Zae (fun _ _=>rfl))))
   Zaq)
   (Zad (Zam (Zhy (Zaa (ZaG Zar (Za8 (Zaa Zal (Zaa Zal (Zaa Zal Zaf)))) (Zau Zcc (pv 2) Zae) (fun _ _=>rfl)) (Zaa (Zhx (sc:=Zab Zcd) (N:=["_law_cells","_law_many","_law_last","_law_most","_law_nots","_law_pile","_law_cell","_law_kind","_law_more"]) (ns:=[]) (ix:=[]) rfl rfl (by decide +kernel) rfl (Zc3 (pv 5)) (fun _ _ _ _=>ZFq) (fun _ _ _ _=>(ZaG (ZtA (K:=K) rfl) (pv 0) Zae (fun _ _=>rfl)))) Zaf))))))))),?_⟩
 walk_at "rd0"
 refine ZeA (by simp) fun mp0 H0 s0 n0 e0=>?_
 walk_at "rd"
 refine seqL (xs:=cs.map V.int) (fun i σ H'=>∃ mp es ts v6 v7 v8,σ=[some (.ref l),some (.int (m:Int)),some (.int la),some (.int ms),some (.int nt),some (.ref mp),v6,v7,v8]∧PW6 H H' mp i m es ts)
  ⟨mp0,[],[],_,_,_,rfl,s0,n0,e0,.nil,(fun f hf=>by cases hf),Nat.le_refl _,Nat.le_refl _⟩ (fun i σ H' _ hp=>by obtain ⟨mp,es,ts,v6,v7,v8,_,L⟩ :=hp; exact SqL.of (L.sm _ _ hl)) ?_ ?_
 ·rintro i x σ H1 hx ⟨mp,es,ts,v6,v7,v8,rfl,L⟩
  obtain ⟨c,rfl,hci⟩ :=ZNr hx
  have hil:i < cs.length:=(List.getElem?_eq_some_iff.mp hci).1
  have hlen:(es.map V.ref).length=es.length:=List.length_map _
  have hmp:=L.fm
  have hw:=L.wt
  have hln:=L.ln
  have hc0:=Int.emod_nonneg c (show (9:Int) ≠ 0 by decide)
  have hc1:=Int.emod_lt_of_pos c (show (0:Int) < 9 by decide)
  have leaf:∀ (r y:Addr) (f:Tr) (H2 H3:Hp),Same H1 H2→H2 y=some (.tup [.ref r,.int 0,.int 0])→TwAt (fun l=>l ≠ mp) H2 1 r f→okT m f=true→nT f=1→But mp H2 H3→H3 mp=some (.lst (es.map V.ref ++ [.ref y]))→PW6 H H3 mp (i + 1) m (es ++ [y]) (ts ++ [f]):=fun r y f H2 H3 s2 ey f2 ok nf b3 e3=>by
   have tk:∀ p xs,H2 p=some (.tup xs)→H3 p=some (.tup xs):=fun p xs ep=>b3 _ _ (ZgI ep (s2 _ _ L.fm) (by intro z; cases z)) ep
   refine ⟨b3.same L.nm (L.sm.trans s2),L.nm,by rw [e3,List.map_append]; rfl,Zd0 (ZaR (fun _ _ h=>h.imp (fun p xs e=>tk _ _ (s2 _ _ e)) (fun l xs sl e=>⟨sl,b3 _ _ sl (s2 _ _ e)⟩) (by omega)) L.ff) (.cons ⟨r,0,0,tk _ _ ey,(f2.imp tk fun l xs sl e=>⟨sl,b3 _ _ sl e⟩).le (by omega)⟩ .nil),fun g hg=>?_,by rw [ZjP,ZnI,nf]; omega,by rw [List.length_append,List.length_singleton]; omega⟩
   rcases List.mem_append.mp hg with h | h
   ·exact L.ok g h
   ·rw [List.mem_singleton.mp h]; exact ok
  obtain ⟨k,hk,hkm⟩ :=md (c / 9)
  by_cases hA:3 < c % 9∧0 < es.length∧(4 < c % 9→c % 9 < 8→1 < es.length)
  ·obtain ⟨hA1,hA2,hA3⟩ :=hA
   have go:ZM4 [.ref mp,.int (c % 9),.int (c / 9),.int (ms - 1),.int nt] H1 (fun x H'=>∃ mp' es' ts' v6 v7 v8,[some (.ref l),some (.int (m:Int)),some (.int la),some (.int ms),some (.int nt),some x,some (.int c),some (.int (c % 9)),some (.int (c / 9))]=[some (.ref l),some (.int (m:Int)),some (.int la),some (.int ms),some (.int nt),some (.ref mp'),v6,v7,v8]∧PW6 H H' mp' (i + 1) m es' ts') (fun _ _ _=>False):=by
    refine ⟨mp,_,_,_,_,es,ts,i + 1,m,rfl,hmp,L.ff,by omega,by omega,hA2,hA3,by omega,L.ok,fun a es' ts' H' s' ha ea E' ok' w' l'=>⟨a,es',ts',_,_,_,rfl,?_⟩⟩
    refine ⟨L.sm.trans s',?_,ea,E',ok',by omega,by omega⟩
    rcases ha with rfl | z
    ·exact L.nm
    ·exact L.sm.free z
   by_cases hB:4 < c % 9∧c % 9 < 8
   ·walk_at "tst"
    exact go
   ·by_cases hC:4 < c % 9
    ·walk_at "tst"
     (try (refine ZcG (decide_eq_true (by first | (rw [if_neg (by decide),hlen]; omega) | (rw [show decide (c % 9 < 8)=false from decide_eq_false (by omega),if_neg (by decide),hlen]; omega) | (rw [show decide (c % 9 < 8)=true from decide_eq_true (by omega),if_pos rfl,hlen]; omega))) ?_))
     walk_at "tst"
     exact go
    ·walk_at "tst"
     (try (refine ZcG (decide_eq_true (by first | (rw [if_neg (by decide),hlen]; omega) | (rw [show decide (c % 9 < 8)=false from decide_eq_false (by omega),if_neg (by decide),hlen]; omega) | (rw [show decide (c % 9 < 8)=true from decide_eq_true (by omega),if_pos rfl,hlen]; omega))) ?_))
     walk_at "tst"
     exact go
  ·by_cases h3:c % 9=3
   ·walk_at "tst"
    refine ⟨tyL hmp,?_⟩
    walk_at "rd"
    refine Zqt (by simp) fun r H2 s2 n2 e2=>?_
    walk_at "rd"
    refine Zqt (by simp) fun y H3 s3 n3 e3=>?_
    walk_at "rd"
    refine ZfE ((s2.trans s3) _ _ hmp) (by rw [hlen]; omega) fun H4 b4 e4=>?_
    walk_at "rd"
    exact ⟨mp,_,_,_,_,_,rfl,leaf r y (.sure (decide (c / 9 % 2=0))) H3 H4 (s2.trans s3) e3 (s3 _ _ e2) rfl rfl b4 e4⟩
   ·have lampG:∀ (H2:Hp) (r:Addr),Same H1 H2→H2 r=some (.tup [.str "lamp",.int (k:Int)])→True:=fun _ _ _ _=>trivial
    rcases (show c % 9 < 3∨(3 < c % 9∧es.length=0∧c % 9≤4)∨(4 < c % 9∧c % 9 < 8∧es.length≤1)∨(c % 9=8∧es.length=0) by omega) with hc | hc | hc | hc
    all_goals
     walk_at "tst"
     (try (refine ZaP (decide_eq_false (by first | (rw [if_neg (by decide),hlen]; omega) | (rw [show decide (c % 9 < 8)=false from decide_eq_false (by omega),if_neg (by decide),hlen]; omega) | (rw [show decide (c % 9 < 8)=true from decide_eq_true (by omega),if_pos rfl,hlen]; omega))) ?_))
     walk_at "tst"
     refine ⟨tyL hmp,?_⟩
     walk_at "rd"
     rw [hk]
     refine Zqt (by simp) fun r H2 s2 n2 e2=>?_
     walk_at "rd"
     refine Zqt (by simp) fun y H3 s3 n3 e3=>?_
     walk_at "rd"
     refine ZfE ((s2.trans s3) _ _ hmp) (by rw [hlen]; omega) fun H4 b4 e4=>?_
     walk_at "rd"
     exact ⟨mp,_,_,_,_,_,rfl,leaf r y (.lamp k) H3 H4 (s2.trans s3) e3 (s3 _ _ e2) (decide_eq_true hkm) rfl b4 e4⟩
 ·rintro σ H1 ⟨mp,es,ts,v6,v7,v8,rfl,L⟩
  rw [List.length_map] at L
  have hmp:=L.fm
  have hw:=L.wt
  have hln:=L.ln
  have hgl:=ZaY L.ff
  have hlen:(es.map V.ref).length=es.length:=List.length_map _
  walk_at "rd"
  refine Zd3 (fun hA=>?_) (fun hA=>?_)
  ·walk_at "rd"
   obtain ⟨k,hk,hkm⟩ :=md la
   rw [hk]
   refine Zqt (by simp) fun y H4 s4 ny e4=>?_
   exact q y (.lamp k) H4 (L.sm.trans s4) e4 (decide_eq_true hkm) (by show 1≤61; decide)
  ·walk_at "rd"
   refine Zd3 (fun hB=>?_) (fun hB=>?_)
   ·walk_at "rd"
    obtain ⟨x,hx⟩ : ∃ x,es[0]?=some x:=⟨es[0]'(by omega),List.getElem?_eq_getElem (by omega)⟩
    obtain ⟨tr,htr,hen⟩ :=Zbs L.ff hx
    obtain ⟨p,o,k,h1',h2'⟩ :=ZQk hen
    have hm':=List.mem_of_getElem? htr
    have:=ZC2 hm'
    refine ZlU (j:=0) hmp (v:=.ref x) (by rw [List.getElem?_map,hx]; rfl) ?_
    walk_at "rd"
    refine ZbE h1' (v:=.ref p) rfl ?_
    exact q p tr H1 L.sm (h2'.le (by omega)) (L.ok tr hm') (by omega)
   ·walk_at "rd"
    refine ZeA (by simp) fun wl H4 s4 n4 e4=>?_
    walk_at "rd"
    obtain ⟨j,hj,hj3⟩ : ∃ j:Nat,la % 3=(j:Int)∧j < 3:=⟨(la % 3).toNat,by omega,by omega⟩
    rw [hj]
    refine ZlU e4 (ZNa hj3) ?_
    walk_at "rd"
    have E4:Paired (EnAt anyA H4 (cs.length + 1)) es ts:=ZaR (fun _ _ h=>h.imp (fun _ _ e=>s4 _ _ e) (fun _ _ _ e=>⟨trivial,s4 _ _ e⟩) (Nat.le_refl _)) L.ff
    have hmp4:=s4 _ _ hmp
    refine .inl ⟨mp,_,rfl,SqL.of hmp4,?_⟩
    refine Ztj (fun i ys=>∃ ps:List Addr,ys=ps.map V.ref∧Paired (TwAt anyA H4 (cs.length + 1)) ps (ts.take i)) (ZB5 (SqL.of hmp4)) (by rw [List.length_map]; omega) ⟨[],rfl,.nil⟩ ?_ ?_
    ·rintro i x ys acc H' hx s1 hacc ea ⟨ps,rfl,hps⟩ _ R kk
     obtain ⟨xa,rfl,hxa⟩ :=ZeT hx
     obtain ⟨tr,htr,xp,xo,xk,hx1,hx2⟩ :=Zbs E4 hxa
     simp only [subS,List.map_nil]
     walk_at "rd"
     refine kk _ H' (Same.refl _) (fun z=>nomatch z) fun z R2 k2=>?_
     walk_at "rd"
     refine ZbE (s1 _ _ hx1) (v:=.ref xp) rfl ?_
     refine k2 _ H' (Same.refl _) ⟨ps ++ [xp],by rw [List.map_append]; rfl,?_⟩
     rw [ZbJ htr]
     exact Zd0 hps (.cons hx2 .nil)
    rintro acc ys H5 n5 s5 e5 ⟨ps,rfl,hps⟩
    rw [List.length_map,hgl,List.take_length] at hps
    walk_at "rd"
    refine Zqt (by simp) fun y H6 s6 ny e6=>?_
    have s46:=s5.trans s6
    refine q y (.join (w3of j) ts) H6 (L.sm.trans (s4.trans s46)) (TwAt.le (n:=cs.length + 2) (by omega) ⟨acc,ps,e6,trivial,s6 _ _ e5,ZaR (fun _ _ h=>h.imp (fun _ _ e=>s46 _ _ e) fun _ _ _ e=>⟨trivial,s46 _ _ e⟩) hps⟩) ?_ ?_
    ·simp only [okT,Bool.and_eq_true,decide_eq_true_iff]
     refine ⟨by rw [hlen] at hA hB; omega,?_⟩
     rw [ZoB,List.all_eq_true]
     exact L.ok
    ·show 1 + nTL ts≤61
     omega
end
end LW
set_option maxRecDepth 100000
set_option maxHeartbeats 4000000
open PySem L2
namespace LW
open PySem L2 EM
theorem Zz3 (b:Bool) (ws:List Str):(brW b ws).length≤ws.length + 2:=by
 unfold brW
 by_cases h:b=true
 ·rw [if_pos h,List.length_cons,List.length_append]; exact Nat.le_refl _
 ·rw [if_neg h]; omega
theorem ZIY (k:Str):∀ txs:List (List Str),(jnW k txs).length≤(txs.map (·.length)).sum + (txs.length - 1)
 | []=>Nat.le_refl _
 | [p]=>by simp [jnW]
 | p :: q :: r=>by
  have:=ZIY k (q :: r)
  show (p ++ k :: jnW k (q :: r)).length≤_
  simp only [List.length_append,List.length_cons,List.map_cons,List.sum_cons] at *
  omega
mutual
theorem ZzR (b:Bool) (ns:List Str):∀ t:Tr,(wdG b ns t).length + 3≤4 * nT t
 | .lamp k=>Nat.le_refl _
 | .sure c=>Nat.le_refl _
 | .neg t=>by
  have:=ZzR b ns t
  have h2:=Zz3 (decide (1≤rkG b t)) (wdG b ns t)
  show (brW _ _).length + 1 + 3≤4 * (1 + nT t)
  omega
 | .wrap t=>by
  have:=ZzR b ns t
  have h2:=Zz3 b (wdG b ns t)
  show (brW _ _).length + 3≤4 * (1 + nT t)
  omega
 | .join v ts=>by
  have h1:=ZIY (kw3 v) (wdGL b ns (ZeG v) ts)
  have h2:=ZKn b ns (ZeG v) ts
  show (jnW _ _).length + 3≤4 * (1 + nTL ts)
  omega
theorem ZKn (b:Bool) (ns:List Str) (r:Nat):∀ ts:List Tr,((wdGL b ns r ts).map (·.length)).sum + ((wdGL b ns r ts).length - 1)≤4 * nTL ts∧((wdGL b ns r ts).map (·.length)).sum + (wdGL b ns r ts).length≤4 * nTL ts
 | []=>⟨Nat.zero_le _,Nat.zero_le _⟩
 | t :: ts=>by
  have h0:=ZzR b ns t
  have h1:=(ZKn b ns r ts).2
  have h2:=Zz3 (decide (r≤rkG b t)) (wdG b ns t)
  have e:((wdGL b ns r (t :: ts)).map (·.length)).sum=(brW (decide (r≤rkG b t)) (wdG b ns t)).length + ((wdGL b ns r ts).map (·.length)).sum:=by simp [wdGL]
  have e2:(wdGL b ns r (t :: ts)).length=(wdGL b ns r ts).length + 1:=by simp [wdGL]
  have e3:nTL (t :: ts)=nT t + nTL ts:=by simp [nTL]
  rw [e,e2,e3]
  omega
end
mutual
theorem ZQl (b:Bool) (ns:List Str) (m:Nat):∀ t:Tr,okT m t=true→wdG b ns t ≠ []
 | .lamp k,_=>by simp [wdG]
 | .sure c,_=>by simp [wdG]
 | .neg t,_=>by simp [wdG]
 | .wrap t,h=>by
  have:=ZQl b ns m t (by simpa [okT] using h)
  show brW b (wdG b ns t) ≠ []
  unfold brW
  by_cases hb:b=true
  ·rw [if_pos hb]; simp
  ·rw [if_neg hb]; exact this
 | .join v ts,h=>by
  simp only [okT,Bool.and_eq_true,decide_eq_true_iff] at h
  show jnW (kw3 v) (wdGL b ns (ZeG v) ts) ≠ []
  match ts,h with
  | t :: u :: r,h=>
   show brW _ _ ++ _ :: _ ≠ []
   simp
end
def ZhJ (z:Str) (F inner:List Str):List Str:=(if 0 < F.length∧z ≠ "not" then F ++ [z] else F) ++ inner
def Zfm (b:Bool) (ns:List Str) (z:Str) (bd:Nat) (g:Tr):List Str:=brW (decide (z = "wrap"∧b=true) || decide (bd≤rkG b g)) (wdG b ns g)
theorem ZCH (z:Str) (hz:z ≠ "not"):∀ (txs:List (List Str)) (F:List Str),(∀ p ∈ txs,p ≠ [])→F ≠ []→txs.foldl (ZhJ z) F=txs.foldl (fun F p=>F ++ z :: p) F
 | [],F,_,_=>rfl
 | p :: r,F,h,hF=>by
  have e:ZhJ z F p=F ++ z :: p:=by
   unfold ZhJ
   rw [if_pos ⟨List.length_pos_iff.mpr hF,hz⟩,List.append_assoc]
   rfl
  show r.foldl (ZhJ z) (ZhJ z F p)=r.foldl _ (F ++ z :: p)
  rw [e]
  exact ZCH z hz r _ (fun q hq=>h q (List.mem_cons_of_mem _ hq)) (by simp)
theorem ZIy (z:Str):∀ (txs:List (List Str)) (p:List Str),txs.foldl (fun F p=>F ++ z :: p) p=jnW z (p :: txs)
 | [],p=>rfl
 | q :: r,p=>by
  have ih:=ZIy z r
  show r.foldl _ (p ++ z :: q)=p ++ z :: jnW z (q :: r)
  rw [ih (p ++ z :: q)]
  cases r with
  | nil=>rfl
  | cons x r=>show (p ++ z :: q) ++ z :: jnW z (x :: r)=p ++ z :: (q ++ z :: jnW z (x :: r)); simp
theorem ZKS (z:Str) (hz:z ≠ "not") {txs:List (List Str)} (h:∀ p ∈ txs,p ≠ []):txs.foldl (ZhJ z) []=jnW z txs:=by
 cases txs with
 | nil=>rfl
 | cons p r=>
  have e:ZhJ z [] p=p:=by unfold ZhJ; rw [if_neg (by simp)]; rfl
  show r.foldl (ZhJ z) (ZhJ z [] p)=_
  rw [e,ZCH z hz r p (fun q hq=>h q (List.mem_cons_of_mem _ hq)) (h p List.mem_cons_self),ZIy]
theorem ZG8 (b:Bool) (ns:List Str) (r:Nat):∀ ts:List Tr,wdGL b ns r ts=ts.map fun t=>brW (decide (r≤rkG b t)) (wdG b ns t)
 | []=>by simp [wdGL]
 | t :: ts=>by simp [wdGL,ZG8 b ns r ts]
theorem ZPY (b:Bool):∀ t:Tr,rkG b t≤3
 | .lamp _=>Nat.zero_le _
 | .sure _=>Nat.zero_le _
 | .neg _=>Nat.zero_le _
 | .wrap t=>by
  show (if b=true then 0 else rkG b t)≤3
  have:=ZPY b t
  by_cases h:b=true
  ·rw [if_pos h]; omega
  ·rw [if_neg h]; exact this
 | .join v _=>by show ZeG v≤3; cases v <;> decide
theorem ZEZ:∀ ts:List Tr,ts.length≤nTL ts
 | []=>Nat.zero_le _
 | t :: ts=>by
  have:=ZEZ ts
  have h2:1≤nT t:=by cases t <;> simp only [nT] <;> omega
  show ts.length + 1≤nT t + nTL ts
  omega
seal PE PA PS PSs
section
variable {P:Program} {w:World} {K:PySem.W.Frag} {mg:Str→Option Value} {base:Heap} {t:Ad} {n:Nat}
def ZD8 (n:Nat):Sp:=fun vs H Q _=>∃ (p nl:Addr) (b:Bool) (tr:Tr) (ns:List Str),vs=[.ref p,.ref nl,.bl b]∧TwAt anyA H n p tr∧H nl=some (.lst (ns.map V.str))∧okT ns.length tr=true∧nT tr≤61∧∀ l H',Same H H'→H l=none→H' l=some (.lst ((wdG b ns tr).map V.str))→Q (.ref l) H'
theorem Ztc (T:Txt K mg t):∀ n:Nat,FnS P w K mg base (n + 2) "_law_words_of" ["_law_tree_here","_law_names_here","_law_wraps"] (ZD8 n)
 | 0=>by
  have no:∀ vs H Q E,¬ ZD8 0 vs H Q E:=fun vs H Q E h=>by
   obtain ⟨p,nl,b,tr,ns,_,h,_⟩ :=h
   exact h
  exact ⟨_,_,⟨fun vs H Q E h=>absurd h (no vs H Q E),fun A outer s H args us vs Q E _ _ _ _ h=>absurd h (no vs H Q E)⟩,T.ZgQ,T.ZeI.kp,T.Zhh⟩
 | n + 1=>by
  have Zb8:=Ztc T n
  refine ⟨_,_,T.ZeI.ok ZaA (fun vs H Q E h=>?_) (fun cdv A outer s H vs Q E hr h=>?_),T.ZgQ,T.ZeI.kp,T.Zhh⟩
  ·obtain ⟨p,nl,b,tr,ns,rfl,_⟩ :=h
   rfl
  obtain ⟨p,nl,b,tr,ns,rfl,hT,hn,hok,hnT,q⟩ :=h
  have Zer:=ZFh (P:=P) (w:=w) (base:=base) T
  obtain ⟨v,ek⟩ :=hT.kind
  have body:∀ (z:Str) (bd:Nat) (l:Addr) (ps:List Addr) (gs:List Tr),ZCW tr=z→z ≠ "lamp"→z ≠ "sure"→H p=some (.tup [.str z,.ref l])→H l=some (.lst (ps.map V.ref))→Paired (TwAt anyA H n) ps gs→(∀ g ∈ gs,okT ns.length g=true)→nTL gs≤60→(valV (ZnH [] [(Sum.inr "not",V.int 1),(Sum.inr "and",V.int 1),(Sum.inr "either",.int 2),(Sum.inr "or",.int 3)]) (Sum.inr z:Key)).getD (.int 4)=.int (bd:Int)→(gs.map (Zfm b ns z bd)).foldl (ZhJ z) (if z = "not" then ["not"] else [])=wdG b ns tr→∃ tb,PSs (cxOf CX0 P w K mg base ["_law_tree_here","_law_names_here","_law_wraps","_law_kind","_law_bind","_law_found","_law_part","_law_inner"] "_law_words_of" (Zab ZaX) t.ZbD cdv A outer s H E).nox (Zag ZaX) tb∧tb { nx:=fun _ H'=>Q V.non H',rt:=Q } (L2.start ["_law_tree_here","_law_names_here","_law_wraps","_law_kind","_law_bind","_law_found","_law_part","_law_inner"] [.ref p,.ref nl,.bl b]) H:=by
   intro z bd l ps gs ez nz1 nz2 e1 e2 hps hgs hng hbd hfold
   have hgl:=ZaY hps
   have hgn:=ZEZ gs
   refine ⟨_,(Zac (ss 3 ZaA.nd (ZaG Zar (pv 0) Zae (fun _ _=>rfl)))
   (Zac (ZaI (Zah (ZaC hr.units) (pv 3) Zal (Zap _))
   (Zad (Zam (Za8 (Zaa (ZaG Zar (pv 1) (ZaG Zar (pv 0) Zae (fun _ _=>rfl)) (fun _ _=>rfl)) Zaf))))
   Zaq)
   (Zac (ZaI (Zah (ZaC hr.units) (pv 3) Zal (Zap _))
   (Zad (Zam (Za8 (Zaa (ZaG Zar (Za8 (Zaa Zal (Zaa Zal Zaf))) (Zco ZeM rfl T.B.int Zmu (Zaa (ZaG Zar (pv 0) Zae (fun _ _=>rfl)) Zaf)) (fun _ _=>rfl)) Zaf))))
   Zaq)
   (Zac (ss 4 ZaA.nd (Zwt (Nat.lt_of_le_of_lt (Nat.add_le_add_left (by decide) _) hr.units) (ZBk (Zdd Zal Zae (Zdd Zal Zae (Zdd Zal Zae (Zdd Zal Zae ZBq)))) rfl rfl (List.cons_ne_nil _ _) (Nat.le_of_ble_eq_true rfl)) (pv 3) Zae ⟨rfl,rfl,rfl,rfl⟩))
   (Zac (ss 5 ZaA.nd (Za8 Zaf))
   (Zac (ZaI (Zah (ZaC hr.units) (pv 3) Zal (Zap _))
   (Zad (Zcg (Zj0 PySem.F.plainAttrs_list PySem.F.slot_list_append PySem.F.type_list_append Zcb (pv 5) (Zaa Zal Zaf))))
   Zaq)
   (Zac (Zc4 PassesOwn.never rfl (Zc3 (ZaG Zar (pv 0) Zae (fun _ _=>rfl))) (sg 6 ZaA.nd)
   (Zac (ss 7 ZaA.nd (Zbv Zb8 hr (Zaa (pv 6) (Zaa (pv 1) (Zaa (pv 2) Zaf)))))
   (Zac (ZaI (PW.pt (Zqy (PW.pt (Zgt (Zah (ZaC hr.units) (pv 3) Zal (Zap _)) (Zfw (Zbg (pv 2) (fun _=>rfl))))) (Zj2 (Zah ZJA (Zbv Zer hr (Zaa (pv 6) (Zaa (pv 2) Zaf))) (pv 4) (Zap _)))))
   (Zad (ss 7 ZaA.nd (Zau ZaQ (Zau ZaQ (Za8 (Zaa Zal Zaf)) (pv 7)) (Za8 (Zaa Zal Zaf)))))
   Zaq)
   (Zac (ZaI (PW.pt (Zgt (Zah ZBj (Zax Zb9 rfl T.B.len ZgR (Zaa (pv 5) Zaf)) Zae (Zap _)) (Zfw (Zah (ZiO hr.units) (pv 3) Zal (Zap _)))))
   (Zad (Zcg (Zj0 PySem.F.plainAttrs_list PySem.F.slot_list_append PySem.F.type_list_append Zcb (pv 5) (Zaa (pv 3) Zaf))))
   Zaq)
   (Zad (ss 5 ZaA.nd (Zau ZaQ (pv 5) (pv 7))))))))
   (Zad (Zam (pv 5)))))))))),?_⟩
   walk_at "rd0"
   refine ZbE e1 (v:=.str z) rfl ?_
   walk_at "rd"
   refine ZaP (decide_eq_false nz1) ?_
   walk_at "rd"
   refine ZaP (decide_eq_false nz2) ?_
   walk_at "rd"
   refine ZIK ?_
   refine ZMp fun d hd=>?_
   simp only [ZzP]
   walk_at "rd"
   refine ⟨ZaV,[(Sum.inr "not",.int 1),(Sum.inr "and",.int 1),(Sum.inr "either",.int 2),(Sum.inr "or",.int 3)],rfl,by decide,d,rfl,.inl ⟨_,.inl ZaV⟩,?_⟩
   walk_at "rd"
   refine ⟨_,DGet.k (k:=Sum.inr z) ZaV,?_⟩
   rw [hbd]
   have sd:Same H (upd (upd H d (.dK [])) d (.dK (ZnH [] [(Sum.inr "not",V.int 1),(Sum.inr "and",V.int 1),(Sum.inr "either",.int 2),(Sum.inr "or",.int 3)]))):=fun x u hb=>by
    have hbd:x ≠ d:=Zat hb hd
    rw [ZbG hbd,ZbG hbd]
    exact hb
   generalize upd (upd H d (.dK [])) d (.dK (ZnH [] [(Sum.inr "not",V.int 1),(Sum.inr "and",V.int 1),(Sum.inr "either",.int 2),(Sum.inr "or",.int 3)]))=H1 at sd ⊢
   walk_at "rd"
   refine ZeA (by simp) fun f0 H2 s2 n2 e3=>?_
   have nf0:H f0=none:=sd.free n2
   walk_at "rs"
   refine ZrY (fun σ H'=>Same H H'∧H' f0=some (.lst ((if z = "not" then (["not"]:List Str) else []).map V.str))∧σ=[some (.ref p),some (.ref nl),some (.bl b),some (.str z),some (.int (bd:Int)),some (.ref f0),none,none]) ?_ ?_
   rotate_left
   ·intro Kn hK
    walk_at "rs"
    refine Zd3 (fun hz=>?_) (fun hz=>?_)
    ·walk_at "rs"
     refine ⟨tyL e3,?_⟩
     walk_at "rs"
     refine ZfE e3 (by simp) fun H3 b3 e4=>?_
     walk_at "rs"
     exact hK _ _ ⟨b3.same nf0 (sd.trans s2),by rw [if_pos hz]; exact e4,rfl⟩
    ·walk_at "rs"
     exact hK _ _ ⟨sd.trans s2,by rw [if_neg hz]; exact e3,rfl⟩
   rintro σ H3 ⟨s3,ef,rfl⟩
   walk_at "rs"
   refine ZAk ?_
   walk_at "rs"
   refine ZbE (s3 _ _ e1) (v:=.ref l) rfl ?_
   walk_at "rs"
   refine seqL (xs:=ps.map V.ref) (fun i σ H'=>∃ fl v6 v7,Same H H'∧H fl=none∧H' fl=some (.lst ((((gs.take i).map (Zfm b ns z bd)).foldl (ZhJ z) (if z = "not" then ["not"] else [])).map V.str))∧(((gs.take i).map (Zfm b ns z bd)).foldl (ZhJ z) (if z = "not" then ["not"] else [])).length≤1 + 300 * i∧σ=[some (.ref p),some (.ref nl),some (.bl b),some (.str z),some (.int (bd:Int)),some (.ref fl),v6,v7]) ⟨f0,_,_,s3,nf0,ef,by show (if z = "not" then (["not"]:List Str) else []).length≤_; by_cases hz:z = "not" <;> simp [hz],rfl⟩ (fun i σ H' _ hp=>by obtain ⟨fl,v6,v7,s',_⟩ :=hp; exact SqL.of (s' _ _ e2)) ?_ ?_
   ·rintro i x σ H4 hx ⟨fl,v6,v7,s4,nfl,efl,hF,rfl⟩
    obtain ⟨pa,rfl,hpa⟩ :=ZeT hx
    obtain ⟨g,hg,hga⟩ :=Zbs hps hpa
    have hil:i < gs.length:=(List.getElem?_eq_some_iff.mp hg).1
    have gm:=List.mem_of_getElem? hg
    have gn:=ZC2 gm
    have hwl:=ZzR b ns g
    generalize hFF:((gs.take i).map (Zfm b ns z bd)).foldl (ZhJ z) (if z = "not" then ["not"] else [])=F at efl hF
    have nx:((gs.take (i + 1)).map (Zfm b ns z bd)).foldl (ZhJ z) (if z = "not" then ["not"] else [])=ZhJ z F (Zfm b ns z bd g):=by rw [ZbJ hg,List.map_append,List.foldl_append,hFF]; rfl
    walk_at "rd"
    refine ⟨pa,nl,b,g,ns,rfl,hga.same s4,s4 _ _ hn,hgs g gm,by omega,fun il H5 s5 n5 e5=>?_⟩
    have s45:=s4.trans s5
    walk_at "rs"
    refine ZrY (fun σ H'=>∃ il',Same H H'∧Same H4 H'∧H4 il'=none∧H' il'=some (.lst ((Zfm b ns z bd g).map V.str))∧σ=[some (.ref p),some (.ref nl),some (.bl b),some (.str z),some (.int (bd:Int)),some (.ref fl),some (.ref pa),some (.ref il')]) ?_ ?_
    rotate_left
    ·intro Kn hK
     have yes:(decide (z = "wrap"∧b=true) || decide (bd≤rkG b g))=true→∀ KK,KK.nx=Kn→∀ H6,Same H5 H6→tAsg (tOp ZBr (tOp ZBr (tLst (Zs8 (tC (V.str "(")) tNil)) (tVar 7)) (tLst (Zs8 (tC (V.str ")")) tNil))) (ZCJ 7) KK [some (.ref p),some (.ref nl),some (.bl b),some (.str z),some (.int (bd:Int)),some (.ref fl),some (.ref pa),some (.ref il)] H6:=fun hc KK hKK H6 s6=>by
      walk_at "rs"
      refine ZeA (by simp) fun o1 H7 s7 n7 e7=>?_
      walk_at "rs"
      refine ZIT e7 (s7 _ _ (s6 _ _ e5)) (by rw [List.length_map]; simp; omega) fun o2 H8 s8 n8 e8=>?_
      walk_at "rs"
      refine ZeA (by simp) fun o3 H9 s9 n9 e9=>?_
      refine ZIT (s9 _ _ e8) e9 (by simp only [List.length_append,List.length_map,List.length_singleton,List.length_cons,List.length_nil]; omega) fun o4 H10 s10 n10 e10=>?_
      walk_at "rs"
      rw [hKK]
      have sA:=s6.trans (s7.trans (s8.trans (s9.trans s10)))
      refine hK _ _ ⟨o4,s45.trans sA,s5.trans sA,(s5.trans (s6.trans (s7.trans (s8.trans s9)))).free n10,?_,rfl⟩
      unfold Zfm brW
      rw [hc,if_pos rfl,e10]
      simp
     have no:(decide (z = "wrap"∧b=true) || decide (bd≤rkG b g))=false→∀ H6,Same H5 H6→Kn [some (.ref p),some (.ref nl),some (.bl b),some (.str z),some (.int (bd:Int)),some (.ref fl),some (.ref pa),some (.ref il)] H6:=fun hc H6 s6=>by
      refine hK _ _ ⟨il,s45.trans s6,s5.trans s6,n5,?_,rfl⟩
      unfold Zfm brW
      rw [hc,if_neg (by decide)]
      exact s6 _ _ e5
     have rnk:∀ (Q':VK),(¬ (z = "wrap"∧b=true))→(∀ H6,Same H5 H6→Q' (.int (rkG b g:Int)) H6)→ZKa [.ref pa,.bl b] H5 Q' (fun _ _ _=>False):=fun Q' _ kk=>⟨pa,b,anyA,n,g,rfl,hga.same s45,kk⟩
     walk_at "rs"
     by_cases hw:z = "wrap"
     ·refine ZcG (decide_eq_true hw) ?_
      walk_at "rs"
      by_cases hb:b=true
      ·refine ZcG hb ?_
       refine ZcG rfl ?_
       exact yes (by rw [decide_eq_true ⟨hw,hb⟩]; rfl) _ rfl H5 (fun _ _ h=>h)
      ·refine ZaP (by cases b <;> first | rfl | exact absurd rfl hb) ?_
       walk_at "rs"
       refine rnk _ (fun y=>hb y.2) fun H6 s6=>?_
       walk_at "rs"
       refine Zd3 (fun hr=>?_) (fun hr=>?_)
       ·exact yes (by rw [decide_eq_true (show bd≤rkG b g by omega),Bool.or_true]) _ rfl H6 s6
       ·walk_at "rs"
        exact no (by rw [decide_eq_false (show ¬ bd≤rkG b g by omega),Bool.or_false]; exact decide_eq_false fun y=>hb y.2) H6 s6
     ·refine ZaP (decide_eq_false hw) ?_
      walk_at "rs"
      refine ZaP rfl ?_
      walk_at "rs"
      refine rnk _ (fun y=>hw y.1) fun H6 s6=>?_
      walk_at "rs"
      refine Zd3 (fun hr=>?_) (fun hr=>?_)
      ·exact yes (by rw [decide_eq_true (show bd≤rkG b g by omega),Bool.or_true]) _ rfl H6 s6
      ·walk_at "rs"
       exact no (by rw [decide_eq_false (show ¬ bd≤rkG b g by omega),Bool.or_false]; exact decide_eq_false fun y=>hw y.1) H6 s6
    rintro σ H6 ⟨il',s6,s46,n6,e6,rfl⟩
    walk_at "rs"
    refine ZrY (fun σ H'=>Same H H'∧H' il'=some (.lst ((Zfm b ns z bd g).map V.str))∧H' fl=some (.lst ((if 0 < F.length∧z ≠ "not" then F ++ [z] else F).map V.str))∧σ=[some (.ref p),some (.ref nl),some (.bl b),some (.str z),some (.int (bd:Int)),some (.ref fl),some (.ref pa),some (.ref il')]) ?_ ?_
    rotate_left
    ·intro Kn hK
     have efl6:=s46 _ _ efl
     walk_at "rs"
     have hFm:(F.map V.str).length=F.length:=List.length_map ..
     refine Zd3 (fun h0=>?_) (fun h0=>?_)
     ·walk_at "rs"
      rw [show (!decide (z = "not"))=decide (z ≠ "not") from (decide_not ..).symm]
      refine Zd3 (fun hz=>?_) (fun hz=>?_)
      ·walk_at "rs"
       refine ⟨tyL efl6,?_⟩
       walk_at "rs"
       refine ZfE efl6 (by simp; omega) fun H7 b7 e7=>?_
       walk_at "rs"
       exact hK _ _ ⟨b7.same nfl s6,b7 _ _ (Zat efl n6).symm e6,by rw [if_pos ⟨by omega,hz⟩,e7]; simp,rfl⟩
      ·walk_at "rs"
       exact hK _ _ ⟨s6,e6,by rw [if_neg (fun y=>hz y.2)]; exact efl6,rfl⟩
     ·walk_at "rs"
      exact hK _ _ ⟨s6,e6,by rw [if_neg (fun y=>h0 (by omega))]; exact efl6,rfl⟩
    rintro σ H7 ⟨s7,e7,e8,rfl⟩
    walk_at "rs"
    have hin:(Zfm b ns z bd g).length≤246:=by
     have:=Zz3 (decide (z = "wrap"∧b=true) || decide (bd≤rkG b g)) (wdG b ns g)
     unfold Zfm
     omega
    have hst:(if 0 < F.length∧z ≠ "not" then F ++ [z] else F).length≤F.length + 1:=by
     by_cases hc:0 < F.length∧z ≠ "not"
     ·rw [if_pos hc,List.length_append]; exact Nat.le_refl _
     ·rw [if_neg hc]; omega
    refine ZIT e8 e7 (by rw [List.length_map,List.length_map]; omega) fun o H8 s8 n8 e9=>?_
    walk_at "rs"
    refine ⟨o,_,_,s7.trans s8,s7.free n8,by rw [nx,e9]; simp [ZhJ],?_,rfl⟩
    rw [nx]
    unfold ZhJ
    rw [List.length_append]
    omega
   ·rintro σ H4 ⟨fl,v6,v7,s4,nfl,efl,hF,rfl⟩
    rw [List.length_map,hgl,List.take_length,hfold] at efl
    walk_at "rd"
    exact q fl H4 s4 nfl efl
  cases tr with
  | lamp k=>
   have hp:H p=some (.tup [.str "lamp",.int (k:Int)]):=hT
   have hk:k < ns.length:=by simpa [okT] using hok
   refine ⟨_,(Zac (ss 3 ZaA.nd (ZaG Zar (pv 0) Zae (fun _ _=>rfl)))
   (Zac (ZaI (Zah (ZaC hr.units) (pv 3) Zal (Zap _))
   (Zad (Zam (Za8 (Zaa (ZaG Zar (pv 1) (ZaG Zar (pv 0) Zae (fun _ _=>rfl)) (fun _ _=>rfl)) Zaf))))
   Zaq)
   (Zac (ZaI (Zah (ZaC hr.units) (pv 3) Zal (Zap _))
   (Zad (Zam (Za8 (Zaa (ZaG Zar (Za8 (Zaa Zal (Zaa Zal Zaf))) (Zco ZeM rfl T.B.int Zmu (Zaa (ZaG Zar (pv 0) Zae (fun _ _=>rfl)) Zaf)) (fun _ _=>rfl)) Zaf))))
   Zaq)
   (Zac (ss 4 ZaA.nd (Zwt (Nat.lt_of_le_of_lt (Nat.add_le_add_left (by decide) _) hr.units) (ZBk (Zdd Zal Zae (Zdd Zal Zae (Zdd Zal Zae (Zdd Zal Zae ZBq)))) rfl rfl (List.cons_ne_nil _ _) (Nat.le_of_ble_eq_true rfl)) (pv 3) Zae ⟨rfl,rfl,rfl,rfl⟩))
   (Zac (ss 5 ZaA.nd (Za8 Zaf))
   (Zac (ZaI (Zah (ZaC hr.units) (pv 3) Zal (Zap _))
   (Zad (Zcg (Zj0 PySem.F.plainAttrs_list PySem.F.slot_list_append PySem.F.type_list_append Zcb (pv 5) (Zaa Zal Zaf))))
   Zaq)
   (Zac (Zc4 PassesOwn.never rfl (Zc3 (ZaG Zar (pv 0) Zae (fun _ _=>rfl))) (sg 6 ZaA.nd)
   (Zac (ss 7 ZaA.nd (Zbv Zb8 hr (Zaa (pv 6) (Zaa (pv 1) (Zaa (pv 2) Zaf)))))
   (Zac (ZaI (PW.pt (Zqy (PW.pt (Zgt (Zah (ZaC hr.units) (pv 3) Zal (Zap _)) (Zfw (Zbg (pv 2) (fun _=>rfl))))) (Zj2 (Zah ZJA (Zbv Zer hr (Zaa (pv 6) (Zaa (pv 2) Zaf))) (pv 4) (Zap _)))))
   (Zad (ss 7 ZaA.nd (Zau ZaQ (Zau ZaQ (Za8 (Zaa Zal Zaf)) (pv 7)) (Za8 (Zaa Zal Zaf)))))
   Zaq)
   (Zac (ZaI (PW.pt (Zgt (Zah ZBj (Zax Zb9 rfl T.B.len ZgR (Zaa (pv 5) Zaf)) Zae (Zap _)) (Zfw (Zah (ZiO hr.units) (pv 3) Zal (Zap _)))))
   (Zad (Zcg (Zj0 PySem.F.plainAttrs_list PySem.F.slot_list_append PySem.F.type_list_append Zcb (pv 5) (Zaa (pv 3) Zaf))))
   Zaq)
   (Zad (ss 5 ZaA.nd (Zau ZaQ (pv 5) (pv 7))))))))
   (Zad (Zam (pv 5)))))))))),?_⟩
   walk_at "rd0"
   refine ZbE hp (v:=.str "lamp") rfl ?_
   walk_at "rd"
   refine ZcG rfl ?_
   walk_at "rd"
   refine ZbE hp (v:=.int (k:Int)) rfl ?_
   walk_at "rd"
   refine ZlU (v:=.str (ns.getD k Str.empty)) hn (by rw [List.getElem?_map,List.getD_eq_getElem?_getD,List.getElem?_eq_getElem hk]; rfl) ?_
   walk_at "rd"
   refine ZeA (by simp) fun l H1 s1 n1 e1=>?_
   exact q l H1 s1 n1 e1
  | sure c=>
   have hp:H p=some (.tup [.str "sure",.bl c]):=hT
   refine ⟨_,(Zac (ss 3 ZaA.nd (ZaG Zar (pv 0) Zae (fun _ _=>rfl)))
   (Zac (ZaI (Zah (ZaC hr.units) (pv 3) Zal (Zap _))
   (Zad (Zam (Za8 (Zaa (ZaG Zar (pv 1) (ZaG Zar (pv 0) Zae (fun _ _=>rfl)) (fun _ _=>rfl)) Zaf))))
   Zaq)
   (Zac (ZaI (Zah (ZaC hr.units) (pv 3) Zal (Zap _))
   (Zad (Zam (Za8 (Zaa (ZaG Zar (Za8 (Zaa Zal (Zaa Zal Zaf))) (Zco ZeM rfl T.B.int Zmu (Zaa (ZaG Zar (pv 0) Zae (fun _ _=>rfl)) Zaf)) (fun _ _=>rfl)) Zaf))))
   Zaq)
   (Zac (ss 4 ZaA.nd (Zwt (Nat.lt_of_le_of_lt (Nat.add_le_add_left (by decide) _) hr.units) (ZBk (Zdd Zal Zae (Zdd Zal Zae (Zdd Zal Zae (Zdd Zal Zae ZBq)))) rfl rfl (List.cons_ne_nil _ _) (Nat.le_of_ble_eq_true rfl)) (pv 3) Zae ⟨rfl,rfl,rfl,rfl⟩))
   (Zac (ss 5 ZaA.nd (Za8 Zaf))
   (Zac (ZaI (Zah (ZaC hr.units) (pv 3) Zal (Zap _))
   (Zad (Zcg (Zj0 PySem.F.plainAttrs_list PySem.F.slot_list_append PySem.F.type_list_append Zcb (pv 5) (Zaa Zal Zaf))))
   Zaq)
   (Zac (Zc4 PassesOwn.never rfl (Zc3 (ZaG Zar (pv 0) Zae (fun _ _=>rfl))) (sg 6 ZaA.nd)
   (Zac (ss 7 ZaA.nd (Zbv Zb8 hr (Zaa (pv 6) (Zaa (pv 1) (Zaa (pv 2) Zaf)))))
   (Zac (ZaI (PW.pt (Zqy (PW.pt (Zgt (Zah (ZaC hr.units) (pv 3) Zal (Zap _)) (Zfw (Zbg (pv 2) (fun _=>rfl))))) (Zj2 (Zah ZJA (Zbv Zer hr (Zaa (pv 6) (Zaa (pv 2) Zaf))) (pv 4) (Zap _)))))
   (Zad (ss 7 ZaA.nd (Zau ZaQ (Zau ZaQ (Za8 (Zaa Zal Zaf)) (pv 7)) (Za8 (Zaa Zal Zaf)))))
   Zaq)
   (Zac (ZaI (PW.pt (Zgt (Zah ZBj (Zax Zb9 rfl T.B.len ZgR (Zaa (pv 5) Zaf)) Zae (Zap _)) (Zfw (Zah (ZiO hr.units) (pv 3) Zal (Zap _)))))
   (Zad (Zcg (Zj0 PySem.F.plainAttrs_list PySem.F.slot_list_append PySem.F.type_list_append Zcb (pv 5) (Zaa (pv 3) Zaf))))
   Zaq)
   (Zad (ss 5 ZaA.nd (Zau ZaQ (pv 5) (pv 7))))))))
   (Zad (Zam (pv 5)))))))))),?_⟩
   walk_at "rd0"
   refine ZbE hp (v:=.str "sure") rfl ?_
   walk_at "rd"
   refine ZaP rfl ?_
   walk_at "rd"
   refine ZcG rfl ?_
   walk_at "rd"
   refine ZeA (by simp) fun l0 H1 s1 n1 e1=>?_
   walk_at "rd"
   refine ZbE (s1 _ _ hp) (v:=.bl c) rfl ?_
   walk_at "rd"
   cases c with
   | true=>
    refine ZlU (j:=1) (v:=.str "yes") e1 rfl ?_
    walk_at "rd"
    refine ZeA (by simp) fun l H2 s2 n2 e2=>?_
    exact q l H2 (s1.trans s2) (s1.free n2) e2
   | false=>
    refine ZlU (j:=0) (v:=.str "no") e1 rfl ?_
    walk_at "rd"
    refine ZeA (by simp) fun l H2 s2 n2 e2=>?_
    exact q l H2 (s1.trans s2) (s1.free n2) e2
  | neg g=>
   obtain ⟨l,q',e1,_,e2,hq⟩ :=hT
   have hn1:nT (.neg g)=1 + nT g:=rfl
   refine body "not" 1 l [q'] [g] rfl (by decide) (by decide) e1 e2 (.cons hq .nil) (fun x hx=>by rw [List.mem_singleton.mp hx]; simpa [okT] using hok) (by rw [ZnI]; omega) rfl ?_
   show ZhJ "not" (["not"]:List Str) (Zfm b ns "not" 1 g)=("not" : Str) :: brW (decide (1≤rkG b g)) (wdG b ns g)
   unfold ZhJ Zfm
   rw [if_neg (fun y=>y.2 rfl),show decide (("not" : Str) = "wrap"∧b=true)=false from decide_eq_false fun y=>absurd y.1 (by decide),Bool.false_or]
   rfl
  | wrap g=>
   obtain ⟨l,q',e1,_,e2,hq⟩ :=hT
   have hn1:nT (.wrap g)=1 + nT g:=rfl
   refine body "wrap" 4 l [q'] [g] rfl (by decide) (by decide) e1 e2 (.cons hq .nil) (fun x hx=>by rw [List.mem_singleton.mp hx]; simpa [okT] using hok) (by rw [ZnI]; omega) rfl ?_
   show ZhJ "wrap" [] (Zfm b ns "wrap" 4 g)=brW b (wdG b ns g)
   unfold ZhJ Zfm
   have:=ZPY b g
   rw [if_neg (by simp),show decide (4≤rkG b g)=false from decide_eq_false (by omega),Bool.or_false,show decide (("wrap" : Str) = "wrap"∧b=true)=b by cases b <;> decide]
   rfl
  | join v gs=>
   obtain ⟨l,ps,e1,_,e2,hq⟩ :=hT
   have hn1:nT (.join v gs)=1 + nTL gs:=rfl
   simp only [okT,Bool.and_eq_true,decide_eq_true_iff] at hok
   have ok':∀ g ∈ gs,okT ns.length g=true:=by
    have:=hok.2
    rw [ZoB,List.all_eq_true] at this
    exact this
   refine body (kw3 v) (ZeG v) l ps gs rfl (by cases v <;> decide) (by cases v <;> decide) e1 e2 hq ok' (by omega) (by cases v <;> rfl) ?_
   have nn:kw3 v ≠ "not":=by cases v <;> decide
   have nw:kw3 v ≠ "wrap":=by cases v <;> decide
   rw [if_neg nn,ZKS _ nn]
   ·show _=jnW (kw3 v) (wdGL b ns (ZeG v) gs)
    rw [ZG8]
    congr 1
    refine List.map_congr_left fun g hg=>?_
    unfold Zfm
    rw [show decide (kw3 v = "wrap"∧b=true)=false from decide_eq_false fun y=>nw y.1,Bool.false_or]
   ·intro x hx
    obtain ⟨g,hg,rfl⟩ :=List.mem_map.mp hx
    have:=ZQl b ns ns.length g (ok' g hg)
    unfold Zfm brW
    by_cases hc:(decide (kw3 v = "wrap"∧b=true) || decide (ZeG v≤rkG b g))=true
    ·rw [if_pos hc]; simp
    ·rw [if_neg hc]; exact this
end
unseal PE PA PS PSs
def cl1 (z:Str):List Nat:=z.cps.toList
def Nc (ws:List (List Nat)):Prop:=ws ≠ []∧ws.head? ≠ some [41]∧ws.getLast? ≠ some [40]
theorem Zot:∀ {a b:List (List Nat)},a ≠ []→b ≠ []→glue (a ++ b)=glue a ++ (if a.getLast?=some [40]∨b.head?=some [41] then [] else [32]) ++ glue b
 | [],b,ha,_=>absurd rfl ha
 | [p],[],_,hb=>absurd rfl hb
 | [p],q :: r,_,_=>by
  show p ++ (if p=[40]∨q=[41] then [] else [32]) ++ glue (q :: r)=p ++ _ ++ glue (q :: r)
  simp
 | p :: q :: r,b,_,hb=>by
  have ih:=Zot (a:=q :: r) (b:=b) (by simp) hb
  have e:(p :: q :: r).getLast?=(q :: r).getLast?:=by simp [List.getLast?_cons]
  show p ++ (if p=[40]∨q=[41] then [] else [32]) ++ glue (q :: r ++ b)=(p ++ (if p=[40]∨q=[41] then [] else [32]) ++ glue (q :: r)) ++ _ ++ glue b
  rw [ih,e]
  simp only [List.append_assoc]
theorem ZNt {ws:List (List Nat)} (h:Nc ws):glue ([40] :: (ws ++ [[41]]))=[40] ++ glue ws ++ [41]:=by
 have a:glue (ws ++ [[41]])=glue ws ++ [41]:=by
  rw [Zot h.1 (by simp),if_pos (.inr rfl),List.append_nil]
  rfl
 have b:=Zot (a:=[[40]]) (b:=ws ++ [[41]]) (by simp) (by simp)
 rw [if_pos (.inl rfl),List.append_nil,a] at b
 exact b.trans (List.append_assoc ..).symm
theorem ZKX {a b:List (List Nat)} {k:List Nat} (ha:Nc a) (hb:Nc b) (k1:k ≠ [40]) (k2:k ≠ [41]):glue (a ++ k :: b)=glue a ++ ([32] ++ k ++ [32]) ++ glue b:=by
 have e2:=Zot (a:=[k]) (b:=b) (by simp) hb.1
 rw [if_neg (by rintro (h | h); exact k1 (by simpa using h); exact hb.2.1 h)] at e2
 rw [Zot ha.1 (by simp),if_neg (by rintro (h | h); exact ha.2.2 h; exact k2 (by simpa using h))]
 have:glue (k :: b)=k ++ [32] ++ glue b:=e2
 rw [this]
 simp only [List.append_assoc]
theorem ZKY {b:List (List Nat)} {k:List Nat} (hb:Nc b) (k1:k ≠ [40]):glue (k :: b)=k ++ [32] ++ glue b:=by
 have e2:=Zot (a:=[k]) (b:=b) (by simp) hb.1
 rw [if_neg (by rintro (h | h); exact k1 (by simpa using h); exact hb.2.1 h)] at e2
 exact e2
theorem ZKZ:∀ {a b:List (List Nat)},a ≠ []→(a ++ b).head?=a.head?
 | [],_,h=>absurd rfl h
 | _ :: _,_,_=>rfl
theorem ZAt:∀ {a b:List (List Nat)},b ≠ []→(a ++ b).getLast?=b.getLast?
 | [],_,_=>rfl
 | x :: a,b,h=>by
  have:=ZAt (a:=a) h
  rw [List.cons_append,List.getLast?_cons_of_ne_nil (by simp [h]),this]
theorem Nc.mid {a b:List (List Nat)} {k:List Nat} (ha:Nc a) (hb:Nc b):Nc (a ++ k :: b):=by
 refine ⟨by simp,?_,?_⟩
 ·rw [ZKZ ha.1]; exact ha.2.1
 ·rw [ZAt (by simp),List.getLast?_cons_of_ne_nil hb.1]; exact hb.2.2
theorem Nc.pre {b:List (List Nat)} {k:List Nat} (hb:Nc b) (k2:k ≠ [41]):Nc (k :: b):=by
 refine ⟨by simp,?_,?_⟩
 ·simpa using k2
 ·rw [List.getLast?_cons_of_ne_nil hb.1]; exact hb.2.2
theorem Nc.one {k:List Nat} (k1:k ≠ [40]) (k2:k ≠ [41]):Nc [k]:=⟨by simp,by simpa using k2,by simpa using k1⟩
theorem Nc.br (ws:List (List Nat)):Nc ([40] :: (ws ++ [[41]])):=by
 refine ⟨by simp,by simp,?_⟩
 rw [List.getLast?_cons_of_ne_nil (by simp),ZAt (by simp)]
 simp
theorem ZGP (π:Nat→Nat):∀ t:Tr,ZrR (fmT π t)=rkG false t
 | .lamp _=>rfl
 | .sure _=>rfl
 | .neg _=>rfl
 | .wrap t=>ZGP π t
 | .join _ _=>rfl
theorem ZKI (b:Bool) (ws:List Str):(brW b ws).map cl1=if b=true then [40] :: (ws.map cl1 ++ [[41]]) else ws.map cl1:=by
 unfold brW
 by_cases h:b=true
 ·rw [if_pos h,if_pos h,List.map_cons,List.map_append]; rfl
 ·rw [if_neg h,if_neg h]
theorem ZKJ (b:Bool) (z:Str):cl1 (brk b z)=if b=true then [40] ++ cl1 z ++ [41] else cl1 z:=by
 unfold brk
 by_cases h:b=true
 ·rw [if_pos h,if_pos h]
  show ((Str.empty ++ "(") ++ z ++ ")" : Str).cps.toList=_
  rw [list_append,list_append,list_append]
  rfl
 ·rw [if_neg h,if_neg h]
theorem ZGo (v:W3):∀ txs:List (List Str),txs ≠ []→(∀ p ∈ txs,Nc (p.map cl1))→Nc ((jnW (kw3 v) txs).map cl1)∧glue ((jnW (kw3 v) txs).map cl1)=jn (cl1 (ZyM v)) (txs.map fun p=>glue (p.map cl1))
 | [],h,_=>absurd rfl h
 | [p],_,h=>⟨h p List.mem_cons_self,rfl⟩
 | p :: q :: r,_,h=>by
  obtain ⟨n1,e1⟩ :=ZGo v (q :: r) (by simp) fun x hx=>h x (List.mem_cons_of_mem _ hx)
  have n0:=h p List.mem_cons_self
  have em:(jnW (kw3 v) (p :: q :: r)).map cl1=p.map cl1 ++ cl1 (kw3 v) :: (jnW (kw3 v) (q :: r)).map cl1:=by
   show (p ++ kw3 v :: jnW (kw3 v) (q :: r)).map cl1=_
   rw [List.map_append,List.map_cons]
  rw [em]
  refine ⟨n0.mid n1,?_⟩
  rw [ZKX n0 n1 (by cases v <;> decide) (by cases v <;> decide),e1]
  have ew:cl1 (ZyM v)=[32] ++ cl1 (kw3 v) ++ [32]:=by cases v <;> decide
  rw [← ew]
  rfl
def NmL (z:Str):Prop:=z.cps.toList ≠ []∧∀ c ∈ z.cps.toList,97≤c∧c≤122
theorem NmL.no {z:Str} (h:NmL z):cl1 z ≠ [40]∧cl1 z ≠ [41]:=⟨fun e=>by have:=h.2 40 (by show 40 ∈ cl1 z; rw [e]; simp); omega,fun e=>by have:=h.2 41 (by show 41 ∈ cl1 z; rw [e]; simp); omega⟩
theorem ZH8 {ns' ns:List Str} {π:Nat→Nat} {t:Tr} (r:Nat) (g:Nc ((wdG false ns t).map cl1)∧cl1 (Zd1 ns' (fmT π t))=glue ((wdG false ns t).map cl1)):Nc ((brW (decide (r≤rkG false t)) (wdG false ns t)).map cl1)∧cl1 (Zza ns' r (fmT π t))=glue ((brW (decide (r≤rkG false t)) (wdG false ns t)).map cl1):=by
 unfold Zza
 rw [ZKI,ZKJ,ZGP]
 by_cases h:decide (r≤rkG false t)=true
 ·rw [if_pos h,if_pos h,g.2]
  exact ⟨Nc.br _,(ZNt g.1).symm⟩
 ·rw [if_neg h,if_neg h]
  exact g
mutual
theorem Zj3 {ns' ns:List Str} {π:Nat→Nat} {m:Nat} (hπ:∀ k,k < m→ns'.getD (π k) Str.empty=ns.getD k Str.empty) (hN:∀ k,k < m→NmL (ns.getD k Str.empty)):∀ t:Tr,okT m t=true→Nc ((wdG false ns t).map cl1)∧cl1 (Zd1 ns' (fmT π t))=glue ((wdG false ns t).map cl1)
 | .lamp k,h=>by
  have hk:k < m:=by simpa [okT] using h
  refine ⟨Nc.one (hN k hk).no.1 (hN k hk).no.2,?_⟩
  show cl1 (ns'.getD (π k) Str.empty)=cl1 (ns.getD k Str.empty)
  rw [hπ k hk]
 | .sure c,_=>by
  refine ⟨?_,rfl⟩
  cases c
  ·exact Nc.one (by decide) (by decide)
  ·exact Nc.one (by decide) (by decide)
 | .neg t,h=>by
  have g:=ZH8 1 (Zj3 hπ hN t (by simpa [okT] using h))
  have e:(wdG false ns (.neg t)).map cl1=cl1 "not" :: (brW (decide (1≤rkG false t)) (wdG false ns t)).map cl1:=rfl
  rw [e]
  refine ⟨g.1.pre (by decide),?_⟩
  rw [ZKY g.1 (by decide),← g.2]
  show ((Str.empty ++ "not " ++ Zza ns' 1 (fmT π t)):Str).cps.toList=_
  rw [list_append,list_append]
  rfl
 | .wrap t,h=>by
  have g:=Zj3 hπ hN t (by simpa [okT] using h)
  exact g
 | .join v ts,h=>by
  simp only [okT,Bool.and_eq_true,decide_eq_true_iff] at h
  obtain ⟨a,b⟩ :=ZyB hπ hN (ZeG v) ts h.2
  have ne:wdGL false ns (ZeG v) ts ≠ []:=by
   cases ts with
   | nil=>exact absurd h.1 (by decide)
   | cons x r=>simp [wdGL]
  obtain ⟨n,e⟩ :=ZGo v (wdGL false ns (ZeG v) ts) ne a
  refine ⟨n,?_⟩
  show cl1 (Zd1 ns' (.join v (fmTL π ts)))=glue ((jnW (kw3 v) (wdGL false ns (ZeG v) ts)).map cl1)
  rw [e,ZzN,← Zs3]
  show (Builtin.Str.glued _ _).cps.toList=_
  rw [StrLaws.glued_eq_join,ZjI]
  exact congrArg _ b
theorem ZyB {ns' ns:List Str} {π:Nat→Nat} {m:Nat} (hπ:∀ k,k < m→ns'.getD (π k) Str.empty=ns.getD k Str.empty) (hN:∀ k,k < m→NmL (ns.getD k Str.empty)) (r:Nat):∀ ts:List Tr,okTL m ts=true→(∀ p ∈ wdGL false ns r ts,Nc (p.map cl1))∧(Zcq ns' r (fmTL π ts)).map (fun p=>p.cps.toList)=(wdGL false ns r ts).map fun p=>glue (p.map cl1)
 | [],_=>⟨fun p hp=>(by simp [wdGL] at hp),by simp [Zcq,fmTL,wdGL]⟩
 | t :: ts,h=>by
  simp only [okTL,Bool.and_eq_true] at h
  have g:=ZH8 r (Zj3 hπ hN t h.1)
  obtain ⟨a,b⟩ :=ZyB hπ hN r ts h.2
  have e:wdGL false ns r (t :: ts)=brW (decide (r≤rkG false t)) (wdG false ns t) :: wdGL false ns r ts:=by simp [wdGL]
  have e2:Zcq ns' r (fmTL π (t :: ts))=Zza ns' r (fmT π t) :: Zcq ns' r (fmTL π ts):=by simp [Zcq,fmTL,Zza]
  rw [e,e2]
  refine ⟨fun p hp=>?_,?_⟩
  ·rcases List.mem_cons.mp hp with rfl | hp
   ·exact g.1
   ·exact a p hp
  ·rw [List.map_cons,List.map_cons,b,← g.2]
   rfl
end
theorem ZB4 {x y:Str} (h:cl1 x=cl1 y):x=y:=by
 cases x; cases y
 exact congrArg Str.mk (Array.toList_inj.mp h)
def kwsX:List Str:=["yes","no","not","(",")","and","either","or"]
theorem ZEH {Pz:Str→Prop} (hk:∀ z ∈ kwsX,Pz z) {b:Bool} {ws:List Str} (h:∀ z ∈ ws,Pz z):∀ z ∈ brW b ws,Pz z:=by
 intro z hz
 unfold brW at hz
 by_cases e:b=true
 ·rw [if_pos e] at hz
  rcases List.mem_cons.mp hz with rfl | hz
  ·exact hk _ (by decide)
  ·rcases List.mem_append.mp hz with hz | hz
   ·exact h z hz
   ·rw [List.mem_singleton.mp hz]; exact hk _ (by decide)
 ·rw [if_neg e] at hz; exact h z hz
theorem ZIX {Pz:Str→Prop} {k:Str} (hk:Pz k):∀ {txs:List (List Str)},(∀ p ∈ txs,∀ z ∈ p,Pz z)→∀ z ∈ jnW k txs,Pz z
 | [],_,z,hz=>absurd hz (by simp [jnW])
 | [p],h,z,hz=>h p List.mem_cons_self z hz
 | p :: q :: r,h,z,hz=>by
  have hz:z ∈ p ++ k :: jnW k (q :: r):=hz
  rcases List.mem_append.mp hz with hz | hz
  ·exact h p List.mem_cons_self z hz
  ·rcases List.mem_cons.mp hz with rfl | hz
   ·exact hk
   ·exact ZIX hk (txs:=q :: r) (fun x hx=>h x (List.mem_cons_of_mem _ hx)) z hz
mutual
theorem ZEf {Pz:Str→Prop} (hk:∀ z ∈ kwsX,Pz z) {b:Bool} {ns:List Str} {m:Nat} (hn:∀ k,k < m→Pz (ns.getD k Str.empty)):∀ t:Tr,okT m t=true→∀ z ∈ wdG b ns t,Pz z
 | .lamp k,h,z,hz=>by
  have hz:z ∈ [ns.getD k Str.empty]:=hz
  rw [List.mem_singleton.mp hz]
  exact hn k (by simpa [okT] using h)
 | .sure c,h,z,hz=>by
  have hz:z ∈ [(if c=true then "yes" else "no" : Str)]:=hz
  rw [List.mem_singleton.mp hz]
  cases c
  ·exact hk "no" (by decide)
  ·exact hk "yes" (by decide)
 | .neg t,h,z,hz=>by
  have hz:z ∈ ("not" : Str) :: brW (decide (1≤rkG b t)) (wdG b ns t):=hz
  rcases List.mem_cons.mp hz with rfl | hz
  ·exact hk _ (by decide)
  ·exact ZEH hk (ZEf hk hn t (by simpa [okT] using h)) z hz
 | .wrap t,h,z,hz=>ZEH hk (ZEf hk hn t (by simpa [okT] using h)) z hz
 | .join v ts,h,z,hz=>by
  simp only [okT,Bool.and_eq_true,decide_eq_true_iff] at h
  exact ZIX (hk _ (by cases v <;> decide)) (ZKm hk hn (ZeG v) ts h.2) z hz
theorem ZKm {Pz:Str→Prop} (hk:∀ z ∈ kwsX,Pz z) {b:Bool} {ns:List Str} {m:Nat} (hn:∀ k,k < m→Pz (ns.getD k Str.empty)) (r:Nat):∀ ts:List Tr,okTL m ts=true→∀ p ∈ wdGL b ns r ts,∀ z ∈ p,Pz z
 | [],_,p,hp=>absurd hp (by simp [wdGL])
 | t :: ts,h,p,hp=>by
  simp only [okTL,Bool.and_eq_true] at h
  have e:wdGL b ns r (t :: ts)=brW (decide (r≤rkG b t)) (wdG b ns t) :: wdGL b ns r ts:=by simp [wdGL]
  rw [e] at hp
  rcases List.mem_cons.mp hp with rfl | hp
  ·exact ZEH hk (ZEf hk hn t h.1)
  ·exact ZKm hk hn r ts h.2 p hp
end
def WdS (z:Str):Prop:=Wd (cl1 z)∧z.length≤8
theorem Wd.let {z:Str} (h:NmL z):Wd (cl1 z):=.inr (.inr h)
theorem ZI6:∀ z ∈ kwsX,WdS z:=by
 intro z hz
 unfold kwsX at hz
 simp only [List.mem_cons,List.not_mem_nil,or_false] at hz
 rcases hz with rfl | rfl | rfl | rfl | rfl | rfl | rfl | rfl
 ·exact ⟨.inr (.inr ⟨by decide,by decide⟩),by decide⟩
 ·exact ⟨.inr (.inr ⟨by decide,by decide⟩),by decide⟩
 ·exact ⟨.inr (.inr ⟨by decide,by decide⟩),by decide⟩
 ·exact ⟨.inl rfl,by decide⟩
 ·exact ⟨.inr (.inl rfl),by decide⟩
 ·exact ⟨.inr (.inr ⟨by decide,by decide⟩),by decide⟩
 ·exact ⟨.inr (.inr ⟨by decide,by decide⟩),by decide⟩
 ·exact ⟨.inr (.inr ⟨by decide,by decide⟩),by decide⟩
theorem ZFu {c d:Nat} {z:List Nat} (hz:z.length≤2):∀ l:List Nat,(rp2 c d z l).length≤l.length
 | []=>Nat.le_refl _
 | [a]=>Nat.le_refl _
 | a :: b :: r=>by
  have i1:=ZFu (c:=c) (d:=d) hz r
  have i2:=ZFu (c:=c) (d:=d) hz (b :: r)
  show (if a=c∧b=d then z ++ rp2 c d z r else a :: rp2 c d z (b :: r)).length≤_
  by_cases h:a=c∧b=d
  ·rw [if_pos h,List.length_append]; simp only [List.length_cons]; omega
  ·rw [if_neg h]; simp only [List.length_cons] at *; omega
theorem ZM5 {B:Nat}:∀ {zs:List Str},(∀ z ∈ zs,z.length≤B)→(zs.map (·.length)).sum≤B * zs.length
 | [],_=>Nat.zero_le _
 | z :: zs,h=>by
  have a:=h z List.mem_cons_self
  have b:=ZM5 (zs:=zs) fun x hx=>h x (List.mem_cons_of_mem _ hx)
  rw [List.map_cons,List.sum_cons,List.length_cons,Nat.mul_succ]
  omega
seal PE PA PS PSs
section
variable {P:Program} {w:World} {K:PySem.W.Frag} {mg:Str→Option Value} {base:Heap} {t:Ad} {n:Nat}
def ZLU (n:Nat):Sp:=fun vs H Q _=>∃ (p nl:Addr) (tr:Tr) (ns:List Str),vs=[.ref p,.ref nl]∧TwAt anyA H n p tr∧H nl=some (.lst (ns.map V.str))∧okT ns.length tr=true∧nT tr≤61∧(∀ k,k < ns.length→NmL (ns.getD k Str.empty)∧(ns.getD k Str.empty).length≤8)∧∀ x H',Same H H'→cl1 x=glue ((wdG false ns tr).map cl1)→Q (.str x) H'
theorem ZNd (T:Txt K mg t):FnS P w K mg base (n + 3) "_law_plain" ["_law_tree_here","_law_names_here"] (ZLU n):=by
 have Zb8:=Ztc (P:=P) (w:=w) (base:=base) T n
 refine ⟨_,_,T.Zl0.ok Zs2 (fun vs H Q E h=>?_) (fun cdv A outer s H vs Q E hr h=>?_),T.Zus,T.Zl0.kp,T.ZvA⟩
 ·obtain ⟨p,nl,tr,ns,rfl,_⟩ :=h
  rfl
 obtain ⟨p,nl,tr,ns,rfl,hT,hn,hok,hnT,hN,q⟩ :=h
 have hw:=ZEf (Pz:=WdS) ZI6 (b:=false) (m:=ns.length) (ns:=ns) (fun k hk=>⟨Wd.let (hN k hk).1,(hN k hk).2⟩) tr hok
 refine ⟨_,(ZPP (ssp 2 Zs2.nd (Zj0 PySem.F.plainAttrs_str PySem.F.slot_str_join PySem.F.type_str_join ZJj Zal (Zaa (Zbv Zb8 hr (Zaa (pv 0) (Zaa (pv 1) (Zaa ZjZ Zaf)))) Zaf)))
   (ZLD (ZOd (ZJM (ZJM (ZPN (pv 2))))))),?_⟩
 walk_at "rd0"
 refine ⟨tyS,?_⟩
 walk_at "rd"
 refine ⟨p,nl,false,tr,ns,rfl,hT,hn,hok,hnT,fun l H1 s1 n1 e1=>?_⟩
 walk_at "rd"
 have hsum:((wdG false ns tr).map (·.length)).sum≤8 * (wdG false ns tr).length:=ZM5 fun z hz=>(hw z hz).2
 have hwl:=ZzR false ns tr
 refine ⟨" ",l,wdG false ns tr,rfl,rfl,SqL.of e1,?_,?_⟩
 ·unfold JoinOk Builtin.Str.tooLong
  rw [StrLaws.joinTotal]
  have:Str.length " " = 1:=rfl
  rw [this,decide_eq_false (Nat.not_lt.mpr (Zcf (by omega)))]
  rfl
 have hj:(Txt.join " " (wdG false ns tr)).cps.toList=jn [32] ((wdG false ns tr).map cl1):=by
  show (Builtin.Str.glued _ _).cps.toList=_
  rw [StrLaws.glued_eq_join,ZjI]
  rfl
 have hjl:(Txt.join " " (wdG false ns tr)).length≤8 * 244 + 244:=by
  show (Builtin.Str.glued _ _).length≤_
  rw [StrLaws.glued_eq_join]
  have:=StrLaws.join_length_le " " (wdG false ns tr)
  have e:Str.length " " = 1:=rfl
  rw [e] at this
  omega
 have hg:=ZEP _ _ hj fun p hp=>by
  obtain ⟨z,hz,rfl⟩ :=List.mem_map.mp hp
  exact (hw z hz).1
 walk_at "rd"
 have h1:(Txt.replace (Txt.join " " (wdG false ns tr)) ⟨#[40,32]⟩ ⟨#[40]⟩).length≤(Txt.join " " (wdG false ns tr)).length:=by
  show Array.size _≤Array.size _
  rw [← Array.length_toList,← Array.length_toList,Zle]
  exact ZFu (by decide) _
 refine ⟨_,rfl,by decide,?_,_,rfl,by decide,?_,?_⟩
 ·show _ + (_ + 1) * 1≤_
  omega
 ·show (Txt.replace (Txt.join " " (wdG false ns tr)) ⟨#[40,32]⟩ ⟨#[40]⟩).length + ((Txt.replace (Txt.join " " (wdG false ns tr)) ⟨#[40,32]⟩ ⟨#[40]⟩).length + 1) * 1≤_
  omega
 ·exact q _ H1 s1 hg
end
unseal PE PA PS PSs
def padL (l:List Nat):List Nat:=l.flatMap fun c=>if isM c=true then [32,c,32] else [c]
theorem ZGF (a b:List Nat):padL (a ++ b)=padL a ++ padL b:=List.flatMap_append ..
theorem ZN8 (c:Nat):rp 44 [32,44,32] (rp 41 [32,41,32] (rp 40 [32,40,32] [c]))=padL [c]:=by
 by_cases h1:c=40
 ·subst h1; rfl
 by_cases h2:c=41
 ·subst h2; rfl
 by_cases h3:c=44
 ·subst h3; rfl
 have e:isM c=false:=by unfold isM; simp [h1,h2,h3]
 rw [ZtF (c:=40) (by simp; omega),ZtF (c:=41) (by simp; omega),ZtF (c:=44) (by simp; omega)]
 unfold padL
 simp [e]
theorem ZJD:∀ l:List Nat,rp 44 [32,44,32] (rp 41 [32,41,32] (rp 40 [32,40,32] l))=padL l
 | []=>rfl
 | c :: l=>by
  have e:c :: l=[c] ++ l:=rfl
  rw [e,Zn0,Zn0,Zn0,ZN8,ZJD l,ZGF]
theorem ZLy (x:Str):(pad x).cps.toList=padL x.cps.toList:=by
 unfold pad padC
 rw [Zf9,Zf9,Zf9]
 exact ZJD _
def Ww1 (l:List Nat):List (List Nat):=wl (padL l) []
theorem ZL4 {x:Str} (h:∀ d ∈ x.cps.toList,al d=true):(Txt.words (pad x)).map cl1=Ww1 x.cps.toList:=by
 have:=ZFE (pad x) fun c hc=>ZKF c (ZQp (ZMU h c hc)) (ZMU h c hc)
 rw [ZLy] at this
 exact this
theorem ZKE (r:List Nat):Ww1 (32 :: r)=Ww1 r:=rfl
theorem ZwI:∀ (g:Nat) (r:List Nat),Ww1 (List.replicate g 32 ++ r)=Ww1 r
 | 0,r=>rfl
 | g + 1,r=>by
  rw [List.replicate_succ,List.cons_append,ZKE]
  exact ZwI g r
theorem ZHX {c:Nat} (h:isM c=true) (r:List Nat):Ww1 (c :: r)=[c] :: Ww1 r:=by
 have hc:c ≠ 32:=fun e=>by subst e; exact absurd h (by decide)
 unfold Ww1
 have e:padL (c :: r)=32 :: c :: 32 :: padL r:=by
  show (if isM c=true then [32,c,32] else [c]) ++ padL r=_
  rw [if_pos h]; rfl
 rw [e]
 show (if c=32 then _ else wl (32 :: padL r) ([] ++ [c]))=_
 rw [if_neg hc]
 rfl
theorem ZKo:∀ (p rest cur:List Nat),32 ∉ p→wl (p ++ rest) cur=wl rest (cur ++ p)
 | [],rest,cur,_=>by rw [List.append_nil]; rfl
 | d :: p,rest,cur,h=>by
  have h1 : ¬ d=32:=fun e=>h (by rw [e]; exact List.mem_cons_self)
  have h2:32 ∉ p:=fun e=>h (List.mem_cons_of_mem _ e)
  show (if d=32 then _ else wl (p ++ rest) (cur ++ [d]))=_
  rw [if_neg h1,ZKo p rest _ h2,List.append_assoc]
  rfl
def opn (r:List Nat):Prop:=r=[]∨∃ c r',r=c :: r'∧(c=32∨isM c=true)
theorem ZDF:∀ {p:List Nat},(∀ c ∈ p,97≤c∧c≤122)→padL p=p
 | [],_=>rfl
 | c :: p,h=>by
  have hc:=h c List.mem_cons_self
  have e:isM c=false:=by
   unfold isM
   simp only [Bool.or_eq_false_iff,beq_eq_false_iff_ne]
   omega
  show (if isM c=true then [32,c,32] else [c]) ++ padL p=c :: p
  rw [if_neg (by rw [e]; decide),ZDF fun d hd=>h d (List.mem_cons_of_mem _ hd)]
  rfl
theorem ZNh {p:List Nat} (hp:p ≠ []) (h:∀ c ∈ p,97≤c∧c≤122) {r:List Nat} (hr:opn r):Ww1 (p ++ r)=p :: Ww1 r:=by
 unfold Ww1
 rw [ZGF,ZDF h,ZKo _ _ _ (fun e=>by have:=h 32 e; omega),List.nil_append]
 have k:∀ rest,wl (32 :: rest) p=p :: wl rest []:=fun rest=>by
  show (if (32:Nat)=32 then (if p=[] then _ else p :: wl rest []) else _)=_
  rw [if_pos rfl,if_neg hp]
 rcases hr with rfl | ⟨c,r',rfl,hc⟩
 ·show (if p=[] then [] else [p])=_
  rw [if_neg hp]
  rfl
 ·by_cases hm:isM c=true
  ·have e:padL (c :: r')=32 :: c :: 32 :: padL r':=by
    show (if isM c=true then [32,c,32] else [c]) ++ padL r'=_
    rw [if_pos hm]; rfl
   rw [e,k]
   rfl
  ·have e2:c=32:=hc.resolve_right hm
   subst e2
   have e:padL (32 :: r')=32 :: padL r':=rfl
   rw [e,k]
   rfl
def isMk (z:Str):Bool:=decide (cl1 z=[40]) || decide (cl1 z=[41])
theorem ZGm {z:Str} (h:WdS z):(!(Builtin.Str.occurrences "()," z 0 (Str.length "(),") 1).isEmpty)=isMk z:=by
 rcases h.1 with e | e | e
 ·have:z = "(":=ZB4 e
  subst this
  decide +kernel
 ·have:z = ")":=ZB4 e
  subst this
  decide +kernel
 ·have hm:isMk z=false:=by
   unfold isMk
   rw [Bool.or_eq_false_iff]
   refine ⟨decide_eq_false fun y=>?_,decide_eq_false fun y=>?_⟩
   ·have:=e.2 40 (by rw [y]; simp); omega
   ·have:=e.2 41 (by rw [y]; simp); omega
  rw [hm]
  refine Bool.eq_false_iff.mpr fun y=>?_
  obtain ⟨i,hi,hs⟩ :=(StrLaws.found_iff "()," z).mp y
  unfold Builtin.Str.subAt at hs
  have e1:=congrArg Array.toList (eq_of_beq hs)
  obtain ⟨c,hc⟩ :=List.exists_mem_of_ne_nil _ e.1
  have hc2:c ∈ (Str.cps "(),").toList:=by
   have hc1:c ∈ z.cps.toList:=hc
   rw [← e1,Array.toList_extract] at hc1
   exact List.mem_of_mem_drop (List.mem_of_mem_take hc1)
  have hc3:c ∈ [40,41,44]:=hc2
  have:=e.2 c hc
  simp only [List.mem_cons,List.not_mem_nil,or_false] at hc3
  omega
theorem ZKW {ps:List Str} {i:Nat} {x:V} (h:(ps.map V.str)[i]?=some x):∃ p,x=V.str p∧ps[i]?=some p:=by
 rw [List.getElem?_map] at h
 cases e:ps[i]? with
 | none=>rw [e] at h; cases h
 | some p=>rw [e] at h; cases h; exact ⟨p,rfl,rfl⟩
theorem ZwX:∀ g:Nat,g≤2→cl1 (Txt.mul " " (g:Int))=List.replicate g 32:=by
 intro g hg
 match g,hg with
 | 0,_=>decide +kernel
 | 1,_=>decide +kernel
 | 2,_=>decide +kernel
seal PE PA PS PSs
section
variable {P:Program} {w:World} {K:PySem.W.Frag} {mg:Str→Option Value} {base:Heap} {t:Ad} {n:Nat}
def ZKb:Sp:=fun vs H Q _=>∃ (l:Addr) (ws:List Str) (c:Int),vs=[.ref l,.int c]∧H l=some (.lst (ws.map V.str))∧(∀ z ∈ ws,WdS z)∧ws.length≤244∧∀ x:Str,(∀ d ∈ x.cps.toList,al d=true)→x.length≤3600→Txt.words (pad x)=ws→Q (.str x) H
def fits (last:Str) (r:List Nat):Prop:=isMk last=true∨opn r
theorem ZMS:∀ g:Nat,g≤2→MulOk " " (g:Int):=by
 intro g hg
 match g,hg with
 | 0,_=>exact ⟨by decide,fun h _=>absurd (by decide) h,fun h _=>absurd (by decide) h⟩
 | 1,_=>exact ⟨by decide,fun _ _=>by decide,fun _ _=>by decide +kernel⟩
 | 2,_=>exact ⟨by decide,fun _ _=>by decide,fun _ _=>by decide +kernel⟩
theorem ZQN {p:List Nat} (h:Wd p):∀ d ∈ p,al d=true:=by
 intro d hd
 rcases h with rfl | rfl | h
 ·rw [List.mem_singleton.mp hd]; decide
 ·rw [List.mem_singleton.mp hd]; decide
 ·have:=h.2 d hd
  unfold al isL
  rw [decide_eq_true this.1,decide_eq_true this.2]
  rfl
theorem ZKf {z:Str} (zw:WdS z) {r:List Nat} (h:fits z r):Ww1 (cl1 z ++ r)=cl1 z :: Ww1 r:=by
 rcases zw.1 with e | e | e
 ·rw [e]; exact ZHX (by decide) r
 ·rw [e]; exact ZHX (by decide) r
 ·refine ZNh e.1 e.2 (h.resolve_left fun y=>?_)
  unfold isMk at y
  rw [Bool.or_eq_true,decide_eq_true_iff,decide_eq_true_iff] at y
  rcases y with y | y
  ·have:=e.2 40 (by rw [y]; simp); omega
  ·have:=e.2 41 (by rw [y]; simp); omega
theorem ZIx {z last:Str} (zw:WdS z) {g:Nat} {r:List Nat} (h:g=0→isMk z=true∨isMk last=true):fits last (List.replicate g 32 ++ (cl1 z ++ r)):=by
 cases g with
 | succ g=>exact .inr (.inr ⟨32,_,rfl,.inl rfl⟩)
 | zero=>
  rcases h rfl with y | y
  ·unfold isMk at y
   rw [Bool.or_eq_true,decide_eq_true_iff,decide_eq_true_iff] at y
   rcases y with y | y
   ·exact .inr (.inr ⟨40,r,by rw [y]; rfl,.inr (by decide)⟩)
   ·exact .inr (.inr ⟨41,r,by rw [y]; rfl,.inr (by decide)⟩)
  ·exact .inl y
theorem ZJz (T:Txt K mg t):FnS P w K mg base 1 "_law_spaced" ["_law_some","_law_seed"] ZKb:=by
 refine ⟨_,_,T.Zj5.ok Zbq (fun vs H Q E h=>?_) (fun cdv A outer s H vs Q E hr h=>?_),T.Zrb,T.Zj5.kp,T.Zsn⟩
 ·obtain ⟨l,ws,c,rfl,_⟩ :=h
  rfl
 obtain ⟨l,ws,c,rfl,hl,hw,hwn,q⟩ :=h
 refine ⟨_,(Zac (ss 2 Zbq.nd Zal)
   (Zac (ss 3 Zbq.nd Zal)
   (Zac (ss 4 Zbq.nd (Zau Zcc (pv 1) Zae))
   (Zac (Zc4 PassesOwn.never rfl (Zc3 (pv 0)) (sg 5 Zbq.nd)
   (Zac (ss 4 Zbq.nd (Zau Zcc (Zau ZaQ (Zau ZFj (pv 4) Zae) Zae) Zae))
   (Zac (ss 6 Zbq.nd (Zax (ZId rfl) rfl T.B.max ZMg (Zaa Zae (Zaa (Zau Zhw (Zau Zcc (Zau ZdZ (pv 4) Zae) Zae) Zae) Zaf))))
   (Zac (ZaI (PW.pt (Zgt (Zah (ZaC hr.units) (pv 6) Zae (Zap _)) (Zgt (Zah Zsy (pv 5) Zal (by with_unfolding_all rfl)) (Zfw (Zah Zsy (pv 3) Zal (by with_unfolding_all rfl))))))
   (Zad (ss 6 Zbq.nd Zae))
   Zaq)
   (Zac (ss 2 Zbq.nd (Zau ZaQ (Zau ZaQ (pv 2) (Zau ZFj Zal (pv 6))) (pv 5)))
   (Zad (ss 3 Zbq.nd (pv 5))))))))
   (Zad (Zam (Zau ZaQ (pv 2) (Zau ZFj Zal (Zau Zcc (pv 1) Zae))))))))),?_⟩
 walk_at "rd0"
 refine seqL (xs:=ws.map V.str) (fun i σ H'=>H'=H∧∃ (x last:Str) (st:Int) (v6 v7:Option V),0≤st∧WdS last∧(∀ d ∈ x.cps.toList,al d=true)∧x.length≤10 * i∧(∀ r,fits last r→Ww1 (cl1 x ++ r)=(ws.take i).map cl1 ++ Ww1 r)∧σ=[some (.ref l),some (.int (c:Int)),some (.str x),some (.str last),some (.int st),v6,v7]) ⟨rfl,"","(",_,_,_,by omega,ZI6 _ (by decide),by decide,by decide,fun r _=>rfl,rfl⟩ (fun i σ H' _ hp=>by obtain ⟨rfl,_⟩ :=hp; exact SqL.of hl) ?_ ?_
 ·rintro i z σ H' hx ⟨rfl,x,last,st,v6,v7,hst,hlast,hal,hxl,hW,rfl⟩
  obtain ⟨z,rfl,hz⟩ :=ZKW hx
  have zw:=hw z (List.mem_of_getElem? hz)
  walk_at "rd"
  refine .inl (ZxC (.inr ⟨by decide,by decide⟩) ?_)
  walk_at "rs"
  have hst2:0≤(st * 48271 + 11) % 2147483647:=by omega
  generalize (st * 48271 + 11) % 2147483647=st2 at hst2 ⊢
  refine ZAk ?_
  walk_at "rs"
  (try refine ZNB ?_)
  obtain ⟨g,hg,hg2⟩ : ∃ g:Nat,max 0 (st2 / 512 % 5 - 2)=(g:Int)∧g≤2:=⟨(max 0 (st2 / 512 % 5 - 2)).toNat,by omega,by omega⟩
  rw [hg]
  walk_at "rs"
  refine ZrY (fun σ H1=>H1=H'∧∃ g':Nat,g'≤2∧(g'=0→isMk z=true∨isMk last=true)∧σ=[some (.ref l),some (.int (c:Int)),some (.str x),some (.str last),some (.int st2),some (.str z),some (.int (g':Int))]) ?_ ?_
  rotate_left
  ·intro Kn hK
   walk_at "rs"
   refine Zd3 (fun h0=>?_) (fun h0=>?_)
   ·walk_at "rs"
    refine .inl ⟨_,_,rfl,rfl,?_⟩
    rw [ZGm zw]
    dsimp only
    walk_at "rs"
    cases hz1:isMk z with
    | true=>
     refine ZaP rfl ?_
     refine ZaP rfl ?_
     walk_at "rs"
     exact hK _ _ ⟨rfl,g,hg2,fun _=>.inl hz1,rfl⟩
    | false=>
     refine ZcG rfl ?_
     walk_at "rs"
     refine .inl ⟨_,_,rfl,rfl,?_⟩
     rw [ZGm hlast]
     dsimp only
     walk_at "rs"
     cases hz2:isMk last with
     | true=>
      refine ZaP rfl ?_
      walk_at "rs"
      exact hK _ _ ⟨rfl,g,hg2,fun _=>.inr hz2,rfl⟩
     | false=>
      refine ZcG rfl ?_
      walk_at "rs"
      exact hK _ _ ⟨rfl,1,by decide,fun e=>absurd e (by decide),rfl⟩
   ·walk_at "rs"
    exact hK _ _ ⟨rfl,g,hg2,fun e=>absurd (show (g:Int)=0 by omega) h0,rfl⟩
  rintro σ H1 ⟨rfl,g',hg',hgm,rfl⟩
  have eb:=ZwX g' hg'
  have lb:(Txt.mul " " (g':Int)).length=g':=by
   show Array.size _=_
   rw [← Array.length_toList]
   have:=congrArg List.length eb
   rw [List.length_replicate] at this
   exact this
  have hil:i < ws.length:=(List.getElem?_eq_some_iff.mp hz).1
  have zl:=zw.2
  walk_at "rs"
  refine ZAk ?_
  walk_at "rs"
  refine .inr ⟨" ",(g':Int),rfl,rfl,ZMS g' hg',?_⟩
  refine Zvh (Zcf (by rw [lb]; omega)) ?_
  walk_at "rs"
  refine Zvh (Zcf (by rw [ZaD,lb]; omega)) ?_
  walk_at "rs"
  have e1:∀ r,cl1 (x ++ Txt.mul " " (g':Int) ++ z) ++ r=cl1 x ++ (List.replicate g' 32 ++ (cl1 z ++ r)):=fun r=>by
   have:cl1 (x ++ Txt.mul " " (g':Int) ++ z)=cl1 x ++ cl1 (Txt.mul " " (g':Int)) ++ cl1 z:=by
    show (x ++ Txt.mul " " (g':Int) ++ z).cps.toList=_
    rw [list_append,list_append]
    rfl
   rw [this,eb,List.append_assoc,List.append_assoc]
  refine ⟨rfl,_,z,st2,_,_,hst2,zw,?_,?_,?_,rfl⟩
  ·intro d hd
   have hd':d ∈ cl1 (x ++ Txt.mul " " (g':Int) ++ z) ++ []:=by rw [List.append_nil]; exact hd
   rw [e1,List.append_nil] at hd'
   rcases List.mem_append.mp hd' with hd | hd
   ·exact hal d hd
   ·rcases List.mem_append.mp hd with hd | hd
    ·rw [(List.mem_replicate.mp hd).2]; decide
    ·exact ZQN zw.1 d hd
  ·rw [ZaD,ZaD,lb]; omega
  ·intro r hr
   rw [e1,hW _ (ZIx zw hgm),ZwI,ZKf zw hr,ZbJ hz,List.map_append,List.append_assoc]
   rfl
 ·rintro σ H' ⟨rfl,x,last,st,v6,v7,hst,hlast,hal,hxl,hW,rfl⟩
  walk_at "rd"
  obtain ⟨g,hg,hg2⟩ : ∃ g:Nat,(c:Int) % 3=(g:Int)∧g≤2:=⟨(c % 3).toNat,by omega,by omega⟩
  rw [hg]
  have eb:=ZwX g hg2
  have lb:(Txt.mul " " (g:Int)).length=g:=by
   show Array.size _=_
   rw [← Array.length_toList]
   have:=congrArg List.length eb
   rw [List.length_replicate] at this
   exact this
  have hxl:x.length≤10 * ws.length:=by rw [List.length_map] at hxl; exact hxl
  refine .inr ⟨" ",(g:Int),rfl,rfl,ZMS g hg2,?_⟩
  refine Zvh (Zcf (by rw [lb]; omega)) ?_
  have e1:cl1 (x ++ Txt.mul " " (g:Int))=cl1 x ++ (List.replicate g 32 ++ []):=by
   show (x ++ Txt.mul " " (g:Int)).cps.toList=_
   rw [list_append,List.append_nil,← eb]
   rfl
  have hal2:∀ d ∈ (x ++ Txt.mul " " (g:Int)).cps.toList,al d=true:=by
   intro d hd
   have hd':d ∈ cl1 (x ++ Txt.mul " " (g:Int)):=hd
   rw [e1,List.append_nil] at hd'
   rcases List.mem_append.mp hd' with hd | hd
   ·exact hal d hd
   ·rw [(List.mem_replicate.mp hd).2]; decide
  refine q _ hal2 (by rw [ZaD,lb]; omega) ?_
  refine ZCY ?_
  have hww:=ZL4 hal2
  refine hww.trans ?_
  show Ww1 (cl1 (x ++ Txt.mul " " (g:Int)))=_
  rw [e1,hW _ (.inr ?_),ZwI,List.length_map,List.take_length]
  ·exact List.append_nil _
  ·cases g with
   | zero=>exact .inl rfl
   | succ g=>exact .inr ⟨32,_,rfl,.inl rfl⟩
end
unseal PE PA PS PSs
seal PE PA PS PSs
section
variable {P:Program} {w:World} {K:PySem.W.Frag} {mg:Str→Option Value} {base:Heap} {t:Ad} {n:Nat}
theorem Zow {C:Addr}:PySem.W.kitOne K (.ref C) (.ref C)=some true:=if_pos (beq_self_eq_true _)
def ZGX (t:Ad) (n:Nat):Sp:=fun vs H Q _=>∃ (a p:Addr) (tr:Tr) (π:Nat→Nat),vs=[.ref a,.ref p]∧TwAt anyA H n p tr∧FmE t H a (fmT π tr)∧Q (.bl true) H
theorem Zzz (T:Txt K mg t):∀ n:Nat,FnS P w K mg base (n + 1) "_law_of_class" ["_law_found","_law_tree_here"] (ZGX t n)
 | 0=>by
  have no:∀ vs H Q E,¬ ZGX t 0 vs H Q E:=fun vs H Q E h=>by
   obtain ⟨a,p,tr,π,_,h,_⟩ :=h
   exact h
  exact ⟨_,_,⟨fun vs H Q E h=>absurd h (no vs H Q E),fun A outer s H args us vs Q E _ _ _ _ h=>absurd h (no vs H Q E)⟩,T.ZgP,T.ZeH.kp,T.Zhg⟩
 | n + 1=>by
  have Zb7:=Zzz T n
  refine ⟨_,_,T.ZeH.ok Zch (fun vs H Q E h=>?_) (fun cdv A outer s H vs Q E hr h=>?_),T.ZgP,T.ZeH.kp,T.Zhg⟩
  ·obtain ⟨a,p,tr,π,rfl,_⟩ :=h
   rfl
  obtain ⟨a,p,tr,π,rfl,hT,⟨k,hF⟩,q⟩ :=h
  cases k with
  | zero=>exact absurd hF id
  | succ k=>
  cases tr with
  | lamp i=>
   have hp:H p=some (.tup [.str "lamp",.int (i:Int)]):=hT
   obtain ⟨dx,ea⟩ :=hF
   refine ⟨_,(Zac (ss 2 Zch.nd (ZaG Zar (pv 1) Zae (fun _ _=>rfl)))
   (Zac (ZaI (Zah (ZaC hr.units) (pv 2) Zal (Zap _))
   (Zad (Zam (Zbv Zb7 hr (Zaa (pv 0) (Zaa (ZaG Zar (ZaG Zar (pv 1) Zae (fun _ _=>rfl)) Zae (fun _ _=>rfl)) Zaf)))))
   Zaq)
   (Zac (ZaI (Zah (ZaC hr.units) (pv 2) Zal (Zap _))
   (Zad (Zam (Zax ZaJ rfl T.B.isinstance Zan (Zaa (pv 0) (Zaa (Za9 (v:=.ref t.Zav) rfl T.ZxT rfl) Zaf)))))
   Zaq)
   (Zac (ZaI (Zah (ZaC hr.units) (pv 2) Zal (Zap _))
   (Zad (Zam (Zax ZaJ rfl T.B.isinstance Zan (Zaa (pv 0) (Zaa (Za9 (v:=.ref t.Zaw) rfl T.ZxU rfl) Zaf)))))
   Zaq)
   (Zac (ZaI (Zah (ZaC hr.units) (pv 2) Zal (Zap _))
   (Zad (Zam (Zax ZaJ rfl T.B.isinstance Zan (Zaa (pv 0) (Zaa (Za9 (v:=.ref t.C_Not) rfl T.m_Not rfl) Zaf)))))
   Zaq)
   (Zac (ZaI (Zah (ZaC hr.units) (pv 2) Zal (Zap _))
   (Zad (Zam (Zax ZaJ rfl T.B.isinstance Zan (Zaa (pv 0) (Zaa (Za9 (v:=.ref t.C_And) rfl T.m_And rfl) Zaf)))))
   Zaq)
   (Zac (ZaI (Zah (ZaC hr.units) (pv 2) Zal (Zap _))
   (Zad (Zam (Zax ZaJ rfl T.B.isinstance Zan (Zaa (pv 0) (Zaa (Za9 (v:=.ref t.Zaj) rfl T.Zla rfl) Zaf)))))
   Zaq)
   (Zad (Zam (Zax ZaJ rfl T.B.isinstance Zan (Zaa (pv 0) (Zaa (Za9 (v:=.ref t.C_Or) rfl T.m_Or rfl) Zaf)))))))))))),?_⟩
   walk_at "rd0"
   refine ZbE hp (v:=.str "lamp") rfl ?_
   walk_at "rd"
   refine ZaP rfl ?_
   walk_at "rd"
   refine ZcG rfl ?_
   walk_at "rd"
   exact ZxB (T.ZKr _ _ _ _ ea) Zow q
  | sure c=>
   have hp:H p=some (.tup [.str "sure",.bl c]):=hT
   obtain ⟨dx,ea⟩ :=hF
   refine ⟨_,(Zac (ss 2 Zch.nd (ZaG Zar (pv 1) Zae (fun _ _=>rfl)))
   (Zac (ZaI (Zah (ZaC hr.units) (pv 2) Zal (Zap _))
   (Zad (Zam (Zbv Zb7 hr (Zaa (pv 0) (Zaa (ZaG Zar (ZaG Zar (pv 1) Zae (fun _ _=>rfl)) Zae (fun _ _=>rfl)) Zaf)))))
   Zaq)
   (Zac (ZaI (Zah (ZaC hr.units) (pv 2) Zal (Zap _))
   (Zad (Zam (Zax ZaJ rfl T.B.isinstance Zan (Zaa (pv 0) (Zaa (Za9 (v:=.ref t.Zav) rfl T.ZxT rfl) Zaf)))))
   Zaq)
   (Zac (ZaI (Zah (ZaC hr.units) (pv 2) Zal (Zap _))
   (Zad (Zam (Zax ZaJ rfl T.B.isinstance Zan (Zaa (pv 0) (Zaa (Za9 (v:=.ref t.Zaw) rfl T.ZxU rfl) Zaf)))))
   Zaq)
   (Zac (ZaI (Zah (ZaC hr.units) (pv 2) Zal (Zap _))
   (Zad (Zam (Zax ZaJ rfl T.B.isinstance Zan (Zaa (pv 0) (Zaa (Za9 (v:=.ref t.C_Not) rfl T.m_Not rfl) Zaf)))))
   Zaq)
   (Zac (ZaI (Zah (ZaC hr.units) (pv 2) Zal (Zap _))
   (Zad (Zam (Zax ZaJ rfl T.B.isinstance Zan (Zaa (pv 0) (Zaa (Za9 (v:=.ref t.C_And) rfl T.m_And rfl) Zaf)))))
   Zaq)
   (Zac (ZaI (Zah (ZaC hr.units) (pv 2) Zal (Zap _))
   (Zad (Zam (Zax ZaJ rfl T.B.isinstance Zan (Zaa (pv 0) (Zaa (Za9 (v:=.ref t.Zaj) rfl T.Zla rfl) Zaf)))))
   Zaq)
   (Zad (Zam (Zax ZaJ rfl T.B.isinstance Zan (Zaa (pv 0) (Zaa (Za9 (v:=.ref t.C_Or) rfl T.m_Or rfl) Zaf)))))))))))),?_⟩
   walk_at "rd0"
   refine ZbE hp (v:=.str "sure") rfl ?_
   walk_at "rd"
   refine ZaP rfl ?_
   walk_at "rd"
   refine ZaP rfl ?_
   walk_at "rd"
   refine ZcG rfl ?_
   walk_at "rd"
   exact ZxB (T.ZKs _ _ _ _ ea) Zow q
  | neg g=>
   obtain ⟨l,q',e1,_,e2,hq⟩ :=hT
   obtain ⟨dx,q2,ea,_⟩ :=hF
   refine ⟨_,(Zac (ss 2 Zch.nd (ZaG Zar (pv 1) Zae (fun _ _=>rfl)))
   (Zac (ZaI (Zah (ZaC hr.units) (pv 2) Zal (Zap _))
   (Zad (Zam (Zbv Zb7 hr (Zaa (pv 0) (Zaa (ZaG Zar (ZaG Zar (pv 1) Zae (fun _ _=>rfl)) Zae (fun _ _=>rfl)) Zaf)))))
   Zaq)
   (Zac (ZaI (Zah (ZaC hr.units) (pv 2) Zal (Zap _))
   (Zad (Zam (Zax ZaJ rfl T.B.isinstance Zan (Zaa (pv 0) (Zaa (Za9 (v:=.ref t.Zav) rfl T.ZxT rfl) Zaf)))))
   Zaq)
   (Zac (ZaI (Zah (ZaC hr.units) (pv 2) Zal (Zap _))
   (Zad (Zam (Zax ZaJ rfl T.B.isinstance Zan (Zaa (pv 0) (Zaa (Za9 (v:=.ref t.Zaw) rfl T.ZxU rfl) Zaf)))))
   Zaq)
   (Zac (ZaI (Zah (ZaC hr.units) (pv 2) Zal (Zap _))
   (Zad (Zam (Zax ZaJ rfl T.B.isinstance Zan (Zaa (pv 0) (Zaa (Za9 (v:=.ref t.C_Not) rfl T.m_Not rfl) Zaf)))))
   Zaq)
   (Zac (ZaI (Zah (ZaC hr.units) (pv 2) Zal (Zap _))
   (Zad (Zam (Zax ZaJ rfl T.B.isinstance Zan (Zaa (pv 0) (Zaa (Za9 (v:=.ref t.C_And) rfl T.m_And rfl) Zaf)))))
   Zaq)
   (Zac (ZaI (Zah (ZaC hr.units) (pv 2) Zal (Zap _))
   (Zad (Zam (Zax ZaJ rfl T.B.isinstance Zan (Zaa (pv 0) (Zaa (Za9 (v:=.ref t.Zaj) rfl T.Zla rfl) Zaf)))))
   Zaq)
   (Zad (Zam (Zax ZaJ rfl T.B.isinstance Zan (Zaa (pv 0) (Zaa (Za9 (v:=.ref t.C_Or) rfl T.m_Or rfl) Zaf)))))))))))),?_⟩
   walk_at "rd0"
   refine ZbE e1 (v:=.str "not") rfl ?_
   walk_at "rd"
   refine ZaP rfl ?_
   walk_at "rd"
   refine ZaP rfl ?_
   walk_at "rd"
   refine ZaP rfl ?_
   walk_at "rd"
   refine ZcG rfl ?_
   walk_at "rd"
   exact ZxB (T.y_Not _ _ _ _ ea) Zow q
  | wrap g=>
   obtain ⟨l,q',e1,_,e2,hq⟩ :=hT
   refine ⟨_,(Zac (ss 2 Zch.nd (ZaG Zar (pv 1) Zae (fun _ _=>rfl)))
   (Zac (ZaI (Zah (ZaC hr.units) (pv 2) Zal (Zap _))
   (Zad (Zam (Zbv Zb7 hr (Zaa (pv 0) (Zaa (ZaG Zar (ZaG Zar (pv 1) Zae (fun _ _=>rfl)) Zae (fun _ _=>rfl)) Zaf)))))
   Zaq)
   (Zac (ZaI (Zah (ZaC hr.units) (pv 2) Zal (Zap _))
   (Zad (Zam (Zax ZaJ rfl T.B.isinstance Zan (Zaa (pv 0) (Zaa (Za9 (v:=.ref t.Zav) rfl T.ZxT rfl) Zaf)))))
   Zaq)
   (Zac (ZaI (Zah (ZaC hr.units) (pv 2) Zal (Zap _))
   (Zad (Zam (Zax ZaJ rfl T.B.isinstance Zan (Zaa (pv 0) (Zaa (Za9 (v:=.ref t.Zaw) rfl T.ZxU rfl) Zaf)))))
   Zaq)
   (Zac (ZaI (Zah (ZaC hr.units) (pv 2) Zal (Zap _))
   (Zad (Zam (Zax ZaJ rfl T.B.isinstance Zan (Zaa (pv 0) (Zaa (Za9 (v:=.ref t.C_Not) rfl T.m_Not rfl) Zaf)))))
   Zaq)
   (Zac (ZaI (Zah (ZaC hr.units) (pv 2) Zal (Zap _))
   (Zad (Zam (Zax ZaJ rfl T.B.isinstance Zan (Zaa (pv 0) (Zaa (Za9 (v:=.ref t.C_And) rfl T.m_And rfl) Zaf)))))
   Zaq)
   (Zac (ZaI (Zah (ZaC hr.units) (pv 2) Zal (Zap _))
   (Zad (Zam (Zax ZaJ rfl T.B.isinstance Zan (Zaa (pv 0) (Zaa (Za9 (v:=.ref t.Zaj) rfl T.Zla rfl) Zaf)))))
   Zaq)
   (Zad (Zam (Zax ZaJ rfl T.B.isinstance Zan (Zaa (pv 0) (Zaa (Za9 (v:=.ref t.C_Or) rfl T.m_Or rfl) Zaf)))))))))))),?_⟩
   walk_at "rd0"
   refine ZbE e1 (v:=.str "wrap") rfl ?_
   walk_at "rd"
   refine ZcG rfl ?_
   walk_at "rd"
   refine ZbE e1 (v:=.ref l) rfl ?_
   walk_at "rd"
   refine ZlU (j:=0) (v:=.ref q') e2 rfl ?_
   walk_at "rd"
   exact ⟨a,q',g,π,rfl,hq,⟨k + 1,hF⟩,q⟩
  | join v gs=>
   obtain ⟨l,ps,e1,_,e2,hq⟩ :=hT
   obtain ⟨dx,tp,ps2,ea,_⟩ :=hF
   refine ⟨_,(Zac (ss 2 Zch.nd (ZaG Zar (pv 1) Zae (fun _ _=>rfl)))
   (Zac (ZaI (Zah (ZaC hr.units) (pv 2) Zal (Zap _))
   (Zad (Zam (Zbv Zb7 hr (Zaa (pv 0) (Zaa (ZaG Zar (ZaG Zar (pv 1) Zae (fun _ _=>rfl)) Zae (fun _ _=>rfl)) Zaf)))))
   Zaq)
   (Zac (ZaI (Zah (ZaC hr.units) (pv 2) Zal (Zap _))
   (Zad (Zam (Zax ZaJ rfl T.B.isinstance Zan (Zaa (pv 0) (Zaa (Za9 (v:=.ref t.Zav) rfl T.ZxT rfl) Zaf)))))
   Zaq)
   (Zac (ZaI (Zah (ZaC hr.units) (pv 2) Zal (Zap _))
   (Zad (Zam (Zax ZaJ rfl T.B.isinstance Zan (Zaa (pv 0) (Zaa (Za9 (v:=.ref t.Zaw) rfl T.ZxU rfl) Zaf)))))
   Zaq)
   (Zac (ZaI (Zah (ZaC hr.units) (pv 2) Zal (Zap _))
   (Zad (Zam (Zax ZaJ rfl T.B.isinstance Zan (Zaa (pv 0) (Zaa (Za9 (v:=.ref t.C_Not) rfl T.m_Not rfl) Zaf)))))
   Zaq)
   (Zac (ZaI (Zah (ZaC hr.units) (pv 2) Zal (Zap _))
   (Zad (Zam (Zax ZaJ rfl T.B.isinstance Zan (Zaa (pv 0) (Zaa (Za9 (v:=.ref t.C_And) rfl T.m_And rfl) Zaf)))))
   Zaq)
   (Zac (ZaI (Zah (ZaC hr.units) (pv 2) Zal (Zap _))
   (Zad (Zam (Zax ZaJ rfl T.B.isinstance Zan (Zaa (pv 0) (Zaa (Za9 (v:=.ref t.Zaj) rfl T.Zla rfl) Zaf)))))
   Zaq)
   (Zad (Zam (Zax ZaJ rfl T.B.isinstance Zan (Zaa (pv 0) (Zaa (Za9 (v:=.ref t.C_Or) rfl T.m_Or rfl) Zaf)))))))))))),?_⟩
   walk_at "rd0"
   refine ZbE e1 (v:=.str (kw3 v)) rfl ?_
   walk_at "rd"
   cases v with
   | a=>
    refine ZaP rfl ?_
    walk_at "rd"
    refine ZaP rfl ?_
    walk_at "rd"
    refine ZaP rfl ?_
    walk_at "rd"
    refine ZaP rfl ?_
    walk_at "rd"
    refine ZcG rfl ?_
    walk_at "rd"
    exact ZxB (T.y_And _ _ _ _ ea) Zow q
   | e=>
    refine ZaP rfl ?_
    walk_at "rd"
    refine ZaP rfl ?_
    walk_at "rd"
    refine ZaP rfl ?_
    walk_at "rd"
    refine ZaP rfl ?_
    walk_at "rd"
    refine ZaP rfl ?_
    walk_at "rd"
    refine ZcG rfl ?_
    walk_at "rd"
    exact ZxB (T.ZCc _ _ _ _ ea) Zow q
   | o=>
    refine ZaP rfl ?_
    walk_at "rd"
    refine ZaP rfl ?_
    walk_at "rd"
    refine ZaP rfl ?_
    walk_at "rd"
    refine ZaP rfl ?_
    walk_at "rd"
    refine ZaP rfl ?_
    walk_at "rd"
    refine ZaP rfl ?_
    walk_at "rd"
    exact ZxB (T.y_Or _ _ _ _ ea) Zow q
end
unseal PE PA PS PSs
theorem ZNm (ks:List Nat):dedS (dedS ks)=dedS ks:=by
 show (List.range 6).filter (fun i=>decide (i ∈ dedS ks))=(List.range 6).filter fun i=>decide (i ∈ ks)
 apply List.filter_congr
 intro i hi
 apply decide_eq_decide.mpr
 unfold dedS
 rw [List.mem_filter,decide_eq_true_iff]
 exact ⟨fun h=>h.2,fun h=>⟨hi,h⟩⟩
theorem ZNn:∀ k,k < 6→dedS [k]=[k]:=by decide +kernel
theorem ZxN:∀ f:Fm,f.low 6=true→dedS (Zci f)=Zci f
 | .lamp k,h=>by
  simp only [Fm.low,decide_eq_true_iff] at h
  simp only [Zci]
  exact ZNn k h
 | .sure b,_=>by simp only [Zci]; decide +kernel
 | .neg f,h=>by
  simp only [Fm.low] at h
  simp only [Zci]
  exact ZxN f h
 | .join w fs,_=>by simp only [Zci]; exact ZNm _
theorem ZzH {n i:Nat} {lo:Int} {x:V} (h:((List.range n).map fun i:Nat=>V.int (lo + (i:Int)))[i]?=some x):i < n∧x=.int (lo + (i:Int)):=by
 rw [List.getElem?_map] at h
 by_cases hi:i < n
 ·rw [List.getElem?_range hi] at h
  exact ⟨hi,(Option.some.inj h).symm⟩
 ·rw [List.getElem?_eq_none (by rw [List.length_range]; omega)] at h
  cases h
theorem Zg4 (p:Nat→Bool) (n:Nat):(List.range (n + 1)).filter p=(List.range n).filter p ++ (if p n=true then [n] else []):=by
 rw [List.range_succ,List.filter_append]
 by_cases h:p n=true
 ·simp [h]
 ·simp [h]
mutual
theorem ZC0 {π:Nat→Nat} {m B:Nat} (h6:∀ k,k < m→π k < B):∀ t:Tr,okT m t=true→(fmT π t).low B=true
 | .lamp k,h=>decide_eq_true (h6 k (by simpa [okT] using h))
 | .sure c,_=>rfl
 | .neg t,h=>ZC0 h6 t (by simpa [okT] using h)
 | .wrap t,h=>ZC0 h6 t (by simpa [okT] using h)
 | .join v ts,h=>by
  simp only [okT,Bool.and_eq_true,decide_eq_true_iff] at h
  show (Fm.join v (fmTL π ts)).low B=true
  rw [ZAx,List.all_eq_true]
  exact ZMO h6 ts h.2
theorem ZMO {π:Nat→Nat} {m B:Nat} (h6:∀ k,k < m→π k < B):∀ ts:List Tr,okTL m ts=true→∀ f ∈ fmTL π ts,f.low B=true
 | [],_,f,hf=>by simp [fmTL] at hf
 | t :: ts,h,f,hf=>by
  simp only [okTL,Bool.and_eq_true] at h
  have hf:f ∈ fmT π t :: fmTL π ts:=hf
  rcases List.mem_cons.mp hf with rfl | hf
  ·exact ZC0 h6 t h.1
  ·exact ZMO h6 ts h.2 f hf
end
theorem ZAd (π:Nat→Nat):∀ ts:List Tr,fmTL π ts=ts.map (fmT π)
 | []=>rfl
 | t :: ts=>congrArg (fmT π t :: ·) (ZAd π ts)
seal PE PA PS PSs
section
variable {P:Program} {w:World} {K:PySem.W.Frag} {mg:Str→Option Value} {base:Heap} {t:Ad} {n:Nat}
def lamT (t:Tr):List Nat:=Zci (fmT id t)
theorem ZAs (t:Tr):(lamT t).length≤6:=Zsi _
theorem Zxw:∀ ts:List Tr,(ts.flatMap lamT).length≤6 * ts.length
 | []=>by simp
 | f :: fs=>by
  rw [List.flatMap_cons,List.length_append,List.length_cons]
  have:=ZAs f
  have:=Zxw fs
  omega
theorem ZGl (x:Nat):∀ ns:List Nat,inV (.int (x:Int)) (Zht ns)=decide (x ∈ ns)
 | []=>by simp [inV,Zht]
 | y :: ns=>by
  have ih:=ZGl x ns
  unfold inV Zht at ih ⊢
  rw [List.map_cons,List.any_cons,ih]
  have e:eqV (.int (y:Int)) (.int (x:Int))=decide (y=x):=by
   show decide ((y:Int)=(x:Int))=_
   exact decide_eq_decide.mpr (by omega)
  rw [e]
  by_cases h:y=x
  ·simp [h]
  ·have h' : ¬ x=y:=fun z=>h z.symm
   simp [h,h']
theorem ZNy {p:Addr} {x:Nat} {ns:List Nat} {H:Hp} {Q:VK} (h:H p=some (.lst (Zht ns))) (k:Q (.bl (decide (x ∈ ns))) H):rInG K (.int (x:Int)) (.ref p) H Q:=by
 refine .inr ⟨p,Zht ns,rfl,.inl (SqL.of h),rfl,?_,?_⟩
 ·rw [List.all_eq_true]
  intro v hv
  obtain ⟨z,_,rfl⟩ :=List.mem_map.mp hv
  rfl
 ·rw [ZGl]
  exact k
def ZGZ (n:Nat):Sp:=fun vs H Q _=>∃ (p:Addr) (tr:Tr),vs=[.ref p]∧TwAt anyA H n p tr∧okT 6 tr=true∧nT tr≤61∧∀ l H',Same H H'→H l=none→H' l=some (.lst (Zht (lamT tr)))→Q (.ref l) H'
theorem ZFR (T:Txt K mg t):∀ n:Nat,FnS P w K mg base (n + 1) "_law_lamps" ["_law_tree_here"] (ZGZ n)
 | 0=>by
  have no:∀ vs H Q E,¬ ZGZ 0 vs H Q E:=fun vs H Q E h=>by
   obtain ⟨p,tr,_,h,_⟩ :=h
   exact h
  exact ⟨_,_,⟨fun vs H Q E h=>absurd h (no vs H Q E),fun A outer s H args us vs Q E _ _ _ _ h=>absurd h (no vs H Q E)⟩,T.Zmt,T.ZhM.kp,T.ZnF⟩
 | n + 1=>by
  have ZfQ:=ZFR T n
  refine ⟨_,_,T.ZhM.ok ZbB (fun vs H Q E h=>?_) (fun cdv A outer s H vs Q E hr h=>?_),T.Zmt,T.ZhM.kp,T.ZnF⟩
  ·obtain ⟨p,tr,rfl,_⟩ :=h
   rfl
  obtain ⟨p,tr,rfl,hT,hok,hnT,q⟩ :=h
  have fin:∀ (L:List Nat) (fl:Addr) (v2:Option V) (H2:Hp),Same H H2→H2 fl=some (.lst (Zht L))→L.length≤1000→dedS L=lamT tr→tRet (ZLY (ZK1 (Zs8 (tC (V.int 6)) tNil)) [1] (ZOB (tOp (rInG K) (tVar 0) (tVar 1))) (tVar 0)) { nx:=fun x H'=>Q V.non H',rt:=Q } [some (.ref p),some (.ref fl),v2] H2:=by
   intro L fl v2 H2 s2 e2 hL hd
   walk_at "rs"
   refine ⟨_,rfl,by omega,by omega,?_⟩
   refine Ztj (fun i ys=>ys=Zht ((List.range i).filter fun k=>decide (k ∈ L))) (ZG9 0 6 H2) (by simp) rfl ?_ ?_
   ·intro i x ys acc H' hx s1 hacc ea hy _ R kk
    obtain ⟨hi,rfl⟩ :=ZzH hx
    rw [Int.zero_add]
    rw [Int.zero_add] at kk
    simp only [subS,List.map_cons,List.map_nil]
    walk_at "rd"
    refine ZNy (s1 _ _ e2) ?_
    refine ⟨_,rfl,?_⟩
    refine kk _ H' (Same.refl _) (fun z=>?_) fun z R2 k2=>?_
    ·rw [Zg4,z,if_neg Bool.false_ne_true,List.append_nil]
     exact hy
    ·walk_at "rd"
     refine k2 _ H' (Same.refl _) ?_
     rw [Zg4,z,if_pos rfl,hy]
     unfold Zht
     rw [List.map_append]
     rfl
   intro dl ys H3 n3 s3 e3 hy
   rw [List.length_map,List.length_range] at hy
   subst hy
   exact q dl H3 (s2.trans s3) (s2.free n3) (by rw [e3]; exact congrArg (fun z=>some (HO.lst (Zht z))) hd)
  have body:∀ (z:Str) (l:Addr) (ps:List Addr) (gs:List Tr),z ≠ "lamp"→z ≠ "sure"→H p=some (.tup [.str z,.ref l])→H l=some (.lst (ps.map V.ref))→Paired (TwAt anyA H n) ps gs→(∀ g ∈ gs,okT 6 g=true)→nTL gs≤60→dedS (gs.flatMap lamT)=lamT tr→∃ tb,PSs (cxOf CX0 P w K mg base ["_law_tree_here","_law_found","_law_part"] "_law_lamps" (Zab Za4) t.Zc0 cdv A outer s H E).nox (Zag Za4) tb∧tb { nx:=fun _ H'=>Q V.non H',rt:=Q } (L2.start ["_law_tree_here","_law_found","_law_part"] [.ref p]) H:=by
   intro z l ps gs nz1 nz2 e1 e2 hps hgs hng hlam
   have hgl:=ZaY hps
   have hgn:=ZEZ gs
   refine ⟨_,(Zac (ZaI (Zah (ZaC hr.units) (ZaG Zar (pv 0) Zae (fun _ _=>rfl)) Zal (Zap _))
   (Zad (Zam (Za8 (Zaa (ZaG Zar (pv 0) Zae (fun _ _=>rfl)) Zaf))))
   Zaq)
   (Zac (ss 1 ZbB.nd (Za8 Zaf))
   (Zac (ZaI (Zah (ZiO hr.units) (ZaG Zar (pv 0) Zae (fun _ _=>rfl)) Zal (Zap _))
   (Zad (Zc4 PassesOwn.never rfl (Zc3 (ZaG Zar (pv 0) Zae (fun _ _=>rfl))) (sg 2 ZbB.nd)
   (Zad (ss 1 ZbB.nd (Zau ZaQ (pv 1) (Zbv ZfQ hr (Zaa (pv 2) Zaf)))))))
   Zaq)
   (Zad (Zam (Zhx (sc:=Zab Za4) (N:=["_law_tree_here","_law_found","_law_part"]) (ns:=["_law_found"]) (ix:=[1]) rfl rfl (by decide +kernel) rfl (ZdP rfl T.B.range (Zaa Zae Zaf)) (fun _ _ _ _=>(ZnZ (Zah (ZFi (K:=K) rfl) (pv 0) (pv 1) (by with_unfolding_all rfl)))) (fun _ _ _ _=>(pv 0)))))))),?_⟩
   walk_at "rd0"
   refine ZbE e1 (v:=.str z) rfl ?_
   walk_at "rd"
   refine ZaP (decide_eq_false nz1) ?_
   walk_at "rd"
   refine ZeA (by simp) fun f0 H1 s1 n1 e3=>?_
   walk_at "rs"
   refine ZrY (fun σ H'=>∃ fl v2,Same H H'∧H' fl=some (.lst (Zht (gs.flatMap lamT)))∧σ=[some (.ref p),some (.ref fl),v2]) ?_ ?_
   ·rintro σ H2 ⟨fl,v2,s2,e4,rfl⟩
    exact fin (gs.flatMap lamT) fl v2 H2 s2 e4 (by have:=Zxw gs; omega) hlam
   ·intro Kn hK
    walk_at "rs"
    refine ZbE (s1 _ _ e1) (v:=.str z) rfl ?_
    walk_at "rs"
    rw [show (!decide (z = "sure"))=true by rw [decide_eq_false nz2]; rfl]
    refine ZcG rfl ?_
    walk_at "rs"
    refine ZbE (s1 _ _ e1) (v:=.ref l) rfl ?_
    walk_at "rs"
    refine seqL (xs:=ps.map V.ref) (fun i σ H'=>∃ fl v2,Same H H'∧H' fl=some (.lst (Zht ((gs.take i).flatMap lamT)))∧σ=[some (.ref p),some (.ref fl),v2]) ⟨f0,_,s1,e3,rfl⟩ (fun i σ H' _ hp=>by obtain ⟨fl,v2,s',_⟩ :=hp; exact SqL.of (s' _ _ e2)) ?_ ?_
    ·rintro i x σ H4 hx ⟨fl,v2,s4,efl,rfl⟩
     obtain ⟨pa,rfl,hpa⟩ :=ZeT hx
     obtain ⟨g,hg,hga⟩ :=Zbs hps hpa
     have gm:=List.mem_of_getElem? hg
     have gn:=ZC2 gm
     walk_at "rd"
     refine ⟨pa,g,rfl,hga.same s4,hgs g gm,by omega,fun il H5 s5 n5 e5=>?_⟩
     have l1:=Zxw (gs.take i)
     have l2:=ZAs g
     have l3:(gs.take i).length≤gs.length:=by rw [List.length_take]; omega
     refine ZIT (s5 _ _ efl) e5 (by unfold Zht; rw [List.length_map,List.length_map]; omega) fun o H6 s6 n6 e6=>?_
     walk_at "rd"
     refine ⟨o,_,s4.trans (s5.trans s6),?_,rfl⟩
     rw [e6,ZbJ hg,List.flatMap_append]
     unfold Zht
     rw [List.map_append]
     simp
    ·rintro σ H4 ⟨fl,v2,s4,efl,rfl⟩
     rw [List.length_map,hgl,List.take_length] at efl
     exact hK _ _ ⟨fl,v2,s4,efl,rfl⟩
  cases tr with
  | lamp k=>
   have hp:H p=some (.tup [.str "lamp",.int (k:Int)]):=hT
   refine ⟨_,(Zac (ZaI (Zah (ZaC hr.units) (ZaG Zar (pv 0) Zae (fun _ _=>rfl)) Zal (Zap _))
   (Zad (Zam (Za8 (Zaa (ZaG Zar (pv 0) Zae (fun _ _=>rfl)) Zaf))))
   Zaq)
   (Zac (ss 1 ZbB.nd (Za8 Zaf))
   (Zac (ZaI (Zah (ZiO hr.units) (ZaG Zar (pv 0) Zae (fun _ _=>rfl)) Zal (Zap _))
   (Zad (Zc4 PassesOwn.never rfl (Zc3 (ZaG Zar (pv 0) Zae (fun _ _=>rfl))) (sg 2 ZbB.nd)
   (Zad (ss 1 ZbB.nd (Zau ZaQ (pv 1) (Zbv ZfQ hr (Zaa (pv 2) Zaf)))))))
   Zaq)
   (Zad (Zam (Zhx (sc:=Zab Za4) (N:=["_law_tree_here","_law_found","_law_part"]) (ns:=["_law_found"]) (ix:=[1]) rfl rfl (by decide +kernel) rfl (ZdP rfl T.B.range (Zaa Zae Zaf)) (fun _ _ _ _=>(ZnZ (Zah (ZFi (K:=K) rfl) (pv 0) (pv 1) (by with_unfolding_all rfl)))) (fun _ _ _ _=>(pv 0)))))))),?_⟩
   walk_at "rd0"
   refine ZbE hp (v:=.str "lamp") rfl ?_
   walk_at "rd"
   refine ZcG rfl ?_
   walk_at "rd"
   refine ZbE hp (v:=.int (k:Int)) rfl ?_
   walk_at "rd"
   refine ZeA (by simp) fun l H1 s1 n1 e1=>?_
   exact q l H1 s1 n1 e1
  | sure c=>
   have hp:H p=some (.tup [.str "sure",.bl c]):=hT
   refine ⟨_,(Zac (ZaI (Zah (ZaC hr.units) (ZaG Zar (pv 0) Zae (fun _ _=>rfl)) Zal (Zap _))
   (Zad (Zam (Za8 (Zaa (ZaG Zar (pv 0) Zae (fun _ _=>rfl)) Zaf))))
   Zaq)
   (Zac (ss 1 ZbB.nd (Za8 Zaf))
   (Zac (ZaI (Zah (ZiO hr.units) (ZaG Zar (pv 0) Zae (fun _ _=>rfl)) Zal (Zap _))
   (Zad (Zc4 PassesOwn.never rfl (Zc3 (ZaG Zar (pv 0) Zae (fun _ _=>rfl))) (sg 2 ZbB.nd)
   (Zad (ss 1 ZbB.nd (Zau ZaQ (pv 1) (Zbv ZfQ hr (Zaa (pv 2) Zaf)))))))
   Zaq)
   (Zad (Zam (Zhx (sc:=Zab Za4) (N:=["_law_tree_here","_law_found","_law_part"]) (ns:=["_law_found"]) (ix:=[1]) rfl rfl (by decide +kernel) rfl (ZdP rfl T.B.range (Zaa Zae Zaf)) (fun _ _ _ _=>(ZnZ (Zah (ZFi (K:=K) rfl) (pv 0) (pv 1) (by with_unfolding_all rfl)))) (fun _ _ _ _=>(pv 0)))))))),?_⟩
   walk_at "rd0"
   refine ZbE hp (v:=.str "sure") rfl ?_
   walk_at "rd"
   refine ZaP rfl ?_
   walk_at "rd"
   refine ZeA (by simp) fun f0 H1 s1 n1 e3=>?_
   walk_at "rs"
   refine ZAk ?_
   walk_at "rs"
   refine ZbE (s1 _ _ hp) (v:=.str "sure") rfl ?_
   walk_at "rs"
   refine ZaP rfl ?_
   walk_at "rs"
   exact fin [] f0 _ H1 s1 e3 (by decide) (show dedS []=[] by decide +kernel)
  | neg g=>
   obtain ⟨l,q',e1,_,e2,hq⟩ :=hT
   have hn1:nT (.neg g)=1 + nT g:=rfl
   have hg6:okT 6 g=true:=by simpa [okT] using hok
   refine body "not" l [q'] [g] (by decide) (by decide) e1 e2 (.cons hq .nil) (fun x hx=>by rw [List.mem_singleton.mp hx]; exact hg6) (by rw [ZnI]; omega) ?_
   rw [List.flatMap_cons,List.flatMap_nil,List.append_nil]
   exact ZxN _ (ZC0 (fun k hk=>hk) g hg6)
  | wrap g=>
   obtain ⟨l,q',e1,_,e2,hq⟩ :=hT
   have hn1:nT (.wrap g)=1 + nT g:=rfl
   have hg6:okT 6 g=true:=by simpa [okT] using hok
   refine body "wrap" l [q'] [g] (by decide) (by decide) e1 e2 (.cons hq .nil) (fun x hx=>by rw [List.mem_singleton.mp hx]; exact hg6) (by rw [ZnI]; omega) ?_
   rw [List.flatMap_cons,List.flatMap_nil,List.append_nil]
   exact ZxN _ (ZC0 (fun k hk=>hk) g hg6)
  | join v gs=>
   obtain ⟨l,ps,e1,_,e2,hq⟩ :=hT
   have hn1:nT (.join v gs)=1 + nTL gs:=rfl
   simp only [okT,Bool.and_eq_true,decide_eq_true_iff] at hok
   have ok':∀ g ∈ gs,okT 6 g=true:=by
    have:=hok.2
    rw [ZoB,List.all_eq_true] at this
    exact this
   refine body (kw3 v) l ps gs (by cases v <;> decide) (by cases v <;> decide) e1 e2 hq ok' (by omega) ?_
   show _=Zci (.join v (fmTL id gs))
   simp only [Zci]
   rw [ZxM,ZAd,List.flatMap_map]
   rfl
end
unseal PE PA PS PSs
theorem ZG1 (p:Nat→Bool):∀ n:Nat,((((List.range n).filter p).map fun s=>((2 ^ s:Nat):Int)).sum:Int)=((bits p n:Nat):Int)
 | 0=>by simp [bits]
 | n + 1=>by
  have ih:=ZG1 p n
  rw [Zg4,List.map_append,List.sum_append,ih]
  by_cases h:p n=true
  ·rw [if_pos h]
   simp [bits,h]
  ·rw [if_neg h]
   simp [bits,h]
theorem ZOx {x n:Nat} (h:x < 2 ^ n):(2 ^ n - 1) - x=(2 ^ n - 1) ^^^ x:=by
 apply Nat.eq_of_testBit_eq
 intro i
 rw [Nat.testBit_xor,show 2 ^ n - 1 - x=2 ^ n - (x + 1) by omega,Nat.testBit_two_pow_sub_succ h,Nat.testBit_two_pow_sub_one]
 by_cases hi:i < n
 ·rw [decide_eq_true hi]; simp
 ·rw [decide_eq_false hi,Nat.testBit_lt_two_pow (Nat.lt_of_lt_of_le h (Nat.pow_le_pow_right (by decide) (by omega)))]
  rfl
theorem ZzC (v:W3) (n:Nat):∀ (fs A:List Fm),(fs.map fun f=>f.crowd n).foldl (ZHc v) ((Fm.join v A).crowd n)=(Fm.join v (A ++ fs)).crowd n
 | [],A=>by rw [List.append_nil]; rfl
 | f :: fs,A=>by
  show (fs.map fun f=>f.crowd n).foldl (ZHc v) (ZHc v ((Fm.join v A).crowd n) (f.crowd n))=_
  rw [← ZeQ,ZzC v n fs (A ++ [f]),List.append_assoc]
  rfl
theorem ZH6 (s k:Nat):decide ((s:Int) / ((2 ^ k:Nat):Int) % 2=1)=s.testBit k:=by
 have e:(s:Int) / ((2 ^ k:Nat):Int) % 2=((s / 2 ^ k % 2:Nat):Int):=by
  rw [← Int.natCast_ediv]; omega
 rw [e,Nat.testBit_eq_decide_div_mod_eq]
 exact decide_eq_decide.mpr (by omega)
def cmb (z:Str) (a b:Nat):Nat:=if z = "and" then a &&& b else if z = "or" then a ||| b else a ^^^ b
seal PE PA PS PSs
section
variable {P:Program} {w:World} {K:PySem.W.Frag} {mg:Str→Option Value} {base:Heap} {t:Ad} {n:Nat}
def crT (m:Nat) (t:Tr):Nat:=(fmT id t).crowd (2 ^ m)
theorem ZOM (m:Nat) (t:Tr):crT m t < 2 ^ 2 ^ m:=Zz2 _ _
def ZGY (n:Nat):Sp:=fun vs H Q _=>∃ (p:Addr) (m:Nat) (tr:Tr),vs=[.ref p,.int (m:Int)]∧m≤6∧TwAt anyA H n p tr∧okT m tr=true∧nT tr≤61∧∀ H',Same H H'→Q (.int (crT m tr:Int)) H'
theorem ZFQ (T:Txt K mg t):∀ n:Nat,FnS P w K mg base (n + 1) "_law_crowd" ["_law_tree_here","_law_many"] (ZGY n)
 | 0=>by
  have no:∀ vs H Q E,¬ ZGY 0 vs H Q E:=fun vs H Q E h=>by
   obtain ⟨p,m,tr,_,_,h,_⟩ :=h
   exact h
  exact ⟨_,_,⟨fun vs H Q E h=>absurd h (no vs H Q E),fun A outer s H args us vs Q E _ _ _ _ h=>absurd h (no vs H Q E)⟩,T.Zms,T.ZhL.kp,T.ZnE⟩
 | n + 1=>by
  have ZbK:=ZFQ T n
  refine ⟨_,_,T.ZhL.ok Zaz (fun vs H Q E h=>?_) (fun cdv A outer s H vs Q E hr h=>?_),T.Zms,T.ZhL.kp,T.ZnE⟩
  ·obtain ⟨p,m,tr,rfl,_⟩ :=h
   rfl
  obtain ⟨p,m,tr,rfl,hm,hT,hok,hnT,q⟩ :=h
  have hp2:=ZnX hm
  have hp0:=Int.natCast_nonneg (2 ^ m)
  have eW:((2 ^ 2 ^ m:Nat):Int) - 1=((2 ^ 2 ^ m - 1:Nat):Int):=by
   have:1≤2 ^ 2 ^ m:=Nat.one_le_two_pow
   omega
  have body:∀ (z:Str) (l p0:Addr) (ps:List Addr) (g0:Tr) (gs:List Tr),z ≠ "lamp"→z ≠ "sure"→z ≠ "not"→H p=some (.tup [.str z,.ref l])→H l=some (.lst ((p0 :: ps).map V.ref))→Paired (TwAt anyA H n) (p0 :: ps) (g0 :: gs)→(∀ g ∈ g0 :: gs,okT m g=true)→nTL (g0 :: gs)≤60→(gs.map (crT m)).foldl (cmb z) (crT m g0)=crT m tr→∃ tb,PSs (cxOf CX0 P w K mg base ["_law_tree_here","_law_many","_law_whole","_law_found","_law_part","_law_one"] "_law_crowd" (Zab Za2) t.ZcZ cdv A outer s H E).nox (Zag Za2) tb∧tb { nx:=fun _ H'=>Q V.non H',rt:=Q } (L2.start ["_law_tree_here","_law_many","_law_whole","_law_found","_law_part","_law_one"] [.ref p,.int (m:Int)]) H:=by
   intro z l p0 ps g0 gs nz1 nz2 nz3 e1 e2 hps hgs hng hfold
   cases hps with
   | cons h0 hps=>
   have hgl:=ZaY hps
   have g0n:=ZC2 (List.mem_cons_self (a:=g0) (l:=gs))
   refine ⟨_,(Zac (ZaI (Zah (ZaC hr.units) (ZaG Zar (pv 0) Zae (fun _ _=>rfl)) Zal (Zap _))
   (Zad (Zam (Zax (Zrc rfl) rfl T.B.sum ZFY (Zaa (Zhx (sc:=Zab Za2) (N:=["_law_tree_here","_law_many","_law_whole","_law_found","_law_part","_law_one"]) (ns:=["_law_tree_here"]) (ix:=[0]) rfl rfl (by decide +kernel) rfl (ZdP rfl T.B.range (Zaa (Zau Zc2 Zae (pv 1)) Zaf)) (fun _ _ _ _=>(ZnZ (Zah (ZaC hr.units) (Zau Zcc (Zau ZdZ (pv 0) (Zau Zc2 Zae (ZaG (ZtA (K:=K) rfl) (pv 1) Zae (fun _ _=>rfl)))) Zae) Zae (Zap _)))) (fun _ _ _ _=>(Zau Zc2 Zae (pv 0)))) Zaf))))
   Zaq)
   (Zac (ss 2 Zaz.nd (Zau Zhw (Zau Zc2 Zae (Zau Zc2 Zae (pv 1))) Zae))
   (Zac (ZaI (Zah (ZaC hr.units) (ZaG Zar (pv 0) Zae (fun _ _=>rfl)) Zal (Zap _))
   (Zad (Zam (Zau Zjj (pv 2) (Zco ZeM rfl T.B.int Zmu (Zaa (ZaG Zar (pv 0) Zae (fun _ _=>rfl)) Zaf)))))
   Zaq)
   (Zac (ss 3 Zaz.nd (Zbv ZbK hr (Zaa (ZaG Zar (ZaG Zar (pv 0) Zae (fun _ _=>rfl)) Zae (fun _ _=>rfl)) (Zaa (pv 1) Zaf))))
   (Zac (ZaI (Zah (ZaC hr.units) (ZaG Zar (pv 0) Zae (fun _ _=>rfl)) Zal (Zap _))
   (Zad (Zam (Zau Zhw (pv 2) (pv 3))))
   Zaq)
   (Zac (Zc4 PassesOwn.never rfl (Zc3 (Zeq ZlR (ZaG Zar (pv 0) Zae (fun _ _=>rfl)) (Zfh Zae) Zjk)) (sg 4 Zaz.nd)
   (Zac (ss 5 Zaz.nd (Zbv ZbK hr (Zaa (pv 4) (Zaa (pv 1) Zaf))))
   (Zad (ZaI (Zah (ZaC hr.units) (ZaG Zar (pv 0) Zae (fun _ _=>rfl)) Zal (Zap _))
   (Zad (ss 3 Zaz.nd (Zau ZzK (pv 3) (pv 5))))
   (Zad (ZaI (Zah (ZaC hr.units) (ZaG Zar (pv 0) Zae (fun _ _=>rfl)) Zal (Zap _))
   (Zad (ss 3 Zaz.nd (Zau ZHw (pv 3) (pv 5))))
   (Zad (ss 3 Zaz.nd (Zau ZzL (pv 3) (pv 5))))))))))
   (Zad (Zam (pv 3))))))))),?_⟩
   walk_at "rd0"
   refine ZbE e1 (v:=.str z) rfl ?_
   walk_at "rd"
   refine ZaP (decide_eq_false nz1) ?_
   walk_at "rd"
   rw [Zd5]
   refine i_rI ⟨by omega,by omega,by decide⟩ ?_
   walk_at "rd"
   rw [Zd5,eW]
   refine ZbE e1 (v:=.str z) rfl ?_
   walk_at "rd"
   refine ZaP (decide_eq_false nz2) ?_
   walk_at "rd"
   refine ZbE e1 (v:=.ref l) rfl ?_
   walk_at "rd"
   refine ZlU (j:=0) (v:=.ref p0) e2 rfl ?_
   walk_at "rd"
   refine ⟨p0,m,g0,rfl,hm,h0,hgs g0 List.mem_cons_self,by omega,fun H1 s1=>?_⟩
   walk_at "rd"
   refine ZbE (s1 _ _ e1) (v:=.str z) rfl ?_
   walk_at "rd"
   refine ZaP (decide_eq_false nz3) ?_
   walk_at "rd"
   refine ZbE (s1 _ _ e1) (v:=.ref l) rfl ?_
   walk_at "rd"
   refine .inl (ZQw (s1 _ _ e2) fun sl hsl=>?_)
   rw [show cutV ((p0 :: ps).map V.ref) (some 1) none=ps.map V.ref from ZAa (k:=1) (by simp)]
   have s2:Same H (upd H1 sl (.lst (ps.map V.ref))):=s1.trans (ZgJ hsl _)
   have e3:(upd H1 sl (.lst (ps.map V.ref))) sl=some (.lst (ps.map V.ref)):=ZaV
   generalize upd H1 sl (.lst (ps.map V.ref))=H2 at s2 e3 ⊢
   refine seqL (xs:=ps.map V.ref) (fun i σ H'=>Same H2 H'∧∃ v4 v5,σ=[some (.ref p),some (.int (m:Int)),some (.int ((2 ^ 2 ^ m - 1:Nat):Int)),some (.int ((((gs.take i).map (crT m)).foldl (cmb z) (crT m g0):Nat):Int)),v4,v5]) ⟨Same.refl _,_,_,rfl⟩ (fun i σ H' _ hp=>by obtain ⟨s',_⟩ :=hp; exact SqL.of (s' _ _ e3)) ?_ ?_
   ·rintro i x σ H4 hx ⟨s4,v4,v5,rfl⟩
    obtain ⟨pa,rfl,hpa⟩ :=ZeT hx
    obtain ⟨g,hg,hga⟩ :=Zbs hps hpa
    have gm:g ∈ g0 :: gs:=List.mem_cons_of_mem _ (List.mem_of_getElem? hg)
    have gn:=ZC2 gm
    have nx:((gs.take (i + 1)).map (crT m)).foldl (cmb z) (crT m g0)=cmb z (((gs.take i).map (crT m)).foldl (cmb z) (crT m g0)) (crT m g):=by rw [ZbJ hg,List.map_append,List.foldl_append]; rfl
    rw [nx]
    generalize ((gs.take i).map (crT m)).foldl (cmb z) (crT m g0)=F
    have s24:=s2.trans s4
    walk_at "rd"
    refine ⟨pa,m,g,rfl,hm,hga.same s24,hgs g gm,by omega,fun H5 s5=>?_⟩
    have s45:=s24.trans s5
    walk_at "rd"
    refine ZbE (s45 _ _ e1) (v:=.str z) rfl ?_
    walk_at "rd"
    refine Zd3 (fun ha=>?_) (fun ha=>?_)
    ·walk_at "rd"
     refine ⟨s4.trans s5,some (.ref pa),some (.int (crT m g:Int)),?_⟩
     rw [Zz1]
     unfold cmb
     rw [if_pos ha]
    ·walk_at "rd"
     refine ZbE (s45 _ _ e1) (v:=.str z) rfl ?_
     walk_at "rd"
     refine Zd3 (fun ho=>?_) (fun ho=>?_)
     ·walk_at "rd"
      refine ⟨s4.trans s5,some (.ref pa),some (.int (crT m g:Int)),?_⟩
      rw [ZGD]
      unfold cmb
      rw [if_neg ha,if_pos ho]
     ·walk_at "rd"
      refine ⟨s4.trans s5,some (.ref pa),some (.int (crT m g:Int)),?_⟩
      rw [ZFG]
      unfold cmb
      rw [if_neg ha,if_neg ho]
   ·rintro σ H4 ⟨s4,v4,v5,rfl⟩
    rw [List.length_map,hgl,List.take_length,hfold]
    walk_at "rd"
    exact q H4 (s2.trans s4)
  cases tr with
  | lamp k=>
   have hp:H p=some (.tup [.str "lamp",.int (k:Int)]):=hT
   have hk:k < m:=by simpa [okT] using hok
   refine ⟨_,(Zac (ZaI (Zah (ZaC hr.units) (ZaG Zar (pv 0) Zae (fun _ _=>rfl)) Zal (Zap _))
   (Zad (Zam (Zax (Zrc rfl) rfl T.B.sum ZFY (Zaa (Zhx (sc:=Zab Za2) (N:=["_law_tree_here","_law_many","_law_whole","_law_found","_law_part","_law_one"]) (ns:=["_law_tree_here"]) (ix:=[0]) rfl rfl (by decide +kernel) rfl (ZdP rfl T.B.range (Zaa (Zau Zc2 Zae (pv 1)) Zaf)) (fun _ _ _ _=>(ZnZ (Zah (ZaC hr.units) (Zau Zcc (Zau ZdZ (pv 0) (Zau Zc2 Zae (ZaG (ZtA (K:=K) rfl) (pv 1) Zae (fun _ _=>rfl)))) Zae) Zae (Zap _)))) (fun _ _ _ _=>(Zau Zc2 Zae (pv 0)))) Zaf))))
   Zaq)
   (Zac (ss 2 Zaz.nd (Zau Zhw (Zau Zc2 Zae (Zau Zc2 Zae (pv 1))) Zae))
   (Zac (ZaI (Zah (ZaC hr.units) (ZaG Zar (pv 0) Zae (fun _ _=>rfl)) Zal (Zap _))
   (Zad (Zam (Zau Zjj (pv 2) (Zco ZeM rfl T.B.int Zmu (Zaa (ZaG Zar (pv 0) Zae (fun _ _=>rfl)) Zaf)))))
   Zaq)
   (Zac (ss 3 Zaz.nd (Zbv ZbK hr (Zaa (ZaG Zar (ZaG Zar (pv 0) Zae (fun _ _=>rfl)) Zae (fun _ _=>rfl)) (Zaa (pv 1) Zaf))))
   (Zac (ZaI (Zah (ZaC hr.units) (ZaG Zar (pv 0) Zae (fun _ _=>rfl)) Zal (Zap _))
   (Zad (Zam (Zau Zhw (pv 2) (pv 3))))
   Zaq)
   (Zac (Zc4 PassesOwn.never rfl (Zc3 (Zeq ZlR (ZaG Zar (pv 0) Zae (fun _ _=>rfl)) (Zfh Zae) Zjk)) (sg 4 Zaz.nd)
   (Zac (ss 5 Zaz.nd (Zbv ZbK hr (Zaa (pv 4) (Zaa (pv 1) Zaf))))
   (Zad (ZaI (Zah (ZaC hr.units) (ZaG Zar (pv 0) Zae (fun _ _=>rfl)) Zal (Zap _))
   (Zad (ss 3 Zaz.nd (Zau ZzK (pv 3) (pv 5))))
   (Zad (ZaI (Zah (ZaC hr.units) (ZaG Zar (pv 0) Zae (fun _ _=>rfl)) Zal (Zap _))
   (Zad (ss 3 Zaz.nd (Zau ZHw (pv 3) (pv 5))))
   (Zad (ss 3 Zaz.nd (Zau ZzL (pv 3) (pv 5))))))))))
   (Zad (Zam (pv 3))))))))),?_⟩
   walk_at "rd0"
   refine ZbE hp (v:=.str "lamp") rfl ?_
   walk_at "rd"
   refine ZcG rfl ?_
   walk_at "rd"
   rw [Zd5]
   refine ⟨_,rfl,by omega,by omega,?_⟩
   rw [Int.toNat_natCast]
   refine Ztj (fun i ys=>ys=(((List.range i).filter fun s=>s.testBit k).map fun s=>((2 ^ s:Nat):Int)).map V.int) (ZG9 0 (2 ^ m) H) (by simp; omega) rfl ?_ ?_
   ·intro i x ys acc H' hx s1 hacc ea hy _ R kk
    obtain ⟨hi,rfl⟩ :=ZzH hx
    rw [Int.zero_add]
    rw [Int.zero_add] at kk
    simp only [subS,List.map_cons,List.map_nil]
    walk_at "rd"
    refine ZbE (s1 _ _ hp) (v:=.int (k:Int)) rfl ?_
    refine i_rI ⟨by omega,by omega,by decide⟩ ?_
    rw [Zd5]
    have hkp:1≤2 ^ k:=Nat.one_le_two_pow
    have hk64:=ZnX (show k≤6 by omega)
    refine i_rI (by show ZHU _ _; unfold ZHU; omega) ?_
    walk_at "rd"
    rw [ZH6]
    refine kk _ H' (Same.refl _) (fun z=>?_) fun z R2 k2=>?_
    ·rw [Zg4,z,if_neg Bool.false_ne_true,List.append_nil]
     exact hy
    ·walk_at "rd"
     rw [Zd5]
     refine k2 _ H' (Same.refl _) ?_
     rw [Zg4,z,if_pos rfl,hy]
     rw [List.map_append,List.map_append]
     rfl
   intro dl ys H3 n3 s3 e3 hy
   rw [List.length_map,List.length_range] at hy
   subst hy
   walk_at "rd"
   refine ZQy (SqL.of e3) ?_
   rw [ZG1]
   exact q H3 s3
  | sure c=>
   have hp:H p=some (.tup [.str "sure",.bl c]):=hT
   refine ⟨_,(Zac (ZaI (Zah (ZaC hr.units) (ZaG Zar (pv 0) Zae (fun _ _=>rfl)) Zal (Zap _))
   (Zad (Zam (Zax (Zrc rfl) rfl T.B.sum ZFY (Zaa (Zhx (sc:=Zab Za2) (N:=["_law_tree_here","_law_many","_law_whole","_law_found","_law_part","_law_one"]) (ns:=["_law_tree_here"]) (ix:=[0]) rfl rfl (by decide +kernel) rfl (ZdP rfl T.B.range (Zaa (Zau Zc2 Zae (pv 1)) Zaf)) (fun _ _ _ _=>(ZnZ (Zah (ZaC hr.units) (Zau Zcc (Zau ZdZ (pv 0) (Zau Zc2 Zae (ZaG (ZtA (K:=K) rfl) (pv 1) Zae (fun _ _=>rfl)))) Zae) Zae (Zap _)))) (fun _ _ _ _=>(Zau Zc2 Zae (pv 0)))) Zaf))))
   Zaq)
   (Zac (ss 2 Zaz.nd (Zau Zhw (Zau Zc2 Zae (Zau Zc2 Zae (pv 1))) Zae))
   (Zac (ZaI (Zah (ZaC hr.units) (ZaG Zar (pv 0) Zae (fun _ _=>rfl)) Zal (Zap _))
   (Zad (Zam (Zau Zjj (pv 2) (Zco ZeM rfl T.B.int Zmu (Zaa (ZaG Zar (pv 0) Zae (fun _ _=>rfl)) Zaf)))))
   Zaq)
   (Zac (ss 3 Zaz.nd (Zbv ZbK hr (Zaa (ZaG Zar (ZaG Zar (pv 0) Zae (fun _ _=>rfl)) Zae (fun _ _=>rfl)) (Zaa (pv 1) Zaf))))
   (Zac (ZaI (Zah (ZaC hr.units) (ZaG Zar (pv 0) Zae (fun _ _=>rfl)) Zal (Zap _))
   (Zad (Zam (Zau Zhw (pv 2) (pv 3))))
   Zaq)
   (Zac (Zc4 PassesOwn.never rfl (Zc3 (Zeq ZlR (ZaG Zar (pv 0) Zae (fun _ _=>rfl)) (Zfh Zae) Zjk)) (sg 4 Zaz.nd)
   (Zac (ss 5 Zaz.nd (Zbv ZbK hr (Zaa (pv 4) (Zaa (pv 1) Zaf))))
   (Zad (ZaI (Zah (ZaC hr.units) (ZaG Zar (pv 0) Zae (fun _ _=>rfl)) Zal (Zap _))
   (Zad (ss 3 Zaz.nd (Zau ZzK (pv 3) (pv 5))))
   (Zad (ZaI (Zah (ZaC hr.units) (ZaG Zar (pv 0) Zae (fun _ _=>rfl)) Zal (Zap _))
   (Zad (ss 3 Zaz.nd (Zau ZHw (pv 3) (pv 5))))
   (Zad (ss 3 Zaz.nd (Zau ZzL (pv 3) (pv 5))))))))))
   (Zad (Zam (pv 3))))))))),?_⟩
   walk_at "rd0"
   refine ZbE hp (v:=.str "sure") rfl ?_
   walk_at "rd"
   refine ZaP rfl ?_
   walk_at "rd"
   rw [Zd5]
   refine i_rI ⟨by omega,by omega,by decide⟩ ?_
   walk_at "rd"
   rw [Zd5,eW]
   refine ZbE hp (v:=.str "sure") rfl ?_
   walk_at "rd"
   refine ZcG rfl ?_
   walk_at "rd"
   refine ZbE hp (v:=.bl c) rfl ?_
   walk_at "rd"
   refine ZxC (.inr ?_) ?_
   ·cases c <;> exact ⟨by decide,by decide⟩
   have e:((2 ^ 2 ^ m - 1:Nat):Int) * (if c=true then 1 else 0)=(crT m (.sure c):Int):=by
    have e3:crT m (.sure c)=if c then 2 ^ 2 ^ m - 1 else 0:=ZzD _ _
    rw [e3]
    cases c <;> simp
   rw [e]
   exact q H (Same.refl _)
  | neg g=>
   obtain ⟨l,q',e1,_,e2,hq⟩ :=hT
   have hn1:nT (.neg g)=1 + nT g:=rfl
   have hg6:okT m g=true:=by simpa [okT] using hok
   refine ⟨_,(Zac (ZaI (Zah (ZaC hr.units) (ZaG Zar (pv 0) Zae (fun _ _=>rfl)) Zal (Zap _))
   (Zad (Zam (Zax (Zrc rfl) rfl T.B.sum ZFY (Zaa (Zhx (sc:=Zab Za2) (N:=["_law_tree_here","_law_many","_law_whole","_law_found","_law_part","_law_one"]) (ns:=["_law_tree_here"]) (ix:=[0]) rfl rfl (by decide +kernel) rfl (ZdP rfl T.B.range (Zaa (Zau Zc2 Zae (pv 1)) Zaf)) (fun _ _ _ _=>(ZnZ (Zah (ZaC hr.units) (Zau Zcc (Zau ZdZ (pv 0) (Zau Zc2 Zae (ZaG (ZtA (K:=K) rfl) (pv 1) Zae (fun _ _=>rfl)))) Zae) Zae (Zap _)))) (fun _ _ _ _=>(Zau Zc2 Zae (pv 0)))) Zaf))))
   Zaq)
   (Zac (ss 2 Zaz.nd (Zau Zhw (Zau Zc2 Zae (Zau Zc2 Zae (pv 1))) Zae))
   (Zac (ZaI (Zah (ZaC hr.units) (ZaG Zar (pv 0) Zae (fun _ _=>rfl)) Zal (Zap _))
   (Zad (Zam (Zau Zjj (pv 2) (Zco ZeM rfl T.B.int Zmu (Zaa (ZaG Zar (pv 0) Zae (fun _ _=>rfl)) Zaf)))))
   Zaq)
   (Zac (ss 3 Zaz.nd (Zbv ZbK hr (Zaa (ZaG Zar (ZaG Zar (pv 0) Zae (fun _ _=>rfl)) Zae (fun _ _=>rfl)) (Zaa (pv 1) Zaf))))
   (Zac (ZaI (Zah (ZaC hr.units) (ZaG Zar (pv 0) Zae (fun _ _=>rfl)) Zal (Zap _))
   (Zad (Zam (Zau Zhw (pv 2) (pv 3))))
   Zaq)
   (Zac (Zc4 PassesOwn.never rfl (Zc3 (Zeq ZlR (ZaG Zar (pv 0) Zae (fun _ _=>rfl)) (Zfh Zae) Zjk)) (sg 4 Zaz.nd)
   (Zac (ss 5 Zaz.nd (Zbv ZbK hr (Zaa (pv 4) (Zaa (pv 1) Zaf))))
   (Zad (ZaI (Zah (ZaC hr.units) (ZaG Zar (pv 0) Zae (fun _ _=>rfl)) Zal (Zap _))
   (Zad (ss 3 Zaz.nd (Zau ZzK (pv 3) (pv 5))))
   (Zad (ZaI (Zah (ZaC hr.units) (ZaG Zar (pv 0) Zae (fun _ _=>rfl)) Zal (Zap _))
   (Zad (ss 3 Zaz.nd (Zau ZHw (pv 3) (pv 5))))
   (Zad (ss 3 Zaz.nd (Zau ZzL (pv 3) (pv 5))))))))))
   (Zad (Zam (pv 3))))))))),?_⟩
   walk_at "rd0"
   refine ZbE e1 (v:=.str "not") rfl ?_
   walk_at "rd"
   refine ZaP rfl ?_
   walk_at "rd"
   rw [Zd5]
   refine i_rI ⟨by omega,by omega,by decide⟩ ?_
   walk_at "rd"
   rw [Zd5,eW]
   refine ZbE e1 (v:=.str "not") rfl ?_
   walk_at "rd"
   refine ZaP rfl ?_
   walk_at "rd"
   refine ZbE e1 (v:=.ref l) rfl ?_
   walk_at "rd"
   refine ZlU (j:=0) (v:=.ref q') e2 rfl ?_
   walk_at "rd"
   refine ⟨q',m,g,rfl,hm,hq,hg6,by omega,fun H1 s1=>?_⟩
   walk_at "rd"
   refine ZbE (s1 _ _ e1) (v:=.str "not") rfl ?_
   walk_at "rd"
   refine ZcG rfl ?_
   walk_at "rd"
   have hlt:=ZOM m g
   have e:((2 ^ 2 ^ m - 1:Nat):Int) - (crT m g:Int)=(crT m (.neg g):Int):=by
    have e3:crT m (.neg g)=(2 ^ 2 ^ m - 1) - crT m g:=by
     rw [ZOx hlt]
     exact ZCB _ _
    omega
   rw [e]
   exact q H1 s1
  | wrap g=>
   obtain ⟨l,q',e1,_,e2,hq⟩ :=hT
   have hn1:nT (.wrap g)=1 + nT g:=rfl
   have hg6:okT m g=true:=by simpa [okT] using hok
   exact body "wrap" l q' [] g [] (by decide) (by decide) (by decide) e1 e2 (.cons hq .nil) (fun x hx=>by rw [List.mem_singleton.mp hx]; exact hg6) (by rw [ZnI]; omega) rfl
  | join v gs=>
   obtain ⟨l,ps,e1,_,e2,hq⟩ :=hT
   have hn1:nT (.join v gs)=1 + nTL gs:=rfl
   simp only [okT,Bool.and_eq_true,decide_eq_true_iff] at hok
   have ok':∀ g ∈ gs,okT m g=true:=by
    have:=hok.2
    rw [ZoB,List.all_eq_true] at this
    exact this
   cases gs with
   | nil=>exact absurd hok.1 (by decide)
   | cons g0 gs0=>
    cases hq with
    | cons h0 hr0=>
    refine body (kw3 v) l _ _ _ _ (by cases v <;> decide) (by cases v <;> decide) (by cases v <;> decide) e1 e2 (.cons h0 hr0) ok' (by omega) ?_
    show ((gs0.map (crT m)).foldl (cmb (kw3 v)) (crT m g0))=(Fm.join v (fmTL id (g0 :: gs0))).crowd (2 ^ m)
    have hc:cmb (kw3 v)=ZHc v:=by cases v <;> rfl
    have:=ZzC v (2 ^ m) (gs0.map (fmT id)) [fmT id g0]
    rw [ZyX,List.map_map] at this
    rw [hc]
    refine Eq.trans ?_ (this.trans ?_)
    ·rfl
    ·show (Fm.join v (fmT id g0 :: gs0.map (fmT id))).crowd (2 ^ m)=_
     rw [ZAd]
     rfl
end
unseal PE PA PS PSs
mutual
theorem FmE.tr {t:Ad} {H:Hp} {π:Nat→Nat}:∀ (tr:Tr) (D:Nat) (p:Addr),nT tr≤D→FmE t H p (fmT π tr)→FmAt t H D p (fmT π tr)
 | .lamp k,0,p,h,_=>absurd h (by simp [nT])
 | .lamp k,D + 1,p,_,⟨n,h⟩ =>by
  cases n with
  | zero=>exact absurd h id
  | succ n=>exact h
 | .sure c,0,p,h,_=>absurd h (by simp [nT])
 | .sure c,D + 1,p,_,⟨n,h⟩ =>by
  cases n with
  | zero=>exact absurd h id
  | succ n=>exact h
 | .neg g,0,p,h,_=>absurd h (by simp [nT])
 | .neg g,D + 1,p,hD,⟨n,h⟩ =>by
  cases n with
  | zero=>exact absurd h id
  | succ n=>
   have hn:nT (.neg g)=1 + nT g:=rfl
   obtain ⟨dx,q,e,hq⟩ :=h
   exact ⟨dx,q,e,FmE.tr g D q (by omega) ⟨n,hq⟩⟩
 | .wrap g,D,p,hD,h=>by
  have hn:nT (.wrap g)=1 + nT g:=rfl
  exact FmE.tr g D p (by omega) h
 | .join v gs,0,p,h,_=>absurd h (by simp [nT])
 | .join v gs,D + 1,p,hD,⟨n,h⟩ =>by
  cases n with
  | zero=>exact absurd h id
  | succ n=>
   have hn:nT (.join v gs)=1 + nTL gs:=rfl
   obtain ⟨dx,tp,ps,e,e2,hq⟩ :=h
   exact ⟨dx,tp,ps,e,e2,FmE.trL gs D ps (by omega) (ZaR (fun a b h=>⟨n,h⟩) hq)⟩
theorem FmE.trL {t:Ad} {H:Hp} {π:Nat→Nat}:∀ (gs:List Tr) (D:Nat) (ps:List Addr),nTL gs≤D→Paired (FmE t H) ps (fmTL π gs)→Paired (FmAt t H D) ps (fmTL π gs)
 | [],D,_,_,.nil=>.nil
 | g :: gs,D,_,hD,.cons h r=>by
  have hn:nTL (g :: gs)=nT g + nTL gs:=by simp [nTL]
  exact .cons (FmE.tr g D _ (by omega) h) (FmE.trL gs D _ (by omega) r)
end
section
variable {P:Program} {w:World} {K:PySem.W.Frag} {mg:Str→Option Value} {base:Heap} {t:Ad} {n:Nat}
theorem FmAt.isi {H:Hp} {p:Addr} {f:Fm} (T:Txt K mg t) (h:FmAt t H n p f):∃ c,TyOf K H (.ref p) c∧PySem.W.kitOne K c (.ref t.Zak)=some true:=by
 cases n with
 | zero=>exact h.elim
 | succ n=>
  cases f with
  | lamp k=>obtain ⟨dx,e⟩ :=h; exact ⟨_,T.ZKr _ _ _ _ e,T.ZpA⟩
  | sure b=>obtain ⟨dx,e⟩ :=h; exact ⟨_,T.ZKs _ _ _ _ e,T.ZpB⟩
  | neg g=>obtain ⟨dx,q,e,h⟩ :=h; exact ⟨_,T.y_Not _ _ _ _ e,T.Zta⟩
  | join w gs=>
   obtain ⟨dx,tp,ps,e,e2,h⟩ :=h
   cases w
   ·exact ⟨_,T.y_And _ _ _ _ e,T.Zs9⟩
   ·exact ⟨_,T.ZCc _ _ _ _ e,T.ZlS⟩
   ·exact ⟨_,T.y_Or _ _ _ _ e,T.Zv1⟩
end
mutual
theorem wt_T (π:Nat→Nat):∀ t:Tr,fWt (fmT π t) + 1≤2 * nT t
 | .lamp k=>by simp [fmT,fWt,nT]
 | .sure c=>by simp [fmT,fWt,nT]
 | .neg t=>by
  have:=wt_T π t
  simp only [fmT,fWt,nT]
  omega
 | .wrap t=>by
  have:=wt_T π t
  simp only [fmT,nT]
  omega
 | .join v ts=>by
  have:=ZQm π ts
  simp only [fmT,fWt,nT]
  omega
theorem ZQm (π:Nat→Nat):∀ ts:List Tr,fWtL (fmTL π ts)≤2 * nTL ts
 | []=>by simp [fmTL,fWtL]
 | t :: ts=>by
  have:=wt_T π t
  have:=ZQm π ts
  simp only [fmTL,fWtL,nTL]
  omega
end
seal PE PA PS PSs
section
variable {P:Program} {w:World} {K:PySem.W.Frag} {mg:Str→Option Value} {base:Heap} {t:Ad} {n:Nat}
def ZOt (t:Ad):Sp:=fun vs H Q _=>∃ (a p:Addr) (m s:Nat) (tr:Tr),vs=[.ref a,.ref p,.int (m:Int),.int (s:Int)]∧FmAt t H 61 a (fmT id tr)∧TwAt anyA H 63 p tr∧m≤6∧s < 2 ^ m∧okT m tr=true∧okT 6 tr=true∧nT tr≤61∧∀ H',Same H H'→Q (.bl true) H'
theorem ZLw (T:Txt K mg t):FnS P w K mg base 70 "_law_tells" ["_law_found","_law_tree_here","_law_many","_law_stand"] (ZOt t):=by
 have ZbK:=ZFQ (P:=P) (w:=w) (base:=base) T 63
 have ZfQ:=ZFR (P:=P) (w:=w) (base:=base) T 63
 have D_crowd:=Zzt (P:=P) (w:=w) (base:=base) T 61
 have D_holds:=Ztb (P:=P) (w:=w) (base:=base) T 61
 have D_lamps:=Zzu (P:=P) (w:=w) (base:=base) T 61
 refine ⟨_,_,T.Zl1.ok Zfl (fun vs H Q E h=>?_) (fun cdv A outer s0 H vs Q E hr h=>?_),T.Zut,T.Zl1.kp,T.ZvB⟩
 ·obtain ⟨a,p,m,s,tr,rfl,_⟩ :=h
  rfl
 obtain ⟨a,p,m,s,tr,rfl,hF,hT,hm,hs,hok,hok6,hnT,q⟩ :=h
 have hwt:=wt_T id tr
 have hp2:=ZnX hm
 have ins1:=fun H' (s':Same H H')=>(FmAt.mono (Ext.of s') hF)
 refine ⟨_,(Zac (ss 4 Zfl.nd (Zlb D_crowd hr (pv 0) (Zaa (pv 2) Zaf)))
   (Zac (ss 5 Zfl.nd (Zbv ZbK hr (Zaa (pv 1) (Zaa (pv 2) Zaf))))
   (Zac (ZaI (PW.pt (Zqy (ZnY (Zbg (Zax ZaJ rfl T.B.isinstance Zan (Zaa (pv 4) (Zaa (ZnP (v:=.ty "int") rfl T.B.int Zmu rfl) Zaf))) (fun _=>rfl))) (Zqy (Zbg (Zax ZaJ rfl T.B.isinstance Zan (Zaa (pv 4) (Zaa (ZnP (v:=.ty "bool") rfl T.B.bool ZEJ rfl) Zaf))) (fun _=>rfl)) (Zj2 (Zah (ZiO hr.units) (pv 4) (pv 5) (Zap _))))))
   (Zad (Zam ZjZ))
   Zaq)
   (Zac (ss 6 Zfl.nd (Zlb D_holds hr (pv 0) (Zaa (pv 3) Zaf)))
   (Zac (ZaI (PW.pt (Zqy (ZnY (Zbg (Zax ZaJ rfl T.B.isinstance Zan (Zaa (pv 6) (Zaa (ZnP (v:=.ty "bool") rfl T.B.bool ZEJ rfl) Zaf))) (fun _=>rfl))) (Zj2 (Zah (ZiO hr.units) (pv 6) (Zyk (ZaC hr.units) (Zau Zcc (Zau ZdZ (pv 5) (Zau Zc2 Zae (pv 3))) Zae) Zae (Zap _)) (Zap _)))))
   (Zad (Zam ZjZ))
   Zaq)
   (Zac (ss 7 Zfl.nd (ZvF D_lamps hr (pv 0)))
   (Zac (ZaI (PW.pt (Zqy (ZnY (Zbg (Zax ZaJ rfl T.B.isinstance Zan (Zaa (pv 7) (Zaa (ZnP (v:=.ty "list") rfl T.B.list Zth rfl) Zaf))) (fun _=>rfl))) (Zj2 (Zah (ZiO hr.units) (pv 7) (Zbv ZfQ hr (Zaa (pv 1) Zaf)) (Zap _)))))
   (Zad (Zam ZjZ))
   Zaq)
   (Zad (Zam (Zyk (ZaC hr.units) (Zax Zb9 rfl T.B.len ZgR (Zaa (Zhx (sc:=Zab ZbF) (N:=["_law_found","_law_tree_here","_law_many","_law_stand","_law_crowd_here","_law_due","_law_truth","_law_lamps_here"]) (ns:=[]) (ix:=[]) rfl rfl (by decide +kernel) rfl (Zc3 (pv 7)) (fun _ _ _ _=>(ZnZ (PW.pt (Zqy (ZDL (K:=K) rfl (Zax (ZCy (K:=K) rfl) rfl T.B.isinstance Zan (Zaa (pv 0) (Zaa (ZnP (v:=.ty "bool") rfl T.B.bool ZEJ rfl) Zaf))) (fun _=>rfl)) (Zj2 (ZnY (ZDL (K:=K) rfl (Zax (ZCy (K:=K) rfl) rfl T.B.isinstance Zan (Zaa (pv 0) (Zaa (ZnP (v:=.ty "int") rfl T.B.int Zmu rfl) Zaf))) (fun _=>rfl)))))))) (fun _ _ _ _=>(pv 0))) Zaf)) Zae (Zap _))))))))))),?_⟩
 walk_at "rd0"
 obtain ⟨C,dx',fs',e',hC,hl⟩ :=hF.ins "crowd" (by decide +kernel) (by decide +kernel) (by decide +kernel) (by decide +kernel)
 refine ⟨a,C,dx',fs',rfl,e',hC,hl,?_⟩
 walk_at "rd"
 refine ⟨e',a,m,_,rfl,hm,hF,?_⟩
 walk_at "rd"
 refine ⟨p,m,tr,rfl,hm,hT,hok,hnT,fun H1 s1=>?_⟩
 walk_at "rd"
 refine ZaP rfl ?_
 walk_at "rd"
 refine ZaP rfl ?_
 walk_at "rd"
 refine ZaP (by show (!decide (_=_))=false; rw [decide_eq_true (by rfl)]; rfl) ?_
 walk_at "rd"
 have hF1:=ins1 H1 s1
 obtain ⟨C1,dx1,fs1,e1',hC1,hl1⟩ :=hF1.ins "holds" (by decide +kernel) (by decide +kernel) (by decide +kernel) (by decide +kernel)
 refine ⟨a,C1,dx1,fs1,rfl,e1',hC1,hl1,?_⟩
 walk_at "rd"
 refine ⟨e1',a,s,_,rfl,hF1,?_⟩
 walk_at "rd"
 refine ZaP rfl ?_
 walk_at "rd"
 refine i_rI (by
  show ZHU _ _
  unfold ZHU
  rw [Zd5]
  have h1:=Nat.one_le_two_pow (n:=s)
  have h2:2 ^ s≤2 ^ 64:=Nat.pow_le_pow_right (by decide) (by omega)
  omega) ?_
 walk_at "rd"
 have eh:(crT m tr).testBit s=(fmT id tr).holds s:=by
  show (bits _ _).testBit s=_
  rw [Za5,decide_eq_true hs]
  rfl
 rw [Zd5,ZH6,eh]
 refine ZaP (by rw [decide_eq_true rfl]; rfl) ?_
 walk_at "rd"
 obtain ⟨C2,dx2,fs2,e2',hC2,hl2⟩ :=hF1.ins "lamps" (by decide +kernel) (by decide +kernel) (by decide +kernel) (by decide +kernel)
 refine ⟨a,C2,dx2,fs2,rfl,e2',hC2,hl2,?_⟩
 walk_at "rd"
 refine ⟨e2',a,_,rfl,hF1,ZC0 (fun k hk=>hk) tr hok6,by omega,fun l2 H2 s2 n2 e2=>?_⟩
 walk_at "rd"
 refine ZaP rfl ?_
 walk_at "rd"
 refine ⟨p,tr,rfl,hT.same (s1.trans s2),hok6,hnT,fun l3 H3 s3 n3 e3=>?_⟩
 have en:Zht (lamT tr)=((lamT tr).map fun k:Nat=>(k:Int)).map V.int:=by unfold Zht; rw [List.map_map]; rfl
 have e23:H3 l2=some (.lst (((lamT tr).map fun k:Nat=>(k:Int)).map V.int)):=by rw [← en]; exact s3 _ _ e2
 refine ZO9 e23 (by rw [← en]; exact e3) ?_
 walk_at "rd"
 refine ZaP (by rw [decide_eq_true rfl]; rfl) ?_
 walk_at "rd"
 refine .inl ⟨l2,_,rfl,SqL.of e23,?_⟩
 refine Ztj (fun _ ys=>ys=[]) (ZB5 (SqL.of e23)) (by rw [List.length_map,List.length_map]; have:=ZAs tr; omega) rfl ?_ ?_
 ·intro i x ys acc H' hx s4 hacc ea hy _ R kk
  obtain ⟨k,_,rfl⟩ :=List.mem_map.mp (List.mem_of_getElem? hx)
  walk_at "rd"
  refine ZaP rfl ?_
  walk_at "rd"
  exact kk false H' (Same.refl _) (fun _=>hy) (fun z=>absurd z (by decide))
 intro dl ys H4 n4 s4 e4 hy
 subst hy
 walk_at "rd"
 exact q H4 (s1.trans (s2.trans (s3.trans s4)))
end
unseal PE PA PS PSs
def Nm8 (z:Str):Prop:=Lt z∧1≤z.length∧z.length≤8
section
variable {P:Program} {w:World} {K:PySem.W.Frag} {mg:Str→Option Value} {base:Heap} {t:Ad} {n:Nat}
def ZJ9:Sp:=fun vs H Q _=>∃ (sd:Int) (sz:Nat),vs=[.int sd,.int (sz:Int)]∧sz≤8∧∀ z,Lt z→z.length=sz→Q (.str z) H
theorem ZHu (T:Txt K mg t):FnS P w K mg base 1 "_law_letters" ["_law_seed","_law_size"] (ZJ9):=by
 refine ⟨_,_,T.ZiU.ok Zce (fun vs H Q E h=>?_) (fun cdv A outer s H vs Q E hr h=>?_),T.Zo3,T.ZiU.kp,T.Zps⟩
 ·obtain ⟨sd,sz,rfl,hsz,q⟩ :=h
  rfl
 obtain ⟨sd,sz,rfl,hsz,q⟩ :=h
 refine ⟨_,(Zac (ss 2 Zce.nd Zal)
   (Zac (ss 3 Zce.nd Zal)
   (Zac (ss 4 Zce.nd (Zau Zcc (pv 0) Zae))
   (Zac (Zc4 PassesOwn.never rfl (ZdP rfl T.B.range (Zaa (pv 1) Zaf)) (sg 5 Zce.nd)
   (Zac (ss 4 Zce.nd (Zau Zcc (Zau ZaQ (Zau Zjj (pv 4) Zae) Zae) Zae))
   (Zad (ss 3 Zce.nd (Zau ZaQ (pv 3) (ZaG Zar (pv 2) (Zau Zcc (Zau ZdZ (pv 4) Zae) Zae) (fun _ _=>rfl)))))))
   (Zad (Zam (pv 3))))))),?_⟩
 walk_at "rd0"
 refine ⟨_,rfl,by omega,by omega,?_⟩
 rw [show ((sz:Int)).toNat=sz by omega]
 refine ZJa (n:=sz) (fun i σ H'=>H'=H∧∃ (z:Str) (st:Int) (v:Option V),Lt z∧z.length=i∧σ=[some (.int sd),some (.int (sz:Int)),some (.str "abcdefghijklmnopqrstuvwxyz"),some (.str z),some (.int st),v]) ⟨rfl,"",_,_,(fun c hc=>by cases hc),rfl,rfl⟩ ?_ ?_
 ·rintro i σ H' hi ⟨rfl,z,st,v,hz,hl,rfl⟩
  walk_at "rd"
  refine ZxC (.inr ⟨by decide,by decide⟩) ?_
  walk_at "rd"
  obtain ⟨k,hk,hk26⟩ : ∃ k:Nat,(st * 48271 + 7919) % 2147483647 / 64 % 26=(k:Int)∧k < 26:=⟨((st * 48271 + 7919) % 2147483647 / 64 % 26).toNat,by omega,by omega⟩
  rw [hk]
  refine ZHm (by decide) (ZpQ (ZI7 k hk26)) ?_
  refine Zvh (Zcf (by show _ + 1≤_; omega)) ?_
  walk_at "rd"
  exact ⟨rfl,_,_,_,ZjN hz (ZGy hk26),by rw [ZaD,hl]; rfl,rfl⟩
 ·rintro σ H' ⟨rfl,z,st,v,hz,hl,rfl⟩
  walk_at "rd"
  exact q z hz hl
def ZlV:List Str:=["and","or","not","either","yes","no","then","is"]
def ZNQ:List Str:=["lamps","start","bad","move","drop","show","judge","fence","always","reach"]
def okN (z:Str):Bool:=z.cps.toList.all (fun c=>decide (97≤c) && decide (c≤122)) && decide (1≤z.length) && decide (z.length≤7)
theorem ZMT {z:Str} (h:okN z=true):Lt z∧1≤z.length∧z.length≤7:=by
 unfold okN at h
 rw [Bool.and_eq_true,Bool.and_eq_true,List.all_eq_true] at h
 refine ⟨fun c hc=>?_,of_decide_eq_true h.1.2,of_decide_eq_true h.2⟩
 have:=h.1.1 c hc
 rw [Bool.and_eq_true] at this
 exact ⟨of_decide_eq_true this.1,of_decide_eq_true this.2⟩
theorem ZNL:∀ k,k < 8→∃ z,ZlV[k]?=some z∧okN z=true:=by
 have h:∀ k,k < 8→(ZlV[k]?).any okN=true:=by decide +kernel
 intro k hk
 have:=h k hk
 cases e:ZlV[k]? with
 | none=>rw [e] at this; exact absurd this (by decide)
 | some z=>rw [e] at this; exact ⟨z,rfl,this⟩
theorem ZNR:∀ k,k < 10→∃ z,ZNQ[k]?=some z∧okN z=true:=by
 have h:∀ k,k < 10→(ZNQ[k]?).any okN=true:=by decide +kernel
 intro k hk
 have:=h k hk
 cases e:ZNQ[k]? with
 | none=>rw [e] at this; exact absurd this (by decide)
 | some z=>rw [e] at this; exact ⟨z,rfl,this⟩
theorem ZMR {ns:List Str} {k:Nat} {z:Str} (h:ns[k]?=some z):(ns.map V.str)[k]?=some (.str z):=by rw [List.getElem?_map,h]; rfl
seal PE PA PS PSs
def ZQa:Sp:=fun vs H Q _=>∃ (k:Nat) (c:Int),vs=[.int (k:Int),.int c]∧k < 6∧∀ z H',Same H H'→Nm8 z→Q (.str z) H'
theorem ZN1 (T:Txt K mg t):FnS P w K mg base 3 "_law_name" ["_law_k","_law_cell"] (ZQa):=by
 refine ⟨_,_,T.ZpC.ok Zc5 (fun vs H Q E h=>?_) (fun cdv A outer s H vs Q E hr h=>?_),T.ZwQ,T.ZpC.kp,T.ZxV⟩
 ·obtain ⟨k,c,rfl,hk6,q⟩ :=h
  rfl
 obtain ⟨k,c,rfl,hk6,q⟩ :=h
 have ZoU:=ZHu (P:=P) (w:=w) (base:=base) T
 refine ⟨_,(Zac (ss 2 Zc5.nd Zal)
   (Zac (ss 3 Zc5.nd (Zau Zcc (pv 1) Zae))
   (Zac (ss 4 Zc5.nd (Zau ZaQ Zae (Zau Zcc (Zau ZdZ (pv 1) Zae) Zae)))
   (Zac (ss 5 Zc5.nd (Zbv ZoU hr (Zaa (pv 1) (Zaa Zae Zaf))))
   (Zac (ZaI (Zah (ZaC hr.units) (pv 3) Zae (Zap _))
   (Zac (ss 6 Zc5.nd (Zau Zcc (Zau ZdZ (pv 1) Zae) (pv 4)))
   (Zac (ss 7 Zc5.nd (Zau ZaQ (Zj0 PySem.F.plainAttrs_str PySem.F.slot_str_find PySem.F.type_str_find ZJi (pv 2) (Zaa (ZaG Zar (pv 5) (pv 6) (fun _ _=>rfl)) Zaf)) (Zau Zjj (Zau ZaQ Zae (Zau Zjj Zae (Zau Zcc (Zau ZdZ (pv 1) Zae) Zae))) (pv 0))))
   (Zad (Zam (Zau ZaQ (Zau ZaQ (Zeq ZlR (pv 5) Zjk (Zfh (pv 6))) (ZaG Zar (pv 2) (Zau Zcc (pv 7) Zae) (fun _ _=>rfl))) (Zeq ZlR (pv 5) (Zfh (Zau ZaQ (pv 6) Zae)) (Zfh (pv 4))))))))
   Zaq)
   (Zac (ZaI (Zah (ZaC hr.units) (pv 3) Zae (Zap _))
   (Zad (Zam (Zbv ZoU hr (Zaa (Zau ZaQ (pv 1) (Zau Zjj Zae (pv 0))) (Zaa (Zau ZaQ Zae (Zau Zcc (Zau ZaQ (pv 4) (Zau Zjj Zae (pv 0))) Zae)) Zaf)))))
   Zaq)
   (Zac (ZaI (Zah (ZaC hr.units) (pv 3) Zae (Zap _))
   (Zad (Zam (Zeq ZlR (pv 5) Zjk (Zfh (Zau ZaQ Zae (Zau Zcc (Zau ZaQ (pv 4) (pv 0)) Zae))))))
   Zaq)
   (Zac (ZaI (Zah (ZaC hr.units) (Zau Zcc (Zau ZdZ (pv 1) Zae) Zae) Zae (Zap _))
   (Zac (ss 2 Zc5.nd (Za8 (ZHx (ZHx (Zaa Zal (Zaa Zal Zaf))))))
   (Zad (Zam (ZaG Zar (pv 2) (Zau Zcc (Zau ZaQ (pv 4) (pv 0)) Zae) (fun _ _=>rfl)))))
   Zaq)
   (Zad (Zam (Zau ZaQ (ZaG Zar (Za8 (ZHx (ZHx Zaf))) (Zau Zcc (Zau ZaQ (pv 4) (pv 0)) Zae) (fun _ _=>rfl)) (ZaG Zar (pv 5) (pv 0) (fun _ _=>rfl))))))))))))),?_⟩
 walk_at "rd0"
 refine ⟨c,8,rfl,by omega,fun w hw hw8=>?_⟩
 walk_at "rd"
 obtain ⟨sz,hsz,hs1,hs8⟩ : ∃ sz:Nat,1 + c / 4 % 8=(sz:Int)∧1≤sz∧sz≤8:=⟨(1 + c / 4 % 8).toNat,by omega,by omega,by omega⟩
 rw [hsz]
 refine Zd3 (fun h0=>?_) (fun h0=>?_)
 ·walk_at "rd"
  obtain ⟨pl,hpl,hps⟩ : ∃ pl:Nat,c / 32 % (sz:Int)=(pl:Int)∧pl < sz:=by
   have v1:=Int.emod_nonneg (c / 32) (show (sz:Int) ≠ 0 by omega)
   have v2:=Int.emod_lt_of_pos (c / 32) (show (0:Int) < (sz:Int) by omega)
   exact ⟨(c / 32 % (sz:Int)).toNat,by omega,by omega⟩
  rw [hpl]
  refine ⟨tyS,?_⟩
  walk_at "rd"
  obtain ⟨d,hd⟩ :=ZEO (z:=w) (k:=pl) (by omega)
  refine ZHm (Zcf (by omega)) (ZpQ hd) ?_
  walk_at "rd"
  refine ⟨_,_,rfl,rfl,?_⟩
  walk_at "rd"
  refine ZxC (.inl ⟨by decide,by decide⟩) ?_
  walk_at "rd"
  refine ZxC (.inr ⟨by omega,by omega⟩) ?_
  walk_at "rd"
  refine ZK4 (by omega) ?_
  walk_at "rd"
  have l1:(Txt.slice w none (some (pl:Int))).length=pl:=by
   rcases PyProof.Rows.slice_ns_cases' w (pl:Int) with ⟨a,b⟩ | ⟨a,b,c⟩ | ⟨a,b⟩ <;> omega
  refine ZQr fun e he26=>?_
  refine Zvh (Zcf (by show _ + 1≤_; omega)) ?_
  walk_at "rd"
  refine ZK4 (by omega) ?_
  have l2:(Txt.slice w (some ((pl:Int) + 1)) (some (sz:Int))).length=sz - (pl + 1):=by
   show (StrLaws.sliceText w (some ((pl:Int) + 1)) (some (sz:Int))).length=_
   have hl0:w.cps.toList.length=w.length:=by simp [Str.length]
   rw [StrLaws.sliceText_plain (by refine ⟨?_,?_,?_⟩ <;> omega)]
   show ((w.cps.toList.drop _).take _).toArray.size=_
   rw [List.size_toArray,List.length_take,List.length_drop]
   omega
  have l3:Str.length ⟨#[97 + e]⟩=1:=rfl
  refine Zvh (Zcf (by rw [ZaD]; omega)) ?_
  refine q _ _ (Same.refl _) ⟨ZjN (ZjN (Zwr hw _ _) (ZGy he26)) (Zwr hw _ _),?_,?_⟩
  ·rw [ZaD,ZaD]; omega
  ·rw [ZaD,ZaD]; omega
 walk_at "rd"
 refine Zd3 (fun h1=>?_) (fun h1=>?_)
 ·walk_at "rd"
  refine ZxC (.inl ⟨by decide,by decide⟩) ?_
  walk_at "rd"
  refine ZxC (.inl ⟨by decide,by decide⟩) ?_
  walk_at "rd"
  obtain ⟨e,he,he1,he8⟩ : ∃ e:Nat,1 + ((sz:Int) + 3 * (k:Int)) % 8=(e:Int)∧1≤e∧e≤8:=⟨(1 + ((sz:Int) + 3 * (k:Int)) % 8).toNat,by omega,by omega,by omega⟩
  rw [he]
  refine ⟨_,e,rfl,by omega,fun z hz hzl=>?_⟩
  exact q _ _ (Same.refl _) ⟨hz,by omega,by omega⟩
 walk_at "rd"
 refine Zd3 (fun h2=>?_) (fun h2=>?_)
 ·walk_at "rd"
  refine ZK4 (by omega) ?_
  refine q _ _ (Same.refl _) ⟨Zwr hw _ _,?_,?_⟩
  ·rcases PyProof.Rows.slice_ns_cases' w (1 + ((sz:Int) + (k:Int)) % 8) with ⟨a,b⟩ | ⟨a,b,c⟩ | ⟨a,b⟩ <;> omega
  ·have:=Txt.slice_le w none (some (1 + ((sz:Int) + (k:Int)) % 8))
   omega
 walk_at "rd"
 refine Zd3 (fun h3=>?_) (fun h3=>?_)
 ·walk_at "rd"
  refine ZeA (by simp) fun l1 H1 s1 n1 e1=>?_
  walk_at "rd"
  obtain ⟨e,he,he10⟩ : ∃ e:Nat,((sz:Int) + (k:Int)) % 10=(e:Int)∧e < 10:=⟨(((sz:Int) + (k:Int)) % 10).toNat,by omega,by omega⟩
  rw [he]
  obtain ⟨z,hz,ok⟩ :=ZNR e he10
  obtain ⟨o1,o2,o3⟩ :=ZMT ok
  exact ZlU e1 (ZMR hz) (q _ _ s1 ⟨o1,o2,by omega⟩)
 ·walk_at "rd"
  refine ZeA (by simp) fun l1 H1 s1 n1 e1=>?_
  walk_at "rd"
  obtain ⟨e,he,he10⟩ : ∃ e:Nat,((sz:Int) + (k:Int)) % 8=(e:Int)∧e < 8:=⟨(((sz:Int) + (k:Int)) % 8).toNat,by omega,by omega⟩
  rw [he]
  obtain ⟨z,hz,ok⟩ :=ZNL e he10
  obtain ⟨o1,o2,o3⟩ :=ZMT ok
  refine ZlU e1 (ZMR hz) ?_
  walk_at "rd"
  obtain ⟨d,hd⟩ :=ZEO (z:=w) (k:=k) (by omega)
  refine ZHm (Zcf (by omega)) (ZpQ hd) ?_
  have hd2:=hw d (List.mem_of_getElem? hd)
  have l3:Str.length ⟨#[d]⟩=1:=rfl
  refine Zvh (Zcf (by omega)) ?_
  refine q _ _ s1 ⟨ZjN o1 (fun x hx=>?_),by rw [ZaD]; omega,by rw [ZaD]; omega⟩
  have hx:x ∈ [d]:=hx
  rw [List.mem_singleton.mp hx]
  exact hd2
unseal PE PA PS PSs
def ZOp:Sp:=fun vs H Q _=>∃ (z:Str) (l:Addr) (ns:List Str),vs=[.str z,.ref l]∧H l=some (.lst (ns.map V.str))∧ns.length≤5∧Nm8 z∧∀ z' H',Same H H'→Nm8 z'→z' ∉ ns→z' ∉ ZlV→Q (.str z') H'
theorem ZLb:ZlV.length=8:=rfl
theorem ZLt (T:Txt K mg t):FnS P w K mg base 1 "_law_fresh" ["_law_name_here","_law_names_here"] (ZOp):=by
 refine ⟨_,_,T.ZlY.ok Zlr (fun vs H Q E h=>?_) (fun cdv A outer s H vs Q E hr h=>?_),T.Zuq,T.ZlY.kp,T.Zvy⟩
 ·obtain ⟨z,l,ns,rfl,hl,hn5,⟨hz,hz1,hz2⟩,q⟩ :=h
  rfl
 obtain ⟨z,l,ns,rfl,hl,hn5,⟨hz,hz1,hz2⟩,q⟩ :=h
 obtain ⟨c,hc,ez⟩ :=ZIl hz1 hz
 generalize eu:Txt.slice z none (some (-1))=u at ez
 have hu:Lt u:=by rw [← eu]; exact Zwr hz _ _
 have hul:u.length + 1=z.length:=by rw [ez]; unfold rot; rw [ZaD]; rfl
 have hrl:∀ j,(rot u c j).length=u.length + 1:=fun j=>by unfold rot; rw [ZaD]; rfl
 refine ⟨_,(Zac (ss 2 Zlr.nd Zal)
   (Zac (ZGN PassesOwn.never (PW.pt (Zqy (Zah ZDC (pv 0) (pv 1) (by with_unfolding_all rfl)) (Zj2 (Zah ZDC (pv 0) (Zhy (ZHx (ZHx Zaf))) (by with_unfolding_all rfl)))))
   (Zad (ss 0 Zlr.nd (Zau ZaQ (Zeq ZlR (pv 0) Zjk (Zfh (ZJL ZEb Zae))) (ZaG Zar (pv 2) (Zau Zcc (Zau ZaQ (Zj0 PySem.F.plainAttrs_str PySem.F.slot_str_find PySem.F.type_str_find ZJi (pv 2) (Zaa (ZaG Zar (pv 0) (ZJL ZEb Zae) (fun _ _=>rfl)) Zaf)) Zae) Zae) (fun _ _=>rfl))))))
   (Zad (Zam (pv 0))))),?_⟩
 walk_at "rd0"
 refine ⟨fun m σ H'=>∃ j,m + j=14∧j≤13∧Same H H'∧(∀ i,i < j→rot u c i ∈ ns ++ ZlV)∧σ=[some (.str (rot u c j)),some (.ref l),some (.str "abcdefghijklmnopqrstuvwxyz")],⟨14,0,rfl,by omega,Same.refl _,fun i hi=>absurd hi (by omega),by rw [← ez]⟩,?_⟩
 rintro m σ H1 ⟨j,hm,hj,s1,hin,rfl⟩
 have go:rot u c j ∈ ns ++ ZlV→j + 1≤13:=fun h=>by
  have:=ZMZ (rot u c) (j + 1) (ns ++ ZlV) (fun i hi=>by
   rcases (show i=j∨i < j by omega) with rfl | h'
   ·exact h
   ·exact hin i h') (fun i i' h1 h2=>ZPZ h1 (by omega))
  rw [List.length_append,ZLb] at this
  omega
 have step:∀ (H2:Hp),Same H1 H2→rot u c j ∈ ns ++ ZlV→∃ N:St→Hp→Prop,(∀ σ' H',N σ' H'→∃ m',m' < m∧∃ j,m' + j=14∧j≤13∧Same H H'∧(∀ i,i < j→rot u c i ∈ ns ++ ZlV)∧σ'=[some (.str (rot u c j)),some (.ref l),some (.str "abcdefghijklmnopqrstuvwxyz")])∧∀ σ' H',σ'=[some (.str (rot u c (j + 1))),some (.ref l),some (.str "abcdefghijklmnopqrstuvwxyz")]→Same H H'→N σ' H':=fun H2 s2 h=>by
  have:=go h
  refine ⟨fun σ' H'=>Same H H'∧σ'=[some (.str (rot u c (j + 1))),some (.ref l),some (.str "abcdefghijklmnopqrstuvwxyz")],fun σ' H' ⟨a,b⟩ =>⟨m - 1,by omega,j + 1,by omega,this,a,fun i hi=>?_,b⟩,fun σ' H' a b=>⟨b,a⟩⟩
  rcases (show i=j∨i < j by omega) with rfl | h'
  ·exact h
  ·exact hin i h'
 have nxt:Txt.slice (rot u c j) none (some (-1)) ++ (⟨#[97 + (c + j + 1) % 26]⟩ : Str)=rot u c (j + 1):=by rw [ZJX]; rfl
 have h1:=hrl j
 walk_at "rd"
 have bod:∀ (H2:Hp) (N:St→Hp→Prop) (rt:VK) (bk:St→Hp→Prop),Same H1 H2→(∀ σ' H',σ'=[some (.str (rot u c (j + 1))),some (.ref l),some (.str "abcdefghijklmnopqrstuvwxyz")]→Same H H'→N σ' H')→tAsg (tOp ZBr (tSl (rSlA K) (tVar 0) ZFB (ZOA (tUn (rU fun i=>V.int (-i)) (tC (.int 1))))) (tOp (rIx K) (tVar 2) (tOp (rI (fun x j=>0 < j) fun i j=>V.int (i % j)) (tOp ZBr (tBM K "str" ZPQ (tVar 2) (Zs8 (tOp (rIx K) (tVar 0) (tUn (rU fun i=>V.int (-i)) (tC (.int 1)))) tNil)) (tC (.int 1))) (tC (.int 26))))) (ZCJ 0) { nx:=N,rt:=rt,bk:=bk,ct:=N } [some (.str (rot u c j)),some (.ref l),some (.str "abcdefghijklmnopqrstuvwxyz")] H2:=fun H2 N rt bk s2 n2=>by
  walk_at "rd"
  refine ZK4 (by omega) ?_
  walk_at "rd"
  refine ⟨tyS,?_⟩
  walk_at "rd"
  refine ZHm (Zcf (by omega)) (ZLM u c j) ?_
  walk_at "rd"
  refine ⟨_,_,rfl,rfl,?_⟩
  walk_at "rd"
  have e0:Txt.find "abcdefghijklmnopqrstuvwxyz" ⟨#[97 + (c + j) % 26]⟩=(((c + j) % 26:Nat):Int):=ZLe _ (by omega)
  rw [e0]
  have e1:((((c + j) % 26:Nat):Int) + 1) % 26=(((c + j + 1) % 26:Nat):Int):=by omega
  rw [e1]
  refine ZHm (by decide) (ZpQ (ZI7 _ (by omega))) ?_
  have l3:=Txt.slice_le (rot u c j) none (some (-1))
  refine Zvh (Zcf (by show _ + 1≤_; omega)) ?_
  walk_at "rd"
  exact n2 _ _ (by rw [nxt]) (s1.trans s2)
 have memD:rot u c j ∈ ns ++ ZlV→Lt (rot u c j):=fun _=>ZjN hu (ZGy (by omega))
 walk_at "rd"
 refine ZNz (.inl (s1 _ _ hl)) ?_
 walk_at "rd"
 refine Zd3 (fun hA=>?_) (fun hA=>?_)
 ·obtain ⟨N,n1,n2⟩ :=step H1 (Same.refl _) (List.mem_append_left _ hA)
  refine ZcG rfl ⟨N,n1,?_⟩
  exact bod H1 N _ _ (Same.refl _) n2
 ·walk_at "rd"
  refine Zqt (by simp) fun l1 H2 s2 n2 e2=>?_
  refine ZNz (ns:=ZlV) (.inr e2) ?_
  walk_at "rd"
  refine Zd3 (fun hB=>?_) (fun hB=>?_)
  ·obtain ⟨N,n1,n2⟩ :=step H2 s2 (List.mem_append_right _ hB)
   refine ⟨N,n1,?_⟩
   exact bod H2 N _ _ s2 n2
  ·walk_at "rd"
   exact q _ _ (s1.trans s2) ⟨ZjN hu (ZGy (by omega)),by omega,by omega⟩ hA hB
def ZOs:Sp:=fun vs H Q _=>∃ (m:Nat) (c:Int),vs=[.int (m:Int),.int c]∧m≤6∧∀ (l:Addr) (ns:List Str) (H':Hp),Same H H'→H l=none→H' l=some (.lst (ns.map V.str))→ns.length=m→(∀ z ∈ ns,Nm8 z∧z ∉ ZlV)→ns.Nodup→Q (.ref l) H'
theorem ZLu (T:Txt K mg t):FnS P w K mg base 5 "_law_names" ["_law_many","_law_cell"] (ZOs):=by
 refine ⟨_,_,T.ZlZ.ok Zls (fun vs H Q E h=>?_) (fun cdv A outer s H vs Q E hr h=>?_),T.Zur,T.ZlZ.kp,T.Zvz⟩
 ·obtain ⟨m,c,rfl,hm6,q⟩ :=h
  rfl
 obtain ⟨m,c,rfl,hm6,q⟩ :=h
 have ZEx:=ZN1 (P:=P) (w:=w) (base:=base) T
 have ZCo:=ZLt (P:=P) (w:=w) (base:=base) T
 refine ⟨_,(Zac (ss 2 Zls.nd (Za8 Zaf))
   (Zac (Zc4 PassesOwn.never rfl (ZdP rfl T.B.range (Zaa (pv 0) Zaf)) (sg 3 Zls.nd)
   (Zad (Zcg (Zj0 PySem.F.plainAttrs_list PySem.F.slot_list_append PySem.F.type_list_append Zcb (pv 2) (Zaa (Zbv ZCo hr (Zaa (Zbv ZEx hr (Zaa (pv 3) (Zaa (pv 1) Zaf))) (Zaa (pv 2) Zaf))) Zaf)))))
   (Zad (Zam (pv 2))))),?_⟩
 walk_at "rd0"
 refine ZeA (by simp) fun l H1 s1 n1 e1=>?_
 walk_at "rd"
 refine ⟨_,rfl,by omega,by omega,?_⟩
 rw [show ((m:Int)).toNat=m by omega]
 refine ZJa (n:=m) (fun i σ H'=>∃ (ns:List Str) (v:Option V),Same H H'∧H' l=some (.lst (ns.map V.str))∧ns.length=i∧(∀ z ∈ ns,Nm8 z∧z ∉ ZlV)∧ns.Nodup∧σ=[some (.int (m:Int)),some (.int c),some (.ref l),v]) ⟨[],_,s1,e1,rfl,(fun z hz=>by cases hz),List.nodup_nil,rfl⟩ ?_ ?_
 ·rintro i σ H2 hi ⟨ns,v,s2,e2,hl2,hn2,hd2,rfl⟩
  walk_at "rd"
  refine ⟨tyL e2,?_⟩
  walk_at "rd"
  refine ⟨i,c,rfl,by omega,fun z H3 s3 hz=>?_⟩
  walk_at "rd"
  refine ⟨z,l,ns,rfl,s3 _ _ e2,by omega,hz,fun z' H4 s4 hz4 hn4 hk4=>?_⟩
  walk_at "rd"
  refine ZfE (s4 _ _ (s3 _ _ e2)) (by rw [List.length_map]; omega) fun H5 b5 e5=>?_
  walk_at "rd"
  refine ⟨ns ++ [z'],_,b5.same n1 (s2.trans (s3.trans s4)),by rw [e5,List.map_append]; rfl,by rw [List.length_append]; simp [hl2],fun y hy=>?_,?_,rfl⟩
  ·rcases List.mem_append.mp hy with h | h
   ·exact hn2 y h
   ·rw [List.mem_singleton.mp h]; exact ⟨hz4,hk4⟩
  ·rw [List.nodup_append]
   refine ⟨hd2,by simp,fun a ha b hb e=>?_⟩
   rw [List.mem_singleton.mp hb] at e
   rw [e] at ha
   exact hn4 ha
 ·rintro σ H2 ⟨ns,v,s2,e2,hl2,hn2,hd2,rfl⟩
  walk_at "rd"
  exact q l ns H2 s2 n1 e2 hl2 hn2 hd2
end
mutual
theorem ZGC {m m':Nat} (hm:m≤m'):∀ t:Tr,okT m t=true→okT m' t=true
 | .lamp k,h=>by
  have h:k < m:=by simpa [okT] using h
  show decide (k < m')=true
  exact decide_eq_true (by omega)
 | .sure c,_=>rfl
 | .neg t,h=>ZGC hm t h
 | .wrap t,h=>ZGC hm t h
 | .join v ts,h=>by
  simp only [okT,Bool.and_eq_true] at h ⊢
  exact ⟨h.1,ZJu hm ts h.2⟩
theorem ZJu {m m':Nat} (hm:m≤m'):∀ ts:List Tr,okTL m ts=true→okTL m' ts=true
 | [],_=>rfl
 | t :: ts,h=>by
  simp only [okTL,Bool.and_eq_true] at h ⊢
  exact ⟨ZGC hm t h.1,ZJu hm ts h.2⟩
end
theorem ZEV {z:Str}:∀ {ns:List Str} {k:Nat},ns.Nodup→ns[k]?=some z→idxS z ns=some k
 | [],k,_,h=>by simp at h
 | y :: r,k,nd,h=>by
  unfold idxS
  rw [List.nodup_cons] at nd
  cases k with
  | zero=>
   have:y=z:=by simpa using h
   rw [if_pos this]
  | succ k=>
   have h:r[k]?=some z:=by simpa using h
   have : ¬ y=z:=fun e=>nd.1 (by rw [e]; exact List.mem_of_getElem? h)
   rw [if_neg this,ZEV nd.2 h]
   rfl
theorem ZrS {ns:List Str} {k:Nat} (h:k < ns.length):ns[k]?=some (ns.getD k Str.empty):=by
 rw [List.getD_eq_getElem?_getD,List.getElem?_eq_getElem h]
 rfl
theorem ZQF {z:Str} (h:Nm8 z) (hk:z ∉ ZlV):z ∉ (["yes","no","not","(",")"]:List Str):=by
 unfold ZlV at hk
 simp only [List.mem_cons,List.not_mem_nil,or_false,not_or] at hk ⊢
 refine ⟨hk.2.2.2.2.1,hk.2.2.2.2.2.1,hk.2.2.1,?_,?_⟩
 ·rintro rfl
  have:=h.1 40 (by decide)
  omega
 ·rintro rfl
  have:=h.1 41 (by decide)
  omega
theorem ZJm {zs:List Str} (h:∀ z ∈ zs,Nm8 z∧z ∉ ZlV) (nd:zs.Nodup):NmsOk zs zs id zs.length:=
 ⟨fun k hk=>ZEV nd (ZrS hk),fun k hk=>by
  have:=h _ (List.mem_of_getElem? (ZrS hk))
  exact ZQF this.1 this.2⟩
theorem ZPX {zs:List Str} {k:Nat} (hk:k < zs.length):zs.reverse[zs.length - 1 - k]?=some (zs.getD k Str.empty):=by
 rw [List.getElem?_reverse (by omega),show zs.length - 1 - (zs.length - 1 - k)=k by omega]
 exact ZrS hk
theorem ZJn {zs:List Str} (h:∀ z ∈ zs,Nm8 z∧z ∉ ZlV) (nd:zs.Nodup):NmsOk zs.reverse zs (fun k=>zs.length - 1 - k) zs.length:=
 ⟨fun k hk=>ZEV (List.pairwise_reverse.mpr (List.Pairwise.imp (fun h=>Ne.symm h) nd)) (ZPX hk),(ZJm h nd).no⟩
theorem ZLL {zs:List Str} {k:Nat} (hk:k < zs.length):zs.getD (zs.length - 1 - k) Str.empty=zs.reverse.getD k Str.empty:=by
 rw [List.getD_eq_getElem?_getD,List.getD_eq_getElem?_getD,List.getElem?_reverse hk]
theorem ZPx {z:Str} (h:Nm8 z):NmL z∧z.length≤8:=⟨⟨fun e=>by
 have a:=h.2.1
 have b:z.cps.toList.length=z.length:=by simp [Str.length]
 rw [e] at b
 simp at b
 omega,h.1⟩,h.2.2⟩
theorem ZtB {zs:List Str} (h:∀ z ∈ zs,Nm8 z) {k:Nat} (hk:k < zs.length):NmL (zs.getD k Str.empty)∧(zs.getD k Str.empty).length≤8:=ZPx (h _ (List.mem_of_getElem? (ZrS hk)))
theorem ZL3 {z:Str} (h:WdS z):ZEB z:=by
 unfold ZEB
 have a:=StrLaws.reprText_len z (fun c hc=>by
  rcases h.1 with e | e | e
  ·have hc:c ∈ cl1 z:=hc
   rw [e] at hc
   rw [List.mem_singleton.mp hc]
   decide
  ·have hc:c ∈ cl1 z:=hc
   rw [e] at hc
   rw [List.mem_singleton.mp hc]
   decide
  ·have:=e.2 c hc
   have:(128:Nat)≤16 ^ 8:=by decide
   omega)
 have:=h.2
 omega
theorem ZMd {x:Str} (h:∀ d ∈ x.cps.toList,al d=true):Asc x:=fun c hc=>by
 have:=h c hc
 unfold al isL isM at this
 simp only [Bool.or_eq_true,Bool.and_eq_true,decide_eq_true_iff,beq_iff_eq] at this
 omega
theorem ZAv:∀ a:List Str,(∀ z ∈ a,Lt z)→PyData.canLayAll0 (a.map .str)=true
 | [],_=>rfl
 | x :: a,h=>by
  have e:PyData.strOk x=true:=by
   unfold PyData.strOk
   rw [Array.all_eq_true_iff_forall_mem]
   intro c hc
   have:=h x (by simp) c (Array.mem_toList_iff.mpr hc)
   exact decide_eq_true (by omega)
  simp [PyData.canLayAll0,PyData.canLay0,e,ZAv a (fun z hz=>h z (List.mem_cons_of_mem _ hz))]
section
variable {P:Program} {w:World} {K:PySem.W.Frag} {mg:Str→Option Value} {base:Heap} {t:Ad} {n:Nat}
theorem ZPa {l l':Addr} {a b:List Str} {H:Hp} {Q:VK} (ha:∀ z ∈ a,Lt z) (hb:∀ z ∈ b,Lt z) (h:H l=some (.lst (a.map V.str))) (h':H l'=some (.lst (b.map V.str))) (q:Q (.bl (!decide (a=b))) H):rNeA (.ref l) (.ref l') H Q:=by
 refine .inr (.inl ⟨a.map .str,b.map .str,?_,?_,ZAv a ha,ZAv b hb,ZF9 a,?_⟩)
 ·rw [DV]; exact ⟨l,_,rfl,h,ZAc H a⟩
 ·rw [DV]; exact ⟨l',_,rfl,h',ZAc H b⟩
 ·rw [Zxt]; exact q
seal PE PA PS PSs
theorem ok_law (T:Txt K mg t):FnOk P w K mg base CX0 80 t.f_law t.d_law ["_law_script"] (spLaw K):=by
 refine T.F_law.ok ZlQ (fun vs H Q E h=>?_) (fun cdv A outer s H vs Q E hr h=>?_)
 ·obtain ⟨a,ns,rfl,_⟩ :=h
  rfl
 obtain ⟨sc,ns,rfl,hS,h63,hO,q⟩ :=h
 have Zd7:=ZHt (P:=P) (w:=w) (base:=base) T
 have ZCp:=ZLu (P:=P) (w:=w) (base:=base) T
 have ZEz:=ZN4 (P:=P) (w:=w) (base:=base) T
 have Zb8:=Ztc (P:=P) (w:=w) (base:=base) T 63
 have ZzW:=ZJz (P:=P) (w:=w) (base:=base) T
 have ZMa:=ZN3 (P:=P) (w:=w) (base:=base) T
 have Zb7:=Zzz (P:=P) (w:=w) (base:=base) T 63
 have Zt9:=ZNd (P:=P) (w:=w) (base:=base) T (n:=63)
 have D_shown:=Zzv (P:=P) (w:=w) (base:=base) T 61
 have ZCq:=ZLw (P:=P) (w:=w) (base:=base) T
 refine ⟨_,(Zac (ss 1 ZlQ.nd (Zau ZaQ Zae (Zau Zcc (Zbv Zd7 hr (Zaa (pv 0) (Zaa Zae Zaf))) Zae)))
   (Zac (ss 2 ZlQ.nd (Zbv ZCp hr (Zaa (pv 1) (Zaa (Zbv Zd7 hr (Zaa (pv 0) (Zaa Zae Zaf))) Zaf))))
   (Zac (ss 3 ZlQ.nd (Zbv ZEz hr (Zaa (Zeq ZlR (pv 0) (Zfh Zae) (Zfh Zae)) (Zaa (pv 1) (Zaa (Zau ZdZ (Zbv Zd7 hr (Zaa (pv 0) (Zaa Zae Zaf))) Zae) (Zaa Zae (Zaa Zae Zaf)))))))
   (Zac (ss 4 ZlQ.nd (Zbv ZzW hr (Zaa (Zbv Zb8 hr (Zaa (pv 3) (Zaa (pv 2) (Zaa ZjZ Zaf)))) (Zaa (Zbv Zd7 hr (Zaa (pv 0) (Zaa Zae Zaf))) Zaf))))
   (Zac (ss 5 ZlQ.nd (ZHy rfl rfl T.B.list rfl T.B.reversed (pv 2)))
   (Zac (ss 6 ZlQ.nd (Zco Zos rfl T.B.list Zth (Zaa (pv 2) Zaf)))
   (Zac (ss 7 ZlQ.nd (ZMV ZMa hr (Zaa (pv 4) (Zaa (pv 6) Zaf))))
   (Zac (ss 8 ZlQ.nd (ZMV ZMa hr (Zaa (pv 4) (Zaa (Zco Zos rfl T.B.list Zth (Zaa (pv 5) Zaf)) Zaf))))
   (Zac (ZaI (PW.pt (Zqy (Zah (ZiO hr.units) (pv 6) (pv 2) (Zap _)) (Zqy (ZnY (Zbg (Zax ZaJ rfl T.B.isinstance Zan (Zaa (pv 7) (Zaa (Za9 (v:=.ref t.Zak) rfl T.ZC1 rfl) Zaf))) (fun _=>rfl))) (Zj2 (ZnY (Zbg (Zbv Zb7 hr (Zaa (pv 7) (Zaa (pv 3) Zaf))) (fun _=>rfl)))))))
   (Zad (Zam ZjZ))
   Zaq)
   (Zac (Zcg (ZJG PySem.F.plainAttrs_list PySem.F.slot_list_clear PySem.F.type_list_clear ZLl (pv 6)))
   (Zac (ss 9 ZlQ.nd (Zbv Zt9 hr (Zaa (pv 3) (Zaa (pv 5) Zaf))))
   (Zac (ss 10 ZlQ.nd (Zlb D_shown hr (pv 8) (Zaa (Zco Zos rfl T.B.list Zth (Zaa (pv 2) Zaf)) Zaf)))
   (Zac (ZaI (PW.pt (Zqy (ZnY (Zbg (Zax ZaJ rfl T.B.isinstance Zan (Zaa (pv 10) (Zaa (ZnP (v:=.ty "str") rfl T.B.str ZMh rfl) Zaf))) (fun _=>rfl))) (Zj2 (Zah (ZiO hr.units) (pv 10) (pv 9) (Zap _)))))
   (Zad (Zam ZjZ))
   Zaq)
   (Zac (ss 10 ZlQ.nd (Zlb D_shown hr (pv 7) (Zaa (Zco Zos rfl T.B.list Zth (Zaa (pv 2) Zaf)) Zaf)))
   (Zac (ZaI (PW.pt (Zqy (ZnY (Zbg (Zax ZaJ rfl T.B.isinstance Zan (Zaa (pv 10) (Zaa (ZnP (v:=.ty "str") rfl T.B.str ZMh rfl) Zaf))) (fun _=>rfl))) (Zj2 (Zah (ZiO hr.units) (pv 10) (Zbv Zt9 hr (Zaa (pv 3) (Zaa (pv 2) Zaf))) (Zap _)))))
   (Zad (Zam ZjZ))
   Zaq)
   (Zad (Zam (Zbv ZCq hr (Zaa (pv 7) (Zaa (pv 3) (Zaa (pv 1) (Zaa (Zau Zcc (Zbv Zd7 hr (Zaa (pv 0) (Zaa Zae Zaf))) (Zau Zc2 Zae (pv 1))) Zaf)))))))))))))))))))))),?_⟩
 obtain ⟨m,hm,hm1,hm6⟩ : ∃ m:Nat,1 + cell ns 0 % 6=(m:Int)∧1≤m∧m≤6:=⟨(1 + cell ns 0 % 6).toNat,by omega,by omega,by omega⟩
 walk_at "rd0"
 refine ⟨sc,ns,0,rfl,hS,?_⟩
 walk_at "rd"
 rw [hm]
 walk_at "rd"
 refine ⟨sc,ns,1,rfl,hS,?_⟩
 walk_at "rd"
 refine ⟨m,cell ns 1,rfl,hm6,fun nl zs H1 s1 n1 e1 hz1 hz2 hz3=>?_⟩
 have hNm:∀ z ∈ zs,Nm8 z:=fun z hz=>(hz2 z hz).1
 walk_at "rd"
 refine ZQB (s1.seq hS) ((ZNk _ 3 63).trans (ZE2 ns 3 60)) fun cl H2 s2 n2 e2=>?_
 walk_at "rd"
 refine ⟨sc,ns,0,rfl,(s1.trans s2).seq hS,?_⟩
 walk_at "rd"
 refine ⟨cl,_,m,_,_,_,rfl,e2,by rw [List.length_take]; omega,hm1,hm6,fun tp tr H3 s3 tr3 hok hnT=>?_⟩
 have hokz:okT zs.length tr=true:=by rw [hz1]; exact hok
 have wl:=ZzR true zs tr
 have hwd:∀ z ∈ wdG true zs tr,WdS z:=ZEf ZI6 (m:=zs.length) (fun k hk=>⟨Wd.let (ZtB hNm hk).1,(ZtB hNm hk).2⟩) tr hokz
 walk_at "rd"
 refine ⟨tp,nl,true,tr,zs,rfl,tr3,(s2.trans s3) _ _ e1,hokz,hnT,fun wp H4 s4 n4 e4=>?_⟩
 walk_at "rd"
 refine ⟨sc,ns,2,rfl,(s1.trans (s2.trans (s3.trans s4))).seq hS,?_⟩
 walk_at "rd"
 refine ⟨wp,_,_,rfl,e4,hwd,by omega,fun x hal hxl hxw=>?_⟩
 have hok2:okW x=true:=List.all_eq_true.mpr hal
 have hpl:∀ y ∈ Txt.words (pad x),ZEB y:=by rw [hxw]; exact fun y hy=>ZL3 (hwd y hy)
 have el4:=(s2.trans (s3.trans s4)) _ _ e1
 have tr4:=tr3.same s4
 walk_at "rd"
 refine ZIV (SqL.of el4) fun rl H5 s5 n5 e5=>?_
 rw [← List.map_reverse] at e5
 walk_at "rd"
 refine ZGn (.inl (SqL.of (s5 _ _ el4))) fun hd H6 s6 n6 e6=>?_
 have tr6:TwAt (fun l=>l ≠ hd) H6 63 tp tr:=(tr4.same s5).imp (fun _ _ e=>s6 _ _ e) fun l xs _ e=>⟨Zat e n6,s6 _ _ e⟩
 have nlh:nl ≠ hd:=Zat (s5 _ _ el4) n6
 have rlh:rl ≠ hd:=Zat e5 n6
 have el6:=(s5.trans s6) _ _ el4
 have er6:=s6 _ _ e5
 have sc6:=s1.trans (s2.trans (s3.trans (s4.trans (s5.trans s6))))
 clear e2 tr3 e4 tr4 el4 e1
 walk_at "rd"
 refine ⟨x,hd,zs,rfl,ZMd hal,hxl,e6,by omega,hpl,fun hf=>absurd hok2 (by rw [hf]; decide),fun _ hf=>absurd hf (by rw [hxw,ZsW (ZJm hz2 hz3) hokz]; exact fun z=>nomatch z),fun _ f hf fq H7 s7 fE7=>?_⟩
 obtain rfl:fmT id tr=f:=by
  rw [hxw,ZsW (ZJm hz2 hz3) hokz] at hf
  exact Option.some.inj hf
 walk_at "rd"
 refine ZGn (.inl (SqL.of (s7 _ _ er6))) fun h2 H8 s8 n8 e8=>?_
 walk_at "rd"
 refine ⟨x,h2,zs.reverse,rfl,ZMd hal,hxl,e8,by rw [List.length_reverse]; omega,hpl,fun hf=>absurd hok2 (by rw [hf]; decide),fun _ hf=>absurd hf (by rw [hxw,ZsW (ZJn hz2 hz3) hokz]; exact fun z=>nomatch z),fun _ f hf oq H9 s9 oE9=>?_⟩
 obtain rfl:fmT (fun k=>zs.length - 1 - k) tr=f:=by
  rw [hxw,ZsW (ZJn hz2 hz3) hokz] at hf
  exact Option.some.inj hf
 have w9:=s7.trans (s8.trans s9)
 have fE9:=FmE.same (s8.trans s9) fE7
 have fA9:=FmE.tr tr 61 fq hnT fE9
 have oA9:=FmE.tr tr 61 oq hnT oE9
 have tr9:=tr6.same w9
 obtain ⟨cf,ty,ks⟩ :=FmAt.isi T fA9
 walk_at "rd"
 refine ZPa (fun z hz=>(hNm z hz).1) (fun z hz=>(hNm z hz).1) (w9 _ _ e6) (w9 _ _ el6) ?_
 rw [decide_eq_true rfl]
 walk_at "rd"
 refine ZaP rfl ?_
 walk_at "rd"
 refine ZxB ty ks ?_
 walk_at "rd"
 refine ZaP rfl ?_
 walk_at "rd"
 refine ⟨fq,tp,tr,id,rfl,tr9.any,fE9,?_⟩
 walk_at "rd"
 refine ZaP rfl ?_
 have eh9:=w9 _ _ e6
 walk_at "rd"
 refine ⟨tyL eh9,?_⟩
 walk_at "rd"
 refine ZNI eh9 fun H10 b10 e10=>?_
 have tr10:TwAt anyA H10 63 tp tr:=tr9.imp (fun p xs e=>b10 _ _ (ZgI e eh9 (by intro z; cases z)) e) (fun l xs sl e=>⟨trivial,b10 _ _ sl e⟩)
 have fA10:=FmAt.mono (b10.ext eh9) fA9
 have oA10:=FmAt.mono (b10.ext eh9) oA9
 have s010:Same H H10:=b10.same ((s1.trans (s2.trans (s3.trans (s4.trans s5)))).free n6) (sc6.trans w9)
 have el10:=b10 _ _ nlh (w9 _ _ el6)
 have er10:=b10 _ _ rlh (w9 _ _ er6)
 have h20:∀ z ∈ zs,z.length≤20:=fun z hz=>by have:=(hNm z hz).2.2; omega
 have hrl:zs.reverse.length=zs.length:=List.length_reverse
 have hNr:∀ z ∈ zs.reverse,Nm8 z:=fun z hz=>hNm z (List.mem_reverse.mp hz)
 have wt1:=wt_T id tr
 have wt2:=wt_T (fun k=>zs.length - 1 - k) tr
 have lo1:(fmT id tr).low zs.length=true:=ZC0 (fun k hk=>hk) tr hokz
 have lo2:(fmT (fun k=>zs.length - 1 - k) tr).low zs.length=true:=ZC0 (fun k hk=>by show zs.length - 1 - k < _; omega) tr hokz
 have sh1:=(Zj3 (ns':=zs) (ns:=zs) (π:=id) (m:=zs.length) (fun k hk=>rfl) (fun k hk=>(ZtB hNm hk).1) tr hokz).2
 have sh2:=(Zj3 (ns':=zs) (ns:=zs.reverse) (π:=fun k=>zs.length - 1 - k) (m:=zs.length) (fun k hk=>ZLL hk) (fun k hk=>(ZtB hNr (by omega)).1) tr hokz).2
 clear fA9 oA9 tr9 eh9 fE9 oE9 fE7 tr6 e6 el6 er6 ty ks e8
 walk_at "rd"
 refine ⟨tp,rl,tr,zs.reverse,rfl,tr10,er10,by rw [hrl]; exact hokz,hnT,fun k hk=>ZtB hNr hk,fun due H11 s11 hdue=>?_⟩
 obtain rfl:Zd1 zs (fmT (fun k=>zs.length - 1 - k) tr)=due:=ZB4 (sh2.trans hdue.symm)
 have oA11:=FmAt.mono (Ext.of s11) oA10
 walk_at "rd"
 obtain ⟨C,dx',fs',e',hC,hlk⟩ :=oA11.ins "shown" (by decide +kernel) (by decide +kernel) (by decide +kernel) (by decide +kernel)
 refine ⟨oq,C,dx',fs',rfl,e',hC,hlk,?_⟩
 walk_at "rd"
 refine ZGn (.inl (SqL.of (s11 _ _ el10))) fun h1 H12 s12 n12 e12=>?_
 walk_at "rd"
 refine ⟨s12 _ _ e',oq,h1,_,zs,rfl,FmAt.mono (Ext.of s12) oA11,e12,h20,lo2,by omega,fun H13 s13=>?_⟩
 walk_at "rd"
 refine ZaP rfl ?_
 walk_at "rd"
 refine ZaP (by rw [decide_eq_true rfl]; rfl) ?_
 have w13:=s11.trans (s12.trans s13)
 have fA13:=FmAt.mono (Ext.of w13) fA10
 have tr13:=tr10.same w13
 have el13:=w13 _ _ el10
 clear oA11 oA10 fA10 tr10 er10 hlk hC e'
 walk_at "rd"
 obtain ⟨C,dx',fs',e',hC,hlk⟩ :=fA13.ins "shown" (by decide +kernel) (by decide +kernel) (by decide +kernel) (by decide +kernel)
 refine ⟨fq,C,dx',fs',rfl,e',hC,hlk,?_⟩
 walk_at "rd"
 refine ZGn (.inl (SqL.of el13)) fun h3 H14 s14 n14 e14=>?_
 walk_at "rd"
 refine ⟨s14 _ _ e',fq,h3,_,zs,rfl,FmAt.mono (Ext.of s14) fA13,e14,h20,lo1,by omega,fun H15 s15=>?_⟩
 have w15:=s14.trans s15
 walk_at "rd"
 refine ZaP rfl ?_
 walk_at "rd"
 refine ⟨tp,nl,tr,zs,rfl,tr13.same w15,w15 _ _ el13,hokz,hnT,fun k hk=>ZtB hNm hk,fun due H16 s16 hdue=>?_⟩
 obtain rfl:Zd1 zs (fmT id tr)=due:=ZB4 (sh1.trans hdue.symm)
 walk_at "rd"
 refine ZaP (by rw [decide_eq_true rfl]; rfl) ?_
 have w16:=w15.trans s16
 walk_at "rd"
 refine ⟨sc,ns,2,rfl,(s010.trans (w13.trans w16)).seq hS,?_⟩
 walk_at "rd"
 rw [Zd5 m]
 have hp:(0:Int) < ((2 ^ m:Nat):Int):=Int.natCast_pos.mpr (Nat.two_pow_pos m)
 obtain ⟨s,hs,hs2⟩ : ∃ s:Nat,cell ns 2 % ((2 ^ m:Nat):Int)=(s:Int)∧s < 2 ^ m:=by
  have v1:=Int.emod_nonneg (cell ns 2) (show ((2 ^ m:Nat):Int) ≠ 0 by omega)
  have v2:=Int.emod_lt_of_pos (cell ns 2) hp
  exact ⟨(cell ns 2 % ((2 ^ m:Nat):Int)).toNat,by omega,by omega⟩
 refine i_rI hp ?_
 rw [hs]
 exact ⟨fq,tp,m,s,tr,rfl,FmAt.mono (Ext.of w16) fA13,tr13.same w16,hm6,hs2,hok,ZGC hm6 tr hok,hnT,fun H' _=>q _⟩
end
end LW
theorem PySem.W.Fast.tw1951740081642008052 : True := trivial
theorem PySem.W.Fast.tw2891490557858493471 : True := trivial
theorem PySem.W.Fast.tw1224265059113060979 : True := trivial
theorem PySem.W.Fast.tw17396352338124157583 : True := trivial
theorem PySem.W.Fast.tw6396070715926385450 : True := trivial
theorem PySem.W.Fast.tw12275949214884856638 : True := trivial
theorem PySem.W.Fast.tw11142182536514056251 : True := trivial
theorem PySem.W.Fast.tw16718559586299717512 : True := trivial
theorem PySem.W.Fast.tw17747644314562331615 : True := trivial
theorem PySem.W.Fast.tw8035587562073352763 : True := trivial
theorem PySem.W.Fast.tw13767928974441223339 : True := trivial
theorem PySem.W.Fast.tw7133065387828108557 : True := trivial
theorem PySem.W.Fast.tw5605366884716965747 : True := trivial
theorem PySem.W.Fast.tw1208431491734322871 : True := trivial
theorem PySem.W.Fast.tw18241457258387044470 : True := trivial
theorem PySem.W.Fast.tw13165844742063225694 : True := trivial
theorem PySem.W.Fast.tw14102299967897070078 : True := trivial
theorem PySem.W.Fast.tw14570266955388976869 : True := trivial
theorem PySem.W.Fast.tw1395203692238490578 : True := trivial
theorem PySem.W.Fast.tw11788789566051972438 : True := trivial
theorem PySem.W.Fast.tw10678017013537410744 : True := trivial
theorem PySem.W.Fast.tw7159387033754751012 : True := trivial
theorem PySem.W.Fast.tw8144743293923254132 : True := trivial
theorem PySem.W.Fast.tw5502172066201988482 : True := trivial
theorem PySem.W.Fast.tw8420016840570731581 : True := trivial
theorem PySem.W.Fast.tw17103191352308051254 : True := trivial
theorem PySem.W.Fast.tw10736592706656730982 : True := trivial
theorem PySem.W.Fast.tw15723309904207005425 : True := trivial
theorem PySem.W.Fast.tw808308086925552419 : True := trivial
theorem PySem.W.Fast.tw9206703027436745239 : True := trivial
theorem PySem.W.Fast.tw10219545050126328503 : True := trivial
theorem PySem.W.Fast.tw15627087354526186282 : True := trivial
theorem PySem.W.Fast.tw5184444932496107263 : True := trivial
theorem PySem.W.Fast.tw7208678999460529483 : True := trivial
theorem PySem.W.Fast.tw6090059976337296393 : True := trivial
theorem PySem.W.Fast.tw5605504240943169938 : True := trivial
theorem PySem.W.Fast.tw6484262396191358237 : True := trivial
theorem PySem.W.Fast.tw18144916459059917489 : True := trivial
theorem PySem.W.Fast.tw9828044728493537642 : True := trivial
theorem PySem.W.Fast.tw3304095145810660398 : True := trivial
theorem PySem.W.Fast.tw14018400319169921958 : True := trivial
theorem PySem.W.Fast.tw8759122764590804450 : True := trivial
theorem PySem.W.Fast.tw15516844425195459283 : True := trivial
theorem PySem.W.Fast.tw11038100883948483772 : True := trivial
theorem PySem.W.Fast.tw1273043458010568811 : True := trivial
theorem PySem.W.Fast.tw16491287709042132200 : True := trivial
theorem PySem.W.Fast.tw17004690438094487919 : True := trivial
theorem PySem.W.Fast.tw12127179470246808494 : True := trivial
theorem PySem.W.Fast.tw12474927385195188701 : True := trivial
theorem PySem.W.Fast.tw10596396911357948147 : True := trivial
theorem PySem.W.Fast.tw8640758445786323849 : True := trivial
theorem PySem.W.Fast.tw1671964737037868919 : True := trivial
theorem PySem.W.Fast.tw11854652439820890634 : True := trivial
theorem PySem.W.Fast.tw7910269524751538243 : True := trivial
theorem PySem.W.Fast.tw6735290761401013492 : True := trivial
theorem PySem.W.Fast.tw12038738015731067351 : True := trivial
theorem PySem.W.Fast.tw13252446794880358632 : True := trivial
theorem PySem.W.Fast.tw6806891532824961394 : True := trivial
theorem PySem.W.Fast.tw9906245318367511535 : True := trivial
theorem PySem.W.Fast.tw8120938144746020802 : True := trivial
theorem PySem.W.Fast.tw3799159314661144772 : True := trivial
theorem PySem.W.Fast.tw17276942161684201135 : True := trivial
theorem PySem.W.Fast.tw2673329789970743565 : True := trivial
theorem PySem.W.Fast.tw16360112226658876725 : True := trivial
theorem PySem.W.Fast.tw12826337243726664436 : True := trivial
theorem PySem.W.Fast.tw15350389407647833030 : True := trivial
theorem PySem.W.Fast.tw13411424351579942026 : True := trivial
theorem PySem.W.Fast.tw14967171386967539299 : True := trivial
theorem PySem.W.Fast.tw5536122732512030913 : True := trivial
theorem PySem.W.Fast.tw16926939590835154865 : True := trivial
theorem PySem.W.Fast.tw12115712738856614299 : True := trivial
theorem PySem.W.Fast.tw5817857216685765850 : True := trivial
theorem PySem.W.Fast.tw4426554186461390584 : True := trivial
theorem PySem.W.Fast.tw17441541335771649709 : True := trivial
theorem PySem.W.Fast.tw14357114910591939666 : True := trivial
theorem PySem.W.Fast.tw1962048633697196404 : True := trivial
theorem PySem.W.Fast.tw7790855168973211614 : True := trivial
theorem PySem.W.Fast.tw2708488651794996457 : True := trivial
theorem PySem.W.Fast.tw5249495814393182959 : True := trivial
theorem PySem.W.Fast.tw16313321393335908468 : True := trivial
theorem PySem.W.Fast.tw3723084932500235179 : True := trivial
theorem PySem.W.Fast.tw9660564413764758342 : True := trivial
theorem PySem.W.Fast.tw8805218928474808164 : True := trivial
theorem PySem.W.Fast.tw14370217238435104745 : True := trivial
theorem PySem.W.Fast.tw2274109889315446615 : True := trivial
theorem PySem.W.Fast.tw7544387510575793374 : True := trivial
theorem PySem.W.Fast.tw1793123464101763075 : True := trivial
theorem PySem.W.Fast.tw6802866707528951058 : True := trivial
theorem PySem.W.Fast.tw8701746786777489818 : True := trivial
theorem PySem.W.Fast.tw12939332310740207924 : True := trivial
theorem PySem.W.Fast.tw8523941356045717995 : True := trivial
theorem PySem.W.Fast.tw13101032695700213931 : True := trivial
theorem PySem.W.Fast.tw6541513598306021689 : True := trivial
theorem PySem.W.Fast.tw12149810088590859235 : True := trivial
theorem PySem.W.Fast.tw7800022545195437826 : True := trivial
theorem PySem.W.Fast.tw16025550506764418996 : True := trivial
theorem PySem.W.Fast.tw18083196195220499030 : True := trivial
theorem PySem.W.Fast.tw11430441552769829362 : True := trivial
theorem PySem.W.Fast.tw8236890071914844899 : True := trivial
theorem PySem.W.Fast.tw6673668337198125375 : True := trivial
theorem PySem.W.Fast.tw5231636986319986382 : True := trivial
theorem PySem.W.Fast.tw4386474577417076737 : True := trivial
theorem PySem.W.Fast.tw12028574066192782667 : True := trivial
theorem PySem.W.Fast.tw12839299377489207900 : True := trivial
theorem PySem.W.Fast.tw15770339878477488637 : True := trivial
theorem PySem.W.Fast.tw17231737611170734644 : True := trivial
theorem PySem.W.Fast.tw16584355399225006751 : True := trivial
theorem PySem.W.Fast.tw12036445102302994939 : True := trivial
theorem PySem.W.Fast.tw5033993294240591546 : True := trivial
theorem PySem.W.Fast.tw3285966651001686792 : True := trivial
theorem PySem.W.Fast.tw13006896836267022555 : True := trivial
theorem PySem.W.Fast.tw120680573490353017 : True := trivial
theorem PySem.W.Fast.tw4153275524255096556 : True := trivial
theorem PySem.W.Fast.tw16323977093861345219 : True := trivial
theorem PySem.W.Fast.tw8532457703436078035 : True := trivial
theorem PySem.W.Fast.tw15804078310883622143 : True := trivial
theorem PySem.W.Fast.tw9542419336841691304 : True := trivial
theorem PySem.W.Fast.tw14368731888637059041 : True := trivial
theorem PySem.W.Fast.tw11863575141525813207 : True := trivial
theorem PySem.W.Fast.tw9083681908814431970 : True := trivial
theorem PySem.W.Fast.tw887482354374416043 : True := trivial
theorem PySem.W.Fast.tw15320960079599819066 : True := trivial
theorem PySem.W.Fast.tw1322928478193503698 : True := trivial
theorem PySem.W.Fast.tw13280808453080837668 : True := trivial
theorem PySem.W.Fast.tw15286462722860594 : True := trivial
theorem PySem.W.Fast.tw1735783417704775847 : True := trivial
theorem PySem.W.Fast.tw14221838739820578420 : True := trivial
theorem PySem.W.Fast.tw16269441213551305794 : True := trivial
theorem PySem.W.Fast.tw5250238116285472781 : True := trivial
theorem PySem.W.Fast.tw10903741970164542169 : True := trivial
theorem PySem.W.Fast.tw5540178120797724538 : True := trivial
theorem PySem.W.Fast.tw15528710168362508408 : True := trivial
theorem PySem.W.Fast.tw11144701772759183135 : True := trivial
theorem PySem.W.Fast.tw2684007738799815745 : True := trivial
theorem PySem.W.Fast.tw4349364980596437762 : True := trivial
theorem PySem.W.Fast.tw11517628115608039039 : True := trivial
theorem PySem.W.Fast.tw6103563830812493562 : True := trivial
theorem PySem.W.Fast.tw15985431709649807705 : True := trivial
theorem PySem.W.Fast.tw15438629325087689597 : True := trivial
theorem PySem.W.Fast.tw7776466181828821261 : True := trivial
theorem PySem.W.Fast.tw12625292887614754338 : True := trivial
theorem PySem.W.Fast.tw12830095865577516640 : True := trivial
theorem PySem.W.Fast.tw4385988962973347095 : True := trivial
theorem PySem.W.Fast.tw1530489963392573184 : True := trivial
theorem PySem.W.Fast.tw11163390189612350504 : True := trivial
theorem PySem.W.Fast.tw6026558794499280127 : True := trivial
theorem PySem.W.Fast.tw749613157678007671 : True := trivial
theorem PySem.W.Fast.tw9286109049689217959 : True := trivial
theorem PySem.W.Fast.tw14859321542531346203 : True := trivial
theorem PySem.W.Fast.tw1913962553443900935 : True := trivial
theorem PySem.W.Fast.tw9705231050586093562 : True := trivial
theorem PySem.W.Fast.tw10701324419305167594 : True := trivial
theorem PySem.W.Fast.tw13545504278180837383 : True := trivial
theorem PySem.W.Fast.tw2815803427935162306 : True := trivial
theorem PySem.W.Fast.tw8776593111209457837 : True := trivial
theorem PySem.W.Fast.tw17953493152475552537 : True := trivial
theorem PySem.W.Fast.tw8165021105195724434 : True := trivial
theorem PySem.W.Fast.tw18168958839267146710 : True := trivial
theorem PySem.W.Fast.tw13252740936594051017 : True := trivial
theorem PySem.W.Fast.tw12478311758073400786 : True := trivial
theorem PySem.W.Fast.tw16091581494726486263 : True := trivial
theorem PySem.W.Fast.tw1261877508410218923 : True := trivial
theorem PySem.W.Fast.tw12437443289356698468 : True := trivial
theorem PySem.W.Fast.tw8003760510819238537 : True := trivial
theorem PySem.W.Fast.tw13223456216010382102 : True := trivial
theorem PySem.W.Fast.tw571174565623943765 : True := trivial
theorem PySem.W.Fast.tw6723793150975361578 : True := trivial
theorem PySem.W.Fast.tw8646337311889699180 : True := trivial
theorem PySem.W.Fast.tw4334654377055759238 : True := trivial
theorem PySem.W.Fast.tw14946915634424714632 : True := trivial
theorem PySem.W.Fast.tw4490824331433553661 : True := trivial
theorem PySem.W.Fast.tw8592636036444482180 : True := trivial
theorem PySem.W.Fast.tw1680138112642643521 : True := trivial
theorem PySem.W.Fast.tw18038905225604769884 : True := trivial
theorem PySem.W.Fast.tw5689826111269761184 : True := trivial
theorem PySem.W.Fast.tw13126701400359028308 : True := trivial
theorem PySem.W.Fast.tw2880881429802981022 : True := trivial
theorem PySem.W.Fast.tw2585270050751379199 : True := trivial
theorem PySem.W.Fast.tw9932665019722752316 : True := trivial
theorem PySem.W.Fast.tw6091830217783849102 : True := trivial
theorem PySem.W.Fast.tw17899195261225725757 : True := trivial
theorem PySem.W.Fast.tw2784148689660357889 : True := trivial
theorem PySem.W.Fast.tw4228815133551739997 : True := trivial
theorem PySem.W.Fast.tw17502548539142091326 : True := trivial
theorem PySem.W.Fast.tw11720455942410440622 : True := trivial
theorem PySem.W.Fast.tw2814859201125880955 : True := trivial
theorem PySem.W.Fast.tw17953867137796597637 : True := trivial
theorem PySem.W.Fast.tw1199243576341565422 : True := trivial
theorem PySem.W.Fast.tw10363688042561667531 : True := trivial
theorem PySem.W.Fast.tw11422764110941562852 : True := trivial
theorem PySem.W.Fast.tw1081908685516499632 : True := trivial
theorem PySem.W.Fast.tw2032236525221418073 : True := trivial
theorem PySem.W.Fast.tw6340350956102194393 : True := trivial
theorem PySem.W.Fast.tw9867403456838236780 : True := trivial
theorem PySem.W.Fast.tw17075176738458748367 : True := trivial
theorem PySem.W.Fast.tw622637648222328640 : True := trivial
theorem PySem.W.Fast.tw2417200965789927524 : True := trivial
theorem PySem.W.Fast.tw5525800256542679879 : True := trivial
theorem PySem.W.Fast.tw18027043158322747484 : True := trivial
theorem PySem.W.Fast.tw13339665751566737719 : True := trivial
theorem PySem.W.Fast.tw5157150133226958030 : True := trivial
theorem PySem.W.Fast.tw15099838312733353266 : True := trivial
theorem PySem.W.Fast.tw9156815697863201742 : True := trivial
theorem PySem.W.Fast.tw15493544296097133008 : True := trivial
theorem PySem.W.Fast.tw9381122153285318488 : True := trivial
theorem PySem.W.Fast.tw3578795931176345529 : True := trivial
theorem PySem.W.Fast.tw11601457216572228737 : True := trivial
theorem PySem.W.Fast.tw11940052289496703097 : True := trivial
theorem PySem.W.Fast.tw15802243576479986764 : True := trivial
theorem PySem.W.Fast.tw16889461796766631923 : True := trivial
theorem PySem.W.Fast.tw1854973317688112802 : True := trivial
theorem PySem.W.Fast.tw7814607195153830095 : True := trivial
theorem PySem.W.Fast.tw3127629241470464262 : True := trivial
theorem PySem.W.Fast.tw10844716879268837816 : True := trivial
theorem PySem.W.Fast.tw3789717218272553764 : True := trivial
theorem PySem.W.Fast.tw872786306522205725 : True := trivial
theorem PySem.W.Fast.tw14525019724139798149 : True := trivial
theorem PySem.W.Fast.tw2390132196578603948 : True := trivial
theorem PySem.W.Fast.tw12803391043453583658 : True := trivial
theorem PySem.W.Fast.tw3998583795903821700 : True := trivial
theorem PySem.W.Fast.tw9849762263519702984 : True := trivial
theorem PySem.W.Fast.tw17591471674312493781 : True := trivial
theorem PySem.W.Fast.tw2157220223239233826 : True := trivial
theorem PySem.W.Fast.tw17080499504925232373 : True := trivial
theorem PySem.W.Fast.tw9947049101136322915 : True := trivial
theorem PySem.W.Fast.tw15948001867753503525 : True := trivial
theorem PySem.W.Fast.tw5144252562484282350 : True := trivial
theorem PySem.W.Fast.tw29422089437061792 : True := trivial
theorem PySem.W.Fast.tw11301876193869373384 : True := trivial
theorem PySem.W.Fast.tw12209371739897348831 : True := trivial
theorem PySem.W.Fast.tw12431508822996439295 : True := trivial
theorem PySem.W.Fast.tw4934118363955865017 : True := trivial
theorem PySem.W.Fast.tw13715179563937553139 : True := trivial
theorem PySem.W.Fast.tw6948891191196975264 : True := trivial
theorem PySem.W.Fast.tw1577904124428328033 : True := trivial
theorem PySem.W.Fast.tw12298201047334832128 : True := trivial
theorem PySem.W.Fast.tw6942211005576822937 : True := trivial
theorem PySem.W.Fast.tw15173814219446590686 : True := trivial
theorem PySem.W.Fast.tw9361094278077466458 : True := trivial
theorem PySem.W.Fast.tw6322680825973073402 : True := trivial
theorem PySem.W.Fast.tw4281849568970252285 : True := trivial
theorem PySem.W.Fast.tw8512255682974168059 : True := trivial
theorem PySem.W.Fast.tw9073380143882357320 : True := trivial
theorem PySem.W.Fast.tw609212637913133016 : True := trivial
theorem PySem.W.Fast.tw18138844138755358883 : True := trivial
theorem PySem.W.Fast.tw1137913119902825691 : True := trivial
theorem PySem.W.Fast.tw13633764111275153163 : True := trivial
theorem PySem.W.Fast.tw5275440432785458493 : True := trivial
theorem PySem.W.Fast.tw12478592787015728346 : True := trivial
theorem PySem.W.Fast.tw15679677051298521237 : True := trivial
theorem PySem.W.Fast.tw12230374990910166609 : True := trivial
theorem PySem.W.Fast.tw11981976813183612923 : True := trivial
theorem PySem.W.Fast.tw16312792971619020273 : True := trivial
theorem PySem.W.Fast.tw4678877083649858777 : True := trivial
theorem PySem.W.Fast.tw13840829459900956535 : True := trivial
theorem PySem.W.Fast.tw5888846932373158202 : True := trivial
theorem PySem.W.Fast.tw12780340735610212180 : True := trivial
theorem PySem.W.Fast.tw3475296388964752014 : True := trivial
theorem PySem.W.Fast.tw2045381976176616410 : True := trivial
theorem PySem.W.Fast.tw3986185783569851789 : True := trivial
theorem PySem.W.Fast.tw8234902126960218969 : True := trivial
theorem PySem.W.Fast.tw13088083419477782714 : True := trivial
theorem PySem.W.Fast.tw3536726868728072977 : True := trivial
theorem PySem.W.Fast.tw6192097773763940901 : True := trivial
theorem PySem.W.Fast.tw9903502102316406709 : True := trivial
theorem PySem.W.Fast.tw15213431065551647578 : True := trivial
theorem PySem.W.Fast.tw3586567368198446337 : True := trivial
theorem PySem.W.Fast.tw2700739623054188072 : True := trivial
theorem PySem.W.Fast.tw16498952866763800181 : True := trivial
theorem PySem.W.Fast.tw15898028922704950363 : True := trivial
theorem PySem.W.Fast.tw16703417275763218083 : True := trivial
theorem PySem.W.Fast.tw3375444488202410575 : True := trivial
theorem PySem.W.Fast.tw10831986425437903365 : True := trivial
theorem PySem.W.Fast.tw9237177924465840139 : True := trivial
theorem PySem.W.Fast.tw1804133618615796552 : True := trivial
theorem PySem.W.Fast.tw17315773947225470027 : True := trivial
theorem PySem.W.Fast.tw3856373129040385656 : True := trivial
theorem PySem.W.Fast.tw6611876539325340730 : True := trivial
theorem PySem.W.Fast.tw13924447255378171344 : True := trivial
theorem PySem.W.Fast.tw10236078358271984852 : True := trivial
theorem PySem.W.Fast.tw13831940581276720363 : True := trivial
theorem PySem.W.Fast.tw14452833423226892191 : True := trivial
theorem PySem.W.Fast.tw1462422046597224814 : True := trivial
theorem PySem.W.Fast.tw17728758149650555060 : True := trivial
theorem PySem.W.Fast.tw6329347032335101491 : True := trivial
theorem PySem.W.Fast.tw18060549391982476756 : True := trivial
theorem PySem.W.Fast.tw5941708638695093848 : True := trivial
theorem PySem.W.Fast.tw16130815107034889006 : True := trivial
theorem PySem.W.Fast.tw17075960599565167043 : True := trivial
theorem PySem.W.Fast.tw8286180542572722447 : True := trivial
theorem PySem.W.Fast.tw7251568195580422441 : True := trivial
theorem PySem.W.Fast.tw4127480535033496518 : True := trivial
theorem PySem.W.Fast.tw10625281593128690140 : True := trivial
theorem PySem.W.Fast.tw8391145516253017195 : True := trivial
theorem PySem.W.Fast.tw12895978577987084282 : True := trivial
theorem PySem.W.Fast.tw17933271021314591536 : True := trivial
theorem PySem.W.Fast.tw10121338423598287420 : True := trivial
theorem PySem.W.Fast.tw10459943015440247613 : True := trivial
theorem PySem.W.Fast.tw15488186903611267333 : True := trivial
theorem PySem.W.Fast.tw4820540748195079507 : True := trivial
theorem PySem.W.Fast.tw4257562204457783189 : True := trivial
theorem PySem.W.Fast.tw7233646225843748224 : True := trivial
theorem PySem.W.Fast.tw14760268600845972159 : True := trivial
theorem PySem.W.Fast.tw3855347049796654830 : True := trivial
theorem PySem.W.Fast.tw17501597707301752353 : True := trivial
theorem PySem.W.Fast.tw1393477694881590409 : True := trivial
theorem PySem.W.Fast.tw871270328819447879 : True := trivial
theorem PySem.W.Fast.tw18015760990357117435 : True := trivial
theorem PySem.W.Fast.tw4419838774861440578 : True := trivial
theorem PySem.W.Fast.tw2525181275923466970 : True := trivial
theorem PySem.W.Fast.tw17529105522044245978 : True := trivial
theorem PySem.W.Fast.tw9319932876774662432 : True := trivial
theorem PySem.W.Fast.tw17956356780216204572 : True := trivial
theorem PySem.W.Fast.tw17922653484073533404 : True := trivial
theorem PySem.W.Fast.tw13491654354021157882 : True := trivial
theorem PySem.W.Fast.tw15788094449189510022 : True := trivial
theorem PySem.W.Fast.tw8931032722760414412 : True := trivial
theorem PySem.W.Fast.tw13431114328914735023 : True := trivial
theorem PySem.W.Fast.tw118955475671527673 : True := trivial
theorem PySem.W.Fast.tw5476324754664172923 : True := trivial
theorem PySem.W.Fast.tw7136684058242203043 : True := trivial
theorem PySem.W.Fast.tw10452768554566198083 : True := trivial
theorem PySem.W.Fast.tw14664949822334986356 : True := trivial
theorem PySem.W.Fast.tw11513010209392402259 : True := trivial
theorem PySem.W.Fast.tw2110147412339432244 : True := trivial
theorem PySem.W.Fast.tw4729345932107199120 : True := trivial
theorem PySem.W.Fast.tw13215354998993637779 : True := trivial
theorem PySem.W.Fast.tw4155850523143255549 : True := trivial
theorem PySem.W.Fast.tw6253445688781779090 : True := trivial
theorem PySem.W.Fast.tw932194596759535217 : True := trivial
theorem PySem.W.Fast.tw11605720154425273311 : True := trivial
theorem PySem.W.Fast.tw1668672600425274350 : True := trivial
theorem PySem.W.Fast.tw13038050576242930264 : True := trivial
theorem PySem.W.Fast.tw2439183024890755171 : True := trivial
theorem PySem.W.Fast.tw13027103739780253337 : True := trivial
theorem PySem.W.Fast.tw10429911269397287406 : True := trivial
theorem PySem.W.Fast.tw5949006388207921912 : True := trivial
theorem PySem.W.Fast.tw437727596719331302 : True := trivial
theorem PySem.W.Fast.tw15450107492005958447 : True := trivial
theorem PySem.W.Fast.tw1557734115359041775 : True := trivial
theorem PySem.W.Fast.tw9349711295210357130 : True := trivial
theorem PySem.W.Fast.tw5885393040490453883 : True := trivial
theorem PySem.W.Fast.tw9682636681230512808 : True := trivial
theorem PySem.W.Fast.tw10376322952808615177 : True := trivial
theorem PySem.W.Fast.tw5097717105011339956 : True := trivial
theorem PySem.W.Fast.tw10402501155871322987 : True := trivial
theorem PySem.W.Fast.tw5580548770955760435 : True := trivial
theorem PySem.W.Fast.tw8526832554149895534 : True := trivial
theorem PySem.W.Fast.tw5754217207300226760 : True := trivial
theorem PySem.W.Fast.tw7029912756867892403 : True := trivial
theorem PySem.W.Fast.tw13071190346283367411 : True := trivial
theorem PySem.W.Fast.tw3972749982853499380 : True := trivial
theorem PySem.W.Fast.tw2910813285382509089 : True := trivial
theorem PySem.W.Fast.tw12211799545463620672 : True := trivial
theorem PySem.W.Fast.tw10277164710925657688 : True := trivial
theorem PySem.W.Fast.tw17819308304107332994 : True := trivial
theorem PySem.W.Fast.tw12554970715305169130 : True := trivial
theorem PySem.W.Fast.tw1307514179328144427 : True := trivial
theorem PySem.W.Fast.tw7112986262579825338 : True := trivial
theorem PySem.W.Fast.tw763266995309760945 : True := trivial
theorem PySem.W.Fast.tw5431733259807723891 : True := trivial
theorem PySem.W.Fast.tw17353704457465467998 : True := trivial
theorem PySem.W.Fast.tw8719439557020688156 : True := trivial
theorem PySem.W.Fast.tw563490707802721891 : True := trivial
theorem PySem.W.Fast.tw314531364970810551 : True := trivial
theorem PySem.W.Fast.tw1240298635719547025 : True := trivial
theorem PySem.W.Fast.tw11797154728805887236 : True := trivial
theorem PySem.W.Fast.tw9546160273022931658 : True := trivial
theorem PySem.W.Fast.tw3881975410293912377 : True := trivial
theorem PySem.W.Fast.tw11982489299774637010 : True := trivial
theorem PySem.W.Fast.tw6317783437134418748 : True := trivial
theorem PySem.W.Fast.tw2904505698140299195 : True := trivial
theorem PySem.W.Fast.tw924261981825382651 : True := trivial
theorem PySem.W.Fast.tw16024532028529230242 : True := trivial
theorem PySem.W.Fast.tw6093050273353875267 : True := trivial
theorem PySem.W.Fast.tw4933547866680323829 : True := trivial
theorem PySem.W.Fast.tw17065217083142153870 : True := trivial
theorem PySem.W.Fast.tw3519815061988378280 : True := trivial
theorem PySem.W.Fast.tw17481435537781373653 : True := trivial
theorem PySem.W.Fast.tw11497729635165952155 : True := trivial
theorem PySem.W.Fast.tw1221198131265830246 : True := trivial
theorem PySem.W.Fast.tw18106028261510556016 : True := trivial
theorem PySem.W.Fast.tw15159376019912551196 : True := trivial
theorem PySem.W.Fast.tw1746634192551091031 : True := trivial
theorem PySem.W.Fast.tw10768681028718368487 : True := trivial
theorem PySem.W.Fast.tw6502414549183110122 : True := trivial
theorem PySem.W.Fast.tw11631322872758240382 : True := trivial
theorem PySem.W.Fast.tw14417752249377358694 : True := trivial
theorem PySem.W.Fast.tw13411100602464689156 : True := trivial
theorem PySem.W.Fast.tw7397989837224304409 : True := trivial
theorem PySem.W.Fast.tw8784165808217797620 : True := trivial
theorem PySem.W.Fast.tw9897777514995480743 : True := trivial
theorem PySem.W.Fast.tw15640338997182631350 : True := trivial
theorem PySem.W.Fast.tw6414538156373145749 : True := trivial
theorem PySem.W.Fast.tw8076553150875100003 : True := trivial
theorem PySem.W.Fast.tw14891693730527931758 : True := trivial
theorem PySem.W.Fast.tw14871303842247985548 : True := trivial
theorem PySem.W.Fast.tw10337339141034567348 : True := trivial
theorem PySem.W.Fast.tw6219834550021517782 : True := trivial
theorem PySem.W.Fast.tw3031790864671717395 : True := trivial
theorem PySem.W.Fast.tw2945558342818930735 : True := trivial
theorem PySem.W.Fast.tw8880753089037523677 : True := trivial
theorem PySem.W.Fast.tw14692950351456269773 : True := trivial
theorem PySem.W.Fast.tw7530736375561305960 : True := trivial
theorem PySem.W.Fast.tw4512319285053476530 : True := trivial
theorem PySem.W.Fast.tw15703583029942823620 : True := trivial
theorem PySem.W.Fast.tw1938129091082897486 : True := trivial
theorem PySem.W.Fast.tw1568754293437672335 : True := trivial
theorem PySem.W.Fast.tw13374516561086161394 : True := trivial
theorem PySem.W.Fast.tw18412265982157468954 : True := trivial
theorem PySem.W.Fast.tw9772161029783121781 : True := trivial
theorem PySem.W.Fast.tw1432249476992316441 : True := trivial
theorem PySem.W.Fast.tw5105591475941373120 : True := trivial
theorem PySem.W.Fast.tw4645484977146665741 : True := trivial
theorem PySem.W.Fast.tw11687356747899579954 : True := trivial
theorem PySem.W.Fast.tw12511548222609831548 : True := trivial
theorem PySem.W.Fast.tw8264920568236671258 : True := trivial
theorem PySem.W.Fast.tw17168785418482599858 : True := trivial
theorem PySem.W.Fast.tw6842961904927580047 : True := trivial
theorem PySem.W.Fast.tw7742532154990280267 : True := trivial
theorem PySem.W.Fast.tw2711499608484164183 : True := trivial
theorem PySem.W.Fast.tw10733426589680314714 : True := trivial
theorem PySem.W.Fast.tw1905196055653889842 : True := trivial
theorem PySem.W.Fast.tw6877235580624571362 : True := trivial
theorem PySem.W.Fast.tw1507332431518068938 : True := trivial
theorem PySem.W.Fast.tw3984706863937263997 : True := trivial
theorem PySem.W.Fast.tw3587609779857387921 : True := trivial
theorem PySem.W.Fast.tw1132584389751546138 : True := trivial
theorem PySem.W.Fast.tw8807980913874697207 : True := trivial
theorem PySem.W.Fast.tw643575644438157336 : True := trivial
theorem PySem.W.Fast.tw3437953692922594799 : True := trivial
theorem PySem.W.Fast.tw13217721726037686023 : True := trivial
theorem PySem.W.Fast.tw722393647306994061 : True := trivial
theorem PySem.W.Fast.tw16155140561173267117 : True := trivial
theorem PySem.W.Fast.tw14817865770414860717 : True := trivial
theorem PySem.W.Fast.tw9867040921551741876 : True := trivial
theorem PySem.W.Fast.tw16169571600721272794 : True := trivial
theorem PySem.W.Fast.tw15518670076743799518 : True := trivial
theorem PySem.W.Fast.tw11930122380922274966 : True := trivial
theorem PySem.W.Fast.tw10305033081924989786 : True := trivial
theorem PySem.W.Fast.tw13599484091620316662 : True := trivial
theorem PySem.W.Fast.tw8191776303569672296 : True := trivial
theorem PySem.W.Fast.tw17973693365544448527 : True := trivial
theorem PySem.W.Fast.tw9056046244016575825 : True := trivial
theorem PySem.W.Fast.tw11489722420841174993 : True := trivial
theorem PySem.W.Fast.tw4635153925182334301 : True := trivial
theorem PySem.W.Fast.tw1067765077123891219 : True := trivial
theorem PySem.W.Fast.tw11037051179497953907 : True := trivial
theorem PySem.W.Fast.tw4177616892933069837 : True := trivial
theorem PySem.W.Fast.tw14174317311803149124 : True := trivial
theorem PySem.W.Fast.tw3752598211705310666 : True := trivial
theorem PySem.W.Fast.tw1714928106465737997 : True := trivial
theorem PySem.W.Fast.tw8674207036991153129 : True := trivial
theorem PySem.W.Fast.tw6313746651734062037 : True := trivial
theorem PySem.W.Fast.tw2290066119816700985 : True := trivial
theorem PySem.W.Fast.tw1913505535318569454 : True := trivial
theorem PySem.W.Fast.tw8612402147870603983 : True := trivial
theorem PySem.W.Fast.tw617806058779377549 : True := trivial
theorem PySem.W.Fast.tw5914018957582725066 : True := trivial
theorem PySem.W.Fast.tw16594404469672799435 : True := trivial
theorem PySem.W.Fast.tw12306561800072510390 : True := trivial
theorem PySem.W.Fast.tw18011788012844201372 : True := trivial
theorem PySem.W.Fast.tw3753062301085557319 : True := trivial
theorem PySem.W.Fast.tw18226263051970429130 : True := trivial
theorem PySem.W.Fast.tw4121817771703082041 : True := trivial
theorem PySem.W.Fast.tw15841363667850997412 : True := trivial
theorem PySem.W.Fast.tw12231314212192668065 : True := trivial
theorem PySem.W.Fast.tw17310565895249208972 : True := trivial
theorem PySem.W.Fast.tw16406756443310280944 : True := trivial
theorem PySem.W.Fast.tw17213179415159322271 : True := trivial
theorem PySem.W.Fast.tw6669742229716559903 : True := trivial
theorem PySem.W.Fast.tw13254553223625485311 : True := trivial
theorem PySem.W.Fast.tw6265444615950110983 : True := trivial
theorem PySem.W.Fast.tw7577831126498722279 : True := trivial
theorem PySem.W.Fast.tw13521597236238035946 : True := trivial
theorem PySem.W.Fast.tw14290263038964798331 : True := trivial
theorem PySem.W.Fast.tw12270055358754699696 : True := trivial
theorem PySem.W.Fast.tw9325553204508976218 : True := trivial
theorem PySem.W.Fast.tw12185208924707699298 : True := trivial
theorem PySem.W.Fast.tw2660870850539948841 : True := trivial
theorem PySem.W.Fast.tw18349537435446288246 : True := trivial
theorem PySem.W.Fast.tw2767123730768982924 : True := trivial
theorem PySem.W.Fast.tw7118660259546798325 : True := trivial
theorem PySem.W.Fast.tw10133592965911122303 : True := trivial
theorem PySem.W.Fast.tw5576616415569855509 : True := trivial
theorem PySem.W.Fast.tw18224130301747737658 : True := trivial
theorem PySem.W.Fast.tw5192465851719855436 : True := trivial
theorem PySem.W.Fast.tw5329693790453728777 : True := trivial
theorem PySem.W.Fast.tw3532984994960585563 : True := trivial
theorem PySem.W.Fast.tw17576477079839539202 : True := trivial
theorem PySem.W.Fast.tw11350787274343300312 : True := trivial
theorem PySem.W.Fast.tw8091465801758481423 : True := trivial
theorem PySem.W.Fast.tw6507651884911645203 : True := trivial
theorem PySem.W.Fast.tw18088557087197655439 : True := trivial
theorem PySem.W.Fast.tw16618734653724437151 : True := trivial
theorem PySem.W.Fast.tw16382643118613381757 : True := trivial
theorem PySem.W.Fast.tw9197623060046661969 : True := trivial
theorem PySem.W.Fast.tw5074662961011094827 : True := trivial
theorem PySem.W.Fast.tw3410052872939773693 : True := trivial
theorem PySem.W.Fast.tw4042443613533937375 : True := trivial
theorem PySem.W.Fast.tw9324003870892692514 : True := trivial
theorem PySem.W.Fast.tw9662866485711716751 : True := trivial
theorem PySem.W.Fast.tw1548004467646538123 : True := trivial
theorem PySem.W.Fast.tw18347852147895581392 : True := trivial
theorem PySem.W.Fast.tw1439063440291326249 : True := trivial
theorem PySem.W.Fast.tw5671761958187981546 : True := trivial
theorem PySem.W.Fast.tw16122974894011313519 : True := trivial
theorem PySem.W.Fast.tw8439987394694123186 : True := trivial
theorem PySem.W.Fast.tw11699784411138399379 : True := trivial
theorem PySem.W.Fast.tw574162385362305891 : True := trivial
theorem PySem.W.Fast.tw12689794803986945969 : True := trivial
theorem PySem.W.Fast.tw6696901026353215241 : True := trivial
theorem PySem.W.Fast.tw2725503847928189190 : True := trivial
theorem PySem.W.Fast.tw9251746046723636463 : True := trivial
theorem PySem.W.Fast.tw5755481750324197731 : True := trivial
theorem PySem.W.Fast.tw15685946444346254956 : True := trivial
theorem PySem.W.Fast.tw16189820828943817604 : True := trivial
theorem PySem.W.Fast.tw15451768639338171982 : True := trivial
theorem PySem.W.Fast.tw1638588387953195762 : True := trivial
theorem PySem.W.Fast.tw12706086795189771639 : True := trivial
theorem PySem.W.Fast.tw6690801639139056066 : True := trivial
theorem PySem.W.Fast.tw13898373756449971465 : True := trivial
theorem PySem.W.Fast.tw15067965900939011365 : True := trivial
theorem PySem.W.Fast.tw4621586419584380989 : True := trivial
theorem PySem.W.Fast.tw3466808175237012476 : True := trivial
theorem PySem.W.Fast.tw12603750942861401267 : True := trivial
theorem PySem.W.Fast.tw10260998829427252149 : True := trivial
theorem PySem.W.Fast.tw5562890674088789926 : True := trivial
theorem PySem.W.Fast.tw17041000413402143532 : True := trivial
theorem PySem.W.Fast.tw12994961999799628797 : True := trivial
theorem PySem.W.Fast.tw10588458904250656132 : True := trivial
theorem PySem.W.Fast.tw7826795417755928278 : True := trivial
theorem PySem.W.Fast.tw18256525532788908884 : True := trivial
theorem PySem.W.Fast.tw769547956414023074 : True := trivial
theorem PySem.W.Fast.tw5293948230810904359 : True := trivial
theorem PySem.W.Fast.tw16692406561737468334 : True := trivial
theorem PySem.W.Fast.tw1562412702754567634 : True := trivial
theorem PySem.W.Fast.tw9749081385098381384 : True := trivial
theorem PySem.W.Fast.tw16526386327450942019 : True := trivial
theorem PySem.W.Fast.tw6486246589980277924 : True := trivial
theorem PySem.W.Fast.tw12606576495459432269 : True := trivial
theorem PySem.W.Fast.tw14078287904122071684 : True := trivial
theorem PySem.W.Fast.tw6224882239419902864 : True := trivial
theorem PySem.W.Fast.tw8409073067263983150 : True := trivial
theorem PySem.W.Fast.tw6949932754841771953 : True := trivial
theorem PySem.W.Fast.tw11889220953185425077 : True := trivial
theorem PySem.W.Fast.tw11954201566648502760 : True := trivial
theorem PySem.W.Fast.tw6951077654087970526 : True := trivial
theorem PySem.W.Fast.tw7145073427703136162 : True := trivial
theorem PySem.W.Fast.tw14286758311947553890 : True := trivial
theorem PySem.W.Fast.tw2289168447163815401 : True := trivial
theorem PySem.W.Fast.tw4170265668741330083 : True := trivial
theorem PySem.W.Fast.tw11409869284819669815 : True := trivial
theorem PySem.W.Fast.tw5999025567182928369 : True := trivial
theorem PySem.W.Fast.tw11222448657046765423 : True := trivial
theorem PySem.W.Fast.tw8293174863657382001 : True := trivial
theorem PySem.W.Fast.tw17037165183732051749 : True := trivial
theorem PySem.W.Fast.tw1321446726922359378 : True := trivial
theorem PySem.W.Fast.tw9574382021511588251 : True := trivial
theorem PySem.W.Fast.tw11467939267962563358 : True := trivial
theorem PySem.W.Fast.tw2414813999776305779 : True := trivial
theorem PySem.W.Fast.tw7753795302235808629 : True := trivial
theorem PySem.W.Fast.tw18329124186491831208 : True := trivial
theorem PySem.W.Fast.tw11793334593331426732 : True := trivial
theorem PySem.W.Fast.tw10378174875679816905 : True := trivial
theorem PySem.W.Fast.tw17401311182147816443 : True := trivial
theorem PySem.W.Fast.tw14497419203614876086 : True := trivial
theorem PySem.W.Fast.tw8268477786789874960 : True := trivial
theorem PySem.W.Fast.tw290995514883903666 : True := trivial
theorem PySem.W.Fast.tw14389382868899683398 : True := trivial
theorem PySem.W.Fast.tw10268114104390702765 : True := trivial
theorem PySem.W.Fast.tw7930518343592773111 : True := trivial
theorem PySem.W.Fast.tw5351642782566996689 : True := trivial
theorem PySem.W.Fast.tw7327976540571677741 : True := trivial
theorem PySem.W.Fast.tw13935220480303625646 : True := trivial
theorem PySem.W.Fast.tw7791203538072288076 : True := trivial
theorem PySem.W.Fast.tw12881958437907800113 : True := trivial
theorem PySem.W.Fast.tw10358378999443060336 : True := trivial
theorem PySem.W.Fast.tw3047552342778528191 : True := trivial
theorem PySem.W.Fast.tw16998629399422635816 : True := trivial
theorem PySem.W.Fast.tw12405286752251469636 : True := trivial
theorem PySem.W.Fast.tw9465457070472727361 : True := trivial
theorem PySem.W.Fast.tw9328650486774233405 : True := trivial
theorem PySem.W.Fast.tw7429272995951149349 : True := trivial
theorem PySem.W.Fast.tw16338502914632195703 : True := trivial
theorem PySem.W.Fast.tw14988784672150589494 : True := trivial
theorem PySem.W.Fast.tw6652579530720392184 : True := trivial
theorem PySem.W.Fast.tw14223432074129613962 : True := trivial
theorem PySem.W.Fast.tw15799945794958894600 : True := trivial
theorem PySem.W.Fast.tw7631617023070984169 : True := trivial
theorem PySem.W.Fast.tw16530713216518732535 : True := trivial
theorem PySem.W.Fast.tw7084413296440511055 : True := trivial
theorem PySem.W.Fast.tw5647772715075711363 : True := trivial
theorem PySem.W.Fast.tw2905139865705776693 : True := trivial
theorem PySem.W.Fast.tw10491618187965008109 : True := trivial
theorem PySem.W.Fast.tw14450385023748619749 : True := trivial
theorem PySem.W.Fast.tw4178106691770554860 : True := trivial
theorem PySem.W.Fast.tw4384500624571335184 : True := trivial
theorem PySem.W.Fast.tw17904852628739782725 : True := trivial
theorem PySem.W.Fast.tw13041981364122099836 : True := trivial
theorem PySem.W.Fast.tw4506250254944659098 : True := trivial
theorem PySem.W.Fast.tw14766813121040996316 : True := trivial
theorem PySem.W.Fast.tw7043497412954476350 : True := trivial
theorem PySem.W.Fast.tw12139155299756622486 : True := trivial
theorem PySem.W.Fast.tw18380733512582535138 : True := trivial
theorem PySem.W.Fast.tw7246803785169608137 : True := trivial
theorem PySem.W.Fast.tw13680646122031696041 : True := trivial
theorem PySem.W.Fast.tw16758709431963657286 : True := trivial
theorem PySem.W.Fast.tw12637985994506208598 : True := trivial
theorem PySem.W.Fast.tw5181376801224826584 : True := trivial
theorem PySem.W.Fast.tw18225786294692113088 : True := trivial
theorem PySem.W.Fast.tw7169276677097107157 : True := trivial
theorem PySem.W.Fast.tw11534355109694473731 : True := trivial
theorem PySem.W.Fast.tw7330416538212227316 : True := trivial
theorem PySem.W.Fast.tw4823145907950144563 : True := trivial
theorem PySem.W.Fast.tw15899678457645120016 : True := trivial
theorem PySem.W.Fast.tw14971573461674452708 : True := trivial
theorem PySem.W.Fast.tw10271333537251426489 : True := trivial
theorem PySem.W.Fast.tw13704516730415012237 : True := trivial
theorem PySem.W.Fast.tw9769910534305801361 : True := trivial
theorem PySem.W.Fast.tw1334910634275904751 : True := trivial
theorem PySem.W.Fast.tw8413824948127671096 : True := trivial
theorem PySem.W.Fast.tw8337113915530924351 : True := trivial
theorem PySem.W.Fast.tw9818881495246299938 : True := trivial
theorem PySem.W.Fast.tw292741782254969534 : True := trivial
theorem PySem.W.Fast.tw15097962530187245917 : True := trivial
theorem PySem.W.Fast.tw17806590746842463093 : True := trivial
theorem PySem.W.Fast.tw13057524679175223887 : True := trivial
theorem PySem.W.Fast.tw14299762943910632775 : True := trivial
theorem PySem.W.Fast.tw6839950382639961874 : True := trivial
theorem PySem.W.Fast.tw1073684936293456103 : True := trivial
theorem PySem.W.Fast.tw15683349475410083487 : True := trivial
theorem PySem.W.Fast.tw13058779739969652438 : True := trivial
theorem PySem.W.Fast.tw2575688794819185673 : True := trivial
theorem PySem.W.Fast.tw17701740451101599629 : True := trivial
theorem PySem.W.Fast.tw16193368875126940515 : True := trivial
theorem PySem.W.Fast.tw1428461735056716815 : True := trivial
theorem PySem.W.Fast.tw14060314934594634116 : True := trivial
theorem PySem.W.Fast.tw7274277714147779182 : True := trivial
theorem PySem.W.Fast.tw2768887723231651913 : True := trivial
theorem PySem.W.Fast.tw131828674338781178 : True := trivial
theorem PySem.W.Fast.tw12062447068167205367 : True := trivial
theorem PySem.W.Fast.tw990018947870059784 : True := trivial
theorem PySem.W.Fast.tw12223549615225975028 : True := trivial
theorem PySem.W.Fast.tw11606703811801011569 : True := trivial
theorem PySem.W.Fast.tw3240750139508369884 : True := trivial
theorem PySem.W.Fast.tw3298221006598763812 : True := trivial
theorem PySem.W.Fast.tw1827203727409937574 : True := trivial
theorem PySem.W.Fast.tw15267401086915694287 : True := trivial
theorem PySem.W.Fast.tw608480320028114397 : True := trivial
theorem PySem.W.Fast.tw5774340257025684908 : True := trivial
theorem PySem.W.Fast.tw9142279816462271456 : True := trivial
theorem PySem.W.Fast.tw14758633776864434310 : True := trivial
theorem PySem.W.Fast.tw11285113147775152619 : True := trivial
theorem PySem.W.Fast.tw10954514618762377466 : True := trivial
theorem PySem.W.Fast.tw5596974661639677951 : True := trivial
theorem PySem.W.Fast.tw16993964676930701567 : True := trivial
theorem PySem.W.Fast.tw2511124675406384734 : True := trivial
theorem PySem.W.Fast.tw8149609067654634709 : True := trivial
theorem PySem.W.Fast.tw17900056157658171713 : True := trivial
theorem PySem.W.Fast.tw2107846950560242677 : True := trivial
theorem PySem.W.Fast.tw9864823889342107457 : True := trivial
theorem PySem.W.Fast.tw15832995529083712685 : True := trivial
theorem PySem.W.Fast.tw1385553603332493325 : True := trivial
theorem PySem.W.Fast.tw2703831714675276136 : True := trivial
theorem PySem.W.Fast.tw10838112884674141280 : True := trivial
theorem PySem.W.Fast.tw11205024524581734194 : True := trivial
theorem PySem.W.Fast.tw3731252916111958257 : True := trivial
theorem PySem.W.Fast.tw17739442069466353733 : True := trivial
theorem PySem.W.Fast.tw4093179196911256515 : True := trivial
theorem PySem.W.Fast.tw6485674665765456000 : True := trivial
theorem PySem.W.Fast.tw3338340987470550221 : True := trivial
theorem PySem.W.Fast.tw2928781488542105609 : True := trivial
theorem PySem.W.Fast.tw170274962661288278 : True := trivial
theorem PySem.W.Fast.tw9078450393082623040 : True := trivial
theorem PySem.W.Fast.tw13786054538419646246 : True := trivial
theorem PySem.W.Fast.tw5613357562994312347 : True := trivial
theorem PySem.W.Fast.tw6479770753009463390 : True := trivial
theorem PySem.W.Fast.tw10397184318968488478 : True := trivial
theorem PySem.W.Fast.tw1618753887712310310 : True := trivial
theorem PySem.W.Fast.tw17692740590158133956 : True := trivial
theorem PySem.W.Fast.tw11491354803388752233 : True := trivial
theorem PySem.W.Fast.tw2012534010108035309 : True := trivial
theorem PySem.W.Fast.tw15099681139203684302 : True := trivial
theorem PySem.W.Fast.tw14110353344148536724 : True := trivial
theorem PySem.W.Fast.tw3199398622720728383 : True := trivial
theorem PySem.W.Fast.tw3809057010930238790 : True := trivial
theorem PySem.W.Fast.tw8156137199743352266 : True := trivial
theorem PySem.W.Fast.tw15040378532411630879 : True := trivial
theorem PySem.W.Fast.tw3612512359030237596 : True := trivial
theorem PySem.W.Fast.tw4393523460477673383 : True := trivial
theorem PySem.W.Fast.tw7468667925589552730 : True := trivial
theorem PySem.W.Fast.tw10396151664465495613 : True := trivial
theorem PySem.W.Fast.tw16260514322938650306 : True := trivial
theorem PySem.W.Fast.tw15276629727634601305 : True := trivial
theorem PySem.W.Fast.tw14934267652943773980 : True := trivial
theorem PySem.W.Fast.tw3373607329128562694 : True := trivial
theorem PySem.W.Fast.tw1810007202343571281 : True := trivial
theorem PySem.W.Fast.tw17180461505889650950 : True := trivial
theorem PySem.W.Fast.tw6776780710054299222 : True := trivial
open PySem PySem.W PyProof.Rows
set_option maxRecDepth 100000 in
set_option maxHeartbeats 0 in
theorem PySem.W.Fast.tw13032566149698346863 : True := trivial
theorem PySem.W.Fast.tw1362354644296851178 : True := trivial
theorem PySem.W.Fast.tw2647059110058336751 : True := trivial
theorem PySem.W.Fast.tw234961429053686769 : True := trivial
theorem PySem.W.Fast.tw17224535474075006237 : True := trivial
theorem PySem.W.Fast.tw10587706402628656480 : True := trivial
theorem PySem.W.Fast.tw6255844977588930636 : True := trivial
theorem PySem.W.Fast.tw7441323401898499342 : True := trivial
theorem PySem.W.Fast.tw10380882600861005835 : True := trivial
theorem PySem.W.Fast.tw10299819477873437836 : True := trivial
theorem PySem.W.Fast.tw3997672317495241916 : True := trivial
theorem PySem.W.Fast.tw3613735619773664082 : True := trivial
theorem PySem.W.Fast.tw8667722427503227083 : True := trivial
theorem PySem.W.Fast.tw14670900205239257087 : True := trivial
theorem PySem.Challenge.cw_evernever_k06_read_holds : PySem.Challenge.rw_evernever_k06_read.Holds := by
 w_on; o_law; k_head; (case hw=>w_witness2)
 k_fill
 refine L2.walk_ofK (l:=PySem.Challenge.rw_evernever_k06_read) (n:=63) (k:=80) (x:="_law_script") (CX:=L2.CX0) (sp:=LW.spLaw) rfl (by decide) rfl ⟨rfl,by decide,by decide⟩ (fun w h Y=>PySem.W.kIn_of Y) ?F ?S ?C
 case F=>
  intro w mg fa h KX G hmg
  have T:∃ t,LW.Txt (L2.KOf KX) mg t:=by
   dsimp only [L2.KOf]
   refine' LW.txt_mk KX G ?Zma ?ZpO ?ZEE ?ZzZ ?ZpP ?ZED ?Zz0 ?Zmb ?ZH0 ?ZiV ?Zl5 ?ZiW ?ZpK ?Zl7 ?ZpM ?Zj6 ?ZpL ?ZpN ?ZgN ?Zl8 ?Zj7 ?Zl4 ?Zl6 ?ZgM ?Zl9 ?a_law ?ZwJ ?ZHY ?ZHZ ?a_Not ?ZzY ?a_And ?ZzX ?a_Or ?ZEC ?ZpJ ?Zij ?Zga ?ZeE ?Zon ?Zok ?Zol ?Zoj ?Zom ?Zoo ?Zbu ?b_ValueError ?ne_ ?Zet ?Zp4 ?Zm1 ?Zm0 ?Zm2 ?Zm3 ?Zgf ?Zp9 ?Zm7 ?Zm6 ?Zm8 ?Zm9 ?Zgg ?Ztl ?Zp6 ?Zp5 ?Zp7 ?Zp8 ?Zg3 ?ZkH ?Zi9 ?Zja ?ZeS ?Zg2 ?ZkF ?Zp1 ?Zp0 ?Ztk ?Zp2 ?Zp3 ?ZeR ?Zge ?Zi6 ?Zi5 ?ZkG ?Zi7 ?Zi8 ?Zjb ?Zm5 ?Ztn ?Ztm ?Zxp ?Zto ?Ztp ?Zm4 ?Zfq ?Zfp ?Zfr ?ZkI ?ZiM ?Zh9 ?Ziu ?Zk7 ?Zkk ?ZkT ?ZAr ?Zz5 ?ZAo ?Zwp ?Zwj ?Zwn ?Zk8 ?Zkl ?ZkU ?ZAq ?Zz4 ?ZAn ?Zwq ?Zwk ?Zwo ?ZiN ?Zia ?Ziv ?ZGu ?ZFZ ?ZGs ?ZfM ?ZfC ?ZfF ?ZiH ?Zh4 ?Zip ?ZfN ?ZfD ?ZfG ?Zk3 ?Zkg ?ZkP ?ZiJ ?Zh6 ?Zir ?Zk5 ?Zki ?ZkR ?ZgG ?Zgy ?ZgB ?Zk4 ?Zkh ?ZkQ ?Zk6 ?Zkj ?ZkS ?Ze1 ?ZeL ?ZeY ?ZiK ?Zh7 ?Zis ?ZgH ?Zgz ?ZgC ?ZiG ?Zh3 ?Zio ?ZiI ?Zh5 ?Ziq ?Ze0 ?ZeK ?ZeX ?ZiL ?Zh8 ?Zit ?l_law ?c_law ?k_law ?Zdc ?Zc8 ?ZaU ?Zbc ?ZkX ?Zka ?ZkN ?Zqn ?Zix ?ZhT ?ZfS ?Znl ?Ziw ?ZhS ?ZfR ?Znk ?Ziy ?ZhU ?ZfT ?Znm ?Ziz ?ZhV ?ZfU ?Znn ?Zk2 ?Zkf ?ZkO ?Zqs ?ZiD ?Zh0 ?ZfX ?Znr ?ZiC ?ZhZ ?ZfW ?Znq ?ZiE ?Zh1 ?ZfY ?Zns ?ZiF ?Zh2 ?ZfZ ?Znt ?Zox ?Zop ?Zov ?Ztx ?ZkZ ?Zkc ?Zhc ?Zqp ?ZkY ?Zkb ?Zhb ?Zqo ?Zk0 ?Zkd ?Zhd ?Zqq ?Zk1 ?Zke ?Zhe ?Zqr ?ZgE ?Zgw ?ZgA ?ZdV ?ZfJ ?Zfz ?ZbO ?Zdj ?ZfK ?ZfA ?ZbP ?Zdk ?ZeZ ?ZeJ ?ZdK ?Zg5 ?ZgD ?Zgv ?ZeV ?ZkL ?ZkW ?Zj9 ?Zha ?Zqm ?ZkV ?Zj8 ?Zg9 ?Zql ?Zdt ?Zdr ?Zcl ?ZeU ?Zep ?Zeo ?Zde ?Zgh ?ZfI ?Zfy ?Zec ?Zjh ?ZfH ?Zfx ?Zeb ?Zjg ?ZfL ?ZfB ?Zed ?Zji ?ZiB ?ZhX ?ZfV ?Znp ?Zoz ?Zor ?ZjL ?Ztz ?Zoy ?Zoq ?ZjK ?Zty ?ZiA ?ZhW ?Zin ?Zno ?ZdX ?ZdS ?ZcJ ?Zft ?ZdW ?ZdR ?ZcI ?Zfs ?ZdY ?ZdT ?ZcK ?Zfu ?ZgF ?Zgx ?ZeW ?ZkM ?ZoE ?Zou ?ZoF ?ZoH ?ZzJ ?Ztv ?Ztw ?Zf1 ?ZdN ?Zeh ?ZdM ?Zeg ?Zef ?ZcL ?Ze7 ?ZcM ?ZBl ?ZAf ?ZBo ?ZBy ?ZEW ?ZEQ ?ZES ?ZE6 ?Zfb ?Zf4 ?Zhn ?Zf3 ?Zhm ?Zhl ?Zek ?ZjT ?Zel ?ZBm ?ZAg ?ZBp ?ZBz ?ZEX ?ZER ?ZET ?ZE7 ?ZnO ?Zcn ?Zhs ?Zf8 ?Zhr ?Zhq ?Zem ?ZjY ?Zen ?ZGH ?ZGh ?ZGM ?ZGU ?ZI2 ?ZID ?ZIH ?ZJh ?Zsq ?Zhp ?ZcN ?Zho ?ZjW ?ZjV ?Zfe ?ZnK ?Zff ?ZsB ?ZrX ?ZsV ?ZsZ ?ZxK ?Zxy ?ZxA ?Zx2 ?Zhk ?Zej ?Zfa ?Zei ?Ze9 ?Ze8 ?Zdh ?Zf2 ?Zdi ?ZGG ?ZGg ?ZGL ?ZGT ?ZI1 ?ZIC ?ZIG ?ZJg ?Zsp ?Zhi ?ZjS ?Zct ?ZjR ?ZjQ ?Ze2 ?ZnJ ?Ze3 ?ZsA ?ZrW ?ZsU ?ZsY ?ZxJ ?Zxx ?Zxz ?Zx1 ?Zhj ?Zee ?Ze6 ?Zbi ?Ze5 ?Ze4 ?Zdf ?Zf0 ?Zdg ?pg_Or ?hd_Or ?po_Or ?sa_Or ?kc_Or ?ha_Or ?hm_Or ?mk_Or ?Zx3 ?ZjX ?ZnN ?Zdl ?ZnM ?ZnL ?Zf6 ?Zsr ?Zf7 ?Zwu ?Zwm ?Zwv ?Zwx ?ZAp ?ZAe ?ZAh ?ZAy ?ZjU ?Zfd ?Zf5 ?Zfc ?ZbQ ?Zcm ?Zbr ?ZdO ?ZaL ?nd_ ?hn_ ?htk_ ?ic_Or ?ty_Or ?Zn5 ?Zyr ?Zyv ?ZBv ?ZqA ?ZBu ?Zqz ?ZtK ?Zyw ?Zg6 ?ZhH ?Zjl ?ZqF ?ZtL ?Zlk ?ZtG ?Zlg ?Zyt ?Zn8 ?ZqG ?Zg7 ?ZhI ?Zjm ?ZqB ?ZtM ?Zll ?ZtH ?Zlh ?Zyu ?Zn9 ?ZqH ?Znv ?Zog ?Zlj ?ZtJ ?ZtO ?Zn7 ?Zyq ?Zn4 ?ZBx ?ZqD ?ZtQ ?Znu ?Zof ?Zli ?ZtI ?ZtN ?Zys ?Zn6 ?Zn3 ?ZBw ?ZqC ?ZtP ?ZdJ ?ZdQ ?Zgj ?Zlm ?Zlo ?Zoa ?ZhD ?Zn2 ?ZqE ?Zjo ?Zlp ?ZcH ?ZcO ?Zjn ?Zjp ?Zln ?Zgk ?Zlf ?Zgi ?Zob ?ZhE ?Zjq ?b_len ?b_range ?b_isinstance ?b_int ?b_bool ?b_str ?b_list ?b_tuple ?b_dict ?b_set ?b_sorted ?b_max ?b_min ?b_sum ?b_any ?b_all ?b_abs ?b_reversed ?b_enumerate ?b_zip ?g_LETTERS ?g_MARKS ?g_BLANK ?g_JOINS ?lk_JOINS
   (case Zma=>k_is)
   (case ZpO=>k_is)
   (case ZEE=>k_is)
   (case ZzZ=>k_is)
   (case ZpP=>k_is)
   (case ZED=>k_is)
   (case Zz0=>k_is)
   (case Zmb=>k_is)
   (case ZH0=>k_is)
   (case ZiV=>k_is)
   (case Zl5=>k_is)
   (case ZiW=>k_is)
   (case ZpK=>k_is)
   (case Zl7=>k_is)
   (case ZpM=>k_is)
   (case Zj6=>k_is)
   (case ZpL=>k_is)
   (case ZpN=>k_is)
   (case ZgN=>k_is)
   (case Zl8=>k_is)
   (case Zj7=>k_is)
   (case Zl4=>k_is)
   (case Zl6=>k_is)
   (case ZgM=>k_is)
   (case Zl9=>k_is)
   (case a_law=>k_is)
   (case ZwJ=>k_is)
   (case ZHY=>k_is)
   (case ZHZ=>k_is)
   (case a_Not=>k_is)
   (case ZzY=>k_is)
   (case a_And=>k_is)
   (case ZzX=>k_is)
   (case a_Or=>k_is)
   (case ZEC=>k_is)
   (case ZpJ=>k_is)
   (case Zij=>k_is)
   (case Zga=>k_is)
   (case ZeE=>k_is)
   (case Zon=>k_exc)
   (case Zok=>k_is)
   (case Zol=>k_is)
   (case Zoj=>k_is)
   (case Zom=>k_is)
   (case Zoo=>k_is)
   (case Zbu=>k_is)
   (case b_ValueError=>k_is)
   (case ne_=>decide)
   (case Zet=>k_is)
   (case Zp4=>k_is)
   (case Zm1=>k_is)
   (case Zm0=>k_is)
   (case Zm2=>k_is)
   (case Zm3=>k_is)
   (case Zgf=>k_is)
   (case Zp9=>k_is)
   (case Zm7=>k_is)
   (case Zm6=>k_is)
   (case Zm8=>k_is)
   (case Zm9=>k_is)
   (case Zgg=>k_is)
   (case Ztl=>k_is)
   (case Zp6=>k_is)
   (case Zp5=>k_is)
   (case Zp7=>k_is)
   (case Zp8=>k_is)
   (case Zg3=>k_is)
   (case ZkH=>k_is)
   (case Zi9=>k_is)
   (case Zja=>k_is)
   (case ZeS=>k_is)
   (case Zg2=>k_is)
   (case ZkF=>k_is)
   (case Zp1=>k_is)
   (case Zp0=>k_is)
   (case Ztk=>k_is)
   (case Zp2=>k_is)
   (case Zp3=>k_is)
   (case ZeR=>k_is)
   (case Zge=>k_is)
   (case Zi6=>k_is)
   (case Zi5=>k_is)
   (case ZkG=>k_is)
   (case Zi7=>k_is)
   (case Zi8=>k_is)
   (case Zjb=>k_is)
   (case Zm5=>k_is)
   (case Ztn=>k_is)
   (case Ztm=>k_is)
   (case Zxp=>k_is)
   (case Zto=>k_is)
   (case Ztp=>k_is)
   (case Zm4=>k_is)
   (case Zfq=>k_is)
   (case Zfp=>k_is)
   (case Zfr=>k_is)
   (case ZkI=>k_is)
   (case ZiM=>k_is)
   (case Zh9=>k_is)
   (case Ziu=>k_is)
   (case Zk7=>k_is)
   (case Zkk=>k_is)
   (case ZkT=>k_is)
   (case ZAr=>k_is)
   (case Zz5=>k_is)
   (case ZAo=>k_is)
   (case Zwp=>k_is)
   (case Zwj=>k_is)
   (case Zwn=>k_is)
   (case Zk8=>k_is)
   (case Zkl=>k_is)
   (case ZkU=>k_is)
   (case ZAq=>k_is)
   (case Zz4=>k_is)
   (case ZAn=>k_is)
   (case Zwq=>k_is)
   (case Zwk=>k_is)
   (case Zwo=>k_is)
   (case ZiN=>k_is)
   (case Zia=>k_is)
   (case Ziv=>k_is)
   (case ZGu=>k_is)
   (case ZFZ=>k_is)
   (case ZGs=>k_is)
   (case ZfM=>k_is)
   (case ZfC=>k_is)
   (case ZfF=>k_is)
   (case ZiH=>k_is)
   (case Zh4=>k_is)
   (case Zip=>k_is)
   (case ZfN=>k_is)
   (case ZfD=>k_is)
   (case ZfG=>k_is)
   (case Zk3=>k_is)
   (case Zkg=>k_is)
   (case ZkP=>k_is)
   (case ZiJ=>k_is)
   (case Zh6=>k_is)
   (case Zir=>k_is)
   (case Zk5=>k_is)
   (case Zki=>k_is)
   (case ZkR=>k_is)
   (case ZgG=>k_is)
   (case Zgy=>k_is)
   (case ZgB=>k_is)
   (case Zk4=>k_is)
   (case Zkh=>k_is)
   (case ZkQ=>k_is)
   (case Zk6=>k_is)
   (case Zkj=>k_is)
   (case ZkS=>k_is)
   (case Ze1=>k_is)
   (case ZeL=>k_is)
   (case ZeY=>k_is)
   (case ZiK=>k_is)
   (case Zh7=>k_is)
   (case Zis=>k_is)
   (case ZgH=>k_is)
   (case Zgz=>k_is)
   (case ZgC=>k_is)
   (case ZiG=>k_is)
   (case Zh3=>k_is)
   (case Zio=>k_is)
   (case ZiI=>k_is)
   (case Zh5=>k_is)
   (case Ziq=>k_is)
   (case Ze0=>k_is)
   (case ZeK=>k_is)
   (case ZeX=>k_is)
   (case ZiL=>k_is)
   (case Zh8=>k_is)
   (case Zit=>k_is)
   (case l_law=>k_is)
   (case c_law=>k_is)
   (case k_law=>k_is)
   (case Zdc=>k_is)
   (case Zc8=>k_is)
   (case ZaU=>k_is)
   (case Zbc=>k_is)
   (case ZkX=>k_is)
   (case Zka=>k_is)
   (case ZkN=>k_is)
   (case Zqn=>k_is)
   (case Zix=>k_is)
   (case ZhT=>k_is)
   (case ZfS=>k_is)
   (case Znl=>k_is)
   (case Ziw=>k_is)
   (case ZhS=>k_is)
   (case ZfR=>k_is)
   (case Znk=>k_is)
   (case Ziy=>k_is)
   (case ZhU=>k_is)
   (case ZfT=>k_is)
   (case Znm=>k_is)
   (case Ziz=>k_is)
   (case ZhV=>k_is)
   (case ZfU=>k_is)
   (case Znn=>k_is)
   (case Zk2=>k_is)
   (case Zkf=>k_is)
   (case ZkO=>k_is)
   (case Zqs=>k_is)
   (case ZiD=>k_is)
   (case Zh0=>k_is)
   (case ZfX=>k_is)
   (case Znr=>k_is)
   (case ZiC=>k_is)
   (case ZhZ=>k_is)
   (case ZfW=>k_is)
   (case Znq=>k_is)
   (case ZiE=>k_is)
   (case Zh1=>k_is)
   (case ZfY=>k_is)
   (case Zns=>k_is)
   (case ZiF=>k_is)
   (case Zh2=>k_is)
   (case ZfZ=>k_is)
   (case Znt=>k_is)
   (case Zox=>k_is)
   (case Zop=>k_is)
   (case Zov=>k_is)
   (case Ztx=>k_is)
   (case ZkZ=>k_is)
   (case Zkc=>k_is)
   (case Zhc=>k_is)
   (case Zqp=>k_is)
   (case ZkY=>k_is)
   (case Zkb=>k_is)
   (case Zhb=>k_is)
   (case Zqo=>k_is)
   (case Zk0=>k_is)
   (case Zkd=>k_is)
   (case Zhd=>k_is)
   (case Zqq=>k_is)
   (case Zk1=>k_is)
   (case Zke=>k_is)
   (case Zhe=>k_is)
   (case Zqr=>k_is)
   (case ZgE=>k_is)
   (case Zgw=>k_is)
   (case ZgA=>k_is)
   (case ZdV=>k_is)
   (case ZfJ=>k_is)
   (case Zfz=>k_is)
   (case ZbO=>k_is)
   (case Zdj=>k_is)
   (case ZfK=>k_is)
   (case ZfA=>k_is)
   (case ZbP=>k_is)
   (case Zdk=>k_is)
   (case ZeZ=>k_is)
   (case ZeJ=>k_is)
   (case ZdK=>k_is)
   (case Zg5=>k_is)
   (case ZgD=>k_is)
   (case Zgv=>k_is)
   (case ZeV=>k_is)
   (case ZkL=>k_is)
   (case ZkW=>k_is)
   (case Zj9=>k_is)
   (case Zha=>k_is)
   (case Zqm=>k_is)
   (case ZkV=>k_is)
   (case Zj8=>k_is)
   (case Zg9=>k_is)
   (case Zql=>k_is)
   (case Zdt=>k_is)
   (case Zdr=>k_is)
   (case Zcl=>k_is)
   (case ZeU=>k_is)
   (case Zep=>k_is)
   (case Zeo=>k_is)
   (case Zde=>k_is)
   (case Zgh=>k_is)
   (case ZfI=>k_is)
   (case Zfy=>k_is)
   (case Zec=>k_is)
   (case Zjh=>k_is)
   (case ZfH=>k_is)
   (case Zfx=>k_is)
   (case Zeb=>k_is)
   (case Zjg=>k_is)
   (case ZfL=>k_is)
   (case ZfB=>k_is)
   (case Zed=>k_is)
   (case Zji=>k_is)
   (case ZiB=>k_is)
   (case ZhX=>k_is)
   (case ZfV=>k_is)
   (case Znp=>k_is)
   (case Zoz=>k_is)
   (case Zor=>k_is)
   (case ZjL=>k_is)
   (case Ztz=>k_is)
   (case Zoy=>k_is)
   (case Zoq=>k_is)
   (case ZjK=>k_is)
   (case Zty=>k_is)
   (case ZiA=>k_is)
   (case ZhW=>k_is)
   (case Zin=>k_is)
   (case Zno=>k_is)
   (case ZdX=>k_is)
   (case ZdS=>k_is)
   (case ZcJ=>k_is)
   (case Zft=>k_is)
   (case ZdW=>k_is)
   (case ZdR=>k_is)
   (case ZcI=>k_is)
   (case Zfs=>k_is)
   (case ZdY=>k_is)
   (case ZdT=>k_is)
   (case ZcK=>k_is)
   (case Zfu=>k_is)
   (case ZgF=>k_is)
   (case Zgx=>k_is)
   (case ZeW=>k_is)
   (case ZkM=>k_is)
   (case ZoE=>k_is)
   (case Zou=>k_is)
   (case ZoF=>k_is)
   (case ZoH=>k_is)
   (case ZzJ=>k_is)
   (case Ztv=>k_is)
   (case Ztw=>k_is)
   (case Zf1=>k_is)
   (case ZdN=>k_is)
   (case Zeh=>k_is)
   (case ZdM=>k_is)
   (case Zeg=>k_is)
   (case Zef=>k_is)
   (case ZcL=>k_is)
   (case Ze7=>k_is)
   (case ZcM=>k_is)
   (case ZBl=>k_is)
   (case ZAf=>k_is)
   (case ZBo=>k_is)
   (case ZBy=>k_is)
   (case ZEW=>k_is)
   (case ZEQ=>k_is)
   (case ZES=>k_is)
   (case ZE6=>k_is)
   (case Zfb=>k_is)
   (case Zf4=>k_is)
   (case Zhn=>k_is)
   (case Zf3=>k_is)
   (case Zhm=>k_is)
   (case Zhl=>k_is)
   (case Zek=>k_is)
   (case ZjT=>k_is)
   (case Zel=>k_is)
   (case ZBm=>k_is)
   (case ZAg=>k_is)
   (case ZBp=>k_is)
   (case ZBz=>k_is)
   (case ZEX=>k_is)
   (case ZER=>k_is)
   (case ZET=>k_is)
   (case ZE7=>k_is)
   (case ZnO=>k_is)
   (case Zcn=>k_is)
   (case Zhs=>k_is)
   (case Zf8=>k_is)
   (case Zhr=>k_is)
   (case Zhq=>k_is)
   (case Zem=>k_is)
   (case ZjY=>k_is)
   (case Zen=>k_is)
   (case ZGH=>k_is)
   (case ZGh=>k_is)
   (case ZGM=>k_is)
   (case ZGU=>k_is)
   (case ZI2=>k_is)
   (case ZID=>k_is)
   (case ZIH=>k_is)
   (case ZJh=>k_is)
   (case Zsq=>k_is)
   (case Zhp=>k_is)
   (case ZcN=>k_is)
   (case Zho=>k_is)
   (case ZjW=>k_is)
   (case ZjV=>k_is)
   (case Zfe=>k_is)
   (case ZnK=>k_is)
   (case Zff=>k_is)
   (case ZsB=>k_is)
   (case ZrX=>k_is)
   (case ZsV=>k_is)
   (case ZsZ=>k_is)
   (case ZxK=>k_is)
   (case Zxy=>k_is)
   (case ZxA=>k_is)
   (case Zx2=>k_is)
   (case Zhk=>k_is)
   (case Zej=>k_is)
   (case Zfa=>k_is)
   (case Zei=>k_is)
   (case Ze9=>k_is)
   (case Ze8=>k_is)
   (case Zdh=>k_is)
   (case Zf2=>k_is)
   (case Zdi=>k_is)
   (case ZGG=>k_is)
   (case ZGg=>k_is)
   (case ZGL=>k_is)
   (case ZGT=>k_is)
   (case ZI1=>k_is)
   (case ZIC=>k_is)
   (case ZIG=>k_is)
   (case ZJg=>k_is)
   (case Zsp=>k_is)
   (case Zhi=>k_is)
   (case ZjS=>k_is)
   (case Zct=>k_is)
   (case ZjR=>k_is)
   (case ZjQ=>k_is)
   (case Ze2=>k_is)
   (case ZnJ=>k_is)
   (case Ze3=>k_is)
   (case ZsA=>k_is)
   (case ZrW=>k_is)
   (case ZsU=>k_is)
   (case ZsY=>k_is)
   (case ZxJ=>k_is)
   (case Zxx=>k_is)
   (case Zxz=>k_is)
   (case Zx1=>k_is)
   (case Zhj=>k_is)
   (case Zee=>k_is)
   (case Ze6=>k_is)
   (case Zbi=>k_is)
   (case Ze5=>k_is)
   (case Ze4=>k_is)
   (case Zdf=>k_is)
   (case Zf0=>k_is)
   (case Zdg=>k_is)
   (case pg_Or=>k_is)
   (case hd_Or=>k_is)
   (case po_Or=>k_is)
   (case sa_Or=>k_is)
   (case kc_Or=>k_is)
   (case ha_Or=>k_is)
   (case hm_Or=>k_is)
   (case mk_Or=>k_is)
   (case Zx3=>k_is)
   (case ZjX=>k_is)
   (case ZnN=>k_is)
   (case Zdl=>k_is)
   (case ZnM=>k_is)
   (case ZnL=>k_is)
   (case Zf6=>k_is)
   (case Zsr=>k_is)
   (case Zf7=>k_is)
   (case Zwu=>k_is)
   (case Zwm=>k_is)
   (case Zwv=>k_is)
   (case Zwx=>k_is)
   (case ZAp=>k_is)
   (case ZAe=>k_is)
   (case ZAh=>k_is)
   (case ZAy=>k_is)
   (case ZjU=>k_is)
   (case Zfd=>k_is)
   (case Zf5=>k_is)
   (case Zfc=>k_is)
   (case ZbQ=>k_is)
   (case Zcm=>k_is)
   (case Zbr=>k_is)
   (case ZdO=>k_is)
   (case ZaL=>k_is)
   (case nd_=>decide)
   (case hn_=>k_is)
   (case htk_=>k_is)
   (case ic_Or=>k_is)
   (case ty_Or=>k_is)
   (case Zn5=>k_is)
   (case Zyr=>k_is)
   (case Zyv=>k_is)
   (case ZBv=>k_is)
   (case ZqA=>k_is)
   (case ZBu=>k_is)
   (case Zqz=>k_is)
   (case ZtK=>k_is)
   (case Zyw=>k_is)
   (case Zg6=>k_is)
   (case ZhH=>k_is)
   (case Zjl=>k_is)
   (case ZqF=>k_is)
   (case ZtL=>k_is)
   (case Zlk=>k_is)
   (case ZtG=>k_is)
   (case Zlg=>k_is)
   (case Zyt=>k_is)
   (case Zn8=>k_is)
   (case ZqG=>k_is)
   (case Zg7=>k_is)
   (case ZhI=>k_is)
   (case Zjm=>k_is)
   (case ZqB=>k_is)
   (case ZtM=>k_is)
   (case Zll=>k_is)
   (case ZtH=>k_is)
   (case Zlh=>k_is)
   (case Zyu=>k_is)
   (case Zn9=>k_is)
   (case ZqH=>k_is)
   (case Znv=>k_is)
   (case Zog=>k_is)
   (case Zlj=>k_is)
   (case ZtJ=>k_is)
   (case ZtO=>k_is)
   (case Zn7=>k_is)
   (case Zyq=>k_is)
   (case Zn4=>k_is)
   (case ZBx=>k_is)
   (case ZqD=>k_is)
   (case ZtQ=>k_is)
   (case Znu=>k_is)
   (case Zof=>k_is)
   (case Zli=>k_is)
   (case ZtI=>k_is)
   (case ZtN=>k_is)
   (case Zys=>k_is)
   (case Zn6=>k_is)
   (case Zn3=>k_is)
   (case ZBw=>k_is)
   (case ZqC=>k_is)
   (case ZtP=>k_is)
   (case ZdJ=>k_is)
   (case ZdQ=>k_is)
   (case Zgj=>k_is)
   (case Zlm=>k_is)
   (case Zlo=>k_is)
   (case Zoa=>k_is)
   (case ZhD=>k_is)
   (case Zn2=>k_is)
   (case ZqE=>k_is)
   (case Zjo=>k_is)
   (case Zlp=>k_is)
   (case ZcH=>k_is)
   (case ZcO=>k_is)
   (case Zjn=>k_is)
   (case Zjp=>k_is)
   (case Zln=>k_is)
   (case Zgk=>k_is)
   (case Zlf=>k_is)
   (case Zgi=>k_is)
   (case Zob=>k_is)
   (case ZhE=>k_is)
   (case Zjq=>k_is)
   (case b_len=>k_is)
   (case b_range=>k_is)
   (case b_isinstance=>k_is)
   (case b_int=>k_is)
   (case b_bool=>k_is)
   (case b_str=>k_is)
   (case b_list=>k_is)
   (case b_tuple=>k_is)
   (case b_dict=>k_is)
   (case b_set=>k_is)
   (case b_sorted=>k_is)
   (case b_max=>k_is)
   (case b_min=>k_is)
   (case b_sum=>k_is)
   (case b_any=>k_is)
   (case b_all=>k_is)
   (case b_abs=>k_is)
   (case b_reversed=>k_is)
   (case b_enumerate=>k_is)
   (case b_zip=>k_is)
   (case g_LETTERS=>k_is)
   (case g_MARKS=>k_is)
   (case g_BLANK=>k_is)
   (case g_JOINS=>k_is)
   (case lk_JOINS=>k_is)
  obtain ⟨t,T⟩ :=T
  have e0:=hmg.symm.trans T.m_law
  cases e0
  exact ⟨_,T.bl,fun base _ _=>LW.ok_law T⟩
 case S=>exact fun K H a ns hl hO hS=>⟨a,ns,rfl,hS,hl,hO,fun _=>rfl⟩
 case C=>exact fun _ _ _ _ z=>z
#print axioms PySem.Challenge.cw_evernever_k06_read_holds
