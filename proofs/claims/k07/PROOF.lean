import PyProof.Rows.All
import Wide.All
import OpenK.AllK
import Wide.FinOn
import Lean
import PyProof.EqAt
import PyProof.EqKinds
import PyProof.TupleCall
import PyProof.P3Eq
import PyProof.NeKinds
import KE.KRevIter
import PyProof.EnumMake
import PyProof.EnumFor
import PyProof.Draws
import PyProof.ZipIter
import PyProof.ConsumeWalk
import PyProof.RaisesMany
import PyProof.ExcClass3
import PyProof.ExcBaseAll.ValueError
import PyProof.RulesAs
import PyProof.ExcAttrAll.ValueError
import PyProof.ReprStr
import PyProof.PassesOwn
import PyProof.ToksMono
import PyProof.DictItems
import PyProof.MeetsIn
import PyProof.StrCalls6
import PyProof.StrCalls2
import PyProof.StrBlock2
import PyProof.StrLawsWords
import PyProof.StrLawsTight
import PyProof.StrLawsChain
import PyProof.ListRange
import PyProof.NsDelKeeps
import PyProof.P3In
import PyProof.DictWalks
import KE.KDictList
import PyProof.Rows.StrInSeq3
import PySem.Challenge.RW_evernever_k07_unread
set_option Elab.async false
set_option linter.all false
set_option maxRecDepth 100000
set_option maxHeartbeats 4000000
set_option maxRecDepth 100000
namespace L2
open PySem PySem.Spec PyProof.Rows
abbrev Key:=Sum Int Str
def ZCz:Key→Value→Bool
 | .inl k,v=>Value.isInt k v
 | .inr x,v=>Value.isStrOf x v
def keyH (w:World):Key→Int
 | .inl k=>hashInt k
 | .inr x=>hashStr w x
theorem Zc7:∀ {k:Key} {v:Value},ZCz k v=true→(∃ i t,k=Sum.inl i∧v=Value.int i t)∨(∃ x t,k=Sum.inr x∧v=Value.str x t)
 | .inl i,v,h=>by
  obtain ⟨t,e⟩ :=Value.isInt_shape (k:=i) (v:=v) h
  exact .inl ⟨i,t,rfl,e⟩
 | .inr x,v,h=>by
  obtain ⟨t,e⟩ :=Value.isStrOf_shape (x:=x) (v:=v) h
  exact .inr ⟨x,t,rfl,e⟩
theorem ZDY (i:Int) (t:Tok):ZCz (.inl i) (.int i t)=true:=by simp [ZCz,Value.isInt]
theorem ZDZ (x:Str) (t:Tok):ZCz (.inr x) (.str x t)=true:=by simp [ZCz,Value.isStrOf]
theorem ZJI (a b:Int):decide ((Sum.inl a:Key)=Sum.inl b)=(a == b):=by
 by_cases e:a=b
 ·subst e; simp
 ·have h : ¬ (Sum.inl a:Key)=Sum.inl b:=fun q=>e (Sum.inl.inj q)
  rw [decide_eq_false h]
  exact (beq_eq_false_iff_ne.mpr e).symm
theorem ZJL (a b:Str):decide ((Sum.inr a:Key)=Sum.inr b)=decide (a=b):=by
 by_cases e:a=b
 ·subst e; simp
 ·have h : ¬ (Sum.inr a:Key)=Sum.inr b:=fun q=>e (Sum.inr.inj q)
  rw [decide_eq_false h,decide_eq_false e]
theorem ZJJ (a:Int) (b:Str):decide ((Sum.inl a:Key)=Sum.inr b)=false:=decide_eq_false (fun q=>nomatch q)
theorem ZJK (a:Str) (b:Int):decide ((Sum.inr a:Key)=Sum.inl b)=false:=decide_eq_false (fun q=>nomatch q)
def ZdB (prog:Program) (w:World):PySem.KeyKind prog w Key where
 is:=ZCz
 hash:=keyH w
 inj:=fun v a b ha hb=>by
  rcases Zc7 ha with ⟨i,t,rfl,rfl⟩ | ⟨x,t,rfl,rfl⟩
  ·rcases Zc7 hb with ⟨j,u,rfl,e⟩ | ⟨y,u,rfl,e⟩
   ·injection e with e1 _; rw [e1]
   ·exact nomatch e
  ·rcases Zc7 hb with ⟨j,u,rfl,e⟩ | ⟨y,u,rfl,e⟩
   ·exact nomatch e
   ·injection e with e1 _; rw [e1]
 byValue:=fun k v h=>by
  rcases Zc7 h with ⟨i,t,rfl,rfl⟩ | ⟨x,t,rfl,rfl⟩ <;> rfl
 pyHash:=fun hv h=>by
  rcases Zc7 hv with ⟨i,t,rfl,rfl⟩ | ⟨x,t,rfl,rfl⟩
  ·exact wpAny_pyHash_int h
  ·exact wpAny_pyHash_str h
 eqBool:=fun hu hv h=>by
  rcases Zc7 hu with ⟨i,t,rfl,rfl⟩ | ⟨x,t,rfl,rfl⟩
  ·rcases Zc7 hv with ⟨j,u,rfl,rfl⟩ | ⟨y,u,rfl,rfl⟩
   ·rw [ZJI] at h; exact wpAny_eqBool_int h
   ·rw [ZJJ] at h; exact SeqAt.EqAt.int_str i t y u _ _ _ _ h
  ·rcases Zc7 hv with ⟨j,u,rfl,rfl⟩ | ⟨y,u,rfl,rfl⟩
   ·rw [ZJK] at h; exact SeqAt.EqAt.str_int x t j u _ _ _ _ h
   ·rw [ZJL] at h; exact wpAny_eqBool_str h
 «strs»:=fun k x t v h=>by
  rcases Zc7 h with ⟨i,u,rfl,e⟩ | ⟨y,u,rfl,e⟩
  ·exact nomatch e
  ·injection e with e1 _
   subst e1
   cases v <;> rfl
theorem ZAJ (prog:Program) (w:World) (i:Int) (t:Tok):(ZdB prog w).is (.inl i) (.int i t)=true:=ZDY i t
theorem ZAK (prog:Program) (w:World) (x:Str) (t:Tok):(ZdB prog w).is (.inr x) (.str x t)=true:=ZDZ x t
end L2
namespace L2
open PySem PySem.Spec PyProof.Rows
inductive V where
 | non | bl (b:Bool) | int (i:Int) | str (x:Str) | byt (b:Array UInt8) | flt (b:UInt64) | ref (a:Addr) | ty (n:String)
 deriving DecidableEq
def RelV:V→Value→Prop
 | .non,u=>u=Value.none
 | .bl b,u=>u=Value.bool b
 | .int i,u=>∃ t,u=Value.int i t
 | .str x,u=>∃ t,u=Value.str x t
 | .byt b,u=>∃ t,u=Value.bytes b t
 | .flt b,u=>∃ t,u=Value.float b t
 | .ref a,u=>u=Value.ref a
 | .ty n,u=>u=Value.type n
abbrev Vals:List V→List Value→Prop:=Paired RelV
theorem Vals.length {xs:List V} {us:List Value} (r:Vals xs us):xs.length=us.length:=Paired.length r
theorem Vals.get:∀ {xs:List V} {us:List Value} {i:Nat} {x:V},Vals xs us→xs[i]?=some x→∃ u,us[i]?=some u∧RelV x u
 | _,_,_,_,.nil,e=>by simp at e
 | _,_,0,_,.cons r _,e=>by simp at e; subst e; exact ⟨_,rfl,r⟩
 | _,_,i + 1,x,.cons _ t,e=>by
  obtain ⟨u,h1,h2⟩ :=Vals.get (i:=i) (x:=x) t (by simpa using e)
  exact ⟨u,by simpa using h1,h2⟩
theorem Vals.append:∀ {xs ys:List V} {us ws:List Value},Vals xs us→Vals ys ws→Vals (xs ++ ys) (us ++ ws)
 | _,_,_,_,.nil,s=>s
 | _,_,_,_,.cons r t,s=>.cons r (Vals.append t s)
theorem Vals.take:∀ {xs:List V} {us:List Value} (n:Nat),Vals xs us→Vals (xs.take n) (us.take n)
 | _,_,0,_=>.nil
 | _,_,_ + 1,.nil=>.nil
 | _,_,n + 1,.cons r t=>.cons r (Vals.take n t)
theorem Vals.drop:∀ {xs:List V} {us:List Value} (n:Nat),Vals xs us→Vals (xs.drop n) (us.drop n)
 | _,_,0,r=>r
 | _,_,_ + 1,.nil=>.nil
 | _,_,n + 1,.cons _ t=>Vals.drop n t
def RelO:Option V→Option Value→Prop
 | some v,some u=>RelV v u
 | none,none=>True
 | _,_=>False
def KV {κ:Type}:List (κ × V)→List (κ × Value)→Prop:=Paired fun (p:κ × V) (q:κ × Value)=>p.1=q.1∧RelV p.2 q.2
def kV:Key→V
 | .inl i=>.int i
 | .inr x=>.str x
inductive HO where
 | lst (xs:List V)
 | tup (xs:List V)
 | dK (kvs:List (Key × V)) | dT (kvs:List (List Key × V))
 | set (S:Int→Bool) (n:Nat)
 | ins (C dx:Addr) (fs:List (Str × V))
 | own (x:Addr)
 | xd (fs:List (Str × V))
 | met (f x:Addr)
 | rng (lo hi:Int)
 | frz (o:Obj) (u:HO)
 | tbl (ps:Array Value)
 | ext (φ:Heap→Prop)
abbrev Hp:=Addr→Option HO
def upd (H:Hp) (a:Addr) (o:HO):Hp:=fun b=>if b=a then some o else H b
theorem Za3 {H:Hp} {a:Addr} {o:HO}:upd H a o a=some o:=by unfold upd; rw [if_pos rfl]
theorem ZbM {H:Hp} {a b:Addr} {o:HO} (h:b ≠ a):upd H a o b=H b:=by unfold upd; rw [if_neg h]
theorem ZIU {H:Hp} {a:Addr} {o u:HO}:upd (upd H a o) a u=upd H a u:=by
 funext b; unfold upd; split <;> rfl
theorem ZhI {H:Hp} {a b:Addr} {o u:HO} (h:H a=some o) (h':H b=some u) (d:o ≠ u):a ≠ b:=by
 intro e; subst e; rw [h] at h'; exact d (Option.some.inj h')
theorem Zao {H:Hp} {a b:Addr} {o:HO} (h:H a=some o) (h':H b=none):a ≠ b:=by
 intro e; subst e; rw [h] at h'; cases h'
section
variable (P:Program) (w:World)
def Zd0 (H:Hp) (h:Heap) (a:Addr):HO→Prop
 | .lst xs=>xs.length≤sizeLine∧∃ (its:List Value) (n:Nat),Vals xs its∧h.get? a=some { cls:=.type "list",data:=.seq its.toArray n }
 | .tup xs=>xs.length≤sizeLine∧∃ its:List Value,Vals xs its∧IsTup h a its.toArray
 | .dK kvs=>kvs.length≤sizeLine∧(a == sysModules)=false∧∃ vs,KV kvs vs∧h.DictOf (ZdB P w) a vs
 | .dT kvs=>kvs.length≤sizeLine∧(a == sysModules)=false∧∃ xs:List (List Key × Addr × Value),
   Paired (fun (p:List Key × V) (q:List Key × Addr × Value)=>p.1=q.1∧H q.2.1=some (.tup (p.1.map kV))∧RelV p.2 q.2.2) kvs xs∧
   ∃ o es ep,h.get? a=some o∧o.ExactDict∧o.data=.dict es ep∧es.toList=xs.map (entryOfKey (tupleKind (ZdB P w)))∧(xs.map (·.1)).Nodup
 | .set S n=>h.SetOf (intKind P w) a S n
 | .ins C dx fs=>H dx=some (.own a)∧fs.length≤1000∧dx ≠ a∧h.get? a=some (PySem.W.instObj C dx)∧
   ∃ mA,h.Ns1 dx mA∧(∀ f,RelO (fs.lookup f) (mA f))∧PySem.Within mA (fs.map (·.1))
 | .own _=>∃ o,h.get? a=some o
 | .xd fs=>∃ mA,h.Ns1 a mA∧∀ f,RelO (fs.lookup f) (mA f)
 | .rng lo hi=>∃ t u v,h.get? a=some { cls:=.type "range",data:=.fields #[.int lo t,.int hi u,.int 1 v] }
 | .frz o u=>h.get? a=some o∧Zd0 H h a u
 | .tbl ps=>h.get? a=some { cls:=.none,data:=.fields ps }
 | .met f x=>h.get? a=some (PySem.W.methodObj (.ref f) (.ref x))
 | .ext φ=>φ h∧(∃ o,h.get? a=some o)∧∀ h1 h2:Heap,φ h1→(∀ o,h1.get? a=some o→h2.get? a=some o)→φ h2
def HOk (H:Hp) (h:Heap):Prop:=∀ a o,H a=some o→Zd0 P w H h a o
end
section
variable {P:Program} {w:World} {H H':Hp} {h h':Heap} {a:Addr} {o:HO}
theorem Zd0.lt (x:Zd0 P w H h a o):a < h.objs.size:=by
 cases o with
 | lst xs=>obtain ⟨_,_,_,_,e⟩ :=x; exact Heap.lt_size e
 | tup xs=>obtain ⟨_,_,_,p⟩ :=x; exact p.lt
 | dK kvs=>obtain ⟨_,_,_,_,o,_,_,e,_⟩ :=x; exact Heap.lt_size e
 | dT kvs=>obtain ⟨_,_,_,_,o,_,_,e,_⟩ :=x; exact Heap.lt_size e
 | set S n=>obtain ⟨o,_,_,_,e,_⟩ :=x; exact Heap.lt_size e
 | ins C dx fs=>obtain ⟨_,_,_,e,_⟩ :=x; exact Heap.lt_size e
 | own y=>obtain ⟨_,e⟩ :=x; exact Heap.lt_size e
 | xd fs=>obtain ⟨_,⟨_,_,_,e,_⟩,_⟩ :=x; exact Heap.lt_size e
 | rng lo hi=>obtain ⟨_,_,_,e⟩ :=x; exact Heap.lt_size e
 | frz ob u=>obtain ⟨e,_⟩ :=x; exact Heap.lt_size e
 | tbl ps=>exact Heap.lt_size (show h.get? a=some _ from x)
 | met f y=>exact Heap.lt_size (show h.get? a=some _ from x)
 | ext φ=>obtain ⟨_,⟨_,e⟩,_⟩ :=x; exact Heap.lt_size e
theorem Paired.mapP {α β:Type} {F G:α→β→Prop}:∀ {l₁:List α} {l₂:List β},Paired F l₁ l₂→(∀ a b,F a b→G a b)→Paired G l₁ l₂
 | _,_,.nil,_=>.nil
 | _,_,.cons r t,f=>.cons (f _ _ r) (Paired.mapP t f)
theorem Zd0.stay (x:Zd0 P w H h a o) (k:∀ b u,(b=a∨H b=some (.own a))→h.get? b=some u→h'.get? b=some u)
  (ho:∀ b,H b=some (.own a)→H' b=some (.own a)) (ht:∀ b xs,H b=some (.tup xs)→H' b=some (.tup xs)):Zd0 P w H' h' a o:=by
 induction o with
 | lst xs=>obtain ⟨z,its,n,r,e⟩ :=x; exact ⟨z,its,n,r,k _ _ (.inl rfl) e⟩
 | tup xs=>obtain ⟨z,its,r,ob,e,c⟩ :=x; exact ⟨z,its,r,ob,k _ _ (.inl rfl) e,c⟩
 | dK kvs=>obtain ⟨z,y,vs,r,ob,es,ep,e,c⟩ :=x; exact ⟨z,y,vs,r,ob,es,ep,k _ _ (.inl rfl) e,c⟩
 | dT kvs=>
  obtain ⟨z,y,xs,r,ob,es,ep,e,c⟩ :=x
  exact ⟨z,y,xs,Paired.mapP r fun p q z=>⟨z.1,ht _ _ z.2.1,z.2.2⟩,ob,es,ep,k _ _ (.inl rfl) e,c⟩
 | set S n=>obtain ⟨ob,es,ep,t,e,c⟩ :=x; exact ⟨ob,es,ep,t,k _ _ (.inl rfl) e,c⟩
 | ins C dx fs=>
  obtain ⟨d,z,ne,e,mA,⟨od,es,ep,e2,c⟩,r⟩ :=x
  exact ⟨ho _ d,z,ne,k _ _ (.inl rfl) e,mA,⟨od,es,ep,k _ _ (.inr d) e2,c⟩,r⟩
 | own y=>obtain ⟨ob,e⟩ :=x; exact ⟨ob,k _ _ (.inl rfl) e⟩
 | xd fs=>obtain ⟨mA,⟨od,es,ep,e,c⟩,r⟩ :=x; exact ⟨mA,⟨od,es,ep,k _ _ (.inl rfl) e,c⟩,r⟩
 | rng lo hi=>obtain ⟨t,u,v,e⟩ :=x; exact ⟨t,u,v,k _ _ (.inl rfl) e⟩
 | frz ob u ih=>obtain ⟨e,q⟩ :=x; exact ⟨k _ _ (.inl rfl) e,ih q⟩
 | tbl ps=>
  have e:h.get? a=some { cls:=.none,data:=.fields ps }:=x
  show h'.get? a=some { cls:=.none,data:=.fields ps }
  exact k a _ (.inl rfl) e
 | met f y=>
  have e:h.get? a=some (PySem.W.methodObj (.ref f) (.ref y)):=x
  show h'.get? a=some (PySem.W.methodObj (.ref f) (.ref y))
  exact k a _ (.inl rfl) e
 | ext φ=>obtain ⟨p,⟨o,e⟩,st⟩ :=x; exact ⟨st _ _ p fun o q=>k _ _ (.inl rfl) q,⟨o,k _ _ (.inl rfl) e⟩,st⟩
theorem HOk.lt (x:HOk P w H h) (e:H a=some o):a < h.objs.size:=(x a o e).lt
theorem HOk.fresh (x:HOk P w H h) (e:h.objs.size≤a):H a=none:=by
 cases q:H a with
 | none=>rfl
 | some u=>exact absurd (Nat.lt_of_lt_of_le (x.lt q) e) (Nat.lt_irrefl _)
theorem HOk.kept (x:HOk P w H h) (k:∀ b u,h.get? b=some u→h'.get? b=some u):HOk P w H h':=fun a o e=>
 (x a o e).stay (fun b u _ q=>k b u q) (fun _ q=>q) fun _ _ q=>q
theorem HOk.laid (x:HOk P w H h) (k:∀ b u,h.get? b=some u→h'.get? b=some u) (hp:h.objs.size≤a) (new:Zd0 P w (upd H a o) h' a o):HOk P w (upd H a o) h':=fun b u e=>by
 have hn:=x.fresh hp
 by_cases hb:b=a
 ·subst hb; rw [Za3] at e; cases e; exact new
 ·rw [ZbM hb] at e
  exact (x b u e).stay (fun c v _ q=>k c v q) (fun c q=>by rw [ZbM (Zao q hn)]; exact q) fun c xs q=>by rw [ZbM (Zao q hn)]; exact q
end
def Rd (H:Hp) (a:Addr) (u:HO):Prop:=H a=some u∨∃ o,H a=some (.frz o u)
theorem Rd.ok {P:Program} {w:World} {H:Hp} {h:Heap} {a:Addr} {u:HO} (r:Rd H a u) (x:HOk P w H h):Zd0 P w H h a u:=by
 rcases r with r | ⟨o,r⟩
 ·exact x a u r
 ·obtain ⟨_,q⟩ :=x a _ r
  exact q
def Mut:Option HO→Prop
 | some (.lst _)=>True
 | some (.dK _)=>True
 | some (.dT _)=>True
 | some (.set _ _)=>True
 | some (.ins _ _ _)=>True
 | some (.ext _)=>True
 | _=>False
section
variable {P:Program} {w:World} {H:Hp} {h h':Heap} {x e:Addr} {o':HO}
theorem HOk.write (ok:HOk P w H h) (mu:Mut (H x)) (he:e=x∨H e=some (.own x)) (k:∀ b u,b ≠ e→h.get? b=some u→h'.get? b=some u) (heo:∃ u,h'.get? e=some u)
  (new:Zd0 P w (upd H x o') h' x o'):HOk P w (upd H x o') h':=fun b u q=>by
 have nown:∀ c y,H c=some (.own y)→c ≠ x:=fun c y r z=>by subst z; rw [r] at mu; exact mu
 have ntup:∀ c xs,H c=some (.tup xs)→c ≠ x:=fun c xs r z=>by subst z; rw [r] at mu; exact mu
 by_cases hb:b=x
 ·subst hb; rw [Za3] at q; cases q; exact new
 ·rw [ZbM hb] at q
  by_cases hbe:b=e
  ·have q':H b=some (.own x):=by
    rcases he with z | z
    ·exact absurd (hbe.trans z) hb
    ·rw [hbe]; exact z
   rw [q] at q'; cases q'
   obtain ⟨v,hv⟩ :=heo
   exact ⟨v,by rw [hbe]; exact hv⟩
  ·refine (ok b u q).stay (fun c v hc r=>k c v ?_ r) (fun c r=>by rw [ZbM (nown c b r)]; exact r) fun c xs r=>by rw [ZbM (ntup c xs r)]; exact r
   rcases hc with rfl | hc
   ·exact hbe
   ·rintro rfl
    rcases he with z | z
    ·exact nown c b hc z
    ·rw [hc] at z; cases z; exact hb rfl
end
structure Un (fs ex:List Addr) (H H':Hp) (h h':Heap):Prop where
 keep:∀ b o,h.get? b=some o→H b=none→b ∉ fs→b ∉ ex→h'.get? b=some o
 slot:∀ b o,h.get? b=some o→H b=none→b ∈ fs→b ∉ ex→∃ sl,h'.get? b=some { o with slots:=sl }
 free:∀ b o,h.get? b=some o→H b=none→b ∉ ex→H' b=none
 there:∀ b o,h.get? b=some o→b ∉ ex→∃ o',h'.get? b=some o'
 tups:∀ b xs,H b=some (.tup xs)→H' b=some (.tup xs)
 frzs:∀ b o u,H b=some (.frz o u)→H' b=some (.frz o u)
 tbls:∀ b ps,H b=some (.tbl ps)→∃ more,H' b=some (.tbl (ps ++ more))
section
variable {fs fs' ex ex':List Addr} {H H1 H2:Hp} {h h1 h2 h':Heap} {a x e:Addr} {o:HO}
theorem Un.any (u:Un fs ex H H1 h h1) {b:Addr} {ob:Obj} (q:h.get? b=some ob) (n:H b=none) (hx:b ∉ ex):∃ sl,h1.get? b=some { ob with slots:=sl }:=by
 by_cases hb:b ∈ fs
 ·exact u.slot b ob q n hb hx
 ·exact ⟨ob.slots,u.keep b ob q n hb hx⟩
theorem Un.kept (k:∀ b u,h.get? b=some u→h'.get? b=some u):Un fs ex H H h h':=
 ⟨fun b ob q _ _ _=>k b ob q,fun b ob q _ _ _=>⟨ob.slots,k b ob q⟩,fun _ _ _ n _=>n,fun b ob q _=>⟨ob,k b ob q⟩,fun _ _ q=>q,fun _ _ _ q=>q,fun _ ps q=>⟨#[],by rw [q]; simp⟩⟩
theorem Un.refl:Un fs ex H H h h:=Un.kept fun _ _ q=>q
theorem Un.laid (k:∀ b u,h.get? b=some u→h'.get? b=some u) (hp:h.objs.size≤a) (hn:H a=none):Un fs ex H (upd H a o) h h' where
 keep:=fun b u q _ _ _=>k b u q
 slot:=fun b u q _ _ _=>⟨u.slots,k b u q⟩
 free:=fun b u q n _=>by rw [ZbM (Nat.ne_of_lt (Nat.lt_of_lt_of_le (Heap.lt_size q) hp))]; exact n
 there:=fun b u q _=>⟨u,k b u q⟩
 tups:=fun b xs q=>by rw [ZbM (Zao q hn)]; exact q
 frzs:=fun b u xs q=>by rw [ZbM (Zao q hn)]; exact q
 tbls:=fun b ps q=>⟨#[],by rw [ZbM (Zao q hn),q]; simp⟩
theorem Un.write (mu:Mut (H x)) (he:e=x∨H e=some (.own x)) (k:∀ b u,b ≠ e→h.get? b=some u→h'.get? b=some u) (heo:∃ u,h'.get? e=some u):Un fs ex H (upd H x o) h h':=by
 have hx:∀ b,H b=none→b ≠ x:=fun b n z=>by subst z; rw [n] at mu; exact mu
 have hb:∀ b,H b=none→b ≠ e:=fun b n z=>by
  subst z
  rcases he with r | r
  ·exact hx b n r
  ·rw [n] at r; cases r
 have hm:∀ b u,H b=some u→¬ Mut (some u)→b ≠ x:=fun b u q nm z=>by subst z; rw [q] at mu; exact nm mu
 refine ⟨fun b u q n _ _=>k b u (hb b n) q,fun b u q n _ _=>⟨u.slots,k b u (hb b n) q⟩,fun b u q n _=>by rw [ZbM (hx b n)]; exact n,fun b u q _=>?_,
  fun b xs q=>by rw [ZbM (hm b _ q fun z=>z)]; exact q,fun b u xs q=>by rw [ZbM (hm b _ q fun z=>z)]; exact q,fun b ps q=>⟨#[],by rw [ZbM (hm b _ q fun z=>z),q]; simp⟩⟩
 by_cases hbe:b=e
 ·subst hbe; exact heo
 ·exact ⟨u,k b u hbe q⟩
end
def trk (h:Heap) (H:Hp):List Addr:=(List.range h.objs.size).filter fun a=>(H a).isSome
def hidT (h:Heap) (H:Hp):Heap:=PySem.W.hideAll h (trk h H)
theorem ZDB (h:Heap) (H:Hp):(hidT h H).objs.size=h.objs.size:=PySem.W.hideAll_size _ _
theorem ZFM {h:Heap} {H:Hp} {b:Addr} {o:Obj} (e:h.get? b=some o) (n:H b=none):(hidT h H).get? b=some o:=
 PySem.W.hideAll_get _ e fun hm=>by
  have q:(H b).isSome=true:=(List.mem_filter.mp hm).2
  rw [n] at q; simp at q
theorem ZIi {h:Heap} {H:Hp} {b:Addr} {o:Obj} (e:(hidT h H).get? b=some o):h.get? b=some o∧H b=none:=by
 have e':h.get? b=some o:=PySem.W.of_hideAll (trk h H) e
 refine ⟨e',?_⟩
 cases q:H b with
 | none=>rfl
 | some x=>
  have hm:b ∈ trk h H:=List.mem_filter.mpr ⟨List.mem_range.mpr (Heap.lt_size e'),by simp [q]⟩
  have z:(hidT h H).get? b=none:=PySem.W.hideAll_none (trk h H) hm
  rw [z] at e; cases e
end L2
namespace L2
open PySem PySem.Spec PyProof.Rows
structure Mod (K:PySem.W.Frag) (mg:Str→Option Value) (base:Heap):Prop where
 kin:K.In base
 glob:base.Ns mainGlobals mg
 blt:∃ mb,base.Ns builtinsNs mb∧∀ x:Str,x ≠ "__name__"→mb x=bootBuiltins x
 nolimit:base.NoLimit
structure Cx where
 prog:Program
 w:World
 K:PySem.W.Frag
 mg:Str→Option Value
 base:Heap
 A:Around
 N:List Str
 s₀:Shared
 H₀:Hp
 env:Env
 outer:List Env
 stack:List Env
 ex:List Addr
 fn:Str→Bool
 calm:Bool
 pn:List (Addr × Obj)
 xe:Value→Shared→Prop
def frs (l:List Env):List Addr:=l.filterMap (·.frame)
abbrev Cx.fs (X:Cx):List Addr:=frs X.outer
def Vis (sc:Scope) (x:Str):Prop:=sc.names.lookup x=some .local∨sc.names.lookup x=some .cell∨sc.names.lookup x=some .free
def Loc (sc:Scope) (x:Str):Prop:=sc.names.lookup x=some .local∨sc.names.lookup x=some .cell
def Look (env:Env) (h:Heap) (m:Str→Option Value) (x:Str) (u:Value):Prop:=
 (env.kindOf x=some .local∧m x=some u)∨((env.kindOf x=some .cell∨env.kindOf x=some .free)∧∃ c,env.cells.lookup x=some c∧h.IsCell c (some u))
structure Cx.Ok (X:Cx):Prop where
 mod:Mod X.K X.mg X.base
 kind:X.env.scope.kind=.function
 glob:X.env.globals=mainGlobals
 blt:X.env.builtins=builtinsNs
 above:X.s₀.heap.objs.size≤X.env.locals
 inj:∀ x y c,X.env.cells.lookup x=some c→X.env.cells.lookup y=some c→x=y
 has:∀ x,(X.env.kindOf x=some .cell∨X.env.kindOf x=some .free)→∃ c,X.env.cells.lookup x=some c
 cab:∀ x c,X.fn x=true→X.env.cells.lookup x=some c→X.s₀.heap.objs.size≤c
 hd:X.calm=true→X.A.handled=none
 frames:X.A.frames=some X.stack
 stk:X.stack=X.outer∨(X.stack=X.env :: X.outer∧X.env.frame=some X.env.locals)
 exf:∀ b ∈ X.ex,b ≠ X.env.locals∧∀ x c,X.env.cells.lookup x=some c→c ≠ b
 bs:∀ b o,X.base.get? b=some o→X.s₀.heap.get? b=some o∧X.H₀ b=none
 bsz:X.base.objs.size≤X.s₀.heap.objs.size
 noex:∀ b o,X.base.get? b=some o→b ∉ X.ex
 exfs:∀ b ∈ X.ex,b ∉ X.fs
 funs:X.s₀.heap.FunFrames X.base X.outer
 frf:∀ b ∈ X.fs,X.H₀ b=none
structure Inv (X:Cx) (pins:List (Addr × Obj)) (σ:List (Option V)) (H:Hp) (s:Shared):Prop where
 ok:X.Ok
 os:s.os=X.s₀.os
 bare:AllBare s.gens
 base:Un X.fs X.ex X.H₀ H X.s₀.heap s.heap
 loc:∃ m,s.heap.Ns X.env.locals m∧∀ (i:Nat) (x:Str) (v:V),X.N[i]?=some x→σ[i]?=some (some v)→Vis X.env.scope x→∃ u,RelV v u∧Look X.env s.heap m x u
 cell:∀ x c,X.env.cells.lookup x=some c→∃ v,s.heap.IsCell c v
 free:H X.env.locals=none
 freeC:∀ x c,X.env.cells.lookup x=some c→H c=none
 pin:∀ p ∈ X.pn ++ pins,s.heap.get? p.1=some p.2∧H p.1=none∧p.1 ≠ X.env.locals∧p.1 ∉ X.fs∧∀ v,p.2.data ≠ .cell v
 hok:HOk X.prog X.w H s.heap
 len:σ.length=X.N.length
section
variable {X:Cx} {pins:List (Addr × Obj)} {σ:List (Option V)} {H H':Hp} {s:Shared} {h':Heap}
theorem Cx.Ok.nofr (ok:X.Ok) {b:Addr} {o:Obj} (e:X.base.get? b=some o):b ∉ X.fs:=fun hb=>by
 have:=(ok.funs.mem hb).1
 rw [e] at this; cases this
theorem Inv.bs (I:Inv X pins σ H s):∀ b o,X.base.get? b=some o→s.heap.get? b=some o∧H b=none:=fun b o e=>
 ⟨I.base.keep b o (I.ok.bs b o e).1 (I.ok.bs b o e).2 (I.ok.nofr e) (I.ok.noex b o e),I.base.free b o (I.ok.bs b o e).1 (I.ok.bs b o e).2 (I.ok.noex b o e)⟩
theorem Inv.bk (I:Inv X pins σ H s):∀ b o,X.base.get? b=some o→s.heap.get? b=some o:=fun b o e=>(I.bs b o e).1
theorem Inv.mod (I:Inv X pins σ H s):Mod X.K X.mg X.base:=I.ok.mod
theorem Inv.kIn (I:Inv X pins σ H s):X.K.In s.heap:=I.ok.mod.kin.keeps I.bk
theorem Inv.lt (I:Inv X pins σ H s):X.env.locals < s.heap.objs.size:=let ⟨_,hn,_⟩ :=I.loc; hn.lt
theorem Inv.sz (I:Inv X pins σ H s):X.s₀.heap.objs.size≤s.heap.objs.size:=Nat.le_trans I.ok.above (Nat.le_of_lt I.lt)
theorem Inv.nofs (I:Inv X pins σ H s) {a:Addr} (h:s.heap.objs.size≤a):a ∉ X.fs:=fun hb=>by
 obtain ⟨_,o,ho,_⟩ :=I.ok.funs.mem hb
 exact absurd (Nat.lt_of_lt_of_le (Heap.lt_size ho) (Nat.le_trans I.sz h)) (Nat.lt_irrefl _)
theorem Inv.cne (I:Inv X pins σ H s):∀ x c,X.env.cells.lookup x=some c→c ≠ X.env.locals:=fun x c e z=>by
 obtain ⟨v,o,ho,hd⟩ :=I.cell x c e
 obtain ⟨m,⟨o',es,ep,ho',hd',_⟩,_⟩ :=I.loc
 rw [z,ho'] at ho; cases ho; rw [hd'] at hd; cases hd
theorem Inv.funs (I:Inv X pins σ H s):s.heap.FunFrames X.base X.outer:=by
 have all:∀ (l:List Env),(∀ b ∈ frs l,b ∈ X.fs)→X.s₀.heap.FunFrames X.base l→s.heap.FunFrames X.base l:=by
  intro l
  induction l with
  | nil=>intro _ _; trivial
  | cons env r ih=>
   intro hs hl
   obtain ⟨hk,⟨L,o,hf,hn,ho,hd⟩,hr⟩ :=hl
   have hL:L ∈ X.fs:=hs L (by unfold frs; rw [List.filterMap_cons,hf]; exact List.mem_cons_self)
   obtain ⟨sl,e⟩ :=I.base.slot L o ho (I.ok.frf L hL) hL fun z=>I.ok.exfs L z hL
   exact ⟨hk,⟨L,_,hf,hn,e,hd⟩,ih (fun b hb=>hs b (by unfold frs; rw [List.filterMap_cons,hf]; exact List.mem_cons_of_mem _ hb)) hr⟩
 exact all X.outer (fun _ hb=>hb) I.ok.funs
theorem Inv.stack (I:Inv X pins σ H s):s.heap.FunFrames X.base X.stack:=by
 rcases I.ok.stk with e | ⟨e,hf⟩
 ·rw [e]; exact I.funs
 ·rw [e]
  obtain ⟨m,hn,_⟩ :=I.loc
  refine .cons (by rw [I.ok.kind]; decide) hf hn ?_ I.funs
  exact Heap.get?_none_of_le (Nat.le_trans I.ok.bsz I.ok.above)
theorem Inv.stkSub (I:Inv X pins σ H s):∀ b ∈ frs X.stack,b ∈ X.env.locals :: X.fs:=fun b hb=>by
 rcases I.ok.stk with e | ⟨e,hf⟩
 ·rw [e] at hb; exact List.mem_cons_of_mem _ hb
 ·rw [e] at hb
  unfold frs at hb
  rw [List.filterMap_cons,hf] at hb
  exact hb
theorem Inv.stkFree (I:Inv X pins σ H s):∀ b ∈ frs X.stack,H b=none:=fun b hb=>by
 rcases List.mem_cons.mp (I.stkSub b hb) with e | hb
 ·rw [e]; exact I.free
 ·obtain ⟨_,o,ho,_⟩ :=I.ok.funs.mem hb
  exact I.base.free b o ho (I.ok.frf b hb) fun z=>I.ok.exfs b z hb
theorem Inv.step {g':Array GenState} {t':Nat} {d':Drawn} {ch:List Addr} (I:Inv X pins σ H s)
  (hch:∀ b ∈ ch,(b ∈ X.ex∨X.s₀.heap.objs.size≤b)∧b ≠ X.env.locals∧(∀ x c,X.env.cells.lookup x=some c→c ≠ b)∧∀ p ∈ X.pn ++ pins,p.1 ≠ b)
  (keep:∀ b o,b ≠ X.env.locals→b ∉ X.fs→b ∉ ch→s.heap.get? b=some o→H b=none→h'.get? b=some o)
  (slot:∀ b o,b ≠ X.env.locals→b ∈ X.fs→b ∉ ch→s.heap.get? b=some o→H b=none→∃ sl,h'.get? b=some { o with slots:=sl }) (free:∀ b o,b ∉ ch→s.heap.get? b=some o→H b=none→H' b=none)
  (there:∀ b o,b ∉ ch→s.heap.get? b=some o→∃ o',h'.get? b=some o')
  (tups:∀ b xs,H b=some (.tup xs)→H' b=some (.tup xs)) (frzs:∀ b o u,H b=some (.frz o u)→H' b=some (.frz o u)) (tbls:∀ b ps,H b=some (.tbl ps)→∃ more,H' b=some (.tbl (ps ++ more)))
  (ns:∀ m,s.heap.Ns X.env.locals m→h'.Ns X.env.locals m) (hok:HOk X.prog X.w H' h') (hg:AllBare g') :
  Inv X pins σ H' { s with heap:=h',gens:=g',drawn:=d',toks:=t' }:=by
 have neL:∀ b o,X.s₀.heap.get? b=some o→b ≠ X.env.locals:=fun b o e=>Nat.ne_of_lt (Nat.lt_of_lt_of_le (Heap.lt_size e) I.ok.above)
 have neC:∀ b o,X.s₀.heap.get? b=some o→b ∉ X.ex→b ∉ ch:=fun b o e hx hb=>by
  rcases (hch b hb).1 with z | z
  ·exact hx z
  ·exact absurd (Nat.lt_of_lt_of_le (Heap.lt_size e) z) (Nat.lt_irrefl _)
 have cellK:∀ x c,X.env.cells.lookup x=some c→∀ v,s.heap.IsCell c v→h'.IsCell c v:=fun x c e v ⟨o,ho,hd⟩ =>by
  have nch:c ∉ ch:=fun z=>(hch c z).2.2.1 x c e rfl
  by_cases hc:c ∈ X.fs
  ·obtain ⟨sl,q⟩ :=slot c o (I.cne x c e) hc nch ho (I.freeC x c e)
   exact ⟨_,q,hd⟩
  ·exact ⟨o,keep c o (I.cne x c e) hc nch ho (I.freeC x c e),hd⟩
 refine ⟨I.ok,I.os,hg,⟨fun b o e n hb hx=>?_,fun b o e n hb hx=>?_,fun b o e n hx=>?_,fun b o e hx=>?_,fun b xs e=>tups b xs (I.base.tups b xs e),fun b o xs e=>frzs b o xs (I.base.frzs b o xs e),fun b ps e=>?_⟩,?_,fun x c e=>?_,?_,fun x c e=>?_,fun p hp=>?_,hok,I.len⟩
 ·exact keep b o (neL b o e) hb (neC b o e hx) (I.base.keep b o e n hb hx) (I.base.free b o e n hx)
 ·obtain ⟨sl,e1⟩ :=I.base.slot b o e n hb hx
  obtain ⟨sl',e2⟩ :=slot b _ (neL b o e) hb (neC b o e hx) e1 (I.base.free b o e n hx)
  exact ⟨sl',e2⟩
 ·obtain ⟨o',e1⟩ :=I.base.there b o e hx
  exact free b o' (neC b o e hx) e1 (I.base.free b o e n hx)
 ·obtain ⟨o',e1⟩ :=I.base.there b o e hx
  exact there b o' (neC b o e hx) e1
 ·obtain ⟨m1,e1⟩ :=I.base.tbls b ps e
  obtain ⟨m2,e2⟩ :=tbls b _ e1
  exact ⟨m1 ++ m2,by rw [e2,Array.append_assoc]⟩
 ·obtain ⟨m,hn,hl⟩ :=I.loc
  refine ⟨m,ns m hn,fun i x v e1 e2 e3=>?_⟩
  obtain ⟨u,r,l⟩ :=hl i x v e1 e2 e3
  refine ⟨u,r,?_⟩
  rcases l with l | ⟨k,c,e,z⟩
  ·exact .inl l
  ·exact .inr ⟨k,c,e,cellK x c e _ z⟩
 ·obtain ⟨v,z⟩ :=I.cell x c e
  exact ⟨v,cellK x c e v z⟩
 ·obtain ⟨m,⟨o,_,_,ho,_⟩,_⟩ :=I.loc
  exact free _ o (fun z=>(hch _ z).2.1 rfl) ho I.free
 ·obtain ⟨v,o,ho,hd⟩ :=I.cell x c e
  exact free c o (fun z=>(hch c z).2.2.1 x c e rfl) ho (I.freeC x c e)
 ·obtain ⟨e,n,ne,nf,d⟩ :=I.pin p hp
  have nch:p.1 ∉ ch:=fun z=>(hch p.1 z).2.2.2 p hp rfl
  exact ⟨keep p.1 p.2 ne nf nch e n,free p.1 p.2 nch e n,ne,nf,d⟩
theorem Inv.un {t':Nat} (I:Inv X pins σ H s) (u:Un X.fs [] H H' s.heap h') (hok:HOk X.prog X.w H' h'):Inv X pins σ H' { s with heap:=h',toks:=t' }:=by
 obtain ⟨m,⟨o,es,ep,ho,r⟩,_⟩ :=id I.loc
 obtain ⟨sl,hL⟩ :=u.any ho I.free (by simp)
 exact I.step (g':=s.gens) (d':=s.drawn) (ch:=[]) (fun _ z=>nomatch z) (fun b o _ hb _ e n=>u.keep b o e n hb (by simp)) (fun b o _ hb _ e n=>u.slot b o e n hb (by simp)) (fun b o _ e n=>u.free b o e n (by simp)) (fun b o _ e=>u.there b o e (by simp)) u.tups u.frzs u.tbls (fun m' hm=>by
  obtain ⟨o',es',ep',ho',r'⟩ :=hm
  rw [ho] at ho'; cases ho'
  exact ⟨_,es',ep',hL,r'⟩) hok I.bare
theorem Inv.call {g':Array GenState} {t':Nat} {d':Drawn} {ch:List Addr} (I:Inv X pins σ H s) (u:Un (frs X.stack) ch H H' s.heap h') (hok:HOk X.prog X.w H' h') (hg:AllBare g')
  (hch:∀ b ∈ ch,(b ∈ X.ex∨X.s₀.heap.objs.size≤b)∧b ≠ X.env.locals∧(∀ x c,X.env.cells.lookup x=some c→c ≠ b)∧∀ p ∈ X.pn ++ pins,p.1 ≠ b) :
  Inv X pins σ H' { s with heap:=h',gens:=g',drawn:=d',toks:=t' }:=by
 obtain ⟨m,⟨o,es,ep,ho,r⟩,_⟩ :=id I.loc
 obtain ⟨sl,hL⟩ :=u.any ho I.free fun z=>(hch _ z).2.1 rfl
 exact I.step (ch:=ch) hch (fun b o hL hb hc e n=>u.keep b o e n (fun z=>(List.mem_cons.mp (I.stkSub b z)).elim hL hb) hc) (fun b o _ _ hc e n=>u.any e n hc) (fun b o hc e n=>u.free b o e n hc) (fun b o hc e=>u.there b o e hc) u.tups u.frzs u.tbls (fun m' hm=>by
  obtain ⟨o',es',ep',ho',r'⟩ :=hm
  rw [ho] at ho'; cases ho'
  exact ⟨_,es',ep',hL,r'⟩) hok hg
theorem Inv.turned {t':Nat} {it:Addr} (I:Inv X pins σ H s) (k:∀ b o,b ≠ it→s.heap.get? b=some o→h'.get? b=some o) (hn:H it=none) (hL:it ≠ X.env.locals)
  (h1:it ∈ X.ex∨X.s₀.heap.objs.size≤it) (h2:∀ x c,X.env.cells.lookup x=some c→c ≠ it) (h3:∀ p ∈ X.pn ++ pins,p.1 ≠ it):Inv X pins σ H { s with heap:=h',toks:=t' }:=by
 have nit:∀ b u,H b=some u→b ≠ it:=fun b u e z=>by rw [z,hn] at e; cases e
 refine I.step (g':=s.gens) (d':=s.drawn) (ch:=[it]) (fun b hb=>?_) (fun b o _ _ hc e _=>k b o (fun z=>hc (by simp [z])) e) (fun b o _ _ hc e _=>⟨o.slots,k b o (fun z=>hc (by simp [z])) e⟩) (fun _ _ _ _ n=>n)
  (fun b o hc e=>⟨o,k b o (fun z=>hc (by simp [z])) e⟩) (fun _ _ e=>e) (fun _ _ _ e=>e) (fun b ps e=>⟨#[],by rw [e]; simp⟩) (fun m hm=>?_) (fun b u e=>?_) I.bare
 ·have e:b=it:=by simpa using hb
  subst e
  exact ⟨h1,hL,h2,h3⟩
 ·obtain ⟨o,es,ep,ho,r⟩ :=hm
  exact ⟨o,es,ep,k _ o (Ne.symm hL) ho,r⟩
 ·refine (I.hok b u e).stay (fun c v hc q=>k c v ?_ q) (fun _ q=>q) fun _ _ q=>q
  rcases hc with z | z
  ·rw [z]; exact nit b u e
  ·exact nit c _ z
theorem Inv.tok (I:Inv X pins σ H s) (t:Nat):Inv X pins σ H { s with toks:=t }:=I.un (h':=s.heap) (t':=t) Un.refl I.hok
theorem Inv.kept {t':Nat} (I:Inv X pins σ H s) (k:∀ b u,s.heap.get? b=some u→h'.get? b=some u):Inv X pins σ H { s with heap:=h',toks:=t' }:=I.un (Un.kept k) (I.hok.kept k)
theorem Inv.laid {a:Addr} {o:HO} {t':Nat} (I:Inv X pins σ H s) (k:∀ b u,s.heap.get? b=some u→h'.get? b=some u) (hp:s.heap.objs.size≤a) (new:Zd0 X.prog X.w (upd H a o) h' a o) :
  Inv X pins σ (upd H a o) { s with heap:=h',toks:=t' }:=I.un (Un.laid k hp (I.hok.fresh hp)) (I.hok.laid k hp new)
theorem Inv.write {x e:Addr} {o:HO} {t':Nat} (I:Inv X pins σ H s) (mu:Mut (H x)) (he:e=x∨H e=some (.own x)) (k:∀ b u,b ≠ e→s.heap.get? b=some u→h'.get? b=some u) (heo:∃ u,h'.get? e=some u)
  (new:Zd0 X.prog X.w (upd H x o) h' x o):Inv X pins σ (upd H x o) { s with heap:=h',toks:=t' }:=I.un (Un.write mu he k heo) (I.hok.write mu he k heo new)
theorem Inv.pins_of {pins':List (Addr × Obj)} (I:Inv X pins σ H s) (h:∀ p ∈ pins',s.heap.get? p.1=some p.2∧H p.1=none∧p.1 ≠ X.env.locals∧p.1 ∉ X.fs∧∀ v,p.2.data ≠ .cell v):Inv X pins' σ H s:=
 ⟨I.ok,I.os,I.bare,I.base,I.loc,I.cell,I.free,I.freeC,fun p hp=>(List.mem_append.mp hp).elim (fun z=>I.pin p (List.mem_append_left _ z)) (h p),I.hok,I.len⟩
theorem Zxh {N:List Str} (hN:N.Nodup) {i j:Nat} {x:Str} (a:N[i]?=some x) (b:N[j]?=some x):i=j:=by
 obtain ⟨h1,e1⟩ :=List.getElem?_eq_some_iff.mp a
 obtain ⟨h2,e2⟩ :=List.getElem?_eq_some_iff.mp b
 exact (List.getElem_inj hN).mp (e1.trans e2.symm)
theorem ZFa {M:Model} {A:Around} {E:Value→Shared→Prop} {i:Nat} {x:Str} {v:V} {u:Value} {Q:Unit→Shared→Prop} (I:Inv X pins σ H s) (hN:X.N.Nodup) (hi:X.N[i]?=some x) (hx:Loc X.env.scope x) (r:RelV v u)
  (h:∀ s',Inv X pins (σ.set i (some v)) H s'→(∃ a,Heap.SameBut a s.heap s'.heap∧(a=X.env.locals∨X.env.cells.lookup x=some a))→Q () s') (hf:X.fn x=true∨X.env.scope.names.lookup x=some .local:=by first | exact .inl rfl | exact .inr rfl | assumption):wpAny M A (storeName X.env x u) Q E s:=by
 obtain ⟨m,hn,hl⟩ :=id I.loc
 have hcls:(X.env.scope.kind == .class || (X.env.scope.kind == .module && X.env.locals != X.env.globals))=false:=by rw [I.ok.kind]; rfl
 have hiσ:i < σ.length:=by rw [I.len]; exact (List.getElem?_eq_some_iff.mp hi).1
 have cne:=I.cne
 have tracked:∀ {a:Addr} {h':Heap},(∃ o,s.heap.get? a=some o∧H a=none)→Heap.SameBut a s.heap h'→HOk X.prog X.w H h':=fun {a h'} ha hs b ob e=>by
  obtain ⟨_,_,hfree⟩ :=ha
  refine (I.hok b ob e).stay (fun c w' hc q=>(hs.2 c ?_).trans q) (fun _ q=>q) fun _ _ q=>q
  rintro rfl
  rcases hc with rfl | hc
  ·rw [hfree] at e; cases e
  ·rw [hfree] at hc; cases hc
 rcases hx with hk | hk
 ·refine wpAny_storeName_local hk hn (fun h' hn' hs=>?_) hcls
  obtain ⟨oL,_,_,hoL,_⟩ :=id hn
  refine h _ ⟨I.ok,I.os,I.bare,⟨fun b o e n hb hx=>?_,fun b o e n hb hx=>?_,I.base.free,fun b o e hx=>?_,I.base.tups,I.base.frzs,I.base.tbls⟩,⟨_,hn',fun j y v' e1 e2 e3=>?_⟩,fun y c e=>?_,I.free,I.freeC,fun p hp=>?_,tracked ⟨oL,hoL,I.free⟩ hs,by simpa using I.len⟩ ⟨_,hs,.inl rfl⟩
  ·exact (hs.2 b (Nat.ne_of_lt (Nat.lt_of_lt_of_le (Heap.lt_size e) I.ok.above))).trans (I.base.keep b o e n hb hx)
  ·obtain ⟨sl,e1⟩ :=I.base.slot b o e n hb hx
   exact ⟨sl,(hs.2 b (Nat.ne_of_lt (Nat.lt_of_lt_of_le (Heap.lt_size e) I.ok.above))).trans e1⟩
  ·obtain ⟨o',e1⟩ :=I.base.there b o e hx
   exact ⟨o',(hs.2 b (Nat.ne_of_lt (Nat.lt_of_lt_of_le (Heap.lt_size e) I.ok.above))).trans e1⟩
  ·by_cases hj:j=i
   ·subst hj
    rw [hi] at e1; cases e1
    rw [List.getElem?_set_self hiσ] at e2
    cases e2
    exact ⟨u,r,.inl ⟨hk,by simp⟩⟩
   ·rw [List.getElem?_set_ne (Ne.symm hj)] at e2
    obtain ⟨u',r',q⟩ :=hl j y v' e1 e2 e3
    refine ⟨u',r',?_⟩
    rcases q with ⟨k,e⟩ | ⟨k,c,e,z⟩
    ·refine .inl ⟨k,?_⟩
     have:y ≠ x:=fun e=>hj (Zxh hN e1 (e ▸ hi))
     simp [this,e]
    ·exact .inr ⟨k,c,e,z.sameBut hs (cne y c e)⟩
  ·obtain ⟨w',z⟩ :=I.cell y c e
   exact ⟨w',z.sameBut hs (cne y c e)⟩
  ·obtain ⟨e,n,ne,nf,d⟩ :=I.pin p hp
   exact ⟨(hs.2 p.1 ne).trans e,n,ne,nf,d⟩
 ·have hfn:X.fn x=true:=by
   rcases hf with z | z
   ·exact z
   ·rw [z] at hk; cases hk
  obtain ⟨c,hc⟩ :=I.ok.has x (.inl hk)
  obtain ⟨w',z⟩ :=I.cell x c hc
  refine wpAny_storeName_cell I.ok.kind hk hc z (fun h' hc' hs=>?_)
  obtain ⟨oc,hoc,hocd⟩ :=id z
  refine h { s with heap:=h' } ⟨I.ok,I.os,I.bare,⟨fun b o e n hb hx=>?_,fun b o e n hb hx=>?_,I.base.free,fun b o e hx=>?_,I.base.tups,I.base.frzs,I.base.tbls⟩,⟨m,hn.sameBut hs (Ne.symm (cne x c hc)),fun j y v' e1 e2 e3=>?_⟩,fun y c' e=>?_,I.free,I.freeC,fun p hp=>?_,tracked ⟨oc,hoc,I.freeC x c hc⟩ hs,by simpa using I.len⟩ ⟨c,hs,.inr hc⟩
  ·exact (hs.2 b (Nat.ne_of_lt (Nat.lt_of_lt_of_le (Heap.lt_size e) (I.ok.cab x c hfn hc)))).trans (I.base.keep b o e n hb hx)
  ·obtain ⟨sl,e1⟩ :=I.base.slot b o e n hb hx
   exact ⟨sl,(hs.2 b (Nat.ne_of_lt (Nat.lt_of_lt_of_le (Heap.lt_size e) (I.ok.cab x c hfn hc)))).trans e1⟩
  ·obtain ⟨o',e1⟩ :=I.base.there b o e hx
   exact ⟨o',(hs.2 b (Nat.ne_of_lt (Nat.lt_of_lt_of_le (Heap.lt_size e) (I.ok.cab x c hfn hc)))).trans e1⟩
  ·by_cases hj:j=i
   ·subst hj
    rw [hi] at e1; cases e1
    rw [List.getElem?_set_self hiσ] at e2
    cases e2
    exact ⟨u,r,.inr ⟨.inl hk,c,hc,hc'⟩⟩
   ·rw [List.getElem?_set_ne (Ne.symm hj)] at e2
    obtain ⟨u',r',q⟩ :=hl j y v' e1 e2 e3
    refine ⟨u',r',?_⟩
    rcases q with q | ⟨k,c',e,z'⟩
    ·exact .inl q
    ·refine .inr ⟨k,c',e,z'.sameBut hs ?_⟩
     rintro rfl
     exact hj (Zxh hN e1 (I.ok.inj _ _ _ e hc ▸ hi))
  ·by_cases hcc:c'=c
   ·subst hcc; exact ⟨_,hc'⟩
   ·obtain ⟨w2,z2⟩ :=I.cell y c' e
    exact ⟨w2,z2.sameBut hs hcc⟩
  ·obtain ⟨e,n,ne,nf,d⟩ :=I.pin p hp
   refine ⟨(hs.2 p.1 ?_).trans e,n,ne,nf,d⟩
   intro q
   rw [q,hoc] at e
   have q':oc=p.2:=Option.some.inj e
   exact d w' (by rw [← q']; exact hocd)
theorem Zx8 {M:Model} {A:Around} {E:Value→Shared→Prop} {i:Nat} {x:Str} {v:V} {u:Value} {Q:Unit→Shared→Prop} (I:Inv X pins σ H s) (hN:X.N.Nodup) (hi:X.N[i]?=some x) (hx:Loc X.env.scope x) (r:RelV v u)
  (h:∀ s',Inv X pins (σ.set i (some v)) H s'→Q () s') (hf:X.fn x=true∨X.env.scope.names.lookup x=some .local:=by first | exact .inl rfl | exact .inr rfl | assumption):wpAny M A (storeName X.env x u) Q E s:=
 ZFa I hN hi hx r (fun s' I' _=>h s' I') hf
theorem Inv.call' {s':Shared} {ch:List Addr} (I:Inv X pins σ H s) (ho:s'.os=s.os) (u:Un (frs X.stack) ch H H' s.heap s'.heap) (hok:HOk X.prog X.w H' s'.heap) (hg:AllBare s'.gens)
  (hch:∀ b ∈ ch,(b ∈ X.ex∨X.s₀.heap.objs.size≤b)∧b ≠ X.env.locals∧(∀ x c,X.env.cells.lookup x=some c→c ≠ b)∧∀ p ∈ X.pn ++ pins,p.1 ≠ b):Inv X pins σ H' s':=by
 obtain ⟨h',g',d',t',o'⟩ :=s'
 have e:o'=s.os:=ho
 subst e
 exact I.call (g':=g') (t':=t') (d':=d') u hok hg hch
end
abbrev XK:=Value→Option Addr→Hp→Prop
abbrev St:=List (Option V)
abbrev VK:=V→Hp→Prop
abbrev TE:=St→Hp→VK→Prop
abbrev TT:=St→Hp→(Bool→Hp→Prop)→Prop
abbrev TA:=St→Hp→(List V→Hp→Prop)→Prop
structure Ends where
 nx:St→Hp→Prop
 rt:VK
 bk:St→Hp→Prop:=fun _ _=>False
 ct:St→Hp→Prop:=fun _ _=>False
abbrev TS:=Ends→St→Hp→Prop
def EP (X:Cx) (pins:List (Addr × Obj)) (σ:St) (Q:VK) (u:Value) (s':Shared):Prop:=∃ v H',Inv X pins σ H' s'∧RelV v u∧Q v H'
def TP (X:Cx) (pins:List (Addr × Obj)) (σ:St) (Q:Bool→Hp→Prop) (b:Bool) (s':Shared):Prop:=∃ H',Inv X pins σ H' s'∧Q b H'
def AP (X:Cx) (pins:List (Addr × Obj)) (σ:St) (Q:List V→Hp→Prop) (us:List Value) (s':Shared):Prop:=∃ vs H',Inv X pins σ H' s'∧Vals vs us∧Q vs H'
def SP (X:Cx) (pins:List (Addr × Obj)) (D:Ends) (f:Flow) (s':Shared):Prop:=
 match f with
 | .next=>∃ σ' H',Inv X pins σ' H' s'∧D.nx σ' H'
 | .brk=>∃ σ' H',Inv X pins σ' H' s'∧D.bk σ' H'
 | .cont=>∃ σ' H',Inv X pins σ' H' s'∧D.ct σ' H'
 | .ret u=>∃ v σ' H',Inv X pins σ' H' s'∧RelV v u∧D.rt v H'
def PE (X:Cx) (e:Expr) (t:TE):Prop:=
 ∀ (pins:List (Addr × Obj)) (s:Shared) (σ:St) (H:Hp) (Q:VK),Inv X pins σ H s→t σ H Q→wpAny (model X.prog X.w) X.A (eval e X.env) (EP X pins σ Q) X.xe s
def PT (X:Cx) (e:Expr) (t:TT):Prop:=
 ∀ (pins:List (Addr × Obj)) (s:Shared) (σ:St) (H:Hp) (Q:Bool→Hp→Prop),Inv X pins σ H s→t σ H Q→wpAny (model X.prog X.w) X.A (isTrue e X.env (eval e X.env)) (TP X pins σ Q) X.xe s
def PW (X:Cx) (e:Expr) (t:TT):Prop:=
 ∀ (whole:Sem Value) (pins:List (Addr × Obj)) (s:Shared) (σ:St) (H:Hp) (Q:Bool→Hp→Prop),Inv X pins σ H s→t σ H Q→wpAny (model X.prog X.w) X.A (isTrue e X.env whole) (TP X pins σ Q) X.xe s
theorem PW.pt {X:Cx} {e:Expr} {t:TT} (h:PW X e t):PT X e t:=h _
def PA (X:Cx) (es:List Expr) (t:TA):Prop:=
 ∀ (pos:Pos) (pins:List (Addr × Obj)) (s:Shared) (σ:St) (H:Hp) (Q:List V→Hp→Prop),Inv X pins σ H s→t σ H Q→wpAny (model X.prog X.w) X.A (spliced (backTo pos (starEach es X.env))) (AP X pins σ Q) X.xe s
def PS (X:Cx) (st:Stmt) (t:TS):Prop:=
 ∀ (pins:List (Addr × Obj)) (s:Shared) (σ:St) (H:Hp) (D:Ends),Inv X pins σ H s→t D σ H→wpAny (model X.prog X.w) X.A (exec st X.env) (SP X pins D) X.xe s
def PSs (X:Cx) (st:List Stmt) (t:TS):Prop:=
 ∀ (pins:List (Addr × Obj)) (s:Shared) (σ:St) (H:Hp) (D:Ends),Inv X pins σ H s→t D σ H→wpAny (model X.prog X.w) X.A (execs st X.env) (SP X pins D) X.xe s
theorem thn {α:Type} {t:Sem α} {Q Q':α→Shared→Prop} {M:Model} {A:Around} {E:Value→Shared→Prop} {s:Shared} (h:wpAny M A t Q E s) (hQ:∀ a s,Q a s→Q' a s):wpAny M A t Q' E s:=wpAny_mono h hQ fun _ _ x=>x
end L2
namespace L2
open PySem PySem.Spec PyProof.Rows
section
variable {X:Cx}
def tVar (i:Nat):TE:=fun σ H Q=>∃ v,σ[i]?=some (some v)∧Q v H
def tC (v:V):TE:=fun _ H Q=>Q v H
theorem ZJ8 {i:Nat} {x:Str} {pos:Pos} (hN:X.N[i]?=some x) (hv:Vis X.env.scope x) (hd:(x == ("__debug__" : Str))=false:=by decide) (hcd:(x == ("__classdict__" : Str))=false:=by decide):PE X (.Name x pos) (tVar i):=by
 intro pins s σ H Q I h
 obtain ⟨v,e,h⟩ :=h
 obtain ⟨m,hn,hl⟩ :=I.loc
 obtain ⟨u,r,l⟩ :=hl i x v hN e hv
 have fin:EP X pins σ Q u s:=⟨v,H,I,r,h⟩
 rcases l with ⟨hk,hm⟩ | ⟨hk,c,hc,hcell⟩
 ·exact wpAny_Name (wpAny_loadName_local I.ok.kind hk hn hm fin) hd
 ·rcases hk with hk | hk
  ·exact wpAny_Name (wpAny_loadName_cell I.ok.kind hk hc hcell fin) hd
  ·exact wpAny_Name (wpAny_loadName_free I.ok.kind hk hc hcell fin hcd) hd
theorem Zae {i j pos}:PE X (.Constant (.int i) j pos) (tC (.int i)):=fun _ _ _ H _ I h=>wpAny_Constant_int ⟨.int i,H,I.tok _,⟨_,rfl⟩,h⟩
theorem Zny {b j pos}:PE X (.Constant (.bool b) j pos) (tC (.bl b)):=fun _ _ _ H _ I h=>Constant_bool ⟨.bl b,H,I,rfl,h⟩
theorem ZED {j pos}:PE X (.Constant .none j pos) (tC .non):=fun _ _ _ H _ I h=>Constant_none ⟨.non,H,I,rfl,h⟩
theorem Zak {x j pos}:PE X (.Constant (.str x) j pos) (tC (.str x)):=fun _ _ _ H _ I h=>Calls.Constant_str ⟨.str x,H,I.tok _,⟨_,rfl⟩,h⟩
def Gl (X:Cx) (x:Str):Prop:=X.env.kindOf x=some .globalImplicit
theorem ZkO {E:Value→Shared→Prop} {pins:List (Addr × Obj)} {s:Shared} {σ:St} {H:Hp} {x:Str} {u:Value} {pos:Pos} {Q:Value→Shared→Prop} (I:Inv X pins σ H s) (hg:Gl X x) (hm:X.mg x=some u) (h:Q u s)
  (hd:(x == ("__debug__" : Str))=false:=by decide):wpAny (model X.prog X.w) X.A (eval (.Name x pos) X.env) Q E s:=
 Calls.Name_function_global I.ok.kind hg (Calls.loadGlobal_global (by rw [I.ok.glob]; exact I.mod.glob.keeps I.bk) hm h) hd
theorem ZBE {E:Value→Shared→Prop} {pins:List (Addr × Obj)} {s:Shared} {σ:St} {H:Hp} {x:Str} {u:Value} {pos:Pos} {Q:Value→Shared→Prop} (I:Inv X pins σ H s) (hg:Gl X x) (hm:X.mg x=none) (hv:bootBuiltins x=some u) (h:Q u s)
  (hn:x ≠ "__name__":=by decide) (hd:(x == ("__debug__" : Str))=false:=by decide):wpAny (model X.prog X.w) X.A (eval (.Name x pos) X.env) Q E s:=by
 obtain ⟨mb,h1,h2⟩ :=I.mod.blt
 exact Calls.Name_function_global I.ok.kind hg (Calls.loadGlobal_builtin (by rw [I.ok.glob]; exact I.mod.glob.keeps I.bk) hm (by rw [I.ok.blt]; exact h1.keeps I.bk) ((h2 x hn).trans hv) h) hd
theorem Zfx {x:Str} {v:V} {u:Value} {pos:Pos} (hg:Gl X x) (hm:X.mg x=some u) (r:RelV v u) (hd:(x == ("__debug__" : Str))=false:=by decide):PE X (.Name x pos) (tC v):=
 fun _ _ _ H _ I h=>ZkO I hg hm ⟨v,H,I,r,h⟩ hd
theorem ZEz {x:Str} {v:V} {u:Value} {pos:Pos} (hg:Gl X x) (hm:X.mg x=none) (hv:bootBuiltins x=some u) (r:RelV v u) (hn:x ≠ "__name__":=by decide) (hd:(x == ("__debug__" : Str))=false:=by decide):PE X (.Name x pos) (tC v):=
 fun _ _ _ H _ I h=>ZBE I hg hm hv ⟨v,H,I,r,h⟩ hn hd
variable {a b:Expr} {ta tb:TE} {pos:Pos}
variable {tA tB':TT} {rest:List Expr}
def tAnd (t u:TT):TT:=fun σ H Q=>t σ H fun c H1=>if c=true then u σ H1 Q else Q false H1
def tOr (t u:TT):TT:=fun σ H Q=>t σ H fun c H1=>if c=true then Q true H1 else u σ H1 Q
def tNot (t:TT):TT:=fun σ H Q=>t σ H fun c H1=>Q (!c) H1
theorem Zey (ha:PT X a tA):PW X (.BoolOp .And [a] pos) tA:=by
 intro wh pins s σ H Q I h
 refine isTrue_and (thn (ha pins s σ H Q I h) fun c s1 e=>?_)
 cases c with
 | true=>exact isTrue_and_nil e
 | false=>exact e
theorem Zwv (ha:PT X a tA):PW X (.BoolOp .Or [a] pos) tA:=by
 intro wh pins s σ H Q I h
 refine isTrue_or (thn (ha pins s σ H Q I h) fun c s1 e=>?_)
 cases c with
 | false=>exact isTrue_or_nil e
 | true=>exact e
theorem Zfh (ha:PT X a tA) (hb:PW X (.BoolOp .And (b :: rest) pos) tB'):PW X (.BoolOp .And (a :: b :: rest) pos) (tAnd tA tB'):=by
 intro wh pins s σ H Q I h
 refine isTrue_and (thn (ha pins s σ H _ I h) fun c s1 ⟨H1,I1,q1⟩ =>?_)
 cases c with
 | true=>exact hb wh pins s1 σ H1 Q I1 q1
 | false=>exact ⟨H1,I1,q1⟩
theorem ZCM (ha:PT X a tA) (hb:PW X (.BoolOp .Or (b :: rest) pos) tB'):PW X (.BoolOp .Or (a :: b :: rest) pos) (tOr tA tB'):=by
 intro wh pins s σ H Q I h
 refine isTrue_or (thn (ha pins s σ H _ I h) fun c s1 ⟨H1,I1,q1⟩ =>?_)
 cases c with
 | true=>exact ⟨H1,I1,q1⟩
 | false=>exact hb wh pins s1 σ H1 Q I1 q1
theorem ZB2 (ha:PT X a tA):PT X (.UnaryOp .Not a pos) (tNot tA):=by
 intro pins s σ H Q I h
 exact isTrue_not (ha pins s σ H (fun c H1=>Q (!c) H1) I h)
def ZKA (ta tb:TE):TE:=fun σ H Q=>ta σ H fun x H1=>∃ c,x=.bl c∧if c=true then tb σ H1 Q else Q (.bl false) H1
theorem ZEE {op} {t:TE} (h:PE X a t):PE X (.BoolOp op [a] pos) t:=fun pins s σ H Q I hw=>BoolOp_one (h pins s σ H Q I hw)
theorem ZBS (ha:PE X a ta) (hb:PE X (.BoolOp .And (b :: rest) pos) tb):PE X (.BoolOp .And (a :: b :: rest) pos) (ZKA ta tb):=by
 intro pins s σ H Q I h
 refine BoolOp_and (thn (ha pins s σ H _ I h) fun v s1 ⟨x,H1,I1,r1,q1⟩ =>?_)
 obtain ⟨c,rfl,q1⟩ :=q1
 cases r1
 refine wpAny_truthy_bool ?_
 cases c with
 | true=>exact hb pins s1 σ H1 Q I1 q1
 | false=>exact ⟨.bl false,H1,I1,rfl,q1⟩
def tIf (t:TT) (ta tb:TE):TE:=fun σ H Q=>t σ H fun c H1=>if c=true then ta σ H1 Q else tb σ H1 Q
theorem ZqM {c:Expr} (hc:PT X c tA) (ha:PE X a ta) (hb:PE X b tb):PE X (.IfExp c a b pos) (tIf tA ta tb):=by
 intro pins s σ H Q I h
 refine wpAny_IfExp (thn (hc pins s σ H _ I h) fun d s1 ⟨H1,I1,q1⟩ =>?_)
 cases d with
 | true=>exact ha pins s1 σ H1 Q I1 q1
 | false=>exact hb pins s1 σ H1 Q I1 q1
end
end L2
namespace L2
open PySem PySem.Spec PyProof.Rows
def SqL (K:PySem.W.Frag) (H:Hp) (a:Addr) (xs:List V):Prop:=
 Rd H a (.lst xs)∨
  ∃ (o:Obj) (its:Array Value) (n:Nat),K.lookup a=some o∧o.cls=.type "list"∧o.dict=none∧o.data=.seq its n∧its.size≤sizeLine∧Vals xs its.toList
def SqT (K:PySem.W.Frag) (H:Hp) (a:Addr) (xs:List V):Prop:=
 Rd H a (.tup xs)∨
  ∃ (o:Obj) (its:Array Value) (n:Nat),K.lookup a=some o∧o.cls=.type "tuple"∧o.data=.seq its n∧its.size≤sizeLine∧Vals xs its.toList
def absV:Value→Option V
 | .none=>some .non
 | .bool b=>some (.bl b)
 | .int i _=>some (.int i)
 | .str x _=>some (.str x)
 | .bytes b _=>some (.byt b)
 | .float b _=>some (.flt b)
 | .ref a=>some (.ref a)
 | .type n=>some (.ty n)
 | _=>none
theorem RelV.abs {x:V} {u:Value} (r:RelV x u):absV u=some x:=by
 cases x with
 | non=>cases r; rfl
 | bl _=>cases r; rfl
 | int _=>obtain ⟨t,rfl⟩ :=r; rfl
 | str _=>obtain ⟨t,rfl⟩ :=r; rfl
 | byt _=>obtain ⟨t,rfl⟩ :=r; rfl
 | flt _=>obtain ⟨t,rfl⟩ :=r; rfl
 | ref _=>cases r; rfl
 | ty _=>cases r; rfl
theorem RelV.inj {x y:V} {u:Value} (r:RelV x u) (q:RelV y u):x=y:=Option.some.inj (r.abs.symm.trans q.abs)
theorem Vals.inj:∀ {xs ys:List V} {us:List Value},Vals xs us→Vals ys us→xs=ys
 | _,_,_,.nil,.nil=>rfl
 | _,_,_,.cons r t,.cons r' t'=>by rw [r.inj r',Vals.inj t t']
section
variable {X:Cx} {pins:List (Addr × Obj)} {σ:St} {H:Hp} {s:Shared} {a:Addr} {xs ys:List V}
theorem SqL.of {K:PySem.W.Frag} (h:H a=some (.lst xs)):SqL K H a xs:=.inl (.inl h)
theorem SqT.of {K:PySem.W.Frag} (h:H a=some (.tup xs)):SqT K H a xs:=.inl (.inl h)
theorem Inv.list (I:Inv X pins σ H s) (h:SqL X.K H a xs):∃ its:List Value,Vals xs its∧PlainL s.heap a its.toArray∧xs.length≤sizeLine:=by
 rcases h with h | ⟨o,its,n,hk,hc,hd,hs,hz,r⟩
 ·obtain ⟨z,its,n,r,e⟩ :=h.ok I.hok
  exact ⟨its,r,⟨_,n,e,rfl,rfl,rfl⟩,z⟩
 ·refine ⟨its.toList,r,⟨o,n,I.kIn a o hk,hc,hd,by simpa using hs⟩,?_⟩
  have e:=r.length
  simp only [Array.length_toList] at e
  omega
theorem Inv.tuple (I:Inv X pins σ H s) (h:SqT X.K H a xs):∃ its:List Value,Vals xs its∧IsTup s.heap a its.toArray∧xs.length≤sizeLine:=by
 rcases h with h | ⟨o,its,n,hk,hc,hs,hz,r⟩
 ·obtain ⟨z,its,r,p⟩ :=h.ok I.hok
  exact ⟨its,r,p,z⟩
 ·refine ⟨its.toList,r,⟨o,I.kIn a o hk,hc,n,by simpa using hs⟩,?_⟩
  have e:=r.length
  simp only [Array.length_toList] at e
  omega
theorem Inv.list_inj (I:Inv X pins σ H s) (h:SqL X.K H a xs) (h':SqL X.K H a ys):xs=ys:=by
 obtain ⟨its,r,⟨o,n,e,_,_,d⟩,_⟩ :=I.list h
 obtain ⟨its',r',⟨o',n',e',_,_,d'⟩,_⟩ :=I.list h'
 rw [e] at e'; cases e'
 rw [d] at d'
 injection d' with d1 _
 have:its=its':=by simpa using congrArg Array.toList d1
 subst this
 exact r.inj r'
theorem Inv.tuple_inj (I:Inv X pins σ H s) (h:SqT X.K H a xs) (h':SqT X.K H a ys):xs=ys:=by
 obtain ⟨its,r,⟨o,e,_,n,d⟩,_⟩ :=I.tuple h
 obtain ⟨its',r',⟨o',e',_,n',d'⟩,_⟩ :=I.tuple h'
 rw [e] at e'; cases e'
 rw [d] at d'
 injection d' with d1 _
 have:its=its':=by simpa using congrArg Array.toList d1
 subst this
 exact r.inj r'
end
abbrev Cx.wish (X:Cx) (E:Value→Shared→Prop):Cx:={ X with xe:=E }
abbrev Cx.nox (X:Cx):Cx:=X.wish fun _ _=>False
theorem Cx.Ok.wish {X:Cx} (ok:X.Ok) (E:Value→Shared→Prop):(X.wish E).Ok:=
 ⟨ok.mod,ok.kind,ok.glob,ok.blt,ok.above,ok.inj,ok.has,ok.cab,ok.hd,ok.frames,ok.stk,ok.exf,ok.bs,ok.bsz,ok.noex,ok.exfs,ok.funs,ok.frf⟩
theorem Cx.Ok.unwish {X:Cx} {E:Value→Shared→Prop} (ok:(X.wish E).Ok):X.Ok:=
 ⟨ok.mod,ok.kind,ok.glob,ok.blt,ok.above,ok.inj,ok.has,ok.cab,ok.hd,ok.frames,ok.stk,ok.exf,ok.bs,ok.bsz,ok.noex,ok.exfs,ok.funs,ok.frf⟩
section
variable {X:Cx} {pins:List (Addr × Obj)} {σ:St} {H:Hp} {s:Shared} {E:Value→Shared→Prop}
theorem Inv.wish (I:Inv X pins σ H s) (E:Value→Shared→Prop):Inv (X.wish E) pins σ H s:=⟨I.ok.wish E,I.os,I.bare,I.base,I.loc,I.cell,I.free,I.freeC,I.pin,I.hok,I.len⟩
theorem Inv.unwish (I:Inv (X.wish E) pins σ H s):Inv X pins σ H s:=⟨I.ok.unwish,I.os,I.bare,I.base,I.loc,I.cell,I.free,I.freeC,I.pin,I.hok,I.len⟩
theorem SP.unwish {D:Ends} {f:Flow} {s':Shared} (h:SP (X.wish E) pins D f s'):SP X pins D f s':=by
 cases f with
 | next=>obtain ⟨σ',H',I,q⟩ :=h; exact ⟨σ',H',I.unwish,q⟩
 | brk=>obtain ⟨σ',H',I,q⟩ :=h; exact ⟨σ',H',I.unwish,q⟩
 | cont=>obtain ⟨σ',H',I,q⟩ :=h; exact ⟨σ',H',I.unwish,q⟩
 | ret u=>obtain ⟨v,σ',H',I,r,q⟩ :=h; exact ⟨v,σ',H',I.unwish,r,q⟩
theorem PT.nox {e:Expr} {t:TT} (h:PT X.nox e t):PT X e t:=fun pins s σ H Q I hw=>
 wpAny_mono (h pins s σ H Q (I.wish _) hw) (fun _ _ ⟨H',I',q⟩ =>⟨H',I'.unwish,q⟩) fun _ _ z=>False.elim z
theorem PSs.nox {st:List Stmt} {t:TS} (h:PSs X.nox st t):PSs X st t:=fun pins s σ H D I hw=>
 wpAny_mono (h pins s σ H D (I.wish _) hw) (fun _ _ q=>q.unwish) fun _ _ z=>False.elim z
end
section
variable {X:Cx} {st:Stmt} {rest:List Stmt} {t u:TS} {e:Expr} {te:TE} {pos:Pos}
def ZKE:TS:=fun D σ H=>D.nx σ H
def tSeq (t u:TS):TS:=fun D σ H=>t { D with nx:=u D } σ H
theorem Zaz:PSs X [] ZKE:=fun _ _ σ H _ I h=>wpAny_execs_nil ⟨σ,H,I,h⟩
theorem Zac (h1:PS X st t) (h2:PSs X rest u):PSs X (st :: rest) (tSeq t u):=by
 intro pins s σ H D I h
 refine wpAny_execs_cons (thn (h1 pins s σ H { D with nx:=u D } I h) fun f s1 q=>?_)
 cases f with
 | next=>
  obtain ⟨σ',H',I',q⟩ :=q
  exact h2 pins s1 σ' H' D I' q
 | ret v=>exact q
 | brk=>exact q
 | cont=>exact q
theorem Zaf (h1:PS X st t):PSs X [st] t:=by
 intro pins s σ H D I h
 refine wpAny_execs_cons (thn (h1 pins s σ H D I h) fun f s1 q=>?_)
 cases f with
 | next=>exact wpAny_execs_nil q
 | ret v=>exact q
 | brk=>exact q
 | cont=>exact q
theorem Inv.quiet {pins:List (Addr × Obj)} {σ:St} {H:Hp} {s:Shared} (I:Inv X pins σ H s):interactive X.env=false:=by simp [interactive,I.ok.kind]
def ZIN (te:TE):TS:=fun D σ H=>te σ H fun _ H1=>D.nx σ H1
theorem ZcP (he:PE X e te) (hs:swapsWith e none pos.line X.env=pure false:=by rfl):PS X (.Expr e pos) (ZIN te):=by
 intro pins s σ H D I h
 exact wpAny_Expr_any (thn (he pins s σ H _ I h) fun v s1 ⟨x,H1,I1,r1,q1⟩ =>⟨σ,H1,I1,q1⟩) I.quiet hs
def tRet (te:TE):TS:=fun D σ H=>te σ H D.rt
theorem Zay (he:PE X e te):PS X (.Return (some e) pos) (tRet te):=by
 intro pins s σ H D I h
 exact wpAny_Return_some (thn (he pins s σ H _ I h) fun v s1 ⟨x,H1,I1,r1,q1⟩ =>⟨x,σ,H1,I1,r1,q1⟩)
def tIfS (c:TT) (t u:TS):TS:=fun D σ H=>c σ H fun b H1=>if b=true then t D σ H1 else u D σ H1
theorem Za7 {c:Expr} {a b:List Stmt} {tc:TT} (hc:PT X c tc) (ha:PSs X a t) (hb:PSs X b u):PS X (.If c a b pos) (tIfS tc t u):=by
 intro pins s σ H D I h
 refine wpAny_If (thn (hc pins s σ H _ I h) fun d s1 ⟨H1,I1,q1⟩ =>?_)
 cases d with
 | true=>exact ha pins s1 σ H1 D I1 q1
 | false=>exact hb pins s1 σ H1 D I1 q1
end
abbrev TG:=V→St→Hp→(St→Hp→Prop)→Prop
def PG (X:Cx) (target:Expr) (t:TG):Prop:=
 ∀ (pins:List (Addr × Obj)) (s:Shared) (σ:St) (H:Hp) (v:V) (u:Value) (Q:St→Hp→Prop),Inv X pins σ H s→RelV v u→t v σ H Q→
  wpAny (model X.prog X.w) X.A (assign target X.env u) (fun _ s'=>∃ σ' H',Inv X pins σ' H' s'∧Q σ' H') X.xe s
section
variable {X:Cx} {pos:Pos}
def ZyH (i:Nat):TG:=fun v σ H Q=>Q (σ.set i (some v)) H
theorem ZEG {i:Nat} {x:Str} (hN:X.N.Nodup) (hi:X.N[i]?=some x) (hx:Loc X.env.scope x) (hf:X.fn x=true∨X.env.scope.names.lookup x=some .local:=by first | exact .inl rfl | exact .inr rfl | assumption):PG X (.Name x pos) (ZyH i):=by
 intro pins s σ H v u Q I r h
 exact wpAny_assign_Name (Zx8 I hN hi hx r (fun s' I'=>⟨_,H,I',h⟩) hf)
def tAsg (te:TE) (g:TG):TS:=fun D σ H=>te σ H fun x H1=>g x σ H1 D.nx
theorem ZKa {i:Nat} {x:Str} {e:Expr} {te:TE} {pos':Pos} (hN:X.N.Nodup) (hi:X.N[i]?=some x) (hx:Loc X.env.scope x) (he:PE X e te) (hs:swapsWith e (some (.Name x pos')) pos.line X.env=pure false:=by rfl) (hf:X.fn x=true∨X.env.scope.names.lookup x=some .local:=by first | exact .inl rfl | exact .inr rfl | assumption) :
  PS X (.Assign [.Name x pos'] e pos) (tAsg te (ZyH i)):=by
 intro pins s σ H D I h
 refine wpAny_Assign_Name (thn (he pins s σ H _ I h) fun v s1 ⟨y,H1,I1,r1,q1⟩ =>?_) hs
 exact Zx8 I1 hN hi hx r1 (fun s2 I2=>⟨_,H1,I2,q1⟩) hf
end
section
variable {X:Cx} {pos:Pos}
def ZKH (c:TT) (tb:TS):TS:=fun D σ H=>∃ W:Nat→St→Hp→Prop,(∃ m,W m σ H)∧∀ m σ H,W m σ H→
 c σ H fun b H1=>if b=true then ∃ N:St→Hp→Prop,(∀ σ' H',N σ' H'→∃ m',m' < m∧W m' σ' H')∧tb { D with nx:=N,ct:=N,bk:=D.nx } σ H1 else D.nx σ H1
theorem ZB0 {c:Expr} {body:List Stmt} {tc:TT} {tb:TS} (hp:PassesOwn (model X.prog X.w) X.A X.env X.xe) (hc:PT X c tc) (hb:PSs X body tb):PS X (.While c body [] pos) (ZKH tc tb):=by
 intro pins s σ H D I h
 obtain ⟨W,⟨m0,w0⟩,turn⟩ :=h
 refine wpAny_While (codeAny_whileLoop (fun n s'=>∃ σ' H',Inv X pins σ' H' s'∧W n σ' H') ?_ m0 ⟨σ,H,I,w0⟩)
 rintro n s1 ⟨σ1,H1,I1,w1⟩
 refine wpAny_passesOwn hp (thn (hc pins s1 σ1 H1 _ I1 (turn n σ1 H1 w1)) fun b s2 ⟨H2,I2,q2⟩ =>?_)
 cases b with
 | true=>
  obtain ⟨N,hN,q2⟩ :=q2
  rw [if_pos rfl]
  refine wpAny_passesOwn hp (thn (hb pins s2 σ1 H2 _ I2 q2) fun f s3 q3=>?_)
  cases f with
  | next=>
   obtain ⟨σ3,H3,I3,n3⟩ :=q3
   obtain ⟨m',hm,w3⟩ :=hN σ3 H3 n3
   exact ⟨m',hm,σ3,H3,I3,w3⟩
  | cont=>
   obtain ⟨σ3,H3,I3,n3⟩ :=q3
   obtain ⟨m',hm,w3⟩ :=hN σ3 H3 n3
   exact ⟨m',hm,σ3,H3,I3,w3⟩
  | brk=>exact q3
  | ret v=>exact q3
 | false=>
  rw [if_neg Bool.false_ne_true]
  exact wpAny_execs_nil ⟨σ1,H2,I2,q2⟩
end
structure It where
 go:Nat→Hp→Prop
 yld:Nat→Hp→V→Hp→Prop
 stop:Nat→Hp→Prop
def FpOk (X:Cx) (pins:List (Addr × Obj)) (H:Hp) (b:Addr):Prop:=
 H b=none∧b ≠ X.env.locals∧b ∉ X.fs∧(b ∈ X.ex∨X.s₀.heap.objs.size≤b)∧(∀ x c,X.env.cells.lookup x=some c→c ≠ b)∧∀ p ∈ X.pn ++ pins,p.1 ≠ b
theorem Inv.fpOk {X:Cx} {pins:List (Addr × Obj)} {σ:St} {H H':Hp} {s:Shared} {b:Addr} (I:Inv X pins σ H s) (hb:s.heap.objs.size≤b) (hn:H' b=none):FpOk X pins H' b:=by
 refine ⟨hn,Nat.ne_of_gt (Nat.lt_of_lt_of_le I.lt hb),I.nofs hb,.inr (Nat.le_trans I.sz hb),fun x c e z=>?_,fun p hp z=>?_⟩
 ·obtain ⟨v,q⟩ :=I.cell x c e
  exact absurd (Nat.lt_of_lt_of_le q.lt (by rw [z]; exact hb)) (Nat.lt_irrefl _)
 ·exact absurd (Nat.lt_of_lt_of_le (Heap.lt_size (I.pin p hp).1) (by rw [z]; exact hb)) (Nat.lt_irrefl _)
structure Turn (P:Program) (w:World) (K:PySem.W.Frag) (tg:Expr) (J:It) (fp:List Addr) (it:Addr) (tn:Nat→Heap→Prop):Prop where
 mem:it ∈ fp
 obj:∀ i h,tn i h→∀ b ∈ fp,∃ o,h.get? b=some o∧∀ v,o.data ≠ .cell v
 keep:∀ i h h',tn i h→(∀ b ∈ fp,∀ o,h.get? b=some o→h'.get? b=some o)→tn i h'
 item:∀ (X:Cx),X.prog=P→X.w=w→X.K=K→X.calm=true→∀ (i:Nat) (pins:List (Addr × Obj)) (s:Shared) (σ:St) (H:Hp) (E:Value→Shared→Prop),Inv X pins σ H s→(∀ b ∈ fp,FpOk X pins H b)→tn i s.heap→J.go i H→
  wpAny (model P w) X.A (pyNext (.ref it)) (fun r s1=>∃ u,r=some u∧
   wpAny (model P w) X.A (letOwnedTupleGo tg (.ref it) u) (fun _ s2=>∃ x H',Inv X pins σ H' s2∧RelV x u∧J.yld i H x H'∧tn (i + 1) s2.heap∧∀ b ∈ fp,H' b=none) E s1) E s
 done:∀ (X:Cx),X.prog=P→X.w=w→X.K=K→X.calm=true→∀ (i:Nat) (pins:List (Addr × Obj)) (s:Shared) (σ:St) (H:Hp) (E:Value→Shared→Prop),Inv X pins σ H s→(∀ b ∈ fp,FpOk X pins H b)→tn i s.heap→J.stop i H→
  wpAny (model P w) X.A (pyNext (.ref it)) (fun r s1=>r=none∧Inv X pins σ H s1) E s
 self:∀ (A:Around) (i:Nat) (s:Shared) (Q:Value→Shared→Prop) (E:Value→Shared→Prop),tn i s.heap→Q (.ref it) s→wpAny (model P w) A (pyIter (.ref it)) Q E s
abbrev TI:=St→Hp→(It→Hp→Prop)→Prop
def PIE (X:Cx) (pins:List (Addr × Obj)) (σ:St) (tg:Expr) (R:It→Hp→Prop) (itv:Value) (s2:Shared):Prop:=
 ∃ (it:Addr) (fp:List Addr) (tn:Nat→Heap→Prop) (J:It) (H':Hp),itv=.ref it∧Inv X pins σ H' s2∧Turn X.prog X.w X.K tg J fp it tn∧tn 0 s2.heap∧(∀ b ∈ fp,FpOk X pins H' b)∧R J H'
def PI (X:Cx) (tg iter:Expr) (wi:TI):Prop:=
 ∀ (pins:List (Addr × Obj)) (s:Shared) (σ:St) (H:Hp) (R:It→Hp→Prop),Inv X pins σ H s→wi σ H R→
  wpAny (model X.prog X.w) X.A (eval iter X.env) (fun v s1=>wpAny (model X.prog X.w) X.A (pyIter v) (PIE X pins σ tg R) X.xe s1) X.xe s
theorem ZCu {M:Model} {A:Around} {E:Value→Shared→Prop} {s:Shared} {tg:Expr} {it:Addr} {u:Value} {o:Obj} {n:String} {vs:Array Value} {Q:Unit→Shared→Prop} (ho:s.heap.get? it=some o) (hc:o.cls=.type n) (hd:o.data=.fields vs)
  (hn:["enumerate","zip","dict_itemiterator","dict_reverseitemiterator","odict_iterator","itertools.zip_longest","itertools.pairwise"].contains n=false) (hQ:Q () s):wpAny M A (letOwnedTupleGo tg (.ref it) u) Q E s:=by
 unfold letOwnedTupleGo
 cases tg <;> first
  | exact wpAny_pure hQ
  | (cases u <;> first
    | exact wpAny_pure hQ
    | (refine wpAny_bind (wpAny_load ho ?_)
       rw [hc,hd]
       show wpAny M A (if (["enumerate","zip","dict_itemiterator","dict_reverseitemiterator","odict_iterator","itertools.zip_longest","itertools.pairwise"].contains n && vs[0]? == some (rawInt _))=true then _ else _) Q E s
       rw [if_neg (by intro h; rw [hn,Bool.false_and] at h; cases h)]
       exact wpAny_pure hQ))
def Itl (K:PySem.W.Frag) (a:Addr):It:=
 ⟨fun i H=>∃ xs x,SqL K H a xs∧xs[i]?=some x,fun i H x H'=>H'=H∧∀ xs,SqL K H a xs→xs[i]?=some x,fun i H=>∃ xs,SqL K H a xs∧xs.length≤i⟩
def Itt (K:PySem.W.Frag) (a:Addr):It:=
 ⟨fun i H=>∃ xs x,SqT K H a xs∧xs[i]?=some x,fun i H x H'=>H'=H∧∀ xs,SqT K H a xs→xs[i]?=some x,fun i H=>∃ xs,SqT K H a xs∧xs.length≤i⟩
def Itr (lo:Int) (n:Nat):It:=⟨fun i _=>i < n,fun i H x H'=>H'=H∧x=.int (lo + i),fun i _=>n≤i⟩
theorem ZFe {P:Program} {w:World} {K:PySem.W.Frag} {tg:Expr} (a it:Addr):Turn P w K tg (Itl K a) [it] it (fun i h=>h.IsListIter it a i) where
 mem:=by simp
 obj:=fun i h st b hb=>by
  have e:b=it:=by simpa using hb
  subst e
  obtain ⟨o,e,c,d⟩ :=st
  exact ⟨o,e,fun v z=>by rw [d] at z; cases z⟩
 keep:=fun i h h' st k=>st.at fun o e=>k it (by simp) o e
 item:=by
  intro X hP hw hK hc i pins s σ H E I hf st hg
  subst hP hw hK
  obtain ⟨xs,x,hq,hx⟩ :=hg
  obtain ⟨its,rv,p,hz⟩ :=I.list hq
  obtain ⟨u,hu,ru⟩ :=rv.get hx
  obtain ⟨f0,f1,f2,f3,f4,f5⟩ :=hf it (by simp)
  refine wpAny_pyNext_list_item st p.isList (x:=u) (by simpa using hu) fun h' st' sb=>?_
  have I1:Inv X pins σ H { s with heap:=h' }:=I.turned (t':=s.toks) (fun b o hb e=>(sb.2 b hb).trans e) f0 f1 f3 f4 f5
  obtain ⟨o,e,c,d⟩ :=id st'
  exact ⟨u,rfl,ZCu (s:={ s with heap:=h' }) e c d (by decide) ⟨x,H,I1,ru,⟨rfl,fun ys hy=>by rw [I.list_inj hy hq]; exact hx⟩,st',fun b hb=>(hf b hb).1⟩⟩
 done:=by
  intro X hP hw hK hc i pins s σ H E I hf st hg
  subst hP hw hK
  obtain ⟨xs,hq,hx⟩ :=hg
  obtain ⟨its,rv,p,hz⟩ :=I.list hq
  obtain ⟨f0,f1,f2,f3,f4,f5⟩ :=hf it (by simp)
  have hl:=rv.length
  exact wpAny_pyNext_list_end (I.ok.hd hc) st p.isList (by simp; omega) fun h' eb=>⟨rfl,I.turned (t':=s.toks) (fun b o hb e=>eb b o hb e) f0 f1 f3 f4 f5⟩
 self:=fun _ _ _ _ _ st h=>wpAny_pyIter_listiter st h
theorem ZCS {P:Program} {w:World} {K:PySem.W.Frag} {tg:Expr} (a it:Addr):Turn P w K tg (Itt K a) [it] it (fun i h=>h.IsTupleIter it a i) where
 mem:=by simp
 obj:=fun i h st b hb=>by
  have e:b=it:=by simpa using hb
  subst e
  obtain ⟨o,e,c,d⟩ :=st
  exact ⟨o,e,fun v z=>by rw [d] at z; cases z⟩
 keep:=fun i h h' st k=>st.at fun o e=>k it (by simp) o e
 item:=by
  intro X hP hw hK hc i pins s σ H E I hf st hg
  subst hP hw hK
  obtain ⟨xs,x,hq,hx⟩ :=hg
  obtain ⟨its,rv,p,hz⟩ :=I.tuple hq
  obtain ⟨u,hu,ru⟩ :=rv.get hx
  obtain ⟨f0,f1,f2,f3,f4,f5⟩ :=hf it (by simp)
  refine wpAny_pyNext_tuple_item st (show s.heap.IsTuple a its.toArray from p) (x:=u) (by simpa using hu) fun h' st' sb=>?_
  have I1:Inv X pins σ H { s with heap:=h' }:=I.turned (t':=s.toks) (fun b o hb e=>(sb.2 b hb).trans e) f0 f1 f3 f4 f5
  obtain ⟨o,e,c,d⟩ :=id st'
  exact ⟨u,rfl,ZCu (s:={ s with heap:=h' }) e c d (by decide) ⟨x,H,I1,ru,⟨rfl,fun ys hy=>by rw [I.tuple_inj hy hq]; exact hx⟩,st',fun b hb=>(hf b hb).1⟩⟩
 done:=by
  intro X hP hw hK hc i pins s σ H E I hf st hg
  subst hP hw hK
  obtain ⟨xs,hq,hx⟩ :=hg
  obtain ⟨its,rv,p,hz⟩ :=I.tuple hq
  obtain ⟨f0,f1,f2,f3,f4,f5⟩ :=hf it (by simp)
  have hl:=rv.length
  exact wpAny_pyNext_tuple_end (I.ok.hd hc) st (show s.heap.IsTuple a its.toArray from p) (by simp; omega) fun h' eb=>⟨rfl,I.turned (t':=s.toks) (fun b o hb e=>eb b o hb e) f0 f1 f3 f4 f5⟩
 self:=fun _ _ _ _ _ st h=>wpAny_pyIter_tupleiter st h
theorem ZCR {P:Program} {w:World} {K:PySem.W.Frag} {tg:Expr} (it:Addr) (lo:Int) (n:Nat):Turn P w K tg (Itr lo n) [it] it (fun i h=>IsRangeIter h it (lo + (i:Nat) * 1) ((n:Int) - (i:Nat)) 1) where
 mem:=by simp
 obj:=fun i h st b hb=>by
  have e:b=it:=by simpa using hb
  subst e
  exact ⟨_,st,fun v z=>by
   have z':Data.fields _=Data.cell v:=z
   cases z'⟩
 keep:=fun i h h' st k=>k it (by simp) _ st
 item:=by
  intro X hP hw hK hc i pins s σ H E I hf st hg
  subst hP hw hK
  obtain ⟨f0,f1,f2,f3,f4,f5⟩ :=hf it (by simp)
  have W:=Walks.range (prog:=X.prog) (w:=X.w) (I.ok.hd hc) it lo 1 n
  refine W.item i s _ _ hg st fun v h' tk hv st' kk=>?_
  obtain ⟨t,rfl⟩ :=hv
  have I1:Inv X pins σ H { s with heap:=h',toks:=tk }:=I.turned (fun b o hb e=>kk b o (by simpa using hb) e) f0 f1 f3 f4 f5
  refine ⟨_,rfl,ZCu (s:={ s with heap:=h',toks:=tk }) (n:="range_iterator") st' rfl rfl (by decide) ⟨.int (lo + i),H,I1,⟨t,?_⟩,⟨rfl,rfl⟩,st',fun b hb=>(hf b hb).1⟩⟩
  rw [Int.mul_one]
 done:=by
  intro X hP hw hK hc i pins s σ H E I hf st hg
  subst hP hw hK
  obtain ⟨f0,f1,f2,f3,f4,f5⟩ :=hf it (by simp)
  exact wpAny_pyNext_range_end (I.ok.hd hc) st (by have:n≤i:=hg; omega) fun h' eb=>⟨rfl,I.turned (t':=s.toks) (fun b o hb e=>eb b o hb e) f0 f1 f3 f4 f5⟩
 self:=fun _ _ _ _ _ st h=>wpAny_pyIter_rangeiter st h
end L2
namespace L2
open PySem PySem.Spec PyProof.Rows
section
variable {X:Cx} {tg:Expr}
theorem ZGj {pins:List (Addr × Obj)} {σ:St} {H:Hp} {s:Shared} {R:It→Hp→Prop} {E:Value→Shared→Prop} {lo hi:Int} {t u v:Tok} {tk:Nat} (I:Inv X pins σ H s) (h1 : -(2 ^ 62)≤lo) (h2:lo < 2 ^ 62) (h3 : -(2 ^ 62)≤hi) (h4:hi < 2 ^ 62)
  (q:R (Itr lo (hi - lo).toNat) H):wpAny (model X.prog X.w) X.A (pyIter (.ref s.heap.objs.size)) (PIE X pins σ tg R) E { s with heap:=s.heap.push { cls:=.type "range",data:=.fields #[.int lo t,.int hi u,.int 1 v] },toks:=tk }:=by
 refine wpAny_pyIter_range (IsRange.new ..) (small_one h1 h2 h3 h4) ?_
 have I1:Inv X pins σ H { s with heap:=s.heap.push { cls:=.type "range",data:=.fields #[.int lo t,.int hi u,.int 1 v] },toks:=tk }:=I.kept fun b o e=>Heap.get?_push_of_some _ e
 refine ⟨(s.heap.push { cls:=.type "range",data:=.fields #[.int lo t,.int hi u,.int 1 v] }).objs.size,[(s.heap.push { cls:=.type "range",data:=.fields #[.int lo t,.int hi u,.int 1 v] }).objs.size],_,_,H,rfl,
  I1.kept (t':=tk) fun b o e=>Heap.get?_push_of_some _ e,ZCR _ lo (hi - lo).toNat,?_,fun b hb=>?_,q⟩
 ·have e1:lo + ((0:Nat):Int) * 1=lo:=by simp
  have e2:(((hi - lo).toNat:Nat):Int) - ((0:Nat):Int)=Builtin.Range.rangeSize lo hi 1:=by rw [rangeSize_one]; split <;> omega
  show IsRangeIter _ _ (lo + ((0:Nat):Int) * 1) ((((hi - lo).toNat:Nat):Int) - ((0:Nat):Int)) 1
  rw [e1,e2]
  exact Heap.get?_push_size _ rfl
 ·have e:b=(s.heap.push { cls:=.type "range",data:=.fields #[.int lo t,.int hi u,.int 1 v] }).objs.size:=by simpa using hb
  subst e
  exact I1.fpOk (Nat.le_refl _) (I1.hok.fresh (Nat.le_refl _))
def ZJe (ta:TA):TI:=fun σ H R=>ta σ H fun vs H1=>∃ j:Int,vs=[.int j]∧-(2 ^ 62)≤j∧j < 2 ^ 62∧R (Itr 0 j.toNat) H1
theorem ZqQ {a:Expr} {ta:TA} {p pos:Pos} (hg:Gl X "range") (hm:X.mg "range" = none) (ha:PA X [a] ta) (hs:starEach [a] X.env=[(false,eval a X.env)]:=by rfl):PI X tg (.Call (.Name "range" p) [a] [] pos) (ZJe ta):=by
 intro pins s σ H R I h
 refine Call_ (ZBE I hg hm boot_range (PyProof.Rows.callWith_type1 (thn (ha pos pins s σ H _ I h) fun us s1 ⟨vs,H1,I1,r1,q1⟩ =>?_) hs rfl))
 obtain ⟨j,e,q1,q2,q⟩ :=q1
 subst e
 cases r1 with
 | cons r rr=>
  cases rr
  obtain ⟨t,rfl⟩ :=r
  exact call_range_1 (ZGj I1 (by omega) (by omega) q1 q2 (by simpa using q))
def tFor (wi:TI) (g:TG) (tb:TS):TS:=fun D σ H=>wi σ H fun J H1=>∃ W:Nat→Nat→St→Hp→Prop,(∃ m,W 0 m σ H1)∧∀ i m σ H,W i m σ H→
 (J.stop i H∧D.nx σ H)∨(J.go i H∧∃ N:St→Hp→Prop,(∀ σ' H',N σ' H'→∃ m',m' < m∧W (i + 1) m' σ' H')∧∀ x H',J.yld i H x H'→g x σ H' fun σ2 H2=>tb { D with nx:=N,ct:=N,bk:=D.nx } σ2 H2)
def ZzB (fp:List Addr) (h:Heap):List (Addr × Obj):=fp.filterMap fun b=>(h.get? b).map fun o=>(b,o)
theorem ZjB {fp:List Addr} {h:Heap} {b:Addr} {o:Obj} (hb:b ∈ fp) (e:h.get? b=some o):(b,o) ∈ ZzB fp h:=List.mem_filterMap.mpr ⟨b,hb,by rw [e]; rfl⟩
theorem ZEk {fp:List Addr} {h:Heap} {p:Addr × Obj} (hp:p ∈ ZzB fp h):p.1 ∈ fp∧h.get? p.1=some p.2:=by
 obtain ⟨b,hb,e⟩ :=List.mem_filterMap.mp hp
 cases q:h.get? b with
 | none=>rw [q] at e; cases e
 | some o=>
  rw [q] at e
  have e':(b,o)=p:=Option.some.inj e
  subst e'
  exact ⟨hb,q⟩
theorem Inv.pinned {pins:List (Addr × Obj)} {σ:St} {H:Hp} {s:Shared} {fp:List Addr} (I:Inv X pins σ H s) (hf:∀ b ∈ fp,FpOk X pins H b) (ho:∀ b ∈ fp,∃ o,s.heap.get? b=some o∧∀ v,o.data ≠ .cell v):Inv X (pins ++ ZzB fp s.heap) σ H s:=
 I.pins_of fun p hp=>(List.mem_append.mp hp).elim (fun z=>I.pin p (List.mem_append_right _ z)) fun z=>by
  obtain ⟨hb,e⟩ :=ZEk z
  obtain ⟨f0,f1,f2,_⟩ :=hf p.1 hb
  obtain ⟨o,e',d⟩ :=ho p.1 hb
  rw [e] at e'; cases e'
  exact ⟨e,f0,f1,f2,d⟩
theorem Inv.unpinned {pins pl:List (Addr × Obj)} {σ:St} {H:Hp} {s:Shared} (I:Inv X (pins ++ pl) σ H s):Inv X pins σ H s:=I.pins_of fun p hp=>I.pin p (List.mem_append_right _ (List.mem_append_left _ hp))
theorem Zlm {iter:Expr} {body:List Stmt} {wi:TI} {g:TG} {tb:TS} {pos:Pos} (hp:PassesOwn (model X.prog X.w) X.A X.env X.xe) (hc:X.calm=true) (hi:PI X tg iter wi) (hg:PG X tg g) (hb:PSs X body tb)
  (hs:∀ x,foldedSetIterable iter X.env x=pure x:=by intro _; rfl):PS X (.For tg iter body [] pos) (tFor wi g tb):=by
 intro pins s σ H D I h
 refine wpAny_For (thn (hi pins s σ H _ I h) fun v s1 h1=>thn h1 fun itv s2 h2=>?_) hs
 obtain ⟨it,fp,tn,J,H2,e,I2,T,st2,f2,W,⟨m0,w0⟩,turn⟩ :=h2
 subst e
 have stat:∀ {H':Hp},(∀ b ∈ fp,H' b=none)→∀ b ∈ fp,FpOk X pins H' b:=fun hn b hb=>⟨hn b hb,(f2 b hb).2⟩
 refine codeAny_forLoop_any (fun n s'=>∃ i σ' H',Inv X pins σ' H' s'∧tn i s'.heap∧(∀ b ∈ fp,H' b=none)∧W i n σ' H') ?_ m0 ⟨0,σ,H2,I2,st2,fun b hb=>(f2 b hb).1,w0⟩
 rintro n s3 ⟨i,σ3,H3,I3,st3,fr3,w3⟩
 rcases turn i n σ3 H3 w3 with ⟨stop,qn⟩ | ⟨go,N,hN,step⟩
 ·refine wpAny_passesOwn hp (thn (T.done X rfl rfl rfl hc i pins s3 σ3 H3 X.xe I3 (stat fr3) st3 stop) fun r s4 ⟨hr,I4⟩ =>?_)
  subst hr
  exact wpAny_execs_nil ⟨σ3,H3,I4,qn⟩
 ·refine wpAny_passesOwn hp (thn (T.item X rfl rfl rfl hc i pins s3 σ3 H3 X.xe I3 (stat fr3) st3 go) fun r s4 ⟨u,hr,h4⟩ =>?_)
  subst hr
  refine wpAny_passesOwn hp (thn h4 fun _ s5 ⟨x,H5,I5,r5,y5,st5,fr5⟩ =>?_)
  have I5':=I5.pinned (stat fr5) (T.obj _ _ st5)
  refine wpAny_passesOwn hp (thn (hg _ s5 σ3 H5 x u _ I5' r5 (step x H5 y5)) fun _ s6 ⟨σ6,H6,I6,q6⟩ =>?_)
  refine wpAny_passesOwn hp (thn (hb _ s6 σ6 H6 _ I6 q6) fun f s7 q7=>?_)
  have again:∀ {σ7:St} {H7:Hp},Inv X (pins ++ ZzB fp s5.heap) σ7 H7 s7→N σ7 H7→∃ m,m < n∧∃ i σ' H',Inv X pins σ' H' s7∧tn i s7.heap∧(∀ b ∈ fp,H' b=none)∧W i m σ' H':=fun {σ7 H7} I7 n7=>by
   obtain ⟨m',hm,w7⟩ :=hN σ7 H7 n7
   refine ⟨m',hm,i + 1,σ7,H7,I7.unpinned,T.keep _ _ _ st5 fun b hb o e=>(I7.pin (b,o) (List.mem_append_right _ (List.mem_append_right _ (ZjB hb e)))).1,fun b hb=>?_,w7⟩
   obtain ⟨o,e,d⟩ :=T.obj _ _ st5 b hb
   exact (I7.pin (b,o) (List.mem_append_right _ (List.mem_append_right _ (ZjB hb e)))).2.1
  cases f with
  | next=>obtain ⟨σ7,H7,I7,n7⟩ :=q7; exact again I7 n7
  | cont=>obtain ⟨σ7,H7,I7,n7⟩ :=q7; exact again I7 n7
  | brk=>obtain ⟨σ7,H7,I7,q7⟩ :=q7; exact ⟨σ7,H7,I7.unpinned,q7⟩
  | ret v=>obtain ⟨x7,σ7,H7,I7,r7,q7⟩ :=q7; exact ⟨x7,σ7,H7,I7.unpinned,r7,q7⟩
end
theorem ZFE {K:PySem.W.Frag} {a:Addr} {xs:List V} {g:TG} {tb:TS} {D:Ends} {σ:St} {H:Hp} (Pv:Nat→St→Hp→Prop) (h0:Pv 0 σ H) (hl:∀ i σ H,i≤xs.length→Pv i σ H→SqL K H a xs)
  (hs:∀ i x σ H,xs[i]?=some x→Pv i σ H→g x σ H fun σ2 H2=>tb { D with nx:=Pv (i + 1),ct:=Pv (i + 1),bk:=D.nx } σ2 H2) (hd:∀ σ H,Pv xs.length σ H→D.nx σ H) :
  ∃ W:Nat→Nat→St→Hp→Prop,(∃ m,W 0 m σ H)∧∀ i m σ H,W i m σ H→
   ((Itl K a).stop i H∧D.nx σ H)∨((Itl K a).go i H∧∃ N:St→Hp→Prop,(∀ σ' H',N σ' H'→∃ m',m' < m∧W (i + 1) m' σ' H')∧∀ x H',(Itl K a).yld i H x H'→g x σ H' fun σ2 H2=>tb { D with nx:=N,ct:=N,bk:=D.nx } σ2 H2):=by
 refine ⟨fun i m σ H=>m=xs.length - i∧i≤xs.length∧Pv i σ H,⟨xs.length,by simp,Nat.zero_le _,h0⟩,?_⟩
 rintro i m σ H ⟨rfl,hi,p⟩
 have q:=hl i σ H hi p
 by_cases hlt:i < xs.length
 ·refine .inr ⟨⟨xs,xs[i],q,by simp [hlt]⟩,Pv (i + 1),fun σ' H' p'=>⟨xs.length - (i + 1),by omega,rfl,hlt,p'⟩,fun x H' y=>?_⟩
  obtain ⟨e,y⟩ :=y
  subst e
  exact hs i x σ _ (y xs q) p
 ·have e:i=xs.length:=by omega
  subst e
  exact .inl ⟨⟨xs,q,Nat.le_refl _⟩,hd σ H p⟩
theorem ZHQ {K:PySem.W.Frag} {a:Addr} {xs:List V} {g:TG} {tb:TS} {D:Ends} {σ:St} {H:Hp} (Pv:Nat→St→Hp→Prop) (h0:Pv 0 σ H) (hl:∀ i σ H,i≤xs.length→Pv i σ H→SqT K H a xs)
  (hs:∀ i x σ H,xs[i]?=some x→Pv i σ H→g x σ H fun σ2 H2=>tb { D with nx:=Pv (i + 1),ct:=Pv (i + 1),bk:=D.nx } σ2 H2) (hd:∀ σ H,Pv xs.length σ H→D.nx σ H) :
  ∃ W:Nat→Nat→St→Hp→Prop,(∃ m,W 0 m σ H)∧∀ i m σ H,W i m σ H→
   ((Itt K a).stop i H∧D.nx σ H)∨((Itt K a).go i H∧∃ N:St→Hp→Prop,(∀ σ' H',N σ' H'→∃ m',m' < m∧W (i + 1) m' σ' H')∧∀ x H',(Itt K a).yld i H x H'→g x σ H' fun σ2 H2=>tb { D with nx:=N,ct:=N,bk:=D.nx } σ2 H2):=by
 refine ⟨fun i m σ H=>m=xs.length - i∧i≤xs.length∧Pv i σ H,⟨xs.length,by simp,Nat.zero_le _,h0⟩,?_⟩
 rintro i m σ H ⟨rfl,hi,p⟩
 have q:=hl i σ H hi p
 by_cases hlt:i < xs.length
 ·refine .inr ⟨⟨xs,xs[i],q,by simp [hlt]⟩,Pv (i + 1),fun σ' H' p'=>⟨xs.length - (i + 1),by omega,rfl,hlt,p'⟩,fun x H' y=>?_⟩
  obtain ⟨e,y⟩ :=y
  subst e
  exact hs i x σ _ (y xs q) p
 ·have e:i=xs.length:=by omega
  subst e
  exact .inl ⟨⟨xs,q,Nat.le_refl _⟩,hd σ H p⟩
theorem ZDv {lo:Int} {n:Nat} {g:TG} {tb:TS} {D:Ends} {σ:St} {H:Hp} (Pv:Nat→St→Hp→Prop) (h0:Pv 0 σ H)
  (hs:∀ i σ H,i < n→Pv i σ H→g (.int (lo + i)) σ H fun σ2 H2=>tb { D with nx:=Pv (i + 1),ct:=Pv (i + 1),bk:=D.nx } σ2 H2) (hd:∀ σ H,Pv n σ H→D.nx σ H) :
  ∃ W:Nat→Nat→St→Hp→Prop,(∃ m,W 0 m σ H)∧∀ i m σ H,W i m σ H→
   ((Itr lo n).stop i H∧D.nx σ H)∨((Itr lo n).go i H∧∃ N:St→Hp→Prop,(∀ σ' H',N σ' H'→∃ m',m' < m∧W (i + 1) m' σ' H')∧∀ x H',(Itr lo n).yld i H x H'→g x σ H' fun σ2 H2=>tb { D with nx:=N,ct:=N,bk:=D.nx } σ2 H2):=by
 refine ⟨fun i m σ H=>m=n - i∧i≤n∧Pv i σ H,⟨n,by simp,Nat.zero_le _,h0⟩,?_⟩
 rintro i m σ H ⟨rfl,hi,p⟩
 by_cases hlt:i < n
 ·refine .inr ⟨hlt,Pv (i + 1),fun σ' H' p'=>⟨n - (i + 1),by omega,rfl,hlt,p'⟩,fun x H' y=>?_⟩
  obtain ⟨e,y⟩ :=y
  subst e y
  exact hs i σ _ hlt p
 ·have e:i=n:=by omega
  subst e
  exact .inl ⟨Nat.le_refl _,hd σ H p⟩
end L2
namespace L2
open PySem PySem.Spec PyProof.Rows
abbrev R2:=V→V→Hp→VK→Prop
def OpR (X:Cx) (f:Value→Value→Sem Value) (r:R2):Prop:=
 ∀ (pins:List (Addr × Obj)) (s:Shared) (σ:St) (H:Hp) (x y:V) (v u:Value) (Q:VK),Inv X pins σ H s→RelV x v→RelV y u→r x y H Q→
  wpAny (model X.prog X.w) X.A (f v u) (EP X pins σ Q) X.xe s
def UnR (X:Cx) (f:Value→Sem Value) (r:V→Hp→VK→Prop):Prop:=
 ∀ (pins:List (Addr × Obj)) (s:Shared) (σ:St) (H:Hp) (x:V) (v:Value) (Q:VK),Inv X pins σ H s→RelV x v→r x H Q→
  wpAny (model X.prog X.w) X.A (f v) (EP X pins σ Q) X.xe s
def Zlo (X:Cx) (f:Value) (r:List V→Hp→VK→Prop):Prop:=
 ∀ (pins:List (Addr × Obj)) (s:Shared) (σ:St) (H:Hp) (xs:List V) (us:List Value) (Q:VK),Inv X pins σ H s→Vals xs us→r xs H Q→
  wpAny (model X.prog X.w) X.A (call f us) (EP X pins σ Q) X.xe s
def TruR (X:Cx) (r:V→Hp→(Bool→Hp→Prop)→Prop):Prop:=
 ∀ (pins:List (Addr × Obj)) (s:Shared) (σ:St) (H:Hp) (x:V) (v:Value) (Q:Bool→Hp→Prop),Inv X pins σ H s→RelV x v→r x H Q→
  wpAny (model X.prog X.w) X.A (truthy v) (TP X pins σ Q) X.xe s
def tOp (r:R2) (ta tb:TE):TE:=fun σ H Q=>ta σ H fun x H1=>tb σ H1 fun y H2=>r x y H2 Q
def tUn (r:V→Hp→VK→Prop) (ta:TE):TE:=fun σ H Q=>ta σ H fun x H1=>r x H1 Q
def rI (C:Int→Int→Prop) (g:Int→Int→V):R2:=fun x y H Q=>∃ i j,x=.int i∧y=.int j∧C i j∧Q (g i j) H
def rI0 (g:Int→Int→V):R2:=fun x y H Q=>∃ i j,x=.int i∧y=.int j∧Q (g i j) H
def rU (g:Int→V):V→Hp→VK→Prop:=fun x H Q=>∃ i,x=.int i∧Q (g i) H
section
variable {X:Cx} {a b c:Expr} {ta tb tc:TE} {pos:Pos}
theorem binT (ha:PE X a ta) (hb:PE X b tb) {pins:List (Addr × Obj)} {s:Shared} {σ:St} {H:Hp} {R:V→V→Hp→Prop} (I:Inv X pins σ H s)
  (h:ta σ H fun x H1=>tb σ H1 fun y H2=>R x y H2) {Q:Value→Shared→Prop} {f:Value→Value→Sem Value}
  (hf:∀ v u s2 x y H2,Inv X pins σ H2 s2→RelV x v→RelV y u→R x y H2→wpAny (model X.prog X.w) X.A (f v u) Q X.xe s2) :
  wpAny (model X.prog X.w) X.A (eval a X.env) (fun v s₁=>wpAny (model X.prog X.w) X.A (eval b X.env) (fun u s₂=>wpAny (model X.prog X.w) X.A (f v u) Q X.xe s₂) X.xe s₁) X.xe s:=by
 refine thn (ha pins s σ H _ I h) fun v s1 ⟨x,H1,I1,r1,q1⟩ =>?_
 refine thn (hb pins s1 σ H1 _ I1 q1) fun u s2 ⟨y,H2,I2,r2,q2⟩ =>?_
 exact hf v u s2 x y H2 I2 r1 r2 q2
theorem Zav {op:Operator} {r:R2} (ho:OpR X (binaryOp op) r) (ha:PE X a ta) (hb:PE X b tb):PE X (.BinOp a op b pos) (tOp r ta tb):=by
 intro pins s σ H Q I h
 exact wpAny_BinOp (binT ha hb I h fun v u s2 x y H2 I2 rx ry q=>ho pins s2 σ H2 x y v u Q I2 rx ry q)
theorem ZzA {op:UnaryOp} {r:V→Hp→VK→Prop} (ho:UnR X (unaryOp op) r) (ha:PE X a ta):PE X (.UnaryOp op a pos) (tUn r ta):=by
 intro pins s σ H Q I h
 exact UnaryOp_ (thn (ha pins s σ H _ I h) fun v s1 ⟨x,H1,I1,r1,q1⟩ =>ho pins s1 σ H1 x v Q I1 r1 q1)
theorem opI {f:Value→Value→Sem Value} {C:Int→Int→Prop} {g:Int→Int→Int}
  (rule:∀ (i j:Int) (t u:Tok) (s:Shared) (Q:Value→Shared→Prop) (E:Value→Shared→Prop),C i j→Q (.int (g i j) s.toks) { s with toks:=s.toks + 1 }→wpAny (model X.prog X.w) X.A (f (.int i t) (.int j u)) Q E s) :
  OpR X f (rI C fun i j=>.int (g i j)):=by
 intro pins s σ H x y v u Q I rx ry h
 obtain ⟨i,j,rfl,rfl,hc,q⟩ :=h
 obtain ⟨t,rfl⟩ :=rx
 obtain ⟨t',rfl⟩ :=ry
 exact rule i j t t' s _ _ hc ⟨.int (g i j),H,I.tok _,⟨_,rfl⟩,q⟩
theorem opI0 {f:Value→Value→Sem Value} {g:Int→Int→Int}
  (rule:∀ (i j:Int) (t u:Tok) (s:Shared) (Q:Value→Shared→Prop) (E:Value→Shared→Prop),Q (.int (g i j) s.toks) { s with toks:=s.toks + 1 }→wpAny (model X.prog X.w) X.A (f (.int i t) (.int j u)) Q E s) :
  OpR X f (rI0 fun i j=>.int (g i j)):=by
 intro pins s σ H x y v u Q I rx ry h
 obtain ⟨i,j,rfl,rfl,q⟩ :=h
 obtain ⟨t,rfl⟩ :=rx
 obtain ⟨t',rfl⟩ :=ry
 exact rule i j t t' s _ _ ⟨.int (g i j),H,I.tok _,⟨_,rfl⟩,q⟩
theorem opB0 {f:Value→Value→Sem Value} {g:Int→Int→Bool}
  (rule:∀ (i j:Int) (t u:Tok) (s:Shared) (Q:Value→Shared→Prop) (E:Value→Shared→Prop),Q (.bool (g i j)) s→wpAny (model X.prog X.w) X.A (f (.int i t) (.int j u)) Q E s) :
  OpR X f (rI0 fun i j=>.bl (g i j)):=by
 intro pins s σ H x y v u Q I rx ry h
 obtain ⟨i,j,rfl,rfl,q⟩ :=h
 obtain ⟨t,rfl⟩ :=rx
 obtain ⟨t',rfl⟩ :=ry
 exact rule i j t t' s _ _ ⟨.bl (g i j),H,I,rfl,q⟩
def CMul (i j:Int):Prop:=(-(2 ^ 64) < i∧i < 2 ^ 64)∨(-(2 ^ 64) < j∧j < 2 ^ 64)
theorem CMul.ok {i j:Int} (h:CMul i j):IntMulOk i j:=by
 rcases h with ⟨h1,h2⟩ | ⟨h1,h2⟩
 ·exact .of_left (intBits_le_64 h1 h2)
 ·exact .of_right (intBits_le_64 h1 h2)
theorem ZJV:OpR X (binaryOp .Add) (rI0 fun i j=>.int (i + j)):=opI0 fun _ _ _ _ _ _ _ q=>add_int q
theorem Zu7:OpR X (binaryOp .Sub) (rI0 fun i j=>.int (i - j)):=opI0 fun _ _ _ _ _ _ _ q=>sub_int q
theorem ZJ1:OpR X (binaryOp .Mult) (rI CMul fun i j=>.int (i * j)):=opI fun _ _ _ _ _ _ _ hc q=>mul_int q hc.ok
theorem Zbt:OpR X (binaryOp .Mod) (rI (fun _ j=>0 < j) fun i j=>.int (i % j)):=opI fun i j _ _ _ _ _ hc q=>by
 have h1:(0:Int) < j:=hc
 exact mod_int' (by omega) (by rw [Int.fmod_eq_emod_of_nonneg i (by omega)]; exact q)
theorem unI {f:Value→Sem Value} {g:Int→Int}
  (rule:∀ (i:Int) (t:Tok) (s:Shared) (Q:Value→Shared→Prop) (E:Value→Shared→Prop),Q (.int (g i) s.toks) { s with toks:=s.toks + 1 }→wpAny (model X.prog X.w) X.A (f (.int i t)) Q E s) :
  UnR X f (rU fun i=>.int (g i)):=by
 intro pins s σ H x v Q I rx h
 obtain ⟨i,rfl,q⟩ :=h
 obtain ⟨t,rfl⟩ :=rx
 exact rule i t s _ _ ⟨.int (g i),H,I.tok _,⟨_,rfl⟩,q⟩
theorem Zs9:UnR X (unaryOp .USub) (rU fun i=>.int (-i)):=unI fun _ _ _ _ _ q=>neg_int q
end
def scal:V→V→Bool
 | .non,.non=>true | .non,.int _=>true | .int _,.non=>true | .non,.bl _=>true | .bl _,.non=>true | .non,.str _=>true | .str _,.non=>true
 | .int _,.int _=>true | .bl _,.bl _=>true | .str _,.str _=>true | .byt _,.byt _=>true
 | .int _,.str _=>true | .str _,.int _=>true | .bl _,.str _=>true | .str _,.bl _=>true
 | _,_=>false
def rEq:R2:=fun x y H Q=>scal x y=true∧Q (.bl (decide (x=y))) H
def rNe:R2:=fun x y H Q=>scal x y=true∧Q (.bl (!decide (x=y))) H
theorem ZDo {i j:Int}:decide (V.int i=V.int j)=(i == j):=by
 rw [Bool.eq_iff_iff]
 simp
theorem ZGI {i j:Bool}:decide (V.bl i=V.bl j)=(i == j):=by
 rw [Bool.eq_iff_iff]
 simp
theorem ZDp {i j:Str}:decide (V.str i=V.str j)=(i == j):=by
 rw [Bool.eq_iff_iff]
 simp
theorem ZDn {i j:Array UInt8}:decide (V.byt i=V.byt j)=(i.toList == j.toList):=by
 rw [Bool.eq_iff_iff]
 cases i
 cases j
 simp
section
variable {X:Cx} {a b c:Expr} {ta tb tc:TE} {pos:Pos}
theorem ZbL {pins:List (Addr × Obj)} {σ:St} {H:Hp} {s:Shared} {Q:VK} {k k':Bool} (I:Inv X pins σ H s) (q:Q (.bl k) H) (e:k=k'):EP X pins σ Q (.bool k') s:=by
 subst e
 exact ⟨.bl k,H,I,rfl,q⟩
theorem ZK7:OpR X (compareOp .Eq) rEq:=by
 intro pins s σ H x y v u Q I rx ry h
 obtain ⟨hs,q⟩ :=h
 cases x with
 | non=>
  cases rx
  cases y with
  | non=>cases ry; exact PySem.EqNone.eq_none_none (ZbL I q (by simp))
  | bl j=>cases ry; exact PySem.EqNone.eq_none_bool (ZbL I q (by simp))
  | int j=>obtain ⟨t',rfl⟩ :=ry; exact PySem.EqNone.eq_none_int (ZbL I q (by simp))
  | str j=>obtain ⟨t',rfl⟩ :=ry; exact PySem.EqNone.eq_none_str (ZbL I q (by simp))
  | _=>exact absurd (show false=true from hs) Bool.false_ne_true
 | bl i=>
  cases rx
  cases y with
  | non=>cases ry; exact PySem.EqNone.eq_bool_none (ZbL I q (by simp))
  | bl j=>cases ry; exact eq_bool (ZbL I q ZGI)
  | str j=>obtain ⟨t',rfl⟩ :=ry; exact PySem.EqMixed.eq_bool_str (ZbL I q (by simp))
  | _=>exact absurd (show false=true from hs) Bool.false_ne_true
 | int i=>
  obtain ⟨t,rfl⟩ :=rx
  cases y with
  | non=>cases ry; exact PySem.EqNone.eq_int_none (ZbL I q (by simp))
  | int j=>obtain ⟨t',rfl⟩ :=ry; exact eq_int (ZbL I q ZDo)
  | str j=>obtain ⟨t',rfl⟩ :=ry; exact PySem.EqMixed.eq_int_str (ZbL I q (by simp))
  | _=>exact absurd (show false=true from hs) Bool.false_ne_true
 | str i=>
  obtain ⟨t,rfl⟩ :=rx
  cases y with
  | non=>cases ry; exact PySem.EqNone.eq_str_none (ZbL I q (by simp))
  | bl j=>cases ry; exact PySem.EqMixed.eq_str_bool (ZbL I q (by simp))
  | int j=>obtain ⟨t',rfl⟩ :=ry; exact PySem.EqMixed.eq_str_int (ZbL I q (by simp))
  | str j=>obtain ⟨t',rfl⟩ :=ry; exact eq_str (ZbL I q ZDp)
  | _=>exact absurd (show false=true from hs) Bool.false_ne_true
 | byt i=>
  obtain ⟨t,rfl⟩ :=rx
  cases y with
  | byt j=>obtain ⟨t',rfl⟩ :=ry; exact PySem.W.eq_bytes (ZbL I q ZDn)
  | _=>exact absurd (show false=true from hs) Bool.false_ne_true
 | _=>cases y <;> exact absurd (show false=true from hs) Bool.false_ne_true
theorem ZK8:OpR X (compareOp .NotEq) rNe:=by
 intro pins s σ H x y v u Q I rx ry h
 obtain ⟨hs,q⟩ :=h
 cases x with
 | non=>
  cases rx
  cases y with
  | non=>cases ry; exact PySem.EqNone.ne_none_none (ZbL I q (by simp))
  | bl j=>cases ry; exact PySem.EqNone.ne_none_bool (ZbL I q (by simp))
  | int j=>obtain ⟨t',rfl⟩ :=ry; exact PySem.EqNone.ne_none_int (ZbL I q (by simp))
  | str j=>obtain ⟨t',rfl⟩ :=ry; exact PySem.EqNone.ne_none_str (ZbL I q (by simp))
  | _=>exact absurd (show false=true from hs) Bool.false_ne_true
 | bl i=>
  cases rx
  cases y with
  | non=>cases ry; exact PySem.EqNone.ne_bool_none (ZbL I q (by simp))
  | bl j=>cases ry; exact ne_bool (ZbL I q (congrArg not ZGI))
  | str j=>obtain ⟨t',rfl⟩ :=ry; exact PySem.EqMixed.ne_bool_str (ZbL I q (by simp))
  | _=>exact absurd (show false=true from hs) Bool.false_ne_true
 | int i=>
  obtain ⟨t,rfl⟩ :=rx
  cases y with
  | non=>cases ry; exact PySem.EqNone.ne_int_none (ZbL I q (by simp))
  | int j=>obtain ⟨t',rfl⟩ :=ry; exact ne_int (ZbL I q (congrArg not ZDo))
  | str j=>obtain ⟨t',rfl⟩ :=ry; exact PySem.EqMixed.ne_int_str (ZbL I q (by simp))
  | _=>exact absurd (show false=true from hs) Bool.false_ne_true
 | str i=>
  obtain ⟨t,rfl⟩ :=rx
  cases y with
  | non=>cases ry; exact PySem.EqNone.ne_str_none (ZbL I q (by simp))
  | bl j=>cases ry; exact PySem.EqMixed.ne_str_bool (ZbL I q (by simp))
  | int j=>obtain ⟨t',rfl⟩ :=ry; exact PySem.EqMixed.ne_str_int (ZbL I q (by simp))
  | str j=>obtain ⟨t',rfl⟩ :=ry; exact ne_str (ZbL I q (congrArg not ZDp))
  | _=>exact absurd (show false=true from hs) Bool.false_ne_true
 | byt i=>
  obtain ⟨t,rfl⟩ :=rx
  cases y with
  | byt j=>obtain ⟨t',rfl⟩ :=ry; exact PySem.W.ne_bytes (ZbL I q (congrArg not ZDn))
  | _=>exact absurd (show false=true from hs) Bool.false_ne_true
 | _=>cases y <;> exact absurd (show false=true from hs) Bool.false_ne_true
theorem ZCI:OpR X (compareOp .Lt) (rI0 fun i j=>.bl (decide (i < j))):=opB0 fun _ _ _ _ _ _ _ q=>lt_int q
theorem ZJ0:OpR X (compareOp .LtE) (rI0 fun i j=>.bl (decide (i≤j))):=opB0 fun _ _ _ _ _ _ _ q=>le_int q
theorem Zu5:OpR X (compareOp .Gt) (rI0 fun i j=>.bl (decide (j < i))):=opB0 fun _ _ _ _ _ _ _ q=>gt_int q
theorem ZEt:OpR X (compareOp .GtE) (rI0 fun i j=>.bl (decide (j≤i))):=opB0 fun _ _ _ _ _ _ _ q=>ge_int q
theorem ZEv:OpR X (compareOp .In) (fun x y H Q=>∃ i j,x=.str i∧y=.str j∧Q (.bl (!(Builtin.Str.occurrences j i 0 j.length 1).isEmpty)) H):=by
 intro pins s σ H x y v u Q I rx ry h
 obtain ⟨i,j,rfl,rfl,q⟩ :=h
 obtain ⟨t,rfl⟩ :=rx
 obtain ⟨t',rfl⟩ :=ry
 exact in_str (ZbL I q rfl)
theorem ZJZ:OpR X (compareOp .Is) (fun x y H Q=>y=.non∧Q (.bl (decide (x=.non))) H):=by
 intro pins s σ H x y v u Q I rx ry h
 obtain ⟨rfl,q⟩ :=h
 cases ry
 refine is_none_gen (ZbL I q ?_)
 cases x <;> first
  | (cases rx; rfl)
  | (obtain ⟨t,rfl⟩ :=rx; rfl)
theorem Zzx:OpR X (compareOp .NotIn) (fun x y H Q=>∃ i j,x=.str i∧y=.str j∧Q (.bl (!(!(Builtin.Str.occurrences j i 0 j.length 1).isEmpty))) H):=by
 intro pins s σ H x y v u Q I rx ry h
 obtain ⟨i,j,rfl,rfl,q⟩ :=h
 obtain ⟨t,rfl⟩ :=rx
 obtain ⟨t',rfl⟩ :=ry
 exact notIn_str (ZbL I q rfl)
theorem OpR.or {f:Value→Value→Sem Value} {r r':R2} (h:OpR X f r) (h':OpR X f r'):OpR X f (fun x y H Q=>r x y H Q∨r' x y H Q):=by
 intro pins s σ H x y v u Q I rx ry q
 rcases q with q | q
 ·exact h pins s σ H x y v u Q I rx ry q
 ·exact h' pins s σ H x y v u Q I rx ry q
theorem Zax (b:Expr) {op:CmpOp} (h:op ≠ .In:=by decide) (h2:op ≠ .NotIn:=by decide):behindInMarks op b=false:=by
 have e1:(op == CmpOp.In)=false:=by cases op <;> first | rfl | exact absurd rfl h
 have e2:(op == CmpOp.NotIn)=false:=by cases op <;> first | rfl | exact absurd rfl h2
 cases b <;> simp [behindInMarks,e1,e2]
theorem Zu8 {op:CmpOp} {r:R2} (ho:OpR X (compareOp op) r) (ha:PE X a ta) (hb:PE X b tb) (hm:behindInMarks op b=false):PE X (.Compare a [op] [b] pos) (tOp r ta tb):=by
 intro pins s σ H Q I h
 exact wpAny_Compare1 (binT ha hb I h fun v u s2 x y H2 I2 rx ry q=>ho pins s2 σ H2 x y v u Q I2 rx ry q) hm
def ZIR (t:TE):TT:=fun σ H Q=>t σ H fun x H'=>∃ k,x=.bl k∧Q k H'
theorem Zal {op:CmpOp} {r:R2} (ho:OpR X (compareOp op) r) (ha:PE X a ta) (hb:PE X b tb) (hm:behindInMarks op b=false):PT X (.Compare a [op] [b] pos) (ZIR (tOp r ta tb)):=by
 intro pins s σ H Q I h
 refine wpAny_isTrue_Compare1 (thn (ha pins s σ H _ I h) fun v s1 ⟨x,H1,I1,r1,q1⟩ =>thn (hb pins s1 σ H1 _ I1 q1) fun u s2 ⟨y,H2,I2,r2,q2⟩ =>
  thn (ho pins s2 σ H2 x y v u _ I2 r1 r2 q2) fun c s3 ⟨z,H3,I3,r3,k,e,q3⟩ =>?_) hm
 subst e
 cases r3
 exact wpAny_truthy_bool ⟨H3,I3,q3⟩
def ZFc (r r':R2) (ta tb tc:TE):TE:=fun σ H Q=>ta σ H fun x H1=>tb σ H1 fun y H2=>r x y H2 fun z H3=>∃ k,z=.bl k∧
 (if k=true then tc σ H3 fun w' H4=>r' y w' H4 Q else Q (.bl false) H3)
theorem ZGa {op op':CmpOp} {r r':R2} (ho:OpR X (compareOp op) r) (ho':OpR X (compareOp op') r') (ha:PE X a ta) (hb:PE X b tb) (hc:PE X c tc)
  (hm:lastMarks [op,op'] [b,c]=false:=by with_unfolding_all rfl):PE X (.Compare a [op,op'] [b,c] pos) (ZFc r r' ta tb tc):=by
 intro pins s σ H Q I h
 refine Compare_chain (thn (ha pins s σ H _ I h) fun v s1 ⟨x,H1,I1,r1,q1⟩ =>chain_link (thn (hb pins s1 σ H1 _ I1 q1) fun u s2 ⟨y,H2,I2,r2,q2⟩ =>
  thn (ho pins s2 σ H2 x y v u _ I2 r1 r2 q2) fun d s3 ⟨z,H3,I3,r3,k,e,q3⟩ =>?_)) hm
 subst e
 cases r3
 refine wpAny_truthy_bool ?_
 cases k with
 | false=>exact ite_ff ⟨.bl false,H3,I3,rfl,q3⟩
 | true=>exact ite_tt (chain_last (thn (hc pins s3 σ H3 _ I3 q3) fun w' s4 ⟨z',H4,I4,r4,q4⟩ =>ho' pins s4 σ H4 y z' u w' Q I4 r2 r4 q4))
theorem ZGg {op op':CmpOp} {r r':R2} (ho:OpR X (compareOp op) r) (ho':OpR X (compareOp op') r') (ha:PE X a ta) (hb:PE X b tb) (hc:PE X c tc)
  (hm:lastMarks [op,op'] [b,c]=false:=by with_unfolding_all rfl):PT X (.Compare a [op,op'] [b,c] pos) (ZIR (ZFc r r' ta tb tc)):=by
 intro pins s σ H Q I h
 refine isTrue_chain (thn (ha pins s σ H _ I h) fun v s1 ⟨x,H1,I1,r1,q1⟩ =>test_link (thn (hb pins s1 σ H1 _ I1 q1) fun u s2 ⟨y,H2,I2,r2,q2⟩ =>
  thn (ho pins s2 σ H2 x y v u _ I2 r1 r2 q2) fun d s3 ⟨z,H3,I3,r3,k,e,q3⟩ =>?_)) hm
 subst e
 cases r3
 refine wpAny_truthy_bool ?_
 cases k with
 | false=>
  obtain ⟨k',e',q'⟩ :=q3
  cases e'
  exact ite_ff ⟨H3,I3,q'⟩
 | true=>
  refine ite_tt (test_last (thn (hc pins s3 σ H3 _ I3 q3) fun w' s4 ⟨z',H4,I4,r4,q4⟩ =>thn (ho' pins s4 σ H4 y z' u w' _ I4 r2 r4 q4) fun d' s5 ⟨z2,H5,I5,r5,k2,e2,q5⟩ =>?_))
  subst e2
  cases r5
  exact wpAny_truthy_bool ⟨H5,I5,q5⟩
def TruV (K:PySem.W.Frag) (x:V) (H:Hp) (k:Bool):Prop:=
 match x with
 | .non=>k=false
 | .bl b=>k=b
 | .int i=>k=(i != 0)
 | .str y=>y.length≤sizeLine∧k=((y.length:Int) != 0)
 | .byt y=>y.size≤sizeLine∧k=((y.size:Int) != 0)
 | .ref p=>(∃ xs,SqL K H p xs∧k = !xs.isEmpty)∨(∃ xs,SqT K H p xs∧k = !xs.isEmpty)∨∃ kvs,H p=some (.dK kvs)∧k = !kvs.isEmpty
 | _=>False
theorem ZCx {κ:Type} {kvs:List (κ × V)} {vs:List (κ × Value)} (r:KV kvs vs):(!vs.isEmpty) = !kvs.isEmpty:=by
 cases r <;> rfl
theorem Zws {xs:List V} {its:List Value} (r:Vals xs its):(!its.toArray.isEmpty) = !xs.isEmpty:=by
 cases r <;> simp
theorem ZyV:(sizeLine:Nat) < 2 ^ 63:=by rw [sizeLine_eq]; decide
theorem ZHC:TruR X (fun x H Q=>∃ k,TruV X.K x H k∧Q k H):=by
 intro pins s σ H x v Q I rx h
 obtain ⟨k,e,q⟩ :=h
 have hl:=ZyV
 have hs:sizeLine=16777216:=sizeLine_eq
 cases x with
 | non=>
  cases rx
  have e':k=false:=e
  subst e'
  exact truthy_none ⟨H,I,q⟩
 | bl b=>
  cases rx
  have e':k=b:=e
  subst e'
  exact wpAny_truthy_bool ⟨H,I,q⟩
 | int i=>
  obtain ⟨t,rfl⟩ :=rx
  have e':k=(i != 0):=e
  subst e'
  exact PySem.P.truthy_int ⟨H,I,q⟩
 | str y=>
  obtain ⟨t,rfl⟩ :=rx
  obtain ⟨hy,e'⟩ : y.length≤sizeLine∧k=((y.length:Int) != 0):=e
  subst e'
  exact PySem.P.truthy_str (by omega) ⟨H,I.tok _,q⟩
 | byt y=>
  obtain ⟨t,rfl⟩ :=rx
  obtain ⟨hy,e'⟩ : y.size≤sizeLine∧k=((y.size:Int) != 0):=e
  subst e'
  exact PySem.W.truthy_bytes (by omega) ⟨H,I.tok _,q⟩
 | ref p=>
  cases rx
  have e':(∃ xs,SqL X.K H p xs∧k = !xs.isEmpty)∨(∃ xs,SqT X.K H p xs∧k = !xs.isEmpty)∨∃ kvs,H p=some (.dK kvs)∧k = !kvs.isEmpty:=e
  rcases e' with ⟨xs,hx,e'⟩ | ⟨xs,hx,e'⟩ | ⟨kvs,hx,e'⟩
  ·subst e'
   obtain ⟨its,r,pl,hz⟩ :=I.list hx
   have hlen:=r.length
   exact wpAny_truthy_list pl.isList (by simp only [List.size_toArray]; omega) ⟨H,I.tok _,by rw [Zws r]; exact q⟩
  ·subst e'
   obtain ⟨its,r,pl,hz⟩ :=I.tuple hx
   have hlen:=r.length
   exact truthy_tuple pl (by simp only [List.size_toArray]; omega) ⟨H,I.tok _,by rw [Zws r]; exact q⟩
  ·subst e'
   obtain ⟨hz,hS,vs,r,m⟩ : kvs.length≤sizeLine∧(p == sysModules)=false∧∃ vs,KV kvs vs∧s.heap.DictOf (ZdB X.prog X.w) p vs:=I.hok p _ hx
   have hlen:kvs.length=vs.length:=Paired.length r
   exact wpAny_truthy_dict hS m (by omega) ⟨H,I.tok _,by rw [ZCx r]; exact q⟩
 | _=>exact (show False from e).elim
theorem ZdW (ha:PE X a ta) (he:∀ whole,isTrue a X.env whole=(do let v ← whole; standAt a.pos; holding [v] (truthy v))) :
  PT X a (fun σ H Q=>ta σ H fun x H'=>∃ k,TruV X.K x H' k∧Q k H'):=by
 intro pins s σ H Q I h
 exact isTrue_plain (thn (ha pins s σ H _ I h) fun v s1 ⟨x,H1,I1,r1,q1⟩ =>ZHC pins s1 σ H1 x v Q I1 r1 q1) (he _)
theorem ZCH:OpR X (binaryOp .Add) (fun x y H Q=>∃ i j,x=.str i∧y=.str j∧i.length + j.length≤sizeLine∧Q (.str (i ++ j)) H):=by
 intro pins s σ H x y v u Q I rx ry h
 obtain ⟨i,j,rfl,rfl,hz,q⟩ :=h
 obtain ⟨t,rfl⟩ :=rx
 obtain ⟨t',rfl⟩ :=ry
 exact add_str (fun t' tk=>⟨.str (i ++ j),H,I.tok _,⟨_,rfl⟩,q⟩) hz
theorem ZFj {x:V} {us:List Value} (r:Vals [x] us):∃ u,us=[u]∧RelV x u:=by
 cases r with
 | cons r1 r2=>cases r2; exact ⟨_,rfl,r1⟩
theorem Zwe {x y:V} {us:List Value} (r:Vals [x,y] us):∃ u w',us=[u,w']∧RelV x u∧RelV y w':=by
 cases r with
 | cons r1 r2=>
  cases r2 with
  | cons r3 r4=>cases r4; exact ⟨_,_,rfl,r1,r3⟩
theorem ZC7 (hc:X.calm=true):Zlo X (.builtin "max") (fun xs H Q=>∃ i j,xs=[.int i,.int j]∧Q (.int (if j > i then j else i)) H):=by
 intro pins s σ H xs us Q I r h
 obtain ⟨i,j,rfl,q⟩ :=h
 obtain ⟨u,w',rfl,⟨t,rfl⟩,⟨t',rfl⟩⟩ :=Zwe r
 refine max_two_ints (I.ok.hd hc) fun h' tk k=>⟨_,H,I.kept k,?_,q⟩
 by_cases hj:j > i
 ·rw [if_pos hj,if_pos hj]; exact ⟨_,rfl⟩
 ·rw [if_neg hj,if_neg hj]; exact ⟨_,rfl⟩
theorem ZDa (hc:X.calm=true):Zlo X (.builtin "min") (fun xs H Q=>∃ i j,xs=[.int i,.int j]∧Q (.int (if j < i then j else i)) H):=by
 intro pins s σ H xs us Q I r h
 obtain ⟨i,j,rfl,q⟩ :=h
 obtain ⟨u,w',rfl,⟨t,rfl⟩,⟨t',rfl⟩⟩ :=Zwe r
 refine min_two_ints (I.ok.hd hc) fun h' tk k=>⟨_,H,I.kept k,?_,q⟩
 by_cases hj:j < i
 ·rw [if_pos hj,if_pos hj]; exact ⟨_,rfl⟩
 ·rw [if_neg hj,if_neg hj]; exact ⟨_,rfl⟩
theorem ZC5:Zlo X (.type "int") (fun xs H Q=>(∃ i,xs=[.int i]∧Q (.int i) H)∨∃ k,xs=[.bl k]∧Q (.int (if k then 1 else 0)) H):=by
 intro pins s σ H xs us Q I r h
 rcases h with ⟨i,rfl,q⟩ | ⟨k,rfl,q⟩
 ·obtain ⟨u,rfl,t,rfl⟩ :=ZFj r
  exact call_int_int ⟨.int i,H,I,⟨_,rfl⟩,q⟩
 ·obtain ⟨u,rfl,r1⟩ :=ZFj r
  cases r1
  exact call_int_bool ⟨.int (if k then 1 else 0),H,I.tok _,⟨_,rfl⟩,q⟩
def LenV (K:PySem.W.Frag) (x:V) (H:Hp) (n:Nat):Prop:=
 match x with
 | .str y=>y.length≤sizeLine∧n=y.length
 | .byt y=>y.size≤sizeLine∧n=y.size
 | .ref p=>(∃ xs,SqL K H p xs∧n=xs.length)∨∃ xs,SqT K H p xs∧n=xs.length
 | _=>False
theorem ZFx:Zlo X (.builtin "len") (fun xs H Q=>∃ x n,xs=[x]∧LenV X.K x H n∧Q (.int n) H):=by
 intro pins s σ H xs us Q I r h
 obtain ⟨x,n,rfl,e,q⟩ :=h
 obtain ⟨u,rfl,rx⟩ :=ZFj r
 have hl:=ZyV
 have hs:sizeLine=16777216:=sizeLine_eq
 cases x with
 | str y=>
  obtain ⟨t,rfl⟩ :=rx
  obtain ⟨hy,e'⟩ : y.length≤sizeLine∧n=y.length:=e
  subst e'
  exact len_str (by omega) ⟨.int _,H,I.tok _,⟨_,rfl⟩,q⟩
 | byt y=>
  obtain ⟨t,rfl⟩ :=rx
  obtain ⟨hy,e'⟩ : y.size≤sizeLine∧n=y.size:=e
  subst e'
  exact PySem.W.len_bytes (by omega) ⟨.int _,H,I.tok _,⟨_,rfl⟩,q⟩
 | ref p=>
  cases rx
  have e':(∃ xs,SqL X.K H p xs∧n=xs.length)∨∃ xs,SqT X.K H p xs∧n=xs.length:=e
  rcases e' with ⟨xs,hx,e'⟩ | ⟨xs,hx,e'⟩
  ·subst e'
   obtain ⟨its,r',pl,hz⟩ :=I.list hx
   have hlen:=r'.length
   exact Calls.call_len_list pl.isList (by simp only [List.size_toArray]; omega) ⟨.int xs.length,H,I.tok _,⟨_,by simp only [List.size_toArray]; rw [hlen]⟩,q⟩
  ·subst e'
   obtain ⟨its,r',pl,hz⟩ :=I.tuple hx
   have hlen:=r'.length
   exact len_tuple pl (by simp only [List.size_toArray]; omega) ⟨.int xs.length,H,I.tok _,⟨_,by simp only [List.size_toArray]; rw [hlen]⟩,q⟩
 | _=>exact (show False from e).elim
end
end L2
namespace L2
open PySem PySem.Spec PyProof.Rows
structure ObjM (h:Heap) (x dx C:Addr) (mA:Str→Option Value):Prop where
 obj:h.get? x=some (PySem.W.instObj C dx)
 ns:h.Ns1 dx mA
 ne:dx ≠ x
theorem ZD4 {h:Heap} {dx:Addr} {mA:Str→Option Value} (n:h.Ns1 dx mA):∃ od,h.get? dx=some od∧∀ name,PySem.W.lookIn name od=some (mA name):=by
 obtain ⟨o,es,ep,ho,hd,hk,_,hm⟩ :=n
 refine ⟨o,ho,fun name=>?_⟩
 have e:=hm name
 unfold nsFind findBy at e
 rw [← Array.find?_toList] at e
 unfold PySem.W.lookIn
 rw [hd]
 dsimp only
 split
 ·rename_i y q
  rw [q] at e
  exact congrArg some e
 ·rename_i q
  rw [q] at e
  have a:es.toList.any (·.refKey)=false:=by
   rw [List.any_eq_false]
   intro y hy
   obtain ⟨z,t,hkey⟩ :=hk y (Array.mem_toList_iff.mp hy)
   simp [DictEntry.refKey,hkey]
  have a' : ¬ es.toList.any (·.refKey)=true:=by rw [a]; exact Bool.false_ne_true
  rw [if_neg a']
  exact congrArg some e
theorem ObjM.look {h:Heap} {x dx C:Addr} {mA:Str→Option Value} (I:ObjM h x dx C mA):∃ od,PySem.W.InstAt h x (PySem.W.instObj C dx) C (some od)∧∀ name,PySem.W.lookIn name od=some (mA name):=
 let ⟨od,ho,hl⟩ :=ZD4 I.ns
 ⟨od,⟨I.obj,rfl,rfl,ho⟩,hl⟩
section
variable {prog:Program} {w:World} {A:Around} {E:Value→Shared→Prop} {s:Shared} {K:PySem.W.Frag} {x dx C f:Addr} {mA:Str→Option Value} {name:Str} {v:Value}
theorem ZHT {expr:Bool} {Q:Value→Shared→Prop} (X:K.In s.heap) (I:ObjM s.heap x dx C mA) (hg:PySem.W.plainGet K C name=true) (hh:PySem.W.hasDictIn K C=true)
  (ha:PySem.W.findIn K (.ref C) name=some none) (hv:mA name=some v) (hv':PySem.W.handedIn v=true) (h:Q v { s with toks:=s.toks + 1 }) :
  wpAny (model prog w) A (getAttr (.ref x) name expr) Q E s:=by
 obtain ⟨od,J,hl⟩ :=I.look
 exact PySem.W.get_value X J (PySem.W.plainGet_of hg).1 (PySem.W.findObj_own hh ha rfl (by rw [hl,hv])) hv' h
theorem ZFG {pl:Sem Bool} {Q:Value × List Value→Shared→Prop} (X:K.In s.heap) (I:ObjM s.heap x dx C mA) (hg:PySem.W.plainGet K C name=true)
  (hf:PySem.W.findIn K (.ref C) name=some (some (.ref f))) (ht:PySem.W.isFn K (.ref f)=true) (hv:mA name=none) (h:Q (.ref f,[.ref x]) s) :
  wpAny (model prog w) A (getMethod (.ref x) name pl) Q E s:=by
 obtain ⟨od,J,hl⟩ :=I.look
 exact PySem.W.method_fn X J (PySem.W.plainGet_of hg).1 (PySem.W.plainGet_of hg).2 hf (beq_iff_eq.mp ht) (by show (PySem.W.lookIn name od).map (·.isSome)=some false; rw [hl,hv]; rfl) h
theorem ZIC {ns:List Str} {Q:Unit→Shared→Prop} (X:K.In s.heap) (I:ObjM s.heap x dx C mA)
  (hs:PySem.W.findIn K (.ref C) "__setattr__" = some (some (.builtin "object.__setattr__"))) (hp:PySem.W.plainOver K C=true) (ht:PySem.W.takerIn K C name=some none) (hh:PySem.W.hasDictIn K C=true)
  (hw:PySem.Within mA ns) (hsz:ns.length≤sizeLine)
  (h:∀ h',ObjM h' x dx C (fun y=>if y=name then some v else mA y)→Heap.SameBut dx s.heap h'→Q () { s with heap:=h',toks:=s.toks + 2 }) :
  wpAny (model prog w) A (setAttr (.ref x) name v) Q E s:=by
 obtain ⟨od,J,hl⟩ :=I.look
 refine PySem.W.set_plain X J hs (PySem.W.osa_open (s:={ s with toks:=s.toks + 1 }) (r:=none) X J hp ht fun b=>?_)
 obtain ⟨cd,hc,hd'⟩ :=PySem.W.any_some hh
 have hx:s.heap.get? x=some ⟨.ref C,some dx,.plain,#[]⟩ :=I.obj
 refine wpAny_bind (wpAny_pure (wpAny_bind (wpAny_bind (wpAny_loadPart hx (wpAny_bind (PySem.W.Looks.here (s:={ s with toks:=s.toks + 1 }) (PySem.W.looks_clsIn X hc) ?_))))))
 rw [hd']
 refine wpAny_pure (a:=some dx) (wpAny_bind (wpAny_pure (wpAny_bind ?_)))
 refine wpAny_nsSet1 (s:={ s with toks:=s.toks + 1 }) I.ns fun h' hn2 hs2=>?_
 obtain ⟨oD,esD,epD,hoD,hdD,hcD⟩ :=hn2.count (PySem.Within.cons name v hw)
 refine wpAny_bind (wpAny_lookBehind hoD (by rw [hdD]; exact pastItsLine_dict (Nat.le_trans hcD (by rw [List.length_cons]; omega))) ?_)
 exact wpAny_pure (h _ ⟨(hs2.2 _ (Ne.symm I.ne)).trans I.obj,hn2,I.ne⟩ hs2)
theorem ZFY {R:Result→Shared→Prop} {vs:List Value} {kw:List (Str × Value)} (X:K.In s.heap) (hm:PySem.W.makesIn K C=true)
  (hi:PySem.W.findIn K (.ref C) "__init__" = some (some (.ref f))) (hf:PySem.W.typeIn K (.ref f)=some (.type "function"))
  (h:codeAny (model prog w) (A.under (.builtin "type.__call__" ⟨.ref C :: vs,kw⟩)) (.call (.ref f) ⟨.ref (s.heap.objs.size + 1) :: vs,kw⟩) (PySem.W.InitBack (s.heap.objs.size + 1) R)
   { s with heap:=(s.heap.push PySem.W.emptyDict).push (PySem.W.instObj C s.heap.objs.size) }) :
  codeAny (model prog w) A (.call (.ref C) ⟨vs,kw⟩) R s:=by
 obtain ⟨hh,g,d,t,os⟩ :=s
 exact PySem.W.make_core (PySem.W.makes_of X hm) (PySem.W.looks_findIn X hi) (fun self=>PySem.W.bind_fn X self hf) (.inl rfl) h
end
def putF (f:Str) (v:V):List (Str × V)→List (Str × V)
 | []=>[(f,v)]
 | (g,x) :: r=>if g=f then (g,v) :: r else (g,x) :: putF f v r
theorem ZkP (f g:Str) (v:V):∀ fs:List (Str × V),(putF f v fs).lookup g=if g=f then some v else fs.lookup g
 | []=>by
  show List.lookup g [(f,v)]=_
  by_cases h:g=f
  ·have hb:(g == f)=true:=beq_iff_eq.mpr h
   simp only [List.lookup,hb,if_pos h]
  ·have hb:(g == f)=false:=beq_eq_false_iff_ne.mpr h
   simp only [List.lookup,hb,if_neg h]
 | (k,x) :: r=>by
  have ih:=ZkP f g v r
  rw [show putF f v ((k,x) :: r)=(if k=f then (k,v) :: r else (k,x) :: putF f v r) from rfl]
  by_cases hk:k=f
  ·rw [if_pos hk]
   by_cases h:g=k
   ·have hb:(g == k)=true:=beq_iff_eq.mpr h
    simp only [List.lookup,hb,if_pos (h.trans hk)]
   ·have hb:(g == k)=false:=beq_eq_false_iff_ne.mpr h
    simp only [List.lookup,hb,if_neg (fun e:g=f=>h (e.trans hk.symm))]
  ·rw [if_neg hk]
   by_cases h:g=k
   ·have hb:(g == k)=true:=beq_iff_eq.mpr h
    simp only [List.lookup,hb,if_neg (fun e:g=f=>hk (h.symm.trans e))]
   ·have hb:(g == k)=false:=beq_eq_false_iff_ne.mpr h
    simp only [List.lookup,hb]
    exact ih
theorem ZuA (f:Str) (v:V):∀ fs:List (Str × V),f ∈ (putF f v fs).map (·.1)∧∀ g,g ∈ fs.map (·.1)→g ∈ (putF f v fs).map (·.1)
 | []=>⟨by simp [putF],fun g h=>by simp at h⟩
 | (k,x) :: r=>by
  obtain ⟨i1,i2⟩ :=ZuA f v r
  rw [show putF f v ((k,x) :: r)=(if k=f then (k,v) :: r else (k,x) :: putF f v r) from rfl]
  by_cases hk:k=f
  ·rw [if_pos hk]
   subst hk
   exact ⟨by simp,fun g h=>by simpa using h⟩
  ·rw [if_neg hk]
   refine ⟨?_,fun g h=>?_⟩
   ·rw [List.map_cons]
    exact List.mem_cons_of_mem _ i1
   ·rw [List.map_cons] at h ⊢
    rcases List.mem_cons.mp h with e | e
    ·exact List.mem_cons.mpr (.inl e)
    ·exact List.mem_cons_of_mem _ (i2 g e)
theorem ZuC (f:Str) (v:V):∀ fs:List (Str × V),(putF f v fs).length≤fs.length + 1
 | []=>by simp [putF]
 | (k,x) :: r=>by
  have ih:=ZuC f v r
  rw [show putF f v ((k,x) :: r)=(if k=f then (k,v) :: r else (k,x) :: putF f v r) from rfl]
  by_cases hk:k=f
  ·rw [if_pos hk,List.length_cons,List.length_cons]; omega
  ·rw [if_neg hk,List.length_cons,List.length_cons]; omega
theorem RelO.some_of {v:V} {o:Option Value} (r:RelO (some v) o):∃ u,o=some u∧RelV v u:=by
 cases o with
 | none=>exact (show False from r).elim
 | some u=>exact ⟨u,rfl,r⟩
theorem RelO.none_of {o:Option Value} (r:RelO none o):o=none:=by
 cases o with
 | none=>rfl
 | some u=>exact (show False from r).elim
theorem ZDA {v:V} {u:Value} (r:RelV v u):PySem.W.handedIn u=true:=by
 cases v with
 | non=>cases (show u=Value.none from r); rfl
 | bl b=>cases (show u=Value.bool b from r); rfl
 | int i=>obtain ⟨t,e⟩ :=(show ∃ t,u=Value.int i t from r); cases e; rfl
 | str x=>obtain ⟨t,e⟩ :=(show ∃ t,u=Value.str x t from r); cases e; rfl
 | byt b=>obtain ⟨t,e⟩ :=(show ∃ t,u=Value.bytes b t from r); cases e; rfl
 | flt b=>obtain ⟨t,e⟩ :=(show ∃ t,u=Value.float b t from r); cases e; rfl
 | ref a=>cases (show u=Value.ref a from r); rfl
 | ty n=>cases (show u=Value.type n from r); rfl
section
variable {P:Program} {w:World} {H H':Hp} {h h':Heap} {a C dx:Addr} {fs fs':List (Str × V)}
theorem Zw4 (hok:HOk P w H h) (e:H a=some (.ins C dx fs)):∃ mA,ObjM h a dx C mA∧(∀ f,RelO (fs.lookup f) (mA f))∧PySem.Within mA (fs.map (·.1))∧fs.length≤1000∧H dx=some (.own a):=by
 obtain ⟨d,z,ne,ob,mA,n,r,q⟩ :=(show Zd0 P w H h a (.ins C dx fs) from hok a _ e)
 exact ⟨mA,⟨ob,n,ne⟩,r,q,z,d⟩
end
structure Cls (K:PySem.W.Frag) (C:Addr):Prop where
 pg:PySem.W.plainGet K C Str.empty=true
 hd:PySem.W.hasDictIn K C=true
 po:PySem.W.plainOver K C=true
 sa:PySem.W.findIn K (.ref C) "__setattr__" = some (some (.builtin "object.__setattr__"))
theorem Cls.get {K:PySem.W.Frag} {C:Addr} (c:Cls K C) (f:Str):PySem.W.plainGet K C f=true:=c.pg
def Zar (K:PySem.W.Frag) (C:Addr) (f:Str):Prop:=PySem.W.findIn K (.ref C) f=some none
theorem Zar.taker {K:PySem.W.Frag} {C:Addr} {f:Str} (n:Zar K C f):PySem.W.takerIn K C f=some none:=by
 unfold PySem.W.takerIn
 rw [show PySem.W.findIn K (.ref C) f=some none from n]
 rfl
structure Meth (K:PySem.W.Frag) (C:Addr) (m:Str) (f:Addr):Prop where
 at_:PySem.W.findIn K (.ref C) m=some (some (.ref f))
 fn:PySem.W.isFn K (.ref f)=true
 kp:PySem.W.keepIn K (.ref f)=true
section
variable {X:Cx} {pins:List (Addr × Obj)} {σ:St} {H:Hp} {s:Shared} {a C dx:Addr} {fs:List (Str × V)} {f:Str} {v:V} {A:Around} {E:Value→Shared→Prop}
theorem ZCt {b:Bool} {Q:Value→Shared→Prop} (I:Inv X pins σ H s) (e:H a=some (.ins C dx fs)) (c:Cls X.K C) (n:Zar X.K C f) (l:fs.lookup f=some v)
  (h:∀ u s',Inv X pins σ H s'→RelV v u→Q u s'):wpAny (model X.prog X.w) A (getAttr (.ref a) f b) Q E s:=by
 obtain ⟨mA,O,r,_,_,_⟩ :=Zw4 I.hok e
 obtain ⟨u,hu,ru⟩ :=RelO.some_of (v:=v) (o:=mA f) (by rw [← l]; exact r f)
 exact ZHT I.kIn O (c.get f) c.hd n hu (ZDA ru) (h u _ (I.tok _) ru)
theorem Zrr {m:Str} {g:Addr} {pl:Sem Bool} {Q:Value × List Value→Shared→Prop} (I:Inv X pins σ H s) (e:H a=some (.ins C dx fs)) (c:Cls X.K C) (k:Meth X.K C m g) (l:fs.lookup m=none)
  (h:Q (.ref g,[.ref a]) s):wpAny (model X.prog X.w) A (getMethod (.ref a) m pl) Q E s:=by
 obtain ⟨mA,O,r,_,_,_⟩ :=Zw4 I.hok e
 have hn:mA m=none:=RelO.none_of (by rw [← l]; exact r m)
 exact ZFG I.kIn O (c.get m) k.at_ k.fn hn h
theorem ZCN {y:V} {u:Value} {Q:Unit→Shared→Prop} (I:Inv X pins σ H s) (e:H a=some (.ins C dx fs)) (c:Cls X.K C) (n:Zar X.K C f) (hl:fs.length < 1000) (ry:RelV y u)
  (h:∀ s',Inv X pins σ (upd H a (.ins C dx (putF f y fs))) s'→Q () s'):wpAny (model X.prog X.w) A (setAttr (.ref a) f u) Q E s:=by
 obtain ⟨mA,O,r,wi,_,ho⟩ :=Zw4 I.hok e
 have hz:(fs.map (·.1)).length≤sizeLine:=by rw [List.length_map,sizeLine_eq]; omega
 refine ZIC I.kIn O c.sa c.po n.taker c.hd wi hz fun h' O' sb=>h _ ?_
 have hd:∃ o,h'.get? dx=some o:=let ⟨o,_,_,e',_⟩ :=O'.ns; ⟨o,e'⟩
 refine I.write (x:=a) (e:=dx) (by rw [e]; exact True.intro) (.inr ho) (fun b q hb z=>(sb.2 b hb).trans z) hd ?_
 refine ⟨by rw [ZbM O.ne]; exact ho,?_,O.ne,O'.obj,_,O'.ns,fun g=>?_,fun g hg=>?_⟩
 ·have:=ZuC f y fs; omega
 ·show RelO ((putF f y fs).lookup g) (if g=f then some u else mA g)
  rw [ZkP]
  by_cases q:g=f
  ·rw [if_pos q,if_pos q]; exact ry
  ·rw [if_neg q,if_neg q]; exact r g
 ·by_cases q:g=f
  ·rw [q]; exact (ZuA f y fs).1
  ·refine (ZuA f y fs).2 g (wi g fun z=>hg ?_)
   show (if g=f then some u else mA g)=none
   rw [if_neg q]; exact z
theorem Inv.made (I:Inv X pins σ H s):Inv X pins σ (upd (upd H s.heap.objs.size (.own (s.heap.objs.size + 1))) (s.heap.objs.size + 1) (.ins C s.heap.objs.size []))
  { s with heap:=(s.heap.push PySem.W.emptyDict).push (PySem.W.instObj C s.heap.objs.size) }:=by
 have e1:(s.heap.push PySem.W.emptyDict).get? s.heap.objs.size=some PySem.W.emptyDict:=Heap.get?_push_size s.heap rfl
 have e2:((s.heap.push PySem.W.emptyDict).push (PySem.W.instObj C s.heap.objs.size)).get? (s.heap.objs.size + 1)=some (PySem.W.instObj C s.heap.objs.size):=by
  have:=Heap.get?_push_size (s.heap.push PySem.W.emptyDict) (o:=PySem.W.instObj C s.heap.objs.size) rfl
  rwa [Heap.size_push] at this
 have e3:(s.heap.push PySem.W.emptyDict).Ns s.heap.objs.size (fun _=>none):=⟨PySem.W.emptyDict,#[],_,e1,rfl,(fun e he=>absurd he (by simp)),fun _=>rfl⟩
 have I1:=I.laid (a:=s.heap.objs.size) (o:=.own (s.heap.objs.size + 1)) (h':=s.heap.push PySem.W.emptyDict) (t':=s.toks) (fun b u q=>Heap.get?_push_of_some _ q) (Nat.le_refl _) ⟨_,e1⟩
 refine I1.laid (a:=s.heap.objs.size + 1) (o:=.ins C s.heap.objs.size []) (t':=s.toks) (fun b u q=>Heap.get?_push_of_some _ q) (Nat.le_of_eq (Heap.size_push _ _)) ?_
 have ne:s.heap.objs.size ≠ s.heap.objs.size + 1:=Nat.ne_of_lt (Nat.lt_succ_self _)
 refine ⟨by rw [ZbM ne,Za3],Nat.zero_le _,ne,e2,fun _=>none,(Heap.Ns1.of_empty e3).at fun o q=>Heap.get?_push_of_some _ q,fun _=>True.intro,fun y hy=>absurd rfl hy⟩
theorem ZHM {prog:Program} {w:World} {env:Env} {e:Expr} {f:Str} {pos:Pos} {s:Shared} {Q:Value→Shared→Prop} (hb:attributeBase e f env (eval e env)=eval e env)
  (h:wpAny (model prog w) A (eval e env) (fun o s₁=>wpAny (model prog w) A (getAttr o f true) Q E s₁) E s):wpAny (model prog w) A (eval (.Attribute e f pos) env) Q E s:=
 Attribute_any_ h (by rw [arm_eval_Attribute,hb])
end
def tFld (K:PySem.W.Frag) (ta:TE) (f:Str):TE:=fun σ H Q=>ta σ H fun x H1=>∃ a C dx fs v,x=.ref a∧H1 a=some (.ins C dx fs)∧Cls K C∧Zar K C f∧fs.lookup f=some v∧Q v H1
def sFld (K:PySem.W.Frag) (ta tv:TE) (f:Str):TS:=fun D σ H=>tv σ H fun y H1=>ta σ H1 fun x H2=>∃ a C dx fs,x=.ref a∧H2 a=some (.ins C dx fs)∧Cls K C∧Zar K C f∧fs.length < 1000∧
 D.nx σ (upd H2 a (.ins C dx (putF f y fs)))
section
variable {X:Cx} {o e value:Expr} {f:Str} {pos pos' tpos:Pos} {ta tv:TE}
theorem Zfg (he:PE X e ta) (hb:attributeBase e f X.env (eval e X.env)=eval e X.env):PE X (.Attribute e f pos) (tFld X.K ta f):=by
 intro pins s σ H Q I h
 refine ZHM hb (thn (he pins s σ H _ I h) fun u s1 ⟨x,H1,I1,rx,a,C,dx,fs,v,ex,ea,c,n,l,q⟩ =>?_)
 subst ex
 obtain rfl:u=Value.ref a:=rx
 exact ZCt I1 ea c n l fun u' s2 I2 ru=>⟨v,H1,I2,ru,q⟩
theorem ZhA (ha:PE X o ta) (hv:PE X value tv) (hs:swapsWith value (some (.Attribute o f pos')) pos.line X.env=pure false):PS X (.Assign [.Attribute o f pos'] value pos) (sFld X.K ta tv f):=by
 intro pins s σ H D I h
 refine plainObj_wpAny_Assign_Attribute (thn (hv pins s σ H _ I h) fun u s1 ⟨y,H1,I1,ry,q⟩ =>thn (ha pins s1 σ H1 _ I1 q) fun ov s2 ⟨x,H2,I2,rx,a,C,dx,fs,ex,ea,c,n,l,q2⟩ =>?_) hs
 subst ex
 obtain rfl:ov=Value.ref a:=rx
 exact ZCN I2 ea c n l ry fun s3 I3=>⟨σ,_,I3,q2⟩
end
section
variable {X:Cx} {pins:List (Addr × Obj)} {σ:St} {H:Hp} {s:Shared} {A:Around} {E:Value→Shared→Prop} {Q:Value→Shared→Prop} {c:Value} {b:Bool}
inductive TyOf (K:PySem.W.Frag) (H:Hp):V→Value→Prop where
 | non:TyOf K H .non (.type "NoneType")
 | bl (x:Bool):TyOf K H (.bl x) (.type "bool")
 | int (i:Int):TyOf K H (.int i) (.type "int")
 | str (x:Str):TyOf K H (.str x) (.type "str")
 | flt (x:UInt64):TyOf K H (.flt x) (.type "float")
 | lst {a:Addr} {xs:List V} (e:H a=some (.lst xs)):TyOf K H (.ref a) (.type "list")
 | frz {a:Addr} {o:Obj} {xs:List V} (e:H a=some (.frz o (.lst xs))):TyOf K H (.ref a) (.type "list")
 | tup {a:Addr} {xs:List V} (e:H a=some (.tup xs)):TyOf K H (.ref a) (.type "tuple")
 | dK {a:Addr} {kvs:List (Key × V)} (e:H a=some (.dK kvs)):TyOf K H (.ref a) (.type "dict")
 | dT {a:Addr} {kvs:List (List Key × V)} (e:H a=some (.dT kvs)):TyOf K H (.ref a) (.type "dict")
 | ins {a C dx:Addr} {fs:List (Str × V)} (e:H a=some (.ins C dx fs)) (cl:Cls K C) (ha:PySem.W.findIn K (.ref C) "__class__" = some (some (.builtin "object.__class__")))
   (hn:PySem.W.specialIn K (.builtin "object.__class__") "__get__" = some (some (.builtin "getset_descriptor.__get__"))) (htk:PySem.W.takesIn K (.builtin "object.__class__")=some true)
   (hm:PySem.W.mroIn K C (.type "object")=some true):TyOf K H (.ref a) (.ref C)
theorem ZyO {x:V} {u t:Value} (I:Inv X pins σ H s) (rx:RelV x u) (ty:TyOf X.K H x t) (e:PySem.W.kitOne X.K t c=some b) (h:∀ tk,Q (.bool b) { s with toks:=tk }) :
  wpAny (model X.prog X.w) A (call (.builtin "isinstance") [u,c]) Q E s:=by
 cases ty with
 | non=>cases (show u=Value.none from rx); exact PySem.W.kia_one PySem.W.kitx_none I.kIn True.intro e (fun z=>nomatch z) h
 | bl y=>cases (show u=Value.bool y from rx); exact PySem.W.kia_one PySem.W.kitx_bool I.kIn True.intro e (fun z=>nomatch z) h
 | int i=>obtain ⟨t,q⟩ :=(show ∃ t,u=Value.int i t from rx); cases q; exact PySem.W.kia_one PySem.W.kitx_int I.kIn True.intro e (fun z=>nomatch z) h
 | str y=>obtain ⟨t,q⟩ :=(show ∃ t,u=Value.str y t from rx); cases q; exact PySem.W.kia_one PySem.W.kitx_str I.kIn True.intro e (fun z=>nomatch z) h
 | flt y=>obtain ⟨t,q⟩ :=(show ∃ t,u=Value.float y t from rx); cases q; exact PySem.W.kia_one PySem.W.kitx_float I.kIn True.intro e (fun z=>nomatch z) h
 | @lst a xs ea=>
  cases (show u=Value.ref a from rx)
  obtain ⟨_,_,n,_,h1⟩ :=(show Zd0 X.prog X.w H s.heap a (.lst xs) from I.hok a _ ea)
  exact PySem.W.kia_one PySem.W.kitx_list I.kIn ⟨_,h1,rfl⟩ e (fun z=>nomatch z) h
 | @frz a ob xs ea=>
  cases (show u=Value.ref a from rx)
  obtain ⟨_,_,_,n,_,h1⟩ :=(show Zd0 X.prog X.w H s.heap a (.frz ob (.lst xs)) from I.hok a _ ea)
  exact PySem.W.kia_one PySem.W.kitx_list I.kIn ⟨_,h1,rfl⟩ e (fun z=>nomatch z) h
 | @tup a xs ea=>
  cases (show u=Value.ref a from rx)
  obtain ⟨_,_,_,p⟩ :=(show Zd0 X.prog X.w H s.heap a (.tup xs) from I.hok a _ ea)
  obtain ⟨o,h1,h2,_⟩ :=p
  exact PySem.W.kia_one PySem.W.kitx_tuple I.kIn ⟨o,h1,h2⟩ e (fun z=>nomatch z) h
 | @dK a kvs ea=>
  cases (show u=Value.ref a from rx)
  obtain ⟨_,_,vs,_,p⟩ :=(show Zd0 X.prog X.w H s.heap a (.dK kvs) from I.hok a _ ea)
  obtain ⟨o,es,ep,h1,h2,_⟩ :=p
  exact PySem.W.kia_one PySem.W.kitx_dict I.kIn ⟨o,h1,h2.1⟩ e (fun z=>nomatch z) h
 | @dT a kvs ea=>
  cases (show u=Value.ref a from rx)
  obtain ⟨_,_,xs,_,o,es,ep,h1,h2,_⟩ :=(show Zd0 X.prog X.w H s.heap a (.dT kvs) from I.hok a _ ea)
  exact PySem.W.kia_one PySem.W.kitx_dict I.kIn ⟨o,h1,h2.1⟩ e (fun z=>nomatch z) h
 | @ins a C dx fs ea cl ha hn htk hm=>
  cases (show u=Value.ref a from rx)
  obtain ⟨mA,O,_⟩ :=Zw4 I.hok ea
  obtain ⟨od,J,_⟩ :=O.look
  exact PySem.W.kia_one (PySem.W.kitx_own (cl.get _) cl.hd ha hn htk hm) I.kIn J e (fun z=>nomatch z) h
end
end L2
namespace L2
open PySem PySem.Spec PyProof.Rows
structure Room (k:Nat) (A:Around):Prop where
 hd:A.handled=none
 dp:A.depth + 3 * k + 5 < recursionLimit
 un:A.units + 16 * k + 200 < cLine
theorem Room.mono {j k:Nat} {A:Around} (r:Room k A) (h:j≤k):Room j A:=⟨r.hd,by have:=r.dp; omega,by have:=r.un; omega⟩
theorem Room.deeper {k:Nat} {A:Around} (r:Room (k + 1) A) (env:Env):Room k (A.deeper env):=
 ⟨r.hd,by have:=r.dp; show A.depth + 1 + 3 * k + 5 < _; omega,by have:=r.un; show A.units + 3 + 16 * k + 200 < _; omega⟩
theorem ZCB {A:Around} {C:Addr} {us:List Value} {kw:List (Str × Value)}:(A.under (.builtin "type.__call__" ⟨.ref C :: us,kw⟩)).depth=A.depth + 1:=by
 first | rfl | simp [Around.under,Code.weight,Code.isCreation,Code.isGuard,Code.isCaller,Code.frames,Code.isFrame,guardIds]
theorem ZCC {A:Around} {C:Addr} {us:List Value} {kw:List (Str × Value)}:(A.under (.builtin "type.__call__" ⟨.ref C :: us,kw⟩)).units=A.units + 1:=by
 first | rfl | simp [Around.under,Code.cUnits,Code.frames,Code.isFrame]
theorem Room.make {k:Nat} {A:Around} (r:Room (k + 1) A) (C:Addr) (us:List Value) (kw:List (Str × Value)):Room k (A.under (.builtin "type.__call__" ⟨.ref C :: us,kw⟩)):=
 ⟨r.hd,by have:=r.dp; rw [ZCB]; omega,by have:=r.un; rw [ZCC]; omega⟩
theorem Room.depth {k:Nat} {A:Around} (r:Room k A):A.depth < recursionLimit:=by have:=r.dp; omega
theorem Room.units {k:Nat} {A:Around} (r:Room k A):A.units + 64 < cLine:=by have:=r.un; omega
def tNil:TA:=fun _ H Q=>Q [] H
def Zvs (ta:TE) (tr:TA):TA:=fun σ H Q=>ta σ H fun x H1=>tr σ H1 fun xs H2=>Q (x :: xs) H2
section
variable {X:Cx} {e:Expr} {es:List Expr} {te:TE} {t:TA} {pos:Pos}
theorem Zad:PA X [] tNil:=fun _ _ _ _ H Q I h=>Calls.spliced_nil ⟨[],H,I,.nil,h⟩
theorem Zaa (ha:PE X e te) (hr:PA X es t) (hs:starEach (e :: es) X.env=(false,eval e X.env) :: starEach es X.env:=by rfl):PA X (e :: es) (Zvs te t):=by
 intro pos pins s σ H Q I h
 rw [hs]
 show wpAny _ _ (spliced ((false,eval e X.env) :: backTo pos (starEach es X.env))) _ _ s
 refine Calls.spliced_cons (thn (ha pins s σ H _ I h) fun u s1 ⟨x,H1,I1,r1,q1⟩ =>?_)
 exact thn (hr pos pins s1 σ H1 _ I1 q1) fun us s2 ⟨xs,H2,I2,r2,q2⟩ =>⟨x :: xs,H2,I2,.cons r1 r2,q2⟩
def tTup (t:TA):TE:=fun σ H Q=>t σ H fun xs H1=>xs.length≤sizeLine∧∀ p,H1 p=none→Q (.ref p) (upd H1 p (.tup xs))
def tLst (t:TA):TE:=fun σ H Q=>t σ H fun xs H1=>xs.length≤sizeLine∧∀ p,H1 p=none→Q (.ref p) (upd H1 p (.lst xs))
theorem Zef {x1} (h:PA X es t):PE X (.Tuple es x1 pos) (tTup t):=by
 intro pins s σ H Q I hq
 refine wpAny_Tuple_spliced (thn (h pos pins s σ H _ I hq) fun us s1 ⟨xs,H1,I1,r,z,q⟩ =>⟨by rw [← r.length]; exact z,?_⟩)
 have hf:H1 s1.heap.objs.size=none:=I1.hok.fresh (Nat.le_refl _)
 refine ⟨.ref s1.heap.objs.size,upd H1 s1.heap.objs.size (.tup xs),I1.laid (t':=s1.toks) (fun b u e=>Heap.get?_push_of_some _ e) (Nat.le_refl _) ?_,rfl,q _ hf⟩
 exact ⟨z,us,r,⟨_,Heap.get?_push_size _ rfl,rfl,_,rfl⟩⟩
theorem ZaN (h:PA X es t):PE X (.List es pos) (tLst t):=by
 intro pins s σ H Q I hq
 refine wpAny_List_spliced (thn (h pos pins s σ H _ I hq) fun us s1 ⟨xs,H1,I1,r,z,q⟩ =>⟨by rw [← r.length]; exact z,?_⟩)
 have hf:H1 s1.heap.objs.size=none:=I1.hok.fresh (Nat.le_refl _)
 refine ⟨.ref s1.heap.objs.size,upd H1 s1.heap.objs.size (.lst xs),I1.laid (t':=s1.toks) (fun b u e=>Heap.get?_push_of_some _ e) (Nat.le_refl _) ?_,rfl,q _ hf⟩
 exact ⟨z,us,0,r,Heap.get?_push_size _ rfl⟩
end
abbrev Sp:=List V→Hp→VK→XK→Prop
abbrev CXT:=List Env→Hp→Shared→XK→Value→Shared→Prop
structure Env0 (P:Program) (w:World) (K:PySem.W.Frag) (mg:Str→Option Value) (base:Heap) (A:Around) (outer:List Env) (s:Shared) (H:Hp):Prop where
 frames:A.frames=some outer
 mod:Mod K mg base
 bs:∀ b o,base.get? b=some o→s.heap.get? b=some o∧H b=none
 bsz:base.objs.size≤s.heap.objs.size
 funs:s.heap.FunFrames base outer
 frf:∀ b ∈ frs outer,H b=none
 hok:HOk P w H s.heap
 bare:AllBare s.gens
def CE (outer:List Env) (P:Program) (w:World) (H:Hp) (s:Shared) (Q:VK) (u:Value) (s':Shared):Prop:=
 ∃ v H',s'.os=s.os∧AllBare s'.gens∧Un (frs outer) [] H H' s.heap s'.heap∧HOk P w H' s'.heap∧RelV v u∧Q v H'
def CR (CX:CXT) (outer:List Env) (P:Program) (w:World) (H:Hp) (s:Shared) (Q:VK) (E:XK) (r:Result) (s':Shared):Prop:=
 match r with
 | .ok (.ret u)=>CE outer P w H s Q u s'
 | .ok _=>False
 | .error e=>CX outer H s E e s'
structure FnOk (P:Program) (w:World) (K:PySem.W.Frag) (mg:Str→Option Value) (base:Heap) (CX:CXT) (k:Nat) (f:Addr) (fd:FuncData) (ps:List Str) (sp:Sp):Prop where
 len:∀ vs H Q E,sp vs H Q E→vs.length=ps.length
 run:∀ (A:Around) (outer:List Env) (s:Shared) (H:Hp) (args:Args) (us:List Value) (vs:List V) (Q:VK) (E:XK),Room k A→Env0 P w K mg base A outer s H→BindsTo s fd args (ps.zip us)→Vals vs us→sp vs H Q E→
  codeAny (model P w) A (.call (.ref f) args) (CR CX outer P w H s Q E) s
theorem Env0.make {P:Program} {w:World} {K:PySem.W.Frag} {mg:Str→Option Value} {base:Heap} {A:Around} {outer:List Env} {s:Shared} {H:Hp} (e:Env0 P w K mg base A outer s H) (C:Addr) (us:List Value) (kw:List (Str × Value)) :
  Env0 P w K mg base (A.under (.builtin "type.__call__" ⟨.ref C :: us,kw⟩)) outer s H:=⟨by first | exact e.frames | (simpa [Around.under,Code.envs,Code.isFrame,pushEnvs] using e.frames),e.mod,e.bs,e.bsz,e.funs,e.frf,e.hok,e.bare⟩
section
variable {X:Cx} {pins:List (Addr × Obj)} {σ:St} {H:Hp} {s s':Shared}
theorem Inv.env0 (I:Inv X pins σ H s):Env0 X.prog X.w X.K X.mg X.base X.A X.stack s H:=
 ⟨I.ok.frames,I.ok.mod,I.bs,Nat.le_trans I.ok.bsz I.sz,I.stack,I.stkFree,I.hok,I.bare⟩
theorem Inv.after {Q:VK} {u:Value} (I:Inv X pins σ H s) (h:CE X.stack X.prog X.w H s Q u s'):EP X pins σ Q u s':=by
 obtain ⟨v,H',os,bare,un,hok,r,q⟩ :=h
 obtain ⟨hh,g,d,t,os'⟩ :=s'
 obtain rfl:os'=s.os:=os
 exact ⟨v,H',I.call (h':=hh) (g':=g) (d':=d) (t':=t) (ch:=[]) un hok bare (fun b z=>absurd z (by simp)),r,q⟩
end
def ZIM (sp:Sp) (dvs:List V) (E:XK) (t:TA):TE:=fun σ H Q=>t σ H fun vs H1=>sp (vs ++ dvs) H1 Q E
def ZGw (C:Addr) (sp:Sp) (dvs:List V) (E:XK) (t:TA):TE:=fun σ H Q=>t σ H fun vs H1=>∀ x dx,H1 x=none→H1 dx=none→dx ≠ x→
 sp (.ref x :: (vs ++ dvs)) (upd (upd H1 dx (.own x)) x (.ins C dx [])) (fun v H2=>v=.non∧Q (.ref x) H2) E
def Za0 (K:PySem.W.Frag) (fd:FuncData) (ps:List Str) (ds:List Value):Prop:=
 ∀ (s:Shared) (us:List Value),K.In s.heap→(us ++ ds).length=ps.length→BindsTo s fd ⟨us,[]⟩ (ps.zip (us ++ ds))
theorem Za0.all {K:PySem.W.Frag} {fd:FuncData} {ps:List Str} (h:∀ us:List Value,us.length=ps.length→bindArgs fd ⟨us,[]⟩=pure (ps.zip us)):Za0 K fd ps []:=fun s us _ hl=>by
 rw [List.append_nil] at hl ⊢
 exact .of_eq (h us hl)
def ZnG (CX:CXT) (X:Cx) (E:XK):Prop:=∀ (pins:List (Addr × Obj)) (σ:St) (H:Hp) (s:Shared) (e:Value) (s':Shared),Inv X pins σ H s→CX X.stack H s E e s'→X.xe e s'
section
variable {X:Cx} {CX:CXT} {k:Nat} {f C:Addr} {fd:FuncData} {ps:List Str} {sp:Sp} {dvs:List V} {ds:List Value} {E:XK} {x m:Str} {p pos apos:Pos} {e o:Expr} {es:List Expr} {ta:TE} {t:TA}
theorem ZB6 {pins:List (Addr × Obj)} {σ:St} {H:Hp} {s:Shared} {Q:VK} {us:List Value} {vs:List V} (F:FnOk X.prog X.w X.K X.mg X.base CX k f fd ps sp) (hr:Room k X.A) (hb:Za0 X.K fd ps ds) (hd:Vals dvs ds) (hx:ZnG CX X E)
  (I:Inv X pins σ H s) (r:Vals vs us) (h:sp (vs ++ dvs) H Q E):wpAny (model X.prog X.w) X.A (call (.ref f) us) (EP X pins σ Q) X.xe s:=by
 have r2:Vals (vs ++ dvs) (us ++ ds):=r.append hd
 have hl:(us ++ ds).length=ps.length:=by rw [← r2.length]; exact F.len _ _ _ _ h
 refine wpAny_call (codeAny_mono (F.run X.A X.stack s H ⟨us,[]⟩ (us ++ ds) (vs ++ dvs) Q E hr I.env0 (hb s us I.kIn hl) r2 h) fun r s' hq=>?_)
 cases r with
 | error e=>exact hx pins σ H s e s' I hq
 | ok fl=>
  cases fl with
  | ret u=>exact I.after hq
  | next=>exact False.elim hq
  | brk=>exact False.elim hq
  | cont=>exact False.elim hq
theorem ZAU (F:FnOk X.prog X.w X.K X.mg X.base CX k f fd ps sp) (hr:Room k X.A) (hg:Gl X x) (hm:X.mg x=some (.ref f)) (hk:PySem.W.keepIn X.K (.ref f)=true) (hb:Za0 X.K fd ps ds) (hd:Vals dvs ds) (hx:ZnG CX X E)
  (ha:PA X (e :: es) t) (hdb:(x == ("__debug__" : Str))=false:=by decide) (he:starEach (e :: es) X.env=(false,eval e X.env) :: starEach es X.env:=by rfl) (hpl:(backTo pos (starEach es X.env)).any (·.1)=false:=by rfl) :
  PE X (.Call (.Name x p) (e :: es) [] pos) (ZIM sp dvs E t):=by
 intro pins s σ H Q I h
 refine wpAny_Call_Name_kw (ZkO I hg hm ?_ hdb)
 refine PySem.W.callWith_K (h₀:=X.base) I.ok.mod.kin hk (thn (ha pos pins s σ H _ I h) fun us s1 ⟨vs,H1,I1,r,q⟩ =>⟨I1.kIn,?_⟩) he hpl
 exact ZB6 F hr hb hd hx I1 r q
structure Mk (K:PySem.W.Frag) (C f:Addr):Prop where
 makes:PySem.W.makesIn K C=true
 init:PySem.W.findIn K (.ref C) "__init__" = some (some (.ref f))
 fn:PySem.W.isFn K (.ref f)=true
 kp:PySem.W.keepIn K (.ref C)=true
theorem ZB7 {pins:List (Addr × Obj)} {σ:St} {H:Hp} {s:Shared} {Q:VK} {us:List Value} {vs:List V} (M:Mk X.K C f) (F:FnOk X.prog X.w X.K X.mg X.base CX k f fd ps sp) (hr:Room (k + 1) X.A) (hb:Za0 X.K fd ps ds) (hd:Vals dvs ds)
  (hx:ZnG CX X E) (I:Inv X pins σ H s) (r:Vals vs us)
  (h:∀ x dx,H x=none→H dx=none→dx ≠ x→sp (.ref x :: (vs ++ dvs)) (upd (upd H dx (.own x)) x (.ins C dx [])) (fun v H2=>v=.non∧Q (.ref x) H2) E) :
  wpAny (model X.prog X.w) X.A (call (.ref C) us) (EP X pins σ Q) X.xe s:=by
 have hq:=h (s.heap.objs.size + 1) s.heap.objs.size (I.hok.fresh (Nat.le_succ _)) (I.hok.fresh (Nat.le_refl _)) (Nat.ne_of_lt (Nat.lt_succ_self _))
 have I2:=Inv.made (C:=C) I
 have r2:Vals (V.ref (s.heap.objs.size + 1) :: (vs ++ dvs)) (Value.ref (s.heap.objs.size + 1) :: (us ++ ds)):=.cons rfl (r.append hd)
 have hl:(Value.ref (s.heap.objs.size + 1) :: us ++ ds).length=ps.length:=by
  have e:=r2.length
  rw [F.len _ _ _ _ hq] at e
  exact e.symm
 refine wpAny_call (ZFY (f:=f) I.kIn M.makes M.init (beq_iff_eq.mp M.fn) (codeAny_mono (F.run _ X.stack _ _ ⟨Value.ref (s.heap.objs.size + 1) :: us,[]⟩ (Value.ref (s.heap.objs.size + 1) :: (us ++ ds)) _ _ E (hr.make C us [])
  (I2.env0.make C us []) (hb _ (Value.ref (s.heap.objs.size + 1) :: us) I2.kIn hl) r2 hq) fun r s' hq'=>?_))
 cases r with
 | error e=>exact hx pins σ _ _ e s' I2 hq'
 | ok fl=>
  cases fl with
  | ret u=>
   obtain ⟨v,H',I3,rv,ev,q3⟩ :=I2.after hq'
   subst ev
   exact ⟨rv,⟨V.ref (s.heap.objs.size + 1),H',I3,rfl,q3⟩⟩
  | next=>exact False.elim hq'
  | brk=>exact False.elim hq'
  | cont=>exact False.elim hq'
theorem ZIs (M:Mk X.K C f) (F:FnOk X.prog X.w X.K X.mg X.base CX k f fd ps sp) (hr:Room (k + 1) X.A) (hg:Gl X x) (hm:X.mg x=some (.ref C)) (hb:Za0 X.K fd ps ds) (hd:Vals dvs ds) (hx:ZnG CX X E)
  (ha:PA X (e :: es) t) (hdb:(x == ("__debug__" : Str))=false:=by decide) (he:starEach (e :: es) X.env=(false,eval e X.env) :: starEach es X.env:=by rfl) (hpl:(backTo pos (starEach es X.env)).any (·.1)=false:=by rfl) :
  PE X (.Call (.Name x p) (e :: es) [] pos) (ZGw C sp dvs E t):=by
 intro pins s σ H Q I h
 refine wpAny_Call_Name_kw (ZkO I hg hm ?_ hdb)
 refine PySem.W.callWith_K (h₀:=X.base) I.ok.mod.kin M.kp (thn (ha pos pins s σ H _ I h) fun us s1 ⟨vs,H1,I1,r,q⟩ =>⟨I1.kIn,?_⟩) he hpl
 exact ZB7 M F hr hb hd hx I1 r q
theorem ZGb (M:Mk X.K C f) (F:FnOk X.prog X.w X.K X.mg X.base CX k f fd ps sp) (hr:Room (k + 1) X.A) (hg:Gl X x) (hm:X.mg x=some (.ref C)) (hb:Za0 X.K fd ps ds) (hd:Vals dvs ds) (hx:ZnG CX X E)
  (hdb:(x == ("__debug__" : Str))=false:=by decide):PE X (.Call (.Name x p) [] [] pos) (ZGw C sp dvs E tNil):=by
 intro pins s σ H Q I h
 refine wpAny_Call_Name_kw (ZkO I hg hm ?_ hdb)
 exact PySem.W.callWith_K0 I.kIn M.kp (ZB7 (us:=[]) M F hr hb hd hx I .nil h)
end
section
variable {X:Cx} {CX:CXT} {k:Nat} {f C:Addr} {fd:FuncData} {ps ks:List Str} {sp:Sp} {E:XK} {x m:Str} {p pos apos kpos:Pos} {e o:Expr} {es:List Expr} {kws:List Keyword} {te ta:TE} {t tk:TA} {nm:Option Str}
variable {g:List Value→List Value→List Value} {gV:List V→List V→List V}
end
structure FnScope (N P:List Str) (sc:Scope):Prop where
 kind:sc.kind=.function
 co:sc.isCoroutine=false
 gen:sc.isGenerator=false
 nd:N.Nodup
 pre:N.take P.length=P
 par:∀ x ∈ P,sc.names.lookup x=some .local∨sc.names.lookup x=some .cell
 nofree:∀ y ∈ sc.names,y.2 ≠ .free
theorem Zyw {kindOf:Str→Option NameKind} {x:Str}:∀ {binds:List (Str × Value)} {m:Str→Option Value},(∀ v,(x,v) ∉ binds)→bindL kindOf binds m x=m x
 | [],_,_=>rfl
 | (n,v) :: r,m,h=>by
  unfold bindL
  rw [Zyw fun w hw=>h w (List.mem_cons_of_mem _ hw)]
  split
  ·have:x ≠ n:=by rintro rfl; exact h v List.mem_cons_self
   simp [this]
  ·rfl
theorem Zyu {kindOf:Str→Option NameKind} {x:Str}:∀ {binds:List (Str × Value)} {m:Str→Option Value},(∀ v,(x,v) ∉ binds)→bindC kindOf binds m x=m x
 | [],_,_=>rfl
 | (n,v) :: r,m,h=>by
  unfold bindC
  rw [Zyu fun w hw=>h w (List.mem_cons_of_mem _ hw)]
  split
  ·rfl
  ·have:x ≠ n:=by rintro rfl; exact h v List.mem_cons_self
   simp [this]
theorem Zyv {kindOf:Str→Option NameKind} {x:Str} {v:Value}:∀ {P:List Str} {vs:List Value} {i:Nat} {m:Str→Option Value},P.Nodup→P[i]?=some x→vs[i]?=some v→kindOf x=some .local→
  bindL kindOf (P.zip vs) m x=some v
 | [],_,_,_,_,h,_,_=>by simp at h
 | _ :: _,[],_,_,_,_,h,_=>by simp at h
 | p :: P,w :: vs,0,m,nd,h1,h2,hk=>by
  simp at h1 h2; subst h1; subst h2
  show bindL kindOf ((p,w) :: P.zip vs) m p=_
  unfold bindL
  rw [Zyw fun v hv=>(List.nodup_cons.mp nd).1 (List.of_mem_zip hv).1,if_pos hk]
  simp
 | p :: P,w :: vs,i + 1,m,nd,h1,h2,hk=>by
  show bindL kindOf ((p,w) :: P.zip vs) m x=_
  unfold bindL
  exact Zyv (i:=i) (List.nodup_cons.mp nd).2 (by simpa using h1) (by simpa using h2) hk
theorem Zyt {kindOf:Str→Option NameKind} {x:Str} {v:Value}:∀ {P:List Str} {vs:List Value} {i:Nat} {m:Str→Option Value},P.Nodup→P[i]?=some x→vs[i]?=some v→kindOf x ≠ some .local→
  bindC kindOf (P.zip vs) m x=some v
 | [],_,_,_,_,h,_,_=>by simp at h
 | _ :: _,[],_,_,_,_,h,_=>by simp at h
 | p :: P,w :: vs,0,m,nd,h1,h2,hk=>by
  simp at h1 h2; subst h1; subst h2
  show bindC kindOf ((p,w) :: P.zip vs) m p=_
  unfold bindC
  rw [Zyu fun v hv=>(List.nodup_cons.mp nd).1 (List.of_mem_zip hv).1,if_neg hk]
  simp
 | p :: P,w :: vs,i + 1,m,nd,h1,h2,hk=>by
  show bindC kindOf ((p,w) :: P.zip vs) m x=_
  unfold bindC
  exact Zyt (i:=i) (List.nodup_cons.mp nd).2 (by simpa using h1) (by simpa using h2) hk
def start (N:List Str) (vs:List V):St:=vs.map some ++ List.replicate (N.length - vs.length) none
def cxOf (CX:CXT) (P:Program) (w:World) (K:PySem.W.Frag) (mg:Str→Option Value) (base:Heap) (N:List Str) (qual:Str) (scope:Scope) (f:Addr) (cd:Value) (A:Around) (outer:List Env) (s:Shared) (H:Hp) (E:XK):Cx where
 prog:=P
 w:=w
 K:=K
 mg:=mg
 base:=base
 A:=A.deeper (envOfC qual scope s.heap.objs.size f cd)
 N:=N
 s₀:=s
 H₀:=H
 env:=envOfC qual scope s.heap.objs.size f cd
 outer:=outer
 stack:=envOfC qual scope s.heap.objs.size f cd :: outer
 ex:=[]
 calm:=true
 fn:=fun _=>true
 pn:=[]
 xe:=fun e s'=>wpAny (model P w) (A.deeper (envOfC qual scope s.heap.objs.size f cd)) (leaving (envOfC qual scope s.heap.objs.size f cd) e) (fun _ s''=>CX outer H s E e s'') (fun e' s''=>CX outer H s E e' s'') s'
theorem ZBh {sc:Scope} {n:Nat} {x:Str} (h:sc.names.lookup x=some .cell):∃ c,(cellsFrom n sc.names []).lookup x=some c:=by
 have q:=PySem.W.cellsFrom_some sc.names n [] (.inl h)
 exact Option.isSome_iff_exists.mp q
theorem ZyN {CX:CXT} {P:Program} {w:World} {K:PySem.W.Frag} {mg:Str→Option Value} {base:Heap} {N ps:List Str} {qual:Str} {scope:Scope} {f:Addr} {cd:Value} {A:Around} {outer:List Env} {s s1:Shared} {H:Hp} {E:XK} {us:List Value} {vs:List V}
  (S:FnScope N ps scope) (hd:A.handled=none) (e0:Env0 P w K mg base A outer s H) (hl:vs.length=ps.length) (r:Vals vs us)
  (x:InCallC s s.heap.objs.size (bindL (envOfC qual scope s.heap.objs.size f cd).kindOf (ps.zip us) fun _=>none) (cellsFrom (s.heap.objs.size + 1) scope.names []) (bindC (envOfC qual scope s.heap.objs.size f cd).kindOf (ps.zip us) fun _=>none) s1) :
  Inv (cxOf CX P w K mg base N qual scope f cd A outer s H E) [] (start N vs) H s1:=by
 have hpl:ps.length≤N.length:=by have:=congrArg List.length S.pre; rw [List.length_take] at this; omega
 obtain ⟨h1,tk,rfl,hk⟩ :=x.done
 have noA:∀ b:Addr,b ∉ (cxOf CX P w K mg base N qual scope f cd A outer s H E).ex:=fun b z=>absurd (show b ∈ ([]:List Addr) from z) (by simp)
 refine ⟨⟨e0.mod,S.kind,rfl,rfl,Nat.le_refl _,fun y z c h1 h2=>?_,fun y hy=>?_,fun y c _ h=>?_,fun _=>hd,Around.frames_deeper e0.frames,.inr ⟨rfl,rfl⟩,fun b z=>absurd z (noA b),e0.bs,e0.bsz,fun b _ _=>noA b,fun b z=>absurd z (noA b),e0.funs,e0.frf⟩,
  rfl,e0.bare,Un.kept hk,⟨_,x.toInCall.ns,fun i y v h1 h2 h3=>?_⟩,fun y c h=>⟨_,x.cell y c h⟩,e0.hok.fresh (Nat.le_refl _),fun y c h=>?_,fun p hp=>absurd (show p ∈ ([]:List (Addr × Obj)) from hp) (by simp),e0.hok.kept hk,?_⟩
 ·exact name_of_addr x.apart (PySem.mem_of_lookup h1) (PySem.mem_of_lookup h2)
 ·have hy:scope.names.lookup y=some .cell∨scope.names.lookup y=some .free:=hy
  rcases hy with hy | hy
  ·exact ZBh hy
  ·exact absurd rfl (S.nofree _ (PySem.mem_of_lookup hy))
 ·exact Nat.le_of_lt (x.above y c (PySem.mem_of_lookup h))
 ·have hi:i < vs.length:=by
   unfold start at h2
   by_cases hi:i < vs.length
   ·exact hi
   ·rw [List.getElem?_append_right (by simpa using hi)] at h2
    rw [List.getElem?_replicate] at h2
    split at h2 <;> cases h2
  have ha:vs[i]?=some v:=by
   unfold start at h2
   rw [List.getElem?_append_left (by simpa using hi),List.getElem?_map] at h2
   cases e:vs[i]? with
   | none=>rw [e] at h2; cases h2
   | some a=>rw [e] at h2; cases h2; rfl
  obtain ⟨u,hu,rv⟩ :=r.get ha
  have hp:ps[i]?=some y:=by
   rw [← S.pre,List.getElem?_take_of_lt (by omega)]; exact h1
  have ndP:ps.Nodup:=by rw [← S.pre]; exact S.nd.sublist (List.take_sublist _ _)
  refine ⟨u,rv,?_⟩
  rcases S.par y (List.mem_of_getElem? hp) with k | k
  ·exact .inl ⟨k,Zyv ndP hp hu k⟩
  ·obtain ⟨c,e⟩ :=ZBh (n:=s.heap.objs.size + 1) k
   refine .inr ⟨.inl k,c,e,?_⟩
   have q:=x.cell y c e
   rw [Zyt ndP hp hu (by show scope.names.lookup y ≠ _; rw [k]; decide)] at q
   exact q
 ·exact e0.hok.fresh (Nat.le_of_lt (x.above y c (PySem.mem_of_lookup h)))
 ·unfold start
  show _=N.length
  rw [List.length_append,List.length_map,List.length_replicate]
  omega
theorem ZJc {CX:CXT} {P:Program} {w:World} {K:PySem.W.Frag} {mg:Str→Option Value} {base:Heap} {k:Nat} {f:Addr} {name qual:Str} {params:Arguments} {body:List Stmt} {scope:Scope} {dV kV doc pm cdv ct oc:Value} {an od:Option Addr}
  {osl:Array (Option Value)} {N ps:List Str} {sp:Sp} (lk:K.lookup f=some ⟨oc,od,.func (PySem.W.fnOf name qual params body scope dV kV doc pm an cdv ct),osl⟩) (hcd:PySem.W.codeIn K cdv qual=true) (S:FnScope N ps scope)
  (len:∀ vs H Q E,sp vs H Q E→vs.length=ps.length)
  (hbody:∀ (A:Around) (outer:List Env) (s:Shared) (H:Hp) (vs:List V) (Q:VK) (E:XK),Room k (A.deeper (envOfC qual scope s.heap.objs.size f cdv))→sp vs H Q E→
   ∃ t,PSs (cxOf CX P w K mg base N qual scope f cdv A outer s H E) body t∧t { nx:=fun _ H'=>Q .non H',rt:=Q } (start N vs) H) :
  FnOk P w K mg base CX (k + 1) f (PySem.W.fnOf name qual params body scope dV kV doc pm an cdv ct) ps sp:=by
 refine ⟨len,fun A outer s H args us vs Q E hr e0 hb r hsp=>?_⟩
 have hl:=len _ _ _ _ hsp
 have KX:K.In s.heap:=e0.mod.kin.keeps fun b o e=>(e0.bs b o e).1
 have lim:s.heap.NoLimit:=e0.mod.nolimit.keeps fun b o e=>(e0.bs b o e).1
 have hkind:∀ y ∈ ps.zip us,scope.names.lookup y.1=some .local∨(scope.names.lookup y.1=some .cell∧((cellsFrom (s.heap.objs.size + 1) scope.names []).lookup y.1).isSome=true):=fun ⟨n,v⟩ hy=>by
  rcases S.par n (List.of_mem_zip hy).1 with q | q
  ·exact .inl q
  ·exact .inr ⟨q,PySem.W.cellsFrom_some _ _ _ (.inl q)⟩
 refine codeAny_call_function hr.depth (KX _ _ lk) rfl S.co S.gen rfl (PySem.W.codeRec_of KX hcd) (hb _ _ _ _ ?_)
 refine wpAny_newFunctionEnv_cells S.kind hkind fun env he s1 x=>?_
 subst he
 refine ⟨lim.keeps x.toInCall.keep,codeAny_func ?_⟩
 obtain ⟨t,ht,hq⟩ :=hbody A outer s H vs Q E (hr.deeper _) hsp
 have I:Inv (cxOf CX P w K mg base N qual scope f cdv A outer s H E) [] (start N vs) H s1:=ZyN S hr.hd e0 hl r x
 refine wpAny_mono (ht [] s1 (start N vs) H _ I hq) (fun fl s' hs=>?_) fun e s' hs=>hs
 have fin:∀ {σ':St} {H':Hp} {v:V} {u:Value},Inv (cxOf CX P w K mg base N qual scope f cdv A outer s H E) [] σ' H' s'→RelV v u→Q v H'→CE outer P w H s Q u s':=
  fun {σ' H' v u} J rv q=>⟨v,H',J.os,J.bare,J.base,J.hok,rv,q⟩
 cases fl with
 | ret u=>
  obtain ⟨v,σ',H',J,rv,q⟩ :=hs
  exact fin J rv q
 | next=>
  obtain ⟨σ',H',J,q⟩ :=hs
  exact fin (v:=V.non) (u:=Value.none) J rfl q
 | brk=>
  obtain ⟨_,_,_,q⟩ :=hs
  exact False.elim q
 | cont=>
  obtain ⟨_,_,_,q⟩ :=hs
  exact False.elim q
end L2
namespace L2
open PySem PySem.Spec PyProof.Rows
section
variable {X:Cx} {x:Str} {p pos:Pos} {e:Expr} {es:List Expr} {t:TA} {id T:String} {r:List V→Hp→VK→Prop}
def tCB (r:List V→Hp→VK→Prop) (t:TA):TE:=fun σ H Q=>t σ H fun vs H1=>r vs H1 Q
theorem ZaM (hc:Zlo X (.builtin id) r) (hg:Gl X x) (hm:X.mg x=none) (hv:bootBuiltins x=some (.builtin id)) (ha:PA X (e :: es) t) (hn:x ≠ "__name__":=by decide) (hdb:(x == ("__debug__" : Str))=false:=by decide)
  (he:starEach (e :: es) X.env=(false,eval e X.env) :: starEach es X.env:=by rfl) (hpl:(backTo pos (starEach es X.env)).any (·.1)=false:=by rfl):PE X (.Call (.Name x p) (e :: es) [] pos) (tCB r t):=by
 intro pins s σ H Q I h
 refine wpAny_Call_Name_kw (ZBE I hg hm hv ?_ hn hdb)
 exact PyProof.Rows.callWith_builtin1 (thn (ha pos pins s σ H _ I h) fun us s1 ⟨vs,H1,I1,r1,q1⟩ =>hc pins s1 σ H1 vs us Q I1 r1 q1) he hpl
theorem ZdG (hc:Zlo X (.type T) r) (hg:Gl X x) (hm:X.mg x=none) (hv:bootBuiltins x=some (.type T)) (ha:PA X (e :: es) t) (hn:x ≠ "__name__":=by decide) (hdb:(x == ("__debug__" : Str))=false:=by decide)
  (he:starEach (e :: es) X.env=(false,eval e X.env) :: starEach es X.env:=by rfl) (hpl:(backTo pos (starEach es X.env)).any (·.1)=false:=by rfl):PE X (.Call (.Name x p) (e :: es) [] pos) (tCB r t):=by
 intro pins s σ H Q I h
 refine wpAny_Call_Name_kw (ZBE I hg hm hv ?_ hn hdb)
 exact PyProof.Rows.callWith_type1 (thn (ha pos pins s σ H _ I h) fun us s1 ⟨vs,H1,I1,r1,q1⟩ =>hc pins s1 σ H1 vs us Q I1 r1 q1) he hpl
end
end L2
namespace HT
open PySem PyProof.Rows
section
open PySem.SeqAt
open PySem.AutoSeq1 (wpAny_loadPart')
open PySem.MeetsSeq PySem.MeetsSeq2 PySem.MeetsSeq3
end
section
variable {prog:Program} {w:World} {A:Around} {E:Value→Shared→Prop} {s:Shared}
def sIx (n d:Nat):Option Int→Nat
 | none=>d
 | some v=>if v < 0 then (v + (n:Int)).toNat else min v.toNat n
theorem sIx_none (n d:Nat):sIx n d none=d:=rfl
theorem sIx_nat (n d k:Nat):sIx n d (some (k:Int))=min k n:=by
 show (if (k:Int) < 0 then ((k:Int) + (n:Int)).toNat else min (k:Int).toNat n)=min k n
 rw [if_neg (by omega),Int.toNat_natCast]
theorem ZKo (n d:Nat) (hd:d≤n) (o:Option Int):sIx n d o≤n:=by
 cases o with
 | none=>exact hd
 | some v=>
  show (if v < 0 then (v + (n:Int)).toNat else min v.toNat n)≤n
  by_cases hv:v < 0
  ·rw [if_pos hv]; omega
  ·rw [if_neg hv]; exact Nat.min_le_right _ _
theorem ZDg (v:Int) (n d:Nat):(if v < 0 then max (v + (n:Int)) 0 else min v (n:Int))=((sIx n d (some v):Nat):Int):=by
 show (if v < 0 then max (v + (n:Int)) 0 else min v (n:Int))=(((if v < 0 then (v + (n:Int)).toNat else min v.toNat n):Nat):Int)
 by_cases hv:v < 0
 ·simp only [if_pos hv]; omega
 ·simp only [if_neg hv]; omega
theorem ZCk (lo hi:Option Int) (n:Nat):Builtin.Slice.sliceAdjust lo hi 1 (n:Int)=(((sIx n 0 lo:Nat):Int),((sIx n n hi:Nat):Int)):=by
 have h1 : ¬ ((1:Int) < 0):=by omega
 unfold Builtin.Slice.sliceAdjust
 simp only [h1,if_false]
 refine Prod.ext ?_ ?_
 ·cases lo with
  | none=>rfl
  | some v=>exact ZDg v n 0
 ·cases hi with
  | none=>rfl
  | some v=>exact ZDg v n n
theorem ZCL (i j:Nat):Builtin.Slice.slicePlaces (i:Int) (j:Int) 1=j - i:=by
 unfold Builtin.Slice.slicePlaces
 have h1:(1:Int) > 0:=by omega
 simp only [h1,if_true,Int.ediv_one]
 split <;> omega
theorem Zwx {v:Value} {o:Option Int} {Q:Option Int→Shared→Prop} (p:IsPart v o) (h:Q o s):wpAny (model prog w) A (Builtin.Slice.slicePartIndex v) Q E s:=by
 cases p with
 | none=>exact slicePart_none h
 | int i t=>exact slicePart_int h
theorem Ztm {sl:Addr} {vl vu:Value} {lo hi:Option Int} {n:Nat} {Q:Int × Int × Nat→Shared→Prop} (hs:s.heap.IsSliceOf sl vl vu .none) (pl:IsPart vl lo) (pu:IsPart vu hi)
  (h:Q (((sIx n 0 lo:Nat):Int),1,sIx n n hi - sIx n 0 lo) s):wpAny (model prog w) A (Builtin.Slice.sliceApplied (.ref sl) (pure (n:Int))) Q E s:=by
 obtain ⟨os,hos,hcs,hds⟩ :=id hs
 unfold Builtin.Slice.sliceApplied Builtin.Slice.sliceFields
 refine wpAny_bind (wpAny_bind (wpAny_field hos hds (x:=vl) rfl (wpAny_bind (wpAny_field hos hds (x:=vu) rfl (wpAny_bind (wpAny_field hos hds (x:=.none) rfl (wpAny_pure ?_)))))))
 refine wpAny_bind (slicePart_none ?_)
 show wpAny _ _ (if ((1:Int) == 0)=true then _ else _) _ _ s
 rw [if_neg (by decide)]
 refine wpAny_bind (Zwx pl (wpAny_bind (Zwx pu (wpAny_bind (wpAny_pure ?_)))))
 show wpAny _ _ (match Builtin.Slice.sliceAdjust lo hi 1 (n:Int) with | (lo,hi)=>pure (lo,(1:Int),Builtin.Slice.slicePlaces lo hi 1)) _ _ s
 rw [ZCk lo hi n]
 show wpAny _ _ (pure (((sIx n 0 lo:Nat):Int),(1:Int),Builtin.Slice.slicePlaces ((sIx n 0 lo:Nat):Int) ((sIx n n hi:Nat):Int) 1)) _ _ s
 rw [ZCL]
 exact wpAny_pure h
theorem ZGe (xs:Array Value) (i k:Nat):((List.range k).filterMap fun (m:Nat)=>xs[((i:Int) + (m:Int) * 1).toNat]?).toArray=((xs.toList.drop i).take k).toArray:=by
 have e:(fun (m:Nat)=>xs[((i:Int) + (m:Int) * 1).toNat]?)=fun m=>xs[i + m]?:=by
  funext m
  have:((i:Int) + (m:Int) * 1).toNat=i + m:=by omega
  rw [this]
 rw [e]
 have:=pick_run xs i k
 rw [List.filterMap_map] at this
 have e2:((fun x=>xs[x]?) ∘ fun x=>i + x)=fun m=>xs[i + m]?:=rfl
 rw [e2] at this
 rw [this]
theorem getItem_tuple_cut {t sl:Addr} {items:Array Value} {vl vu:Value} {lo hi:Option Int} {Q:Value→Shared→Prop} (ht:IsTup s.heap t items) (hs:s.heap.IsSliceOf sl vl vu .none) (pl:IsPart vl lo) (pu:IsPart vu hi)
  (hw : ¬ (sIx items.size 0 lo=0∧sIx items.size items.size hi=items.size))
  (h:Q (.ref s.heap.objs.size) { s with heap:=s.heap.push { cls:=.type "tuple",data:=.seq ((items.toList.drop (sIx items.size 0 lo)).take (sIx items.size items.size hi - sIx items.size 0 lo)).toArray } })
  (hsz:items.size≤sizeLine):wpAny (model prog w) A (getItem (.ref t) (.ref sl)) Q E s:=by
 have htake:sizeOk (.seq ((items.toList.drop (sIx items.size 0 lo)).take (sIx items.size items.size hi - sIx items.size 0 lo)).toArray):=by
  show ((items.toList.drop (sIx items.size 0 lo)).take (sIx items.size items.size hi - sIx items.size 0 lo)).toArray.size≤sizeLine
  rw [List.size_toArray,List.length_take,List.length_drop,Array.length_toList]
  omega
 have hj:sIx items.size items.size hi≤items.size:=ZKo _ _ (Nat.le_refl _) hi
 obtain ⟨os,hos,hcs,hds⟩ :=id hs
 have hTs:s.TypeIs (.ref sl) "slice":=⟨os,hos,hcs⟩
 unfold getItem
 try with_reducible refine wpAny_holding ?_
 first | refine wpAny_bind (wpAny_pure ?_) | skip
 refine wpAny_bind (wpAny_sequenceKey ht.typeIs (by decide) ?_)
 refine wpAny_bind (wpAny_callSpecial?_slot (name:=Str.ofString "__getitem__") ht.typeIs PyProof.Rows.slot_tuple_getitem
  (wpAny_call_entry PyProof.Rows.slot_tuple_getitem ht.typeIs entry_tuple_getitem ?_ (args_tuple_getitem _ _)))
 show wpAny _ _ (Builtin.Tuple.tupleItemsOf (.ref t) >>= _) _ _ s
 refine wpAny_bind (tupleItemsOf_ ht ?_)
 refine wpAny_bind (wpAny_typeOf hTs ?_)
 rw [if_pos (by decide)]
 refine wpAny_bind (Ztm hs pl pu ?_)
 have hno : ¬ ((((sIx items.size 0 lo:Nat):Int) == 0 && (1:Int) == 1 && (sIx items.size items.size hi - sIx items.size 0 lo) == items.size)=true):=by
  intro q
  rw [Bool.and_eq_true,Bool.and_eq_true] at q
  have q1:((sIx items.size 0 lo:Nat):Int)=0:=eq_of_beq q.1.1
  have q2:sIx items.size items.size hi - sIx items.size 0 lo=items.size:=eq_of_beq q.2
  exact hw ⟨by omega,by omega⟩
 show wpAny _ _ (if (((sIx items.size 0 lo:Nat):Int) == 0 && (1:Int) == 1 && (sIx items.size items.size hi - sIx items.size 0 lo) == items.size)=true then _ else _) _ _ s
 rw [if_neg hno,ZGe]
 first
  | exact wpAny_bind (m:=Builtin.Tuple.tupleExact _) (wpAny_newObj_type (wpAny_pure ⟨_,rfl,wpAny_pure h⟩) htake)
  | exact wpAny_bind (m:=Builtin.Tuple.tupleExact _) (wpAny_newObj_type (wpAny_bind (wpAny_pure (wpAny_pure ⟨_,rfl,wpAny_pure h⟩))) htake)
  | exact wpAny_bind (wpAny_bind (m:=Builtin.Tuple.tupleExact _) (wpAny_newObj_type (wpAny_pure (wpAny_pure ⟨_,rfl,wpAny_pure h⟩)) htake))
  | exact wpAny_bind (wpAny_bind (m:=Builtin.Tuple.tupleExact _) (wpAny_newObj_type (wpAny_pure ⟨_,rfl,wpAny_pure h⟩) htake))
end
end HT
namespace L2
open PySem PySem.Spec PyProof.Rows
abbrev TO:=St→Hp→(Option Int→Hp→Prop)→Prop
def PO (X:Cx) (e:Option Expr) (t:TO):Prop:=
 ∀ (pins:List (Addr × Obj)) (s:Shared) (σ:St) (H:Hp) (Q:Option Int→Hp→Prop),Inv X pins σ H s→t σ H Q→
  wpAny (model X.prog X.w) X.A (evalPart e X.env) (fun u s'=>∃ o H',Inv X pins σ H' s'∧IsPart u o∧Q o H') X.xe s
def ZA5:TO:=fun _ H Q=>Q none H
def ZIQ (t:TE):TO:=fun σ H Q=>t σ H fun x H1=>∃ i,x=.int i∧Q (some i) H1
section
variable {X:Cx} {e:Expr} {te:TE} {lo hi:Option Expr} {tl th:TO} {pos p2:Pos}
theorem Zcf:PO X none ZA5:=by
 intro pins s σ H Q I h
 rw [evalPart_none]
 exact wpAny_pure ⟨none,H,I,.none,h⟩
theorem ZbJ (h:PE X e te):PO X (some e) (ZIQ te):=by
 intro pins s σ H Q I hw
 rw [evalPart_some]
 refine thn (h pins s σ H _ I hw) fun u s1 ⟨x,H1,I1,r1,q1⟩ =>?_
 obtain ⟨i,rfl,q⟩ :=q1
 obtain ⟨t,rfl⟩ :=r1
 exact ⟨some i,H1,I1,.int i t,q⟩
def SlR (X:Cx) (r:V→Option Int→Option Int→Hp→VK→Prop):Prop:=
 ∀ (pins:List (Addr × Obj)) (s:Shared) (σ:St) (H:Hp) (x:V) (v vl vu:Value) (lo hi:Option Int) (sl:Addr) (Q:VK),Inv X pins σ H s→RelV x v→s.heap.IsSliceOf sl vl vu .none→IsPart vl lo→IsPart vu hi→r x lo hi H Q→
  ∃ T id,typeLookup (.type T) "__getitem__" = pure (some (.builtin id))∧s.TypeIs v T∧wpAny (model X.prog X.w) X.A (getItem v (.ref sl)) (EP X pins σ Q) X.xe s
theorem SlR.or {r r':V→Option Int→Option Int→Hp→VK→Prop} (h:SlR X r) (h':SlR X r'):SlR X (fun x lo hi H Q=>r x lo hi H Q∨r' x lo hi H Q):=by
 intro pins s σ H x v vl vu lo hi sl Q I rx hs pl pu q
 rcases q with q | q
 ·exact h pins s σ H x v vl vu lo hi sl Q I rx hs pl pu q
 ·exact h' pins s σ H x v vl vu lo hi sl Q I rx hs pl pu q
def tSl (r:V→Option Int→Option Int→Hp→VK→Prop) (te:TE) (tl th:TO):TE:=fun σ H Q=>te σ H fun x H1=>tl σ H1 fun l H2=>th σ H2 fun u H3=>r x l u H3 Q
theorem Zbc {r:V→Option Int→Option Int→Hp→VK→Prop} (hr:SlR X r) (he:PE X e te) (hl:PO X lo tl) (hu:PO X hi th):PE X (.Subscript e (.Slice lo hi none p2) pos) (tSl r te tl th):=by
 intro pins s σ H Q I h
 refine Subscript_ (thn (he pins s σ H _ I h) fun v s1 ⟨x,H1,I1,r1,q1⟩ =>?_)
 refine wpAny_Slice (thn (hl pins s1 σ H1 _ I1 q1) fun vl s2 ⟨l,H2,I2,pl,q2⟩ =>thn (hu pins s2 σ H2 _ I2 q2) fun vu s3 ⟨u,H3,I3,pu,q3⟩ =>?_)
 rw [evalPart_none]
 refine wpAny_pure ?_
 have I4:Inv X pins σ H3 { s3 with heap:=s3.heap.push { cls:=.type "slice",data:=.fields #[vl,vu,.none] } }:=I3.kept (t':=s3.toks) fun b ob q=>Heap.get?_push_of_some _ q
 obtain ⟨T,id,hT,ht,hg⟩ :=hr pins { s3 with heap:=s3.heap.push { cls:=.type "slice",data:=.fields #[vl,vu,.none] } } σ H3 x v vl vu l u s3.heap.objs.size Q I4 r1 (Heap.IsSliceOf.new ..) pl pu q3
 show wpAny (model X.prog X.w) X.A (subscriptTail e (.Slice lo hi none p2) v (.ref s3.heap.objs.size)) (EP X pins σ Q) X.xe { s3 with heap:=s3.heap.push { cls:=.type "slice",data:=.fields #[vl,vu,.none] } }
 exact tail_any (ops:=[.ref s3.heap.objs.size,v]) ht hT hg (by with_unfolding_all rfl)
def cutV (xs:List V) (lo hi:Option Int):List V:=(xs.drop (HT.sIx xs.length 0 lo)).take (HT.sIx xs.length xs.length hi - HT.sIx xs.length 0 lo)
theorem Zt8 (xs:List V) (lo hi:Option Int):(cutV xs lo hi).length≤xs.length:=by
 unfold cutV
 rw [List.length_take,List.length_drop]
 omega
def rSlT (K:PySem.W.Frag):V→Option Int→Option Int→Hp→VK→Prop:=fun x lo hi H Q=>∃ a xs,x=.ref a∧SqT K H a xs∧
 ¬ (HT.sIx xs.length 0 lo=0∧HT.sIx xs.length xs.length hi=xs.length)∧∀ p,H p=none→Q (.ref p) (upd H p (.tup (cutV xs lo hi)))
theorem ZKs:SlR X (rSlT X.K):=by
 intro pins s σ H x v vl vu lo hi sl Q I rx hs pl pu h
 obtain ⟨a,xs,rfl,hx,hw,q⟩ :=h
 cases rx
 obtain ⟨its,r,ht,hz⟩ :=I.tuple hx
 have hlen:its.toArray.size=xs.length:=by rw [List.size_toArray]; exact r.length.symm
 refine ⟨"tuple",_,PyProof.Rows.slot_tuple_getitem.lookup,ht.typeIs,?_⟩
 refine HT.getItem_tuple_cut ht hs pl pu (by rw [hlen]; exact hw) ?_ (by rw [hlen]; exact hz)
 rw [hlen]
 refine ⟨.ref s.heap.objs.size,_,I.laid (t':=s.toks) (o:=.tup (cutV xs lo hi)) (fun b ob q=>Heap.get?_push_of_some _ q) (Nat.le_refl _) ?_,rfl,q _ (I.hok.fresh (Nat.le_refl _))⟩
 exact ⟨Nat.le_trans (Zt8 xs lo hi) hz,_,(r.drop (HT.sIx xs.length 0 lo)).take (HT.sIx xs.length xs.length hi - HT.sIx xs.length 0 lo),IsTup.new _ _⟩
end
end L2
namespace L2
open PySem PySem.Spec PyProof.Rows
def ixN (n:Nat) (i:Int):Option Nat:=if 0≤i then (if i < n then some i.toNat else none) else if -(n:Int)≤i then some (i + n).toNat else none
def atI {α:Type} (xs:List α) (i:Int):Option α:=(ixN xs.length i).bind fun j=>xs[j]?
theorem ZH4 {n:Nat} {i:Int} {j:Nat} (h:ixN n i=some j):seqIndex? i n=some j∧j < n∧-(n:Int)≤i∧i < n:=by
 unfold ixN at h
 by_cases h0:0≤i
 ·rw [if_pos h0] at h
  by_cases h1:i < n
  ·rw [if_pos h1] at h
   have e:i.toNat=j:=Option.some.inj h
   exact ⟨by rw [seqIndex_of h0 h1,e],by omega,by omega,h1⟩
  ·rw [if_neg h1] at h; cases h
 ·rw [if_neg h0] at h
  by_cases h1 : -(n:Int)≤i
  ·rw [if_pos h1] at h
   have e:(i + n).toNat=j:=Option.some.inj h
   exact ⟨by rw [seqIndex_neg (by omega) h1,e],by omega,h1,by omega⟩
  ·rw [if_neg h1] at h; cases h
theorem ZAj {α:Type} {xs:List α} {i:Int} {v:α} (h:atI xs i=some v):∃ j,seqIndex? i xs.length=some j∧xs[j]?=some v∧j < xs.length∧-(xs.length:Int)≤i∧i < xs.length:=by
 unfold atI at h
 cases e:ixN xs.length i with
 | none=>rw [e] at h; cases h
 | some j=>
  rw [e] at h
  obtain ⟨h1,h2,h3,h4⟩ :=ZH4 e
  exact ⟨j,h1,h,h2,h3,h4⟩
theorem ZlI {α:Type} {xs:List α} {j:Nat} {v:α} (h:xs[j]?=some v):atI xs (j:Int)=some v:=by
 have hj:j < xs.length:=(List.getElem?_eq_some_iff.mp h).1
 have e:ixN xs.length (j:Int)=some j:=by
  unfold ixN
  rw [if_pos (by omega),if_pos (by omega)]; simp
 unfold atI; rw [e]; exact h
def ZHK (b:Expr):Prop:=∀ o i,subscripted b false o i=operate [o,i] (getItem o i)
def IxR (X:Cx) (r:R2):Prop:=
 ∀ (value slice:Expr) (pins:List (Addr × Obj)) (s:Shared) (σ:St) (H:Hp) (x y:V) (v u:Value) (Q:VK),Inv X pins σ H s→RelV x v→RelV y u→r x y H Q→
  subscripted slice false v u=operate [v,u] (getItem v u)→wpAny (model X.prog X.w) X.A (subscriptTail value slice v u) (EP X pins σ Q) X.xe s
def MtR (X:Cx) (id:String) (r:V→List V→Hp→VK→Prop):Prop:=
 ∀ (pins:List (Addr × Obj)) (s:Shared) (σ:St) (H:Hp) (x:V) (xs:List V) (v:Value) (us:List Value) (Q:VK),Inv X pins σ H s→RelV x v→Vals xs us→r x xs H Q→
  wpAny (model X.prog X.w) X.A (call (.builtin id) (v :: us)) (EP X pins σ Q) X.xe s
section
variable {X:Cx} {a b:Expr} {ta tb:TE} {pos:Pos}
theorem IxR.or {r r':R2} (h:IxR X r) (h':IxR X r'):IxR X (fun x y H Q=>r x y H Q∨r' x y H Q):=by
 intro value slice pins s σ H x y v u Q I rx ry q hs
 rcases q with q | q
 ·exact h value slice pins s σ H x y v u Q I rx ry q hs
 ·exact h' value slice pins s σ H x y v u Q I rx ry q hs
theorem ZaZ {r:R2} (hr:IxR X r) (ha:PE X a ta) (hb:PE X b tb) (hs:ZHK b):PE X (.Subscript a b pos) (tOp r ta tb):=by
 intro pins s σ H Q I h
 exact Subscript_ (binT ha hb I h fun v u s2 x y H2 I2 rx ry q=>hr a b pins s2 σ H2 x y v u Q I2 rx ry q (hs _ _))
def rIxL (K:PySem.W.Frag):R2:=fun x y H Q=>∃ p xs i v,x=.ref p∧y=.int i∧SqL K H p xs∧atI xs i=some v∧Q v H
def rIxT (K:PySem.W.Frag):R2:=fun x y H Q=>∃ p xs i v,x=.ref p∧y=.int i∧SqT K H p xs∧atI xs i=some v∧Q v H
def rIxS:R2:=fun x y H Q=>∃ z i c,x=.str z∧y=.int i∧z.length≤sizeLine∧atI z.cps.toList i=some c∧Q (.str ⟨#[c]⟩) H
theorem ZH5:IxR X (rIxL X.K):=by
 intro value slice pins s σ H x y v u Q I rx ry h hs
 obtain ⟨p,xs,i,z,rfl,rfl,hq,he,q⟩ :=h
 cases rx
 obtain ⟨t,rfl⟩ :=ry
 obtain ⟨its,r,pl,hz⟩ :=I.list hq
 obtain ⟨j,h1,h2,h3,h4,h5⟩ :=ZAj he
 obtain ⟨w,ew,rw'⟩ :=r.get h2
 have hl:=r.length
 have hn:=ZyV
 have fin:EP X pins σ Q w s:=⟨z,H,I,rw',q⟩
 by_cases h0:0≤i
 ·have hj:i.toNat=j:=by
   rw [seqIndex_of h0 h5] at h1
   exact Option.some.inj h1
  exact item_listR pl.isList h0 (by omega) (by rw [hj]; simpa using ew) fin hs
 ·have hj:(i + (its.toArray.size:Int)).toNat=j:=by
   rw [seqIndex_neg (by omega) h4] at h1
   rw [List.size_toArray,← hl]
   exact Option.some.inj h1
  exact subscriptTail_builtinR (x:=w) pl.isList.typeIs slot_list_getitem.lookup
   (wpAny_getItem_list_neg (Q:=fun r s'=>r=w∧EP X pins σ Q r s') pl.isList (by omega) (by rw [List.size_toArray] <;> omega) (by omega) (by rw [hj]; simpa using ew) ⟨rfl,fin⟩) hs
theorem ZJH:IxR X (rIxT X.K):=by
 intro value slice pins s σ H x y v u Q I rx ry h hs
 obtain ⟨p,xs,i,z,rfl,rfl,hq,he,q⟩ :=h
 cases rx
 obtain ⟨t,rfl⟩ :=ry
 obtain ⟨its,r,pl,hz⟩ :=I.tuple hq
 obtain ⟨j,h1,h2,h3,h4,h5⟩ :=ZAj he
 obtain ⟨w,ew,rw'⟩ :=r.get h2
 have hl:=r.length
 have hn:=ZyV
 have fin:EP X pins σ Q w s:=⟨z,H,I,rw',q⟩
 exact subscriptTail_builtinR (x:=w) pl.typeIs slot_tuple_getitem.lookup
  (getItem_tuple (j:=j) (Q:=fun r s'=>r=w∧EP X pins σ Q r s') pl (by omega) (by omega) (by rw [List.size_toArray,← hl]; exact h1) (by simpa using ew) ⟨rfl,fin⟩) hs
theorem ZJG:IxR X rIxS:=by
 intro value slice pins s σ H x y v u Q I rx ry h hs
 obtain ⟨z,i,c,rfl,rfl,hz,he,q⟩ :=h
 obtain ⟨t,rfl⟩ :=rx
 obtain ⟨t',rfl⟩ :=ry
 obtain ⟨j,h1,h2,h3,h4,h5⟩ :=ZAj he
 have hl:z.cps.toList.length=z.length:=by simp [Str.length]
 rw [hl] at h1 h4 h5
 have hn:=ZyV
 exact tail_any (typeIs_str s z t) slot_str_getitem.lookup (getItem_str (c:=c) (by
  have e1:decide (i < -(2 ^ 63:Int))=false:=decide_eq_false (by omega)
  have e2:decide (i ≥ 2 ^ 63)=false:=decide_eq_false (by omega)
  rw [e1,e2,Bool.or_false]) (by rw [h1]; simpa using h2) ⟨.str ⟨#[c]⟩,H,I.tok _,⟨_,rfl⟩,q⟩) hs
def rIx (K:PySem.W.Frag):R2:=fun x y H Q=>rIxL K x y H Q∨rIxT K x y H Q∨rIxS x y H Q
theorem ZaA:IxR X (rIx X.K):=ZH5.or (ZJH.or ZJG)
theorem ZzU (lo hi:Option Int) (n:Nat):(sliceBounds lo hi none n).1=((HT.sIx n 0 lo:Nat):Int)∧(sliceBounds lo hi none n).2.1=((HT.sIx n n hi:Nat):Int)∧(sliceBounds lo hi none n).2.2=1:=by
 refine ⟨?_,?_,rfl⟩
 ·cases lo with
  | none=>simp [sliceBounds,HT.sIx]
  | some i=>
   simp only [sliceBounds,HT.sIx,Option.getD_none,show (1:Int) > 0 by decide,if_true]
   by_cases h:i < 0
   ·simp only [h,if_true] <;> omega
   ·simp only [h,if_false] <;> omega
 ·cases hi with
  | none=>simp [sliceBounds,HT.sIx]
  | some i=>
   simp only [sliceBounds,HT.sIx,Option.getD_none,show (1:Int) > 0 by decide,if_true]
   by_cases h:i < 0
   ·simp only [h,if_true] <;> omega
   ·simp only [h,if_false] <;> omega
theorem Zx6 (its:List Value) (lo hi:Option Int):slicePick its.toArray lo hi none=((its.drop (HT.sIx its.length 0 lo)).take (HT.sIx its.length its.length hi - HT.sIx its.length 0 lo)).toArray:=by
 obtain ⟨h1,h2,h3⟩ :=ZzU lo hi its.toArray.size
 unfold slicePick
 rw [h1,h2,h3]
 simp only [sliceRange_one,pick_run,List.size_toArray] <;> rfl
def rSlL (K:PySem.W.Frag):V→Option Int→Option Int→Hp→VK→Prop:=fun x lo hi H Q=>∃ a xs,x=.ref a∧SqL K H a xs∧∀ p,H p=none→Q (.ref p) (upd H p (.lst (cutV xs lo hi)))
theorem ZIE:SlR X (rSlL X.K):=by
 intro pins s σ H x v vl vu lo hi sl Q I rx hs pl pu h
 obtain ⟨a,xs,rfl,hx,q⟩ :=h
 cases rx
 obtain ⟨its,r,ht,hz⟩ :=I.list hx
 have hlen:=r.length
 refine ⟨"list",_,slot_list_getitem.lookup,ht.isList.typeIs,?_⟩
 refine wpAny_getItem_list_slice ht.isList hs pl pu .none (by simp) ?_ (by rw [List.size_toArray] <;> omega)
 rw [Zx6,← hlen]
 refine ⟨.ref s.heap.objs.size,_,I.laid (t':=s.toks) (o:=.lst (cutV xs lo hi)) (fun b ob q=>Heap.get?_push_of_some _ q) (Nat.le_refl _) ?_,rfl,q _ (I.hok.fresh (Nat.le_refl _))⟩
 exact ⟨Nat.le_trans (Zt8 xs lo hi) hz,_,0,(r.drop (HT.sIx xs.length 0 lo)).take (HT.sIx xs.length xs.length hi - HT.sIx xs.length 0 lo),Heap.get?_push_size _ rfl⟩
def ZyF:V→Bool
 | .non=>true
 | .bl _=>true
 | .int _=>true
 | .str _=>true
 | _=>false
def eqV:V→V→Bool
 | .non,.non=>true
 | .bl a,.bl b=>a == b
 | .bl a,.int b=>(if a then 1 else 0) == b
 | .int a,.bl b=>a == (if b then 1 else 0)
 | .int a,.int b=>a == b
 | .str a,.str b=>a == b
 | _,_=>false
theorem ZI8 {A:Around} {s:Shared} {y x:V} {u v:Value} (ry:RelV y u) (rx:RelV x v) (fy:ZyF y=true) (fx:ZyF x=true):SeqAt.EqAt A s u v (eqV y x):=by
 cases y with
 | non=>
  cases ry
  cases x with
  | non=>cases rx; exact SeqAt.EqAt.same _
  | bl b=>cases rx; exact SeqAt.EqAt.none_bool b
  | int b=>obtain ⟨t,rfl⟩ :=rx; exact SeqAt.EqAt.none_int b t
  | str b=>obtain ⟨t,rfl⟩ :=rx; exact SeqAt.EqAt.none_str b t
  | _=>exact absurd (show false=true from fx) Bool.false_ne_true
 | bl a=>
  cases ry
  cases x with
  | non=>cases rx; exact SeqAt.EqAt.bool_none a
  | bl b=>cases rx; exact SeqAt.EqAt.bool_bool a b
  | int b=>obtain ⟨t,rfl⟩ :=rx; exact SeqAt.EqAt.bool_int a b t
  | str b=>obtain ⟨t,rfl⟩ :=rx; exact SeqAt.EqAt.bool_str a b t
  | _=>exact absurd (show false=true from fx) Bool.false_ne_true
 | int a=>
  obtain ⟨t',rfl⟩ :=ry
  cases x with
  | non=>cases rx; exact SeqAt.EqAt.int_none a t'
  | bl b=>cases rx; exact SeqAt.EqAt.int_bool a t' b
  | int b=>obtain ⟨t,rfl⟩ :=rx; exact SeqAt.EqAt.int_int a t' b t
  | str b=>obtain ⟨t,rfl⟩ :=rx; exact SeqAt.EqAt.int_str a t' b t
  | _=>exact absurd (show false=true from fx) Bool.false_ne_true
 | str a=>
  obtain ⟨t',rfl⟩ :=ry
  cases x with
  | non=>cases rx; exact SeqAt.EqAt.str_none a t'
  | bl b=>cases rx; exact SeqAt.EqAt.str_bool a t' b
  | int b=>obtain ⟨t,rfl⟩ :=rx; exact SeqAt.EqAt.str_int a t' b t
  | str b=>obtain ⟨t,rfl⟩ :=rx; exact SeqAt.EqAt.str_str a t' b t
  | _=>exact absurd (show false=true from fx) Bool.false_ne_true
 | _=>exact absurd (show false=true from fy) Bool.false_ne_true
def eqU (x:V) (u:Value):Bool:=match u with
 | .none=>eqV .non x
 | .bool b=>eqV (.bl b) x
 | .int i _=>eqV (.int i) x
 | .str z _=>eqV (.str z) x
 | _=>false
theorem ZGJ {x y:V} {u:Value} (r:RelV y u) (f:ZyF y=true):eqU x u=eqV y x:=by
 cases y with
 | non=>cases r; rfl
 | bl b=>cases r; rfl
 | int i=>obtain ⟨t,rfl⟩ :=r; rfl
 | str z=>obtain ⟨t,rfl⟩ :=r; rfl
 | _=>exact absurd (show false=true from f) Bool.false_ne_true
theorem ZtT {x:V}:∀ {xs:List V} {us:List Value},Vals xs us→xs.all ZyF=true→us.any (eqU x)=xs.any fun y=>eqV y x
 | _,_,.nil,_=>rfl
 | y :: xs,u :: us,.cons r t,f=>by
  rw [List.all_cons,Bool.and_eq_true] at f
  rw [List.any_cons,List.any_cons,ZGJ r f.1,ZtT t f.2]
theorem Zqy {A:Around} {s:Shared} {x:V} {v:Value} (rx:RelV x v) (fx:ZyF x=true):∀ {xs:List V} {us:List Value},Vals xs us→xs.all ZyF=true→∀ u ∈ us,SeqAt.EqAt A s u v (eqU x u)
 | _,_,.nil,_=>fun u hu=>by cases hu
 | y :: xs,u :: us,.cons r t,f=>fun u' hu=>by
  rw [List.all_cons,Bool.and_eq_true] at f
  rcases List.mem_cons.mp hu with rfl | hu
  ·rw [ZGJ r f.1]; exact ZI8 r rx f.1 fx
  ·exact Zqy rx fx t f.2 u' hu
def inV (x:V) (xs:List V):Bool:=xs.any fun y=>eqV y x
def rIn (K:PySem.W.Frag) (neg:Bool):R2:=fun x y H Q=>∃ p xs,y=.ref p∧(SqL K H p xs∨SqT K H p xs)∧ZyF x=true∧xs.all ZyF=true∧Q (.bl (if neg then !inV x xs else inV x xs)) H
theorem ZEu:OpR X (compareOp .In) (rIn X.K false):=by
 intro pins s σ H x y v u Q I rx ry h
 obtain ⟨p,xs,rfl,hq,fx,fs,q⟩ :=h
 cases ry
 rcases hq with hq | hq
 ·obtain ⟨its,r,pl,hz⟩ :=I.list hq
  refine SeqAt.in_listAt (eqU x) pl.isList (fun w hw=>Zqy rx fx r fs w (by simpa using hw)) ⟨.bl _,H,I,rfl,?_⟩
  rw [show its.toArray.any (eqU x)=its.any (eqU x) by simp,ZtT r fs]
  exact q
 ·obtain ⟨its,r,pl,hz⟩ :=I.tuple hq
  refine SeqAt.in_tupleAt (eqU x) pl (fun w hw=>Zqy rx fx r fs w (by simpa using hw)) ⟨.bl _,H,I,rfl,?_⟩
  rw [show its.toArray.any (eqU x)=its.any (eqU x) by simp,ZtT r fs]
  exact q
theorem Zzw:OpR X (compareOp .NotIn) (rIn X.K true):=by
 intro pins s σ H x y v u Q I rx ry h
 obtain ⟨p,xs,rfl,hq,fx,fs,q⟩ :=h
 cases ry
 rcases hq with hq | hq
 ·obtain ⟨its,r,pl,hz⟩ :=I.list hq
  refine SeqAt.notIn_listAt (eqU x) pl.isList (fun w hw=>Zqy rx fx r fs w (by simpa using hw)) ⟨.bl _,H,I,rfl,?_⟩
  rw [show its.toArray.any (eqU x)=its.any (eqU x) by simp,ZtT r fs]
  exact q
 ·obtain ⟨its,r,pl,hz⟩ :=I.tuple hq
  refine SeqAt.notIn_tupleAt (eqU x) pl (fun w hw=>Zqy rx fx r fs w (by simpa using hw)) ⟨.bl _,H,I,rfl,?_⟩
  rw [show its.toArray.any (eqU x)=its.any (eqU x) by simp,ZtT r fs]
  exact q
theorem Zyz:Zlo X (.type "list") (fun xs H Q=>∃ p ys,xs=[.ref p]∧(SqL X.K H p ys∨SqT X.K H p ys)∧∀ l,H l=none→Q (.ref l) (upd H l (.lst ys))):=by
 intro pins s σ H xs us Q I r h
 obtain ⟨p,ys,rfl,hq,q⟩ :=h
 obtain ⟨u,rfl,rx⟩ :=ZFj r
 cases rx
 have fin:∀ (its:List Value),Vals ys its→ys.length≤sizeLine→∀ (h':Heap) (c':Nat),(∀ b o',s.heap.get? b=some o'→h'.get? b=some o')→
   h'.get? s.heap.objs.size=some { cls:=.type "list",dict:=none,data:=.seq its.toArray c',slots:=#[] }→EP X pins σ Q (.ref s.heap.objs.size) { s with heap:=h' }:=fun its r' hz h' c' kp e=>
  ⟨.ref s.heap.objs.size,_,I.laid (t':=s.toks) kp (Nat.le_refl _) (show Zd0 X.prog X.w _ h' _ (.lst ys) from ⟨hz,its,c',r',e⟩),rfl,q _ (I.hok.fresh (Nat.le_refl _))⟩
 rcases hq with hq | hq
 ·obtain ⟨its,r',pl,hz⟩ :=I.list hq
  have hlen:=r'.length
  obtain ⟨o,ho,hc,n,hd⟩ :=pl.isList
  exact call_list_seq p (.inl rfl) ho hc hd (fun h' c' kp e=>fin its r' hz h' c' kp e) (by simp only [List.size_toArray] <;> omega)
 ·obtain ⟨its,r',pl,hz⟩ :=I.tuple hq
  have hlen:=r'.length
  obtain ⟨o,ho,hc,n,hd⟩ :=pl
  exact call_list_seq p (.inr rfl) ho hc hd (fun h' c' kp e=>fin its r' hz h' c' kp e) (by simp only [List.size_toArray] <;> omega)
theorem ZwR:Zlo X (.type "tuple") (fun xs H Q=>∃ p ys,xs=[.ref p]∧((SqL X.K H p ys∧∀ l,H l=none→Q (.ref l) (upd H l (.tup ys)))∨(SqT X.K H p ys∧Q (.ref p) H))):=by
 intro pins s σ H xs us Q I r h
 obtain ⟨p,ys,rfl,h⟩ :=h
 obtain ⟨u,rfl,rx⟩ :=ZFj r
 cases rx
 rcases h with ⟨hq,q⟩ | ⟨hq,q⟩
 ·obtain ⟨its,r',pl,hz⟩ :=I.list hq
  have hlen:=r'.length
  refine call_tuple_list pl.isList (fun h' kp=>?_) (by simp only [List.size_toArray] <;> omega)
  have I1:Inv X pins σ H { s with heap:=h' }:=I.kept (t':=s.toks) kp
  have I2:Inv X pins σ (upd H h'.objs.size (.tup ys)) { s with heap:=h'.push { cls:=.type "tuple",data:=.seq its.toArray } }:=
   I1.laid (t':=s.toks) (fun b o e=>Heap.get?_push_of_some _ e) (Nat.le_refl _) (show Zd0 X.prog X.w _ _ _ (.tup ys) from ⟨hz,its,r',IsTup.new _ _⟩)
  exact ⟨.ref h'.objs.size,_,I2,rfl,q _ (I1.hok.fresh (Nat.le_refl _))⟩
 ·obtain ⟨its,r',pl,hz⟩ :=I.tuple hq
  exact call_tuple_same pl ⟨.ref p,H,I,rfl,q⟩
def tyV (K:PySem.W.Frag) (T:String) (x:V) (H:Hp):Prop:=match x with
 | .str _=>T = "str"
 | .int _=>T = "int"
 | .ref p=>(T = "list"∧∃ xs,SqL K H p xs)∨(T = "tuple"∧∃ o,K.lookup p=some o∧o.cls=.type "tuple"∧o.dict=none)∨
   (T = "dict"∧((∃ kvs,H p=some (.dK kvs))∨∃ kvs,H p=some (.dT kvs)))∨(T = "set"∧∃ S n,H p=some (.set S n))
 | _=>False
theorem ZCc {pins:List (Addr × Obj)} {σ:St} {H:Hp} {s:Shared} {T:String} {x:V} {v:Value} (I:Inv X pins σ H s) (r:RelV x v) (ty:tyV X.K T x H) :
  s.TypeIs v T∧∀ a,v=.ref a→∃ ob,s.heap.get? a=some ob∧ob.dict=none:=by
 cases x with
 | str z=>
  obtain ⟨t,rfl⟩ :=r
  cases (show T = "str" from ty)
  exact ⟨typeIs_str s z t,fun _ e=>nomatch e⟩
 | int i=>
  obtain ⟨t,rfl⟩ :=r
  cases (show T = "int" from ty)
  exact ⟨typeIs_int s i t,fun _ e=>nomatch e⟩
 | ref p=>
  cases r
  rcases ty with ⟨rfl,xs,hq⟩ | ⟨rfl,o,hk,hc,hd⟩ | ⟨rfl,hk⟩ | ⟨rfl,S,n,hk⟩
  ·obtain ⟨its,_,pl,_⟩ :=I.list hq
   refine ⟨pl.isList.typeIs,fun a e=>?_⟩
   cases e
   obtain ⟨o,n,e,c,hd,_⟩ :=pl
   exact ⟨o,e,hd⟩
  ·refine ⟨⟨o,I.kIn p o hk,hc⟩,fun a e=>?_⟩
   cases e
   exact ⟨o,I.kIn _ o hk,hd⟩
  ·have z:∃ o,s.heap.get? p=some o∧o.ExactDict:=by
    rcases hk with ⟨kvs,hk⟩ | ⟨kvs,hk⟩
    ·obtain ⟨_,_,_,_,o,_,_,e,ex,_⟩ :=I.hok p _ hk
     exact ⟨o,e,ex⟩
    ·obtain ⟨_,_,_,_,o,_,_,e,ex,_⟩ :=I.hok p _ hk
     exact ⟨o,e,ex⟩
   obtain ⟨o,e,ex⟩ :=z
   refine ⟨⟨o,e,ex.1⟩,fun a e2=>?_⟩
   cases e2
   exact ⟨o,e,ex.2.1⟩
  ·obtain ⟨o,_,_,_,e,ex,_⟩ :=I.hok p _ hk
   refine ⟨⟨o,e,ex.1⟩,fun a e2=>?_⟩
   cases e2
   exact ⟨o,e,ex.2.1⟩
 | _=>exact False.elim ty
def tBM0 (K:PySem.W.Frag) (T:String) (r:V→List V→Hp→VK→Prop) (to:TE):TE:=fun σ H Q=>to σ H fun x H1=>tyV K T x H1∧r x [] H1 Q
def tBM (K:PySem.W.Frag) (T:String) (r:V→List V→Hp→VK→Prop) (to:TE) (t:TA):TE:=fun σ H Q=>to σ H fun x H1=>tyV K T x H1∧t σ H1 fun xs H2=>r x xs H2 Q
variable {o e:Expr} {es:List Expr} {to:TE} {t:TA} {name:Str} {apos cpos:Pos} {T id:String} {r:V→List V→Hp→VK→Prop}
theorem ZHl (pa:PlainAttrs T) (slot:Slot T name id) (hty:typeOf (.builtin id)=pure (.type "method_descriptor")) (hm:MtR X id r) (ho:PE X o to)
  (hbase:attributeBase o name X.env (eval o X.env)=eval o X.env:=by rfl) (hline:(apos.endLine == cpos.line)=true:=by rfl):PE X (.Call (.Attribute o name apos) [] [] cpos) (tBM0 X.K T r to):=by
 intro pins s σ H Q I h
 refine wpAny_Call_method0_late hbase hline (thn (ho pins s σ H _ I h) fun v s1 ⟨x,H1,I1,r1,ty,q1⟩ =>?_)
 obtain ⟨h1,h2⟩ :=ZCc I1 r1 ty
 exact ⟨T,id,pa,slot,hty,h1,h2,Calls.callWith_builtin rfl (PySem.evalArgs_none (hm pins s1 σ H1 x [] v [] Q I1 r1 .nil q1))⟩
theorem ZkQ (pa:PlainAttrs T) (slot:Slot T name id) (hty:typeOf (.builtin id)=pure (.type "method_descriptor")) (hm:MtR X id r) (ho:PE X o to) (ha:PA X (e :: es) t)
  (hbase:attributeBase o name X.env (eval o X.env)=eval o X.env:=by rfl)
  (hfew:((backTo cpos (starEach (e :: es) X.env)).all (fun x=>!x.1) && (backToKw cpos (keywordEach [] X.env)).all (fun x=>x.1.isSome)
   && decide ((e :: es).length + ([]:List Keyword).length + (if ([]:List Keyword).isEmpty then 0 else 1) < 30))=true:=by rfl)
  (hline:(apos.endLine == cpos.line)=true:=by rfl) (hs:starEach (e :: es) X.env=(false,eval e X.env) :: starEach es X.env:=by rfl) (hplain:(backTo cpos (starEach es X.env)).any (·.1)=false:=by rfl) :
  PE X (.Call (.Attribute o name apos) (e :: es) [] cpos) (tBM X.K T r to t):=by
 intro pins s σ H Q I h
 refine wpAny_Call_method_late hbase hfew hline rfl (thn (ho pins s σ H _ I h) fun v s1 ⟨x,H1,I1,r1,ty,q1⟩ =>?_)
 obtain ⟨h1,h2⟩ :=ZCc I1 r1 ty
 refine ⟨T,id,pa,slot,hty,h1,h2,?_⟩
 have hA:=ha cpos pins s1 σ H1 _ I1 q1
 rw [hs] at hA ⊢
 refine Calls.callWith_builtin (by show (false || (backTo cpos (starEach es X.env)).any (·.1))=false; rw [hplain] <;> rfl) (Calls.evalArgs_plain ?_)
 exact thn hA fun us s2 ⟨vs,H2,I2,r2,q2⟩ =>hm pins s2 σ H2 x vs v us Q I2 r1 r2 q2
end
end L2
namespace L2
open PySem PySem.Spec PyProof.Rows
def MtM (X:Cx) (id:String) (r:V→List V→Hp→VK→Prop):Prop:=
 ∀ (pins:List (Addr × Obj)) (s:Shared) (σ:St) (H:Hp) (x:V) (xs:List V) (v:Value) (us:List Value) (Q:VK),Inv X pins σ H s→RelV x v→Vals xs us→r x xs H Q→
  wpAny (model X.prog X.w) X.A (call (.builtin id) (v :: us)) (EP X pins σ Q) X.xe s
theorem Vals.one:∀ {x:V} {us:List Value},Vals [x] us→∃ u,us=[u]∧RelV x u
 | _,_,.cons r .nil=>⟨_,rfl,r⟩
theorem Vals.zero:∀ {us:List Value},Vals [] us→us=[]
 | _,.nil=>rfl
theorem Vals.dropLast {xs:List V} {us:List Value} (h:Vals xs us):Vals xs.dropLast us.dropLast:=by
 induction h with
 | nil=>exact .nil
 | cons r t ih=>
  cases t with
  | nil=>exact .nil
  | cons q t'=>exact .cons r ih
theorem ZCr {α:Type} (l:List α):l.eraseIdx (l.length - 1)=l.dropLast:=by
 induction l with
 | nil=>rfl
 | cons a r ih=>
  cases r with
  | nil=>rfl
  | cons b r=>
   have e:(a :: b :: r).length - 1=((b :: r).length - 1) + 1:=by
    have h1:(a :: b :: r).length=r.length + 2:=rfl
    have h2:(b :: r).length=r.length + 1:=rfl
    omega
   rw [e,List.eraseIdx_cons_succ,ih]
   all_goals rfl
section
variable {X:Cx} {pins:List (Addr × Obj)} {σ:St} {H:Hp} {s:Shared} {l b:Addr} {xs ys zs:List V}
theorem Inv.lset {its its':List Value} {n:Nat} {f:Array Value→Array Value} {t':Nat} (I:Inv X pins σ H s) (hH:H l=some (.lst xs))
  (e:s.heap.get? l=some { cls:=.type "list",data:=.seq its.toArray n }) (hf:f its.toArray=its'.toArray) (hv:Vals ys its') (hz:ys.length≤sizeLine) :
  Inv X pins σ (upd H l (.lst ys)) { s with heap:=s.heap.update l (Obj.mapSeq f),toks:=t' }:=by
 have q:=PySem.IsL.update e f
 rw [hf] at q
 refine I.write (x:=l) (e:=l) (by rw [hH]; exact trivial) (.inl rfl) (fun b' u hb hu=>(Heap.get?_update_other s.heap (Obj.mapSeq f) (Ne.symm hb)).trans hu) ⟨_,q⟩ ?_
 exact ⟨hz,its',_,hv,q⟩
theorem Inv.lnew {its:List Value} {t':Nat} (I:Inv X pins σ H s) (hv:Vals ys its) (hz:ys.length≤sizeLine) :
  Inv X pins σ (upd H s.heap.objs.size (.lst ys)) { s with heap:=s.heap.push { cls:=.type "list",data:=.seq its.toArray },toks:=t' }:=
 I.laid (fun _ _ q=>Heap.get?_push_of_some _ q) (Nat.le_refl _) ⟨hz,its,0,hv,Heap.get?_push_size _ rfl⟩
theorem Inv.fresh (I:Inv X pins σ H s):H s.heap.objs.size=none:=I.hok.fresh (Nat.le_refl _)
theorem Inv.lstM (I:Inv X pins σ H s) (hH:H l=some (.lst xs)):xs.length≤sizeLine∧∃ (its:List Value) (n:Nat),Vals xs its∧xs.length=its.length∧s.heap.get? l=some { cls:=.type "list",data:=.seq its.toArray n }:=by
 obtain ⟨z,its,n,r,e⟩ :=I.hok l _ hH
 exact ⟨z,its,n,r,r.length,e⟩
end
section
variable {X:Cx}
def ZxO:V→List V→Hp→VK→Prop:=fun x vs H Q=>∃ l xs y,x=.ref l∧vs=[y]∧H l=some (.lst xs)∧xs.length < sizeLine∧Q .non (upd H l (.lst (xs ++ [y])))
theorem Zb9:MtM X "list.append" ZxO:=by
 intro pins s σ H x vs v us Q I rx rv h
 obtain ⟨l,xs,y,rfl,rfl,hH,hz,q⟩ :=h
 cases rx
 obtain ⟨u,rfl,ru⟩ :=rv.one
 obtain ⟨z,its,n,r,hl,e⟩ :=I.lstM hH
 refine call_meets F.slot_list_append ⟨_,e,rfl⟩ F.entry_list_append (F.args_list_append_2 _ _) (PySem.list_append l its.toArray n u (by rw [List.size_toArray]; omega)) ⟨e,?_⟩
 refine ⟨.non,_,I.lset (its':=its ++ [u]) hH e (by simp) (r.append (.cons ru .nil)) ?_,rfl,q⟩
 rw [List.length_append,List.length_singleton]
 omega
def rPop:V→List V→Hp→VK→Prop:=fun x vs H Q=>∃ l xs y,x=.ref l∧vs=[]∧H l=some (.lst xs)∧xs[xs.length - 1]?=some y∧Q y (upd H l (.lst xs.dropLast))
theorem ZJO:MtM X "list.pop" rPop:=by
 intro pins s σ H x vs v us Q I rx rv h
 obtain ⟨l,xs,y,rfl,rfl,hH,hy,q⟩ :=h
 cases rx
 have hus:=rv.zero
 subst hus
 obtain ⟨z,its,n,r,hl,e⟩ :=I.lstM hH
 obtain ⟨u,hu,ru⟩ :=r.get hy
 have hy':its.toArray[its.toArray.size - 1]?=some u:=by
  show its.toArray[its.length - 1]?=some u
  rw [← Array.getElem?_toList,← hl]
  exact hu
 refine call_meets F.slot_list_pop ⟨_,e,rfl⟩ F.entry_list_pop (F.args_list_pop_1 _) (MeetsSeq.list_pop_last l its.toArray n u hy' (by rw [List.size_toArray]; omega)) ⟨e,?_⟩
 refine ⟨y,_,I.lset (its':=its.dropLast) hH e ?_ r.dropLast ?_,ru,q⟩
 ·show its.toArray.eraseIdxIfInBounds (its.toArray.size - 1)=its.dropLast.toArray
  rw [List.size_toArray,List.eraseIdxIfInBounds_toArray,ZCr]
 ·rw [List.length_dropLast]
  omega
def rCat:R2:=fun x y H Q=>∃ l b xs zs,x=.ref l∧y=.ref b∧H l=some (.lst xs)∧H b=some (.lst zs)∧xs.length + zs.length≤sizeLine∧∀ p,H p=none→Q (.ref p) (upd H p (.lst (xs ++ zs)))
theorem ZJW:OpR X (binaryOp .Add) rCat:=by
 intro pins s σ H x y v u Q I rx ry h
 obtain ⟨l,b,xs,zs,rfl,rfl,hH,hB,hz,q⟩ :=h
 cases rx
 cases ry
 obtain ⟨z,its,n,r,hl,e⟩ :=I.lstM hH
 obtain ⟨z2,its2,n2,r2,hl2,e2⟩ :=I.lstM hB
 refine PySem.P.add_list e e2 ?_ (by rw [List.size_toArray,List.size_toArray]; omega)
 have ea:its.toArray ++ its2.toArray=(its ++ its2).toArray:=by simp
 rw [ea]
 exact ⟨.ref _,_,I.lnew (t':=s.toks) (r.append r2) (by rw [List.length_append]; omega),rfl,q _ I.fresh⟩
end
section
variable {prog:Program} {w:World} {A:Around} {E:Value→Shared→Prop} {s:Shared}
end
section
variable {X:Cx}
end
end L2
namespace L2
open PySem PySem.Spec PyProof.Rows
section
variable {κ:Type} [DecidableEq κ]
def valV (kvs:List (κ × V)) (k:κ):Option V:=(kvs.find? fun kv=>decide (kv.1=k)).map (·.2)
def putK (kvs:List (κ × V)) (k:κ) (v:V):List (κ × V):=
 if (kvs.any fun kv=>decide (kv.1=k))=true then kvs.map (fun kv=>if kv.1=k then (kv.1,v) else kv) else kvs ++ [(k,v)]
theorem ZCf {p:κ × V} {r:List (κ × V)} {k:κ} (e:p.1=k):valV (p :: r) k=some p.2:=by simp [valV,List.find?_cons,e]
theorem ZCe {p:κ × V} {r:List (κ × V)} {k:κ} (e : ¬ p.1=k):valV (p :: r) k=valV r k:=by simp [valV,List.find?_cons,e]
theorem ZAH (kvs:List (κ × V)) (k:κ) (v:V):(putK kvs k v).length≤kvs.length + 1:=by
 unfold putK
 split
 ·rw [List.length_map]; omega
 ·rw [List.length_append,List.length_cons,List.length_nil]; omega
theorem RelO.getD {o:Option V} {u:Option Value} {d:V} {d':Value} (r:RelO o u) (rd:RelV d d'):RelV (o.getD d) (u.getD d'):=by
 cases o with
 | none=>cases u with
  | none=>exact rd
  | some _=>exact (show False from r).elim
 | some _=>cases u with
  | none=>exact (show False from r).elim
  | some _=>exact r
theorem KV.val {kvs:List (κ × V)} {vs:List (κ × Value)} (r:KV kvs vs) (k:κ):RelO (valV kvs k) (valueAt vs k):=by
 unfold KV at r
 induction r with
 | nil=>exact True.intro
 | @cons p q ps qs h t ih=>
  obtain ⟨h1,h2⟩ :=h
  by_cases e:p.1=k
  ·have e':q.1=k:=h1.symm.trans e
   have b:valueAt (q :: qs) k=some q.2:=by simp [valueAt,List.find?_cons,e']
   rw [ZCf e,b]; exact h2
  ·have e' : ¬ q.1=k:=fun z=>e (h1.trans z)
   have b:valueAt (q :: qs) k=valueAt qs k:=by simp [valueAt,List.find?_cons,e']
   rw [ZCe e,b]; exact ih
theorem KV.any {kvs:List (κ × V)} {vs:List (κ × Value)} (r:KV kvs vs) (k:κ):(kvs.any fun kv=>decide (kv.1=k))=vs.any fun kv=>decide (kv.1=k):=by
 unfold KV at r
 induction r with
 | nil=>rfl
 | cons h t ih=>rw [List.any_cons,List.any_cons,ih,h.1]
theorem KV.repl {kvs:List (κ × V)} {vs:List (κ × Value)} (r:KV kvs vs) (k:κ) {y:V} {u:Value} (ry:RelV y u) :
  KV (kvs.map fun kv=>if kv.1=k then (kv.1,y) else kv) (vs.map fun kv=>if kv.1=k then (kv.1,u) else kv):=by
 unfold KV at r ⊢
 induction r with
 | nil=>exact .nil
 | @cons p q ps qs h t ih=>
  rw [List.map_cons,List.map_cons]
  refine .cons ?_ ih
  obtain ⟨h1,h2⟩ :=h
  by_cases e:p.1=k
  ·rw [if_pos e,if_pos (h1.symm.trans e)]; exact ⟨h1,ry⟩
  ·rw [if_neg e,if_neg (fun z=>e (h1.trans z))]; exact ⟨h1,h2⟩
theorem KV.put {kvs:List (κ × V)} {vs:List (κ × Value)} (r:KV kvs vs) (k:κ) {y:V} {u:Value} (ry:RelV y u):KV (putK kvs k y) (stored vs k u):=by
 unfold putK stored
 rw [r.any k]
 by_cases e:(vs.any fun kv=>decide (kv.1=k))=true
 ·rw [if_pos e,if_pos e]; exact r.repl k ry
 ·rw [if_neg e,if_neg e]; exact Paired.snoc r ⟨rfl,ry⟩
end
theorem ZH7 {P:Program} {w:World} {k:Key} {u:Value} (r:RelV (kV k) u):(ZdB P w).is k u=true:=by
 cases k with
 | inl i=>obtain ⟨t,e⟩ :=(show ∃ t,u=Value.int i t from r); subst e; exact ZAJ P w i t
 | inr x=>obtain ⟨t,e⟩ :=(show ∃ t,u=Value.str x t from r); subst e; exact ZAK P w x t
theorem ZyP {P:Program} {w:World}:∀ {ks:List Key} {us:List Value},Vals (ks.map kV) us→ItemsAre (ZdB P w) ks us
 | [],_,r=>by rw [List.map_nil] at r; cases r; exact .nil
 | k :: ks,_,r=>by
  rw [List.map_cons] at r
  cases r with
  | cons h t=>exact .cons (ZH7 h) (ZyP t)
abbrev KT (H:Hp):List (List Key × V)→List (List Key × Addr × Value)→Prop:=Paired fun p q=>p.1=q.1∧H q.2.1=some (.tup (p.1.map kV))∧RelV p.2 q.2.2
theorem KT.val {H:Hp} {kvs:List (List Key × V)} {xs:List (List Key × Addr × Value)} (r:KT H kvs xs) (k:List Key):RelO (valV kvs k) ((atKey xs k).map (·.2)):=by
 induction r with
 | nil=>exact True.intro
 | @cons p q ps qs h t ih=>
  obtain ⟨h1,_,h2⟩ :=h
  by_cases e:p.1=k
  ·have e':q.1=k:=h1.symm.trans e
   have b:atKey (q :: qs) k=some q.2:=by simp [atKey,List.find?_cons,e']
   rw [ZCf e,b]; exact h2
  ·have e' : ¬ q.1=k:=fun z=>e (h1.trans z)
   have b:atKey (q :: qs) k=atKey qs k:=by simp [atKey,List.find?_cons,e']
   rw [ZCe e,b]; exact ih
section
variable {P:Program} {w:World} {H:Hp} {h:Heap} {a:Addr}
theorem ZKi {u:HO} (ok:HOk P w H h) (e:Rd H a u):Zd0 P w H h a u:=e.ok ok
theorem ZHP {kvs:List (Key × V)} (ok:HOk P w H h) (e:Rd H a (.dK kvs)):kvs.length≤sizeLine∧(a == sysModules)=false∧∃ vs,KV kvs vs∧h.DictOf (ZdB P w) a vs:=
 show Zd0 P w H h a (.dK kvs) from ZKi ok e
theorem ZKT {kvs:List (Key × V)} (ok:HOk P w H h) (e:H a=some (.dK kvs)):kvs.length≤sizeLine∧(a == sysModules)=false∧∃ vs,KV kvs vs∧h.DictOf (ZdB P w) a vs:=ZHP ok (.inl e)
theorem ZHa {ks:List Key} (ok:HOk P w H h) (e:H a=some (.tup (ks.map kV))):(tupleKind (ZdB P w)).is h ks a:=by
 obtain ⟨_,its,r,o,h1,h2,n,h3⟩ :=(show Zd0 P w H h a (.tup (ks.map kV)) from ok a _ e)
 exact ⟨o,its.toArray,n,h1,h2,h3,by simpa using ZyP r⟩
theorem ZI7 {kvs:List (List Key × V)} (ok:HOk P w H h) (e:Rd H a (.dT kvs)):kvs.length≤sizeLine∧(a == sysModules)=false∧
  ∃ xs,KT H kvs xs∧h.DictOfH (tupleKind (ZdB P w)) a xs:=by
 obtain ⟨z,y,xs,r,o,es,ep,h1,h2,h3,h4,h5⟩ :=(show Zd0 P w H h a (.dT kvs) from ZKi ok e)
 refine ⟨z,y,xs,r,o,es,ep,h1,h2,h3,h4,fun x hx=>?_,h5⟩
 have all:∀ {l:List (List Key × V)} {m:List (List Key × Addr × Value)},KT H l m→∀ x ∈ m,(tupleKind (ZdB P w)).is h x.1 x.2.1:=by
  intro l m q
  induction q with
  | nil=>intro x hx; exact nomatch hx
  | @cons p q ps qs hq t ih=>
   intro x hx
   rcases List.mem_cons.mp hx with e | hx
   ·subst e
    exact ZHa ok (by rw [← hq.1]; exact hq.2.1)
   ·exact ih x hx
 exact all r x hx
end
def DGet (H:Hp) (a:Addr) (y:V) (r:Option V):Prop:=
 (∃ kvs k,Rd H a (.dK kvs)∧y=kV k∧r=valV kvs k)∨∃ kvs k b,Rd H a (.dT kvs)∧y=.ref b∧H b=some (.tup (k.map kV))∧r=valV kvs k
theorem DGet.k {H:Hp} {a:Addr} {kvs:List (Key × V)} {k:Key} (e:H a=some (.dK kvs)):DGet H a (kV k) (valV kvs k):=.inl ⟨kvs,k,.inl e,rfl,rfl⟩
section
variable {X:Cx} {pins:List (Addr × Obj)} {σ:St} {H:Hp} {s:Shared} {a:Addr} {y v:V} {u r:Value} {o:Option V} {A:Around} {E:Value→Shared→Prop}
theorem Inv.big (I:Inv X pins σ H s):sysModules < s.heap.objs.size:=by
 have h:mainGlobals < s.heap.objs.size:=(I.mod.glob.keeps I.bk).lt
 exact Nat.lt_trans (by decide) h
theorem ZHO {h':Heap} {t':Nat} {ob:HO} (I:Inv X pins σ H s) (mu:Mut (H a)) (hs:Heap.SameBut a s.heap h') (he:∃ q,h'.get? a=some q) (new:Zd0 X.prog X.w (upd H a ob) h' a ob) :
  Inv X pins σ (upd H a ob) { s with heap:=h',toks:=t' }:=
 I.write (x:=a) (e:=a) mu (.inl rfl) (fun b q hb z=>(hs.2 b hb).trans z) he new
theorem ZI6 {P:Program} {w:World} {H':Hp} {h':Heap} {kvs:List (Key × V)} {vs:List (Key × Value)} (z:kvs.length≤sizeLine) (hd:(a == sysModules)=false) (rel:KV kvs vs) (dd:h'.DictOf (ZdB P w) a vs) :
  Zd0 P w H' h' a (.dK kvs):=⟨z,hd,vs,rel,dd⟩
end
section
variable {X:Cx} {pins:List (Addr × Obj)} {σ:St} {H:Hp} {s:Shared} {a:Addr} {kvs:List (Key × V)} {k:Key} {u:Value} {A:Around} {E:Value→Shared→Prop}
end
section
variable {X:Cx} {o i e value:Expr} {pos pos' tpos:Pos} {td ty tv:TE}
end
theorem ZFB {P:Program} {w:World} {H:Hp} (h:Heap) (hb:sysModules < h.objs.size):Zd0 P w H (h.push { cls:=.type "dict",data:=.dict #[] }) h.objs.size (.dK []):=
 ⟨Nat.zero_le _,beq_eq_false_iff_ne.mpr (Ne.symm (Nat.ne_of_lt hb)),[],.nil,Heap.DictOf.new h⟩
section
variable {X:Cx} {pos:Pos}
end
def Zwy:List (TE × TE)→St→Hp→(List (V × V)→Hp→Prop)→Prop
 | [],_,H,Q=>Q [] H
 | (tk,tv) :: r,σ,H,Q=>tk σ H fun x H1=>tv σ H1 fun y H2=>Zwy r σ H2 fun ps H3=>Q ((x,y) :: ps) H3
abbrev VV:List (V × V)→List (Value × Value)→Prop:=Paired fun p q=>RelV p.1 q.1∧RelV p.2 q.2
def PPs (X:Cx) (pos:Pos) (keys:List (Option Expr)) (values:List Expr) (trs:List (TE × TE)):Prop:=
 ∀ (pins:List (Addr × Obj)) (s:Shared) (σ:St) (H:Hp) (Q:List (V × V)→Hp→Prop),Inv X pins σ H s→Zwy trs σ H Q→
  wpAny (model X.prog X.w) X.A (evalPairs (pairTrees keys values X.env pos)) (fun vs s'=>∃ ps H',Inv X pins σ H' s'∧VV ps vs∧Q ps H') X.xe s
theorem ZxM {X:Cx} {pos:Pos}:PPs X pos [] [] []:=fun pins s σ H Q I h=>pairTrees_nil_walk ⟨[],H,I,.nil,h⟩
theorem Zc9 {X:Cx} {pos:Pos} {k v:Expr} {ks:List (Option Expr)} {vs:List Expr} {tk tv:TE} {trs:List (TE × TE)} (hk:PE X k tk) (hv:PE X v tv) (hr:PPs X pos ks vs trs) :
  PPs X pos (some k :: ks) (v :: vs) ((tk,tv) :: trs):=fun pins s σ H Q I h=>
 pairTrees_cons_walk (thn (hk pins s σ H _ I h) fun u s1 ⟨x,H1,I1,rx,q1⟩ =>thn (hv pins s1 σ H1 _ I1 q1) fun w2 s2 ⟨y,H2,I2,ry,q2⟩ =>
  thn (hr pins s2 σ H2 _ I2 q2) fun ws s3 ⟨ps,H3,I3,rel,q3⟩ =>⟨(x,y) :: ps,H3,I3,.cons ⟨rx,ry⟩ rel,q3⟩)
def ZmI (kvs more:List (Key × V)):List (Key × V):=more.foldl (fun acc kv=>putK acc kv.1 kv.2) kvs
theorem KV.merge:∀ {more:List (Key × V)} {rs:List (Key × Value)} {kvs:List (Key × V)} {vs:List (Key × Value)},KV more rs→KV kvs vs→KV (ZmI kvs more) (merged vs rs):=by
 intro more rs kvs vs r
 unfold KV at r
 induction r generalizing kvs vs with
 | nil=>intro q; exact q
 | @cons p q ps qs h t ih=>
  intro r0
  have e:KV (putK kvs p.1 p.2) (stored vs q.1 q.2):=by
   have:=r0.put p.1 h.2
   rw [← h.1]; exact this
  exact ih e
theorem Zqo:∀ (more kvs:List (Key × V)),(ZmI kvs more).length≤kvs.length + more.length
 | [],kvs=>by show kvs.length≤kvs.length + 0; omega
 | p :: r,kvs=>by
  have h1:=Zqo r (putK kvs p.1 p.2)
  have h2:=ZAH kvs p.1 p.2
  show (ZmI (putK kvs p.1 p.2) r).length≤_
  rw [List.length_cons]; omega
theorem Zwp {P:Program} {w:World}:∀ {kvs:List (Key × V)} {ws:List (Value × Value)},VV (kvs.map fun kv=>(kV kv.1,kv.2)) ws→∃ rs,Carries (ZdB P w) ws rs∧KV kvs rs
 | [],_,r=>by rw [List.map_nil] at r; cases r; exact ⟨[],True.intro,.nil⟩
 | p :: kvs,_,r=>by
  rw [List.map_cons] at r
  cases r with
  | @cons a b as bs h t=>
   obtain ⟨rs,c,q⟩ :=Zwp (P:=P) (w:=w) t
   obtain ⟨b1,b2⟩ :=b
   exact ⟨(p.1,b2) :: rs,⟨ZH7 h.1,rfl,c⟩,.cons ⟨rfl,h.2⟩ q⟩
def ZKC (trs:List (TE × TE)):TE:=fun σ H Q=>∀ p,H p=none→Zwy trs σ (upd H p (.dK [])) fun ps H2=>H2 p=some (.dK [])∧∃ kvs:List (Key × V),ps=kvs.map (fun kv=>(kV kv.1,kv.2))∧kvs.length≤15∧Q (.ref p) (upd H2 p (.dK (ZmI [] kvs)))
theorem ZxG {X:Cx} {pos:Pos} {keys:List (Option Expr)} {values:List Expr} {trs:List (TE × TE)} (h:PPs X pos keys values trs) (hall:keys.all (·.isSome)=true) (hl:keys.length=values.length) (h0:keys ≠ [])
  (h15:keys.length≤15):PE X (.Dict keys values pos) (ZKC trs):=by
 intro pins s σ H Q I q
 have hn:=I.hok.fresh (Nat.le_refl s.heap.objs.size)
 have I1:=I.laid (a:=s.heap.objs.size) (o:=.dK []) (h':=s.heap.push { cls:=.type "dict",data:=.dict #[] }) (t':=s.toks) (fun _ _ q=>Heap.get?_push_of_some _ q) (Nat.le_refl _) (ZFB s.heap I.big)
 refine wpAny_Dict_walk (knd:=ZdB X.prog X.w) hall hl h0 h15 (thn (h pins _ σ _ _ I1 (q _ hn)) fun ws s2 ⟨ps,H2,I2,rel,e,kvs,ep,lk,q2⟩ =>?_)
 subst ep
 obtain ⟨rs,c,rk⟩ :=Zwp (P:=X.prog) (w:=X.w) rel
 obtain ⟨z,hd,vs0,r0,dd⟩ :=ZKT I2.hok e
 cases r0
 refine ⟨rs,c,dd,fun h' dd' hs=>⟨.ref s.heap.objs.size,_,?_,rfl,q2⟩⟩
 have hz:(ZmI [] kvs).length≤sizeLine:=by
  have h1:=Zqo kvs []
  rw [List.length_nil] at h1
  rw [sizeLine_eq]; omega
 have he:∃ q,h'.get? s.heap.objs.size=some q:=let ⟨q,_,_,hq,_⟩ :=dd'; ⟨q,hq⟩
 exact ZHO I2 (by rw [e]; exact True.intro) hs he (ZI6 hz hd (rk.merge .nil) dd')
structure M2 (X:Cx) (o:Expr) (m:Str) (apos:Pos) (e f:Expr) (cpos:Pos):Prop where
 base:attributeBase o m X.env (eval o X.env)=eval o X.env
 few:((backTo cpos (starEach [e,f] X.env)).all (fun x=>!x.1) && (backToKw cpos (keywordEach [] X.env)).all (fun x=>x.1.isSome)
  && decide (([e,f]:List Expr).length + ([]:List Keyword).length + (if ([]:List Keyword).isEmpty then 0 else 1) < 30))=true
 line:(apos.endLine == cpos.line)=true
 trees:backTo cpos (starEach [e,f] X.env)=[(false,eval e X.env),(false,eval f X.env)]
def IsD (H:Hp) (a:Addr):Prop:=(∃ kvs,Rd H a (.dK kvs))∨∃ kvs,Rd H a (.dT kvs)
theorem ZJF {X:Cx} {pins:List (Addr × Obj)} {σ:St} {H:Hp} {s:Shared} {a:Addr} (I:Inv X pins σ H s) (d:IsD H a) :
  s.TypeIs (.ref a) "dict"∧(∀ b,Value.ref a=.ref b→∃ ob,s.heap.get? b=some ob∧ob.dict=none)∧(a == sysModules)=false:=by
 rcases d with ⟨kvs,e⟩ | ⟨kvs,e⟩
 ·obtain ⟨_,hd,vs,_,dd⟩ :=ZHP I.hok e
  refine ⟨dd.typeIs,fun b q=>?_,hd⟩
  cases q
  obtain ⟨ob,_,_,h1,h2,_⟩ :=dd
  exact ⟨ob,h1,h2.2.1⟩
 ·obtain ⟨_,hd,xs,_,dd⟩ :=ZI7 I.hok e
  refine ⟨dd.typeIs,fun b q=>?_,hd⟩
  cases q
  obtain ⟨ob,_,_,h1,h2,_⟩ :=dd
  exact ⟨ob,h1,h2.2.1⟩
section
variable {X:Cx} {pins:List (Addr × Obj)} {σ:St} {H:Hp} {s:Shared} {a:Addr} {y d:V} {u r:Value} {o:Option V} {A:Around} {E:Value→Shared→Prop}
theorem ZI5 {Q:Value→Shared→Prop} (hu:A.units + 1 < cLine) (I:Inv X pins σ H s) (g:DGet H a y o) (ry:RelV y u) (rd:RelV d r) (h:∀ w' s',Inv X pins σ H s'→RelV (o.getD d) w'→Q w' s') :
  wpAny (model X.prog X.w) A (call (.builtin "dict.get") [.ref a,u,r]) Q E s:=by
 rcases g with ⟨kvs,k,e,ey,l⟩ | ⟨kvs,k,b,e,ey,eb,l⟩
 ·subst ey
  obtain ⟨z,hd,vs,rel,dd⟩ :=ZHP I.hok e
  refine call_meetsIn PySem.F.slot_dict_get dd.typeIs PySem.F.entry_dict_get (PySem.F.args_dict_get_3 _ _ _) (meets_dict_get_default (ZdB X.prog X.w) a (ZH7 ry) hd r) ⟨_,dd.mapOf,h _ _ (I.tok _) ?_⟩
  rw [l]
  exact (rel.val k).getD rd
 ·subst ey
  cases (show u=Value.ref b from ry)
  obtain ⟨z,hd,xs,rel,dd⟩ :=ZI7 I.hok e
  refine call_meetsIn PySem.F.slot_dict_get dd.typeIs PySem.F.entry_dict_get (PySem.F.args_dict_get_3 _ _ _) (meetsH_dict_get_default (tupleKind (ZdB X.prog X.w)) a b hd r) ⟨tupleKind_room_in1 hu,k,xs,ZHa I.hok eb,dd,h _ _ (I.tok _) ?_⟩
  rw [l]
  exact (rel.val k).getD rd
end
def ZHA (td ty tx:TE):TE:=fun σ H Q=>td σ H fun x H1=>∃ a,x=.ref a∧IsD H1 a∧ty σ H1 fun y H2=>tx σ H2 fun z H3=>∃ o,DGet H3 a y o∧Q (o.getD z) H3
section
variable {X:Cx} {o e f:Expr} {apos cpos:Pos} {td ty tx:TE}
theorem ZtA (hu:X.A.units + 1 < cLine) (ho:PE X o td) (he:PE X e ty) (hf:PE X f tx) (m:M2 X o "get" apos e f cpos):PE X (.Call (.Attribute o "get" apos) [e,f] [] cpos) (ZHA td ty tx):=by
 intro pins s σ H Q I h
 refine wpAny_Call_method m.base m.few m.line PySem.F.plainAttrs_dict PySem.F.slot_dict_get PySem.F.type_dict_get (thn (ho pins s σ H _ I h) fun u s1 ⟨x,H1,I1,rx,a,ex,d,q1⟩ =>?_)
 subst ex
 obtain rfl:u=Value.ref a:=rx
 obtain ⟨t1,t2,_⟩ :=ZJF I1 d
 refine ⟨t1,t2,?_⟩
 rw [m.trees]
 refine Calls.callWith_builtin rfl (Calls.evalArgs_plain (Calls.spliced_cons (thn (he pins s1 σ H1 _ I1 q1) fun iv s2 ⟨y,H2,I2,ry,q2⟩ =>
  Calls.spliced_cons (thn (hf pins s2 σ H2 _ I2 q2) fun fv s3 ⟨z,H3,I3,rz,ov,g,q3⟩ =>Calls.spliced_nil ?_))))
 exact ZI5 hu I3 g ry rz fun w' s4 I4 rw'=>⟨_,H3,I4,rw',q3⟩
end
section
variable {X:Cx} {pins:List (Addr × Obj)} {σ:St} {H:Hp} {s:Shared} {a:Addr} {kvs:List (Key × V)} {A:Around} {E:Value→Shared→Prop}
end
section
variable {X:Cx} {pins:List (Addr × Obj)} {σ:St} {H:Hp} {s:Shared} {a:Addr} {y:V} {u:Value} {A:Around} {E:Value→Shared→Prop}
end
end L2
namespace Att
open PySem PySem.W PySem.Calls PyProof.Rows
theorem Zuv {P:Params} {h:Heap}:∀ (ns:List Int) (vs:List Value),WellAll P h vs (ns.map WData.int)→IntsAre vs ns:=by
 intro ns
 induction ns with
 | nil=>
  intro vs w
  rw [List.map_nil] at w
  cases w
  exact .nil
 | cons n ns ih=>
  intro vs w
  rw [List.map_cons] at w
  cases w with
  | cons a b=>
   cases a
   exact .cons _ _ (ih _ b)
theorem ZEV {l:OpenLaw} {n:Nat} (hn:l.most=some n) {P:Params} {h:Heap} {args:List WData} {vals:List Value}
  (hpre:l.row.toRowW.claim.pre args=true) (hwl:WellAll P h vals args) :
  ∃ a vs ns,vals=[Value.ref a]∧args=[WData.list (ns.map WData.int)]∧h.get? a=some { cls:=.type "list",data:=.seq vs.toArray }∧IntsAre vs ns∧ns.length≤n:=by
 have hsh:WShape.hasAll [] args [.list .int]=true:=(pre_splitW hpre).1
 have hc:l.pre.holds [] { args:=args } = true:=(pre_splitW hpre).2
 obtain ⟨d,r,rfl,h1,h2⟩ :=hasAllW_cons hsh
 obtain rfl:=hasAllW_nil h2
 obtain ⟨xs,rfl,h3⟩ :=hasW_list h1
 obtain ⟨ns,rfl⟩ :=items_int h3
 have hlen:ns.length≤n:=by
  unfold OpenLaw.pre at hc
  have h4:(WTm.not (.lt (.lit (.int (n:Int))) (.len (.arg 0)))).holds [] { args:=[.list (ns.map .int)] } = true:=by
   have h4:=(holds_andW hc).1
   rw [hn] at h4
   exact h4
  have h5:=condW_of h4 (w_not (w_lt w_lit (w_len_list (w_arg rfl))))
  rw [List.length_map] at h5
  refine Nat.le_of_not_lt fun q=>?_
  have q':(n:Int) < ((ns.length:Nat):Int):=by omega
  first
   | (rw [decide_eq_true q'] at h5; exact absurd h5 (by decide))
   | (simp at h5; omega)
 cases hwl with
 | cons w1 w2=>
  cases w2
  cases w1 with
  | list ho hall=>exact ⟨_,_,ns,rfl,rfl,ho,Zuv ns _ hall,hlen⟩
theorem ZEJ (l:OpenLaw) (args:List WData):l.row.toRowW.claim.post args (.bool true) args=true:=
 postW_of (r:=l.row.toRowW) (X:=(true == true))
  (show WShape.has [] (.bool true) .bool=true by first | rfl | decide | simp [WShape.has,WShape.arms,WShape.armsAll])
  (show (WTm.eq .res (.lit (.bool true))).value [] { args:=args,res:=some (.bool true),after:=args } = some (.bool (true == true)) from w_eq_bool (w_res rfl) w_lit) rfl
theorem attach_call {l:OpenLaw} {n:Nat} {q:Program} {loose:List Str} {XP:(Str→Option Value)→Heap→Prop} {YP:World→Heap→Prop} {d:DefRec}
  (hn:l.most=some n) (hdf:d.params.defaults=[])
  (call:∀ (w:World) (s₀ s₁:Shared) (mg mb:Str→Option Value) (fa:Addr) (o:Obj) (pm cd doc:Value) (a:Addr) (vs:List Value) (ns:List Int),
   Ground q loose [] XP w s₀ mg mb s₁.heap→YP w s₁.heap→
   s₁.heap.get? fa=some o→o.data=.func (docDef d.name d.params d.body d.scope pm cd doc)→s₁.heap.CodeRec cd d.name→mg d.name=some (.ref fa)→
   s₁.heap.get? a=some { cls:=.type "list",data:=.seq vs.toArray }→IntsAre vs ns→ns.length≤n→s₁.gens = #[]→
   codeAny (model l.prog w) callerA (.call (.ref fa) ⟨[.ref a],[]⟩) (fun r s'=>r=.ok (.ret (.bool true))∧OldK s₁.heap s'.heap∧s'.os=s₁.os∧AllBare s'.gens) s₁) :
  WalkO q loose XP YP l.row.toRowW d [] (fun f vs=>PySem.call f vs):=by
 intro w s₀ s₁ mg mb G Y fa o pm cd doc dV kV ho hd hcd hD hmg hg args vals as hpre hlay hrd hwl hlo
 obtain rfl:dV=.none:=Dflts.none hD hdf
 obtain rfl:kV=.none:=Dflts.noKw hD
 obtain ⟨a,vs,ns,rfl,rfl,hobj,hints,hlen⟩ :=ZEV hn hpre hwl
 refine enter_call (codeAny_mono (call w s₀ s₁ mg mb fa o pm cd doc a vs ns G Y ho (fd_plain hd) hcd hmg hobj hints hlen hg) fun r s' hq=>?_)
 obtain ⟨rfl,h2,h3,h4⟩ :=hq
 exact ⟨.inl ⟨.bool true,.bool true,[],rfl,fun _=>rfl,.bool true,ZEJ l _,fun _=>⟨List.Pairwise.nil,fun _ hm=>(nomatch hm)⟩⟩,h2,h3,h4⟩
section
variable {prog:Program} {w:World} {A:Around} {E:Value→Shared→Prop} {s:Shared} {K:Frag}
end
end Att
namespace L2
open PySem PySem.Spec PyProof.Rows
theorem ZzY:∀ {vs:List Value} {ns:List Int},IntsAre vs ns→Vals (ns.map V.int) vs
 | _,_,.nil=>.nil
 | _,_,.cons n t h=>.cons ⟨t,rfl⟩ (ZzY h)
def Only (H:Hp):Prop:=∀ b,H b=none∨∃ o xs,H b=some (.frz o (.lst xs))
theorem ZFS {P:Program} {w:World} {K:PySem.W.Frag} {mg mb:Str→Option Value} {CX:CXT} {k:Nat} {fa a:Addr} {fd:FuncData} {x:Str} {sp:Sp} {s₁:Shared} {vs:List Value} {ns:List Int}
  (KX:K.In s₁.heap) (hns:s₁.heap.Ns mainGlobals mg) (hb:s₁.heap.Ns builtinsNs mb) (hbb:∀ x:Str,x ≠ "__name__"→mb x=bootBuiltins x) (hlim:s₁.heap.NoLimit) (hg:s₁.gens = #[])
  (ha:s₁.heap.get? a=some { cls:=.type "list",data:=.seq vs.toArray }) (hi:IntsAre vs ns) (hl:ns.length≤sizeLine) (hr:Room k callerA)
  (F:∀ base:Heap,K.In base→base.Ns mainGlobals mg→FnOk P w K mg base CX k fa fd [x] sp) (hbind:∀ (s:Shared) (u:Value),BindsTo s fd ⟨[u],[]⟩ [(x,u)])
  (hsp:∀ H:Hp,Only H→SqL K H a (ns.map V.int)→sp [.ref a] H (fun v _=>v=.bl true) fun _ _ _=>False)
  (hCX:∀ H e s',CX [] H s₁ (fun _ _ _=>False) e s'→False) :
  codeAny (model P w) callerA (.call (.ref fa) ⟨[.ref a],[]⟩) (fun r s'=>r=.ok (.ret (.bool true))∧OldK s₁.heap s'.heap∧s'.os=s₁.os∧AllBare s'.gens) s₁:=by
 have rv:=ZzY hi
 have lenV:=hi.length
 have core:∀ H:Hp,Only H→SqL K H a (ns.map V.int)→HOk P w H s₁.heap→(∀ b,H b ≠ none→b=a)→(H a ≠ none→K.lookup a=none)→
   codeAny (model P w) callerA (.call (.ref fa) ⟨[.ref a],[]⟩) (fun r s'=>r=.ok (.ret (.bool true))∧OldK s₁.heap s'.heap∧s'.os=s₁.os∧AllBare s'.gens) s₁:=by
  intro H hO hS hok hA hK
  have base_of:∀ {b:Addr} {o:Obj},s₁.heap.get? b=some o→H b=none→(hidT s₁.heap H).get? b=some o:=fun e n=>ZFM e n
  have noA:∀ {b:Addr} {o:Obj} {es:Array DictEntry} {ep:Nat},s₁.heap.get? b=some o→o.data=.dict es ep→H b=none:=fun {b o es ep} e d=>by
   cases q:H b with
   | none=>rfl
   | some u=>
    have e':b=a:=hA b (by rw [q]; simp)
    subst e'
    rw [ha] at e; cases e
    have d':Data.seq vs.toArray _=Data.dict es ep:=d
    cases d'
  have nsK:∀ {b:Addr} {m:Str→Option Value},s₁.heap.Ns b m→(hidT s₁.heap H).Ns b m:=fun {b m} ⟨o,es,ep,e,d,r⟩ =>⟨o,es,ep,base_of e (noA e d),d,r⟩
  have hKb:K.In (hidT s₁.heap H):=fun b o e=>base_of (KX b o e) (by
   cases q:H b with
   | none=>rfl
   | some u=>
    have e':b=a:=hA b (by rw [q]; simp)
    subst e'
    rw [hK (by rw [q]; simp)] at e; cases e)
  have hM:Mod K mg (hidT s₁.heap H):=⟨hKb,nsK hns,⟨mb,nsK hb,hbb⟩,let ⟨mc,h1,h2⟩ :=hlim; ⟨mc,nsK h1,h2⟩⟩
  have e0:Env0 P w K mg (hidT s₁.heap H) callerA [] s₁ H:=⟨rfl,hM,fun b o e=>ZIi e,Nat.le_of_eq (ZDB _ _),trivial,fun b hb=>absurd (show b ∈ ([]:List Addr) from hb) (by simp),hok,.of_eq hg⟩
  refine codeAny_mono ((F _ hKb (nsK hns)).run callerA [] s₁ H ⟨[.ref a],[]⟩ [.ref a] [.ref a] _ _ hr e0 (hbind s₁ (.ref a)) (.cons rfl .nil) (hsp H hO hS)) fun r s' h=>?_
  cases r with
  | error e=>exact (hCX H e s' h).elim
  | ok fl=>
   cases fl with
   | next=>exact False.elim h
   | brk=>exact False.elim h
   | cont=>exact False.elim h
   | ret u=>
    obtain ⟨v,H',os,bare,un,hok',r',q⟩ :=h
    have q':v=.bl true:=q
    subst q'
    obtain rfl:u=Value.bool true:=r'
    refine ⟨rfl,OldK.of_keep fun b o e=>?_,os,bare⟩
    cases q:H b with
    | none=>exact un.keep b o e q (by intro z; exact absurd (show b ∈ ([]:List Addr) from z) (by simp)) (by simp)
    | some u=>
     rcases hO b with z | ⟨ob,xs,z⟩
     ·rw [q] at z; cases z
     ·have z2:=un.frzs b ob _ z
      obtain ⟨e1,_⟩ :=hok b _ z
      obtain ⟨e2,_⟩ :=hok' b _ z2
      rw [e] at e1; cases e1
      exact e2
 cases hk:K.lookup a with
 | some o=>
  have e:=KX a o hk
  rw [ha] at e
  cases e
  refine core (fun _=>none) (fun _=>.inl rfl) (.inr ⟨_,vs.toArray,_,hk,rfl,rfl,rfl,by rw [List.size_toArray,lenV]; exact hl,by simpa using rv⟩) (fun b u z=>by have z':(none:Option HO)=some u:=z; cases z') (fun b z=>absurd rfl z) fun z=>absurd rfl z
 | none=>
  refine core (fun b=>if b=a then some (.frz { cls:=.type "list",data:=.seq vs.toArray } (.lst (ns.map V.int))) else none) (fun b=>?_) (.inl (.inr ⟨{ cls:=.type "list",data:=.seq vs.toArray },if_pos rfl⟩)) (fun b u z=>?_) (fun b z=>?_) fun _=>hk
  ·by_cases hb:b=a
   ·exact .inr ⟨_,_,if_pos hb⟩
   ·exact .inl (if_neg hb)
  ·by_cases hb:b=a
   ·have z':=(if_pos hb).symm.trans z
    cases z'
    subst hb
    exact ⟨ha,by rw [List.length_map]; exact hl,vs,_,rv,ha⟩
   ·have z':=(if_neg hb).symm.trans z
    cases z'
  ·by_cases hb:b=a
   ·exact hb
   ·exact absurd (if_neg hb) z
end L2
namespace L2
open PySem PySem.Spec PyProof.Rows
abbrev KOf {K:PySem.W.Frag} {h:Heap} (_:K.In h):PySem.W.Frag:=K
theorem ZIV {l:PySem.W.OpenLaw} {n k:Nat} {q:Program} {loose:List Str} {XP:(Str→Option Value)→Heap→Prop} {YP:World→Heap→Prop} {d:DefRec} {K:Params→PySem.W.Frag} {CX:World→CXT} {sp:World→Sp} {x:Str}
  (hn:l.most=some n) (hn2:n≤sizeLine) (hdf:d.params.defaults=[]) (hr:Room k callerA)
  (hY:∀ (w:World) (h:Heap),YP w h→(K w.params).In h)
  (F:∀ (w:World) (mg:Str→Option Value) (fa:Addr) (h:Heap),(K w.params).In h→h.Ns mainGlobals mg→mg d.name=some (.ref fa)→
   ∃ fd:FuncData,(∀ (s:Shared) (u:Value),BindsTo s fd ⟨[u],[]⟩ [(x,u)])∧
    ∀ base:Heap,(K w.params).In base→base.Ns mainGlobals mg→FnOk l.prog w (K w.params) mg base (CX w) k fa fd [x] (sp w))
  (hsp:∀ (w:World) (H:Hp) (a:Addr) (ns:List Int),ns.length≤n→Only H→SqL (K w.params) H a (ns.map V.int)→sp w [.ref a] H (fun v _=>v=.bl true) fun _ _ _=>False)
  (hCX:∀ (w:World) (H:Hp) (s:Shared) (e:Value) (s':Shared),CX w [] H s (fun _ _ _=>False) e s'→False) :
  PySem.W.WalkO q loose XP YP l.row.toRowW d [] (fun f vs=>PySem.call f vs):=by
 refine Att.attach_call hn hdf fun w s₀ s₁ mg mb fa o pm cd doc a vs ns G Y ho hd hcd hmg hobj hints hlen hg=>?_
 have KX:=hY w _ Y
 obtain ⟨fd,hb,hF⟩ :=F w mg fa _ KX G.T.g hmg
 exact ZFS KX G.T.g G.T.b G.T.builtins G.T.nolimit hg hobj hints (Nat.le_trans hlen hn2) hr hF hb (fun H hO hS=>hsp w H a ns hlen hO hS) fun H e s'=>hCX w H s₁ e s'
theorem walk_ofK {l:PySem.W.OpenLaw} {n k:Nat} {q:Program} {loose:List Str} {XP:(Str→Option Value)→Heap→Prop} {YP:World→Heap→Prop} {d:DefRec} {K:Params→PySem.W.Frag} {CX:CXT} {sp:PySem.W.Frag→Sp} {x:Str}
  (hn:l.most=some n) (hn2:n≤sizeLine) (hdf:d.params.defaults=[]) (hr:Room k callerA)
  (hY:∀ (w:World) (h:Heap),YP w h→(K w.params).In h)
  (F:∀ (w:World) (mg:Str→Option Value) (fa:Addr) (h:Heap),(K w.params).In h→h.Ns mainGlobals mg→mg d.name=some (.ref fa)→
   ∃ fd:FuncData,(∀ (s:Shared) (u:Value),BindsTo s fd ⟨[u],[]⟩ [(x,u)])∧
    ∀ base:Heap,(K w.params).In base→base.Ns mainGlobals mg→FnOk l.prog w (K w.params) mg base CX k fa fd [x] (sp (K w.params)))
  (hsp:∀ (K:PySem.W.Frag) (H:Hp) (a:Addr) (ns:List Int),ns.length≤n→Only H→SqL K H a (ns.map V.int)→sp K [.ref a] H (fun v _=>v=.bl true) fun _ _ _=>False)
  (hCX:∀ (H:Hp) (s:Shared) (e:Value) (s':Shared),CX [] H s (fun _ _ _=>False) e s'→False) :
  PySem.W.WalkO q loose XP YP l.row.toRowW d [] (fun f vs=>PySem.call f vs):=
 ZIV (K:=K) (CX:=fun _=>CX) (sp:=fun w=>sp (K w.params)) hn hn2 hdf hr hY F (fun w H a ns h1 h2 h3=>hsp (K w.params) H a ns h1 h2 h3) fun _ H s e s'=>hCX H s e s'
end L2
namespace L2
open PySem PySem.Spec PyProof.Rows
def ZbV (s:Stmt) (j:Nat):Stmt:=match s with
 | .ClassDef _ _ _ body _ _ _ _ _ _ _=>body.getD j (.Pass ⟨0,0,0,0⟩)
 | _=>.Pass ⟨0,0,0,0⟩
def Zai (s:Stmt):Arguments:=match s with
 | .FunctionDef _ a _ _ _ _ _ _ _ _=>a
 | _=>{ posonlyargs:=[],args:=[],vararg:=none,kwonlyargs:=[],kw_defaults:=[],kwarg:=none,defaults:=[] }
def Zah (s:Stmt):List Stmt:=match s with
 | .FunctionDef _ _ b _ _ _ _ _ _ _=>b
 | _=>[]
def Zab (s:Stmt):Scope:=match s with
 | .FunctionDef _ _ _ _ _ _ sc _ _ _=>sc
 | _=>{ kind:=.function,names:=[],isGenerator:=false,isCoroutine:=false }
abbrev CX0:CXT:=fun _ _ _ _ _ _=>False
abbrev E0:XK:=fun _ _ _=>False
theorem ZEy {X:Cx}:ZnG CX0 X E0:=fun _ _ _ _ _ _ _ h=>h.elim
structure Fun (K:PySem.W.Frag) (x qual:Str) (st:Stmt) (f:Addr) (fd:FuncData):Prop where
 ex:∃ (oc:Value) (od:Option Addr) (kV doc pm:Value) (an:Option Addr) (cdv ct:Value) (osl:Array (Option Value)),
  fd=PySem.W.fnOf x qual (Zai st) (Zah st) (Zab st) .none kV doc pm an cdv ct∧K.lookup f=some ⟨oc,od,.func fd,osl⟩ ∧PySem.W.codeIn K cdv qual=true
 kp:PySem.W.keepIn K (.ref f)=true
section
variable {P:Program} {w:World} {K:PySem.W.Frag} {mg:Str→Option Value} {base:Heap}
theorem Fun.ok {x qual:Str} {st:Stmt} {f:Addr} {fd:FuncData} {N ps:List Str} {k:Nat} {sp:Sp} (F:Fun K x qual st f fd) (S:FnScope N ps (Zab st)) (len:∀ vs H Q E,sp vs H Q E→vs.length=ps.length)
  (hbody:∀ (cdv:Value) (A:Around) (outer:List Env) (s:Shared) (H:Hp) (vs:List V) (Q:VK) (E:XK),Room k (A.deeper (envOfC qual (Zab st) s.heap.objs.size f cdv))→sp vs H Q E→
   ∃ t,PSs (cxOf CX0 P w K mg base N qual (Zab st) f cdv A outer s H E).nox (Zah st) t∧t { nx:=fun _ H'=>Q .non H',rt:=Q } (start N vs) H):FnOk P w K mg base CX0 (k + 1) f fd ps sp:=by
 obtain ⟨oc,od,kV,doc,pm,an,cdv,ct,osl,rfl,lk,hcd⟩ :=F.ex
 refine ZJc lk hcd S len fun A outer s H vs Q E hr hsp=>?_
 obtain ⟨t,h,q⟩ :=hbody cdv A outer s H vs Q E hr hsp
 exact ⟨t,h.nox,q⟩
theorem Fun.binds {x qual:Str} {st:Stmt} {f:Addr} {fd:FuncData} {ps:List Str} (F:Fun K x qual st f fd)
  (h:∀ (kV doc pm:Value) (an:Option Addr) (cdv ct:Value) (us:List Value),us.length=ps.length→bindArgs (PySem.W.fnOf x qual (Zai st) (Zah st) (Zab st) .none kV doc pm an cdv ct) ⟨us,[]⟩=pure (ps.zip us)):Za0 K fd ps []:=by
 obtain ⟨oc,od,kV,doc,pm,an,cdv,ct,osl,rfl,lk,hcd⟩ :=F.ex
 exact .all (h kV doc pm an cdv ct)
theorem Zam {x qual:Str} {st:Stmt} {f:Addr} {oc:Value} {od an:Option Addr} {osl:Array (Option Value)} {kV doc pm cdv ct:Value} (l:K.lookup f=some ⟨oc,od,.func (PySem.W.fnOf x qual (Zai st) (Zah st) (Zab st) .none kV doc pm an cdv ct),osl⟩)
  (c:PySem.W.codeIn K cdv qual=true) (k:PySem.W.keepIn K (.ref f)=true):Fun K x qual st f (PySem.W.fnOf x qual (Zai st) (Zah st) (Zab st) .none kV doc pm an cdv ct):=⟨⟨oc,od,kV,doc,pm,an,cdv,ct,osl,rfl,l,c⟩,k⟩
end
section
variable {X:Cx}
theorem pv (i:Nat) {x:Str} {pos:Pos} (hN:X.N[i]?=some x:=by rfl) (hv:Vis X.env.scope x:=by first | exact Or.inl rfl | exact Or.inr (Or.inl rfl) | exact Or.inr (Or.inr rfl)) (hd:(x == ("__debug__" : Str))=false:=by decide)
  (hcd:(x == ("__classdict__" : Str))=false:=by decide):PE X (.Name x pos) (tVar i):=ZJ8 hN hv hd hcd
end
abbrev Same (H H':Hp):Prop:=∀ b o,H b=some o→H' b=some o
theorem Same.refl (H:Hp):Same H H:=fun _ _ h=>h
theorem Same.trans {H H1 H2:Hp} (a:Same H H1) (b:Same H1 H2):Same H H2:=fun c o h=>b c o (a c o h)
theorem Same.free {H H':Hp} (e:Same H H') {l:Addr} (h:H' l=Option.none):H l=Option.none:=by
 cases q:H l with
 | none=>rfl
 | some o=>
  rw [e l o q] at h
  cases h
theorem Same.seq {K:PySem.W.Frag} {H H':Hp} {a:Addr} {xs:List V} (e:Same H H') (h:SqL K H a xs):SqL K H' a xs:=by
 rcases h with (h | ⟨o,h⟩) | h
 ·exact .inl (.inl (e _ _ h))
 ·exact .inl (.inr ⟨o,e _ _ h⟩)
 ·exact .inr h
section
variable {X:Cx}
end
section
variable {κ:Type} [DecidableEq κ]
end
end L2
namespace EM
end EM
namespace EM
inductive W3 where
 | a | e | o
 deriving DecidableEq
inductive Fm where
 | lamp (k:Nat)
 | sure (b:Bool)
 | neg (f:Fm)
 | join (w:W3) (fs:List Fm)
mutual
def Fm.low (m:Nat):Fm→Bool
 | .lamp k=>decide (k < m)
 | .sure _=>true
 | .neg f=>f.low m
 | .join _ fs=>Fm.lowL m fs
def Fm.lowL (m:Nat):List Fm→Bool
 | []=>true
 | f :: fs=>f.low m && Fm.lowL m fs
end
theorem ZD5 (m:Nat):∀ fs:List Fm,Fm.lowL m fs=fs.all (Fm.low m)
 | []=>by simp [Fm.lowL]
 | f :: fs=>by simp [Fm.lowL,ZD5 m fs]
theorem ZBI (m:Nat) (w:W3) (fs:List Fm):(Fm.join w fs).low m=fs.all (Fm.low m):=by
 simp [Fm.low,ZD5]
end EM
set_option maxRecDepth 100000
set_option maxHeartbeats 4000000
namespace L2
open PySem PySem.Spec PyProof.Rows
section
variable {σ:St} {H:Hp} {Q:VK} {D:Ends} {K:PySem.W.Frag} {BQ:Bool→Hp→Prop}
theorem ZJC {i:Nat} {v:V} (h:σ[i]?=some (some v)) (k:Q v H):tVar i σ H Q:=⟨v,h,k⟩
theorem i_c {v:V} (k:Q v H):tC v σ H Q:=k
theorem i_op {r:R2} {ta tb:TE} (h:ta σ H fun x H1=>tb σ H1 fun y H2=>r x y H2 Q):tOp r ta tb σ H Q:=h
theorem i_un {r:V→Hp→VK→Prop} {ta:TE} (h:ta σ H fun x H1=>r x H1 Q):tUn r ta σ H Q:=h
theorem ZJw {g:Int→Int→V} {i j:Int} (h:Q (g i j) H):rI0 g (.int i) (.int j) H Q:=⟨i,j,rfl,rfl,h⟩
theorem i_rI {C:Int→Int→Prop} {g:Int→Int→V} {i j:Int} (c:C i j) (h:Q (g i j) H):rI C g (.int i) (.int j) H Q:=⟨i,j,rfl,rfl,c,h⟩
theorem i_rU {g:Int→V} {i:Int} (h:Q (g i) H):rU g (.int i) H Q:=⟨i,rfl,h⟩
theorem ZHW {i j:Int} (h:Q (.bl (decide (i=j))) H):rEq (.int i) (.int j) H Q:=by
 refine ⟨rfl,?_⟩
 have e:decide (V.int i=V.int j)=decide (i=j):=by simp
 rw [e]; exact h
theorem ZHX {i j:Str} (h:Q (.bl (decide (i=j))) H):rEq (.str i) (.str j) H Q:=by
 refine ⟨rfl,?_⟩
 have e:decide (V.str i=V.str j)=decide (i=j):=by simp
 rw [e]; exact h
theorem ZH1 {i j:Str} (h:Q (.bl (!decide (i=j))) H):rNe (.str i) (.str j) H Q:=by
 refine ⟨rfl,?_⟩
 have e:decide (V.str i=V.str j)=decide (i=j):=by simp
 rw [e]; exact h
theorem ZG4 {t:TE} (h:t σ H fun x H'=>∃ k,x=.bl k∧BQ k H'):ZIR t σ H BQ:=h
theorem ZJl {b:Bool} {R:Bool→Prop} (h:R b):∃ k,V.bl b=V.bl k∧R k:=⟨b,rfl,h⟩
theorem ZJg {t u:TT} (h:t σ H fun c H1=>if c=true then u σ H1 BQ else BQ false H1):tAnd t u σ H BQ:=h
theorem i_or {t u:TT} (h:t σ H fun c H1=>if c=true then BQ true H1 else u σ H1 BQ):tOr t u σ H BQ:=h
theorem ZJv {t:TT} (h:t σ H fun c H1=>BQ (!c) H1):tNot t σ H BQ:=h
theorem ZGL {t u:TE} (h:t σ H fun x H1=>∃ c,x=.bl c∧if c=true then u σ H1 Q else Q (.bl false) H1):ZKA t u σ H Q:=h
theorem i_if {t:TT} {ta tb:TE} (h:t σ H fun c H1=>if c=true then ta σ H1 Q else tb σ H1 Q):tIf t ta tb σ H Q:=h
theorem ZiZ {t u:TS} (h:t { D with nx:=u D } σ H):tSeq t u D σ H:=h
theorem ZGZ (h:D.nx σ H):ZKE D σ H:=h
theorem ZGO {te:TE} (h:te σ H fun _ H1=>D.nx σ H1):ZIN te D σ H:=h
theorem ZJz {te:TE} (h:te σ H D.rt):tRet te D σ H:=h
theorem ZJq {c:TT} {t u:TS} (h:c σ H fun b H1=>if b=true then t D σ H1 else u D σ H1):tIfS c t u D σ H:=h
theorem ZJh {te:TE} {g:TG} (h:te σ H fun x H1=>g x σ H1 D.nx):tAsg te g D σ H:=h
theorem ZGX {i:Nat} {v:V} {R:St→Hp→Prop} (h:R (σ.set i (some v)) H):ZyH i v σ H R:=h
theorem ZJu {R:List V→Hp→Prop} (h:R [] H):tNil σ H R:=h
theorem ZGM {ta:TE} {tr:TA} {R:List V→Hp→Prop} (h:ta σ H fun x H1=>tr σ H1 fun xs H2=>R (x :: xs) H2):Zvs ta tr σ H R:=h
theorem i_cb {r:List V→Hp→VK→Prop} {t:TA} (h:t σ H fun vs H1=>r vs H1 Q):tCB r t σ H Q:=h
abbrev NewL (xs:List V) (H:Hp) (Q:VK):Prop:=xs.length≤sizeLine∧∀ p,H p=none→Q (.ref p) (upd H p (.lst xs))
abbrev NewT (xs:List V) (H:Hp) (Q:VK):Prop:=xs.length≤sizeLine∧∀ p,H p=none→Q (.ref p) (upd H p (.tup xs))
theorem ZJA {t:TA} (h:t σ H fun xs H1=>NewT xs H1 Q):tTup t σ H Q:=h
theorem ZJs {t:TA} (h:t σ H fun xs H1=>NewL xs H1 Q):tLst t σ H Q:=h
theorem i_bm {T:String} {r:V→List V→Hp→VK→Prop} {to:TE} {t:TA} (h:to σ H fun x H1=>tyV K T x H1∧t σ H1 fun xs H2=>r x xs H2 Q):tBM K T r to t σ H Q:=h
theorem ZJi {T:String} {r:V→List V→Hp→VK→Prop} {to:TE} (h:to σ H fun x H1=>tyV K T x H1∧r x [] H1 Q):tBM0 K T r to σ H Q:=h
theorem ZJn {ta:TE} {f:Str} (h:ta σ H fun x H1=>∃ a C dx fs v,x=.ref a∧H1 a=some (.ins C dx fs)∧Cls K C∧Zar K C f∧fs.lookup f=some v∧Q v H1):tFld K ta f σ H Q:=h
theorem ZG3 {ta tv:TE} {f:Str} (h:tv σ H fun y H1=>ta σ H1 fun x H2=>∃ a C dx fs,x=.ref a∧H2 a=some (.ins C dx fs)∧Cls K C∧Zar K C f∧fs.length < 1000∧D.nx σ (upd H2 a (.ins C dx (putF f y fs)))):sFld K ta tv f D σ H:=h
theorem i_sl {r:V→Option Int→Option Int→Hp→VK→Prop} {te:TE} {tl th:TO} (h:te σ H fun x H1=>tl σ H1 fun l H2=>th σ H2 fun u H3=>r x l u H3 Q):tSl r te tl th σ H Q:=h
theorem ZG2 {t:TE} {R:Option Int→Hp→Prop} (h:t σ H fun x H1=>∃ i,x=.int i∧R (some i) H1):ZIQ t σ H R:=h
theorem ZJm {b:Int} {R:Int→Prop} (h:R b):∃ k,V.int b=V.int k∧R k:=⟨b,rfl,h⟩
theorem ZBu {R:Option Int→Hp→Prop} (h:R none H):ZA5 σ H R:=h
theorem ZG5 {b:Bool} {R:Bool→Prop} (h:R b):∃ k,TruV K (.bl b) H k∧R k:=⟨b,rfl,h⟩
theorem Zcj {c A B:Prop} [Decidable c] (h1:c→A) (h2 : ¬ c→B):if decide c=true then A else B:=by
 by_cases h:c
 ·rw [if_pos (decide_eq_true h)]; exact h1 h
 ·rw [if_neg (by simp [h])]; exact h2 h
theorem ZKX {b:Bool} {A B:Prop} (h1:b=true→A) (h2:b=false→B):if b=true then A else B:=by
 cases b
 ·rw [if_neg Bool.false_ne_true]; exact h2 rfl
 ·rw [if_pos rfl]; exact h1 rfl
theorem ZdP {b:Bool} {A B:Prop} (h:b=true) (k:A):if b=true then A else B:=by rw [if_pos h]; exact k
theorem Zcc {b:Bool} {A B:Prop} (h:b=false) (k:B):if b=true then A else B:=by rw [if_neg (by rw [h]; exact Bool.false_ne_true)]; exact k
end
def ZIY (lo:Int) (n:Nat) (g:TG) (tb:TS) (D:Ends) (σ:St) (H:Hp):Prop:=
 ∃ W:Nat→Nat→St→Hp→Prop,(∃ m,W 0 m σ H)∧∀ i m σ H,W i m σ H→
   ((Itr lo n).stop i H∧D.nx σ H)∨((Itr lo n).go i H∧∃ N:St→Hp→Prop,(∀ σ' H',N σ' H'→∃ m',m' < m∧W (i + 1) m' σ' H')∧∀ x H',(Itr lo n).yld i H x H'→g x σ H' fun σ2 H2=>tb { D with nx:=N,ct:=N,bk:=D.nx } σ2 H2)
def ZIX (K:PySem.W.Frag) (a:Addr) (g:TG) (tb:TS) (D:Ends) (σ:St) (H:Hp):Prop:=
 ∃ W:Nat→Nat→St→Hp→Prop,(∃ m,W 0 m σ H)∧∀ i m σ H,W i m σ H→
   ((Itl K a).stop i H∧D.nx σ H)∨((Itl K a).go i H∧∃ N:St→Hp→Prop,(∀ σ' H',N σ' H'→∃ m',m' < m∧W (i + 1) m' σ' H')∧∀ x H',(Itl K a).yld i H x H'→g x σ H' fun σ2 H2=>tb { D with nx:=N,ct:=N,bk:=D.nx } σ2 H2)
def ZIZ (K:PySem.W.Frag) (a:Addr) (g:TG) (tb:TS) (D:Ends) (σ:St) (H:Hp):Prop:=
 ∃ W:Nat→Nat→St→Hp→Prop,(∃ m,W 0 m σ H)∧∀ i m σ H,W i m σ H→
   ((Itt K a).stop i H∧D.nx σ H)∨((Itt K a).go i H∧∃ N:St→Hp→Prop,(∀ σ' H',N σ' H'→∃ m',m' < m∧W (i + 1) m' σ' H')∧∀ x H',(Itt K a).yld i H x H'→g x σ H' fun σ2 H2=>tb { D with nx:=N,ct:=N,bk:=D.nx } σ2 H2)
section
variable {σ:St} {H:Hp} {D:Ends} {K:PySem.W.Frag} {g:TG} {tb:TS}
theorem ZDH {ta:TA} (h:ta σ H fun vs H1=>∃ j:Int,vs=[.int j]∧-(2 ^ 62)≤j∧j < 2 ^ 62∧ZIY 0 j.toNat g tb D σ H1):tFor (ZJe ta) g tb D σ H:=h
theorem ZBH {n:Nat} (Pv:Nat→St→Hp→Prop) (h0:Pv 0 σ H) (hs:∀ (i:Nat) σ H,i < n→Pv i σ H→g (.int (i:Int)) σ H fun σ2 H2=>tb { D with nx:=Pv (i + 1),ct:=Pv (i + 1),bk:=D.nx } σ2 H2) (hd:∀ σ H,Pv n σ H→D.nx σ H):ZIY 0 n g tb D σ H:=ZDv Pv h0 (fun i σ H hi p=>by rw [Int.zero_add]; exact hs i σ H hi p) hd
theorem ZK4 {a:Addr} {xs:List V} (Pv:Nat→St→Hp→Prop) (h0:Pv 0 σ H) (hl:∀ i σ H,i≤xs.length→Pv i σ H→SqL K H a xs) (hs:∀ i x σ H,xs[i]?=some x→Pv i σ H→g x σ H fun σ2 H2=>tb { D with nx:=Pv (i + 1),ct:=Pv (i + 1),bk:=D.nx } σ2 H2) (hd:∀ σ H,Pv xs.length σ H→D.nx σ H):ZIX K a g tb D σ H:=ZFE Pv h0 hl hs hd
theorem ZK5 {a:Addr} {xs:List V} (Pv:Nat→St→Hp→Prop) (h0:Pv 0 σ H) (hl:∀ i σ H,i≤xs.length→Pv i σ H→SqT K H a xs) (hs:∀ i x σ H,xs[i]?=some x→Pv i σ H→g x σ H fun σ2 H2=>tb { D with nx:=Pv (i + 1),ct:=Pv (i + 1),bk:=D.nx } σ2 H2) (hd:∀ σ H,Pv xs.length σ H→D.nx σ H):ZIZ K a g tb D σ H:=ZHQ Pv h0 hl hs hd
end
def Its (x:Str):It:=⟨fun i _=>i < x.cps.size,fun i H v H'=>H'=H∧∃ c,x.cps[i]?=some c∧v=.str ⟨#[c]⟩,fun i _=>x.cps.size≤i⟩
theorem ZFf {P:Program} {w:World} {K:PySem.W.Frag} {tg:Expr} (x:Str) (t:Tok) (it:Addr):Turn P w K tg (Its x) [it] it (fun i h=>h.IsStrIter it "str_ascii_iterator" x t i) where
 mem:=by simp
 obj:=fun i h st b hb=>by
  have e:b=it:=by simpa using hb
  subst e
  obtain ⟨o,e,c,d⟩ :=st
  exact ⟨o,e,fun v z=>by rw [d] at z; cases z⟩
 keep:=fun i h h' st k=>let ⟨o,ho,r⟩ :=st; ⟨o,k it (by simp) o ho,r⟩
 item:=by
  intro X hP hw hK hc i pins s σ H E I hf st hg
  subst hP hw hK
  obtain ⟨f0,f1,f2,f3,f4,f5⟩ :=hf it (by simp)
  have hg:i < x.cps.size:=hg
  refine wpAny_pyNext_ascii_item st (c:=x.cps[i]) (by simp [hg]) fun h' st' sb=>?_
  have I1:Inv X pins σ H { s with heap:=h',toks:=s.toks + 1 }:=I.turned (fun b o hb e=>(sb.2 b hb).trans e) f0 f1 f3 f4 f5
  obtain ⟨o,e,c,d⟩ :=id st'
  exact ⟨_,rfl,ZCu (s:={ s with heap:=h',toks:=s.toks + 1 }) e c d (by decide) ⟨.str ⟨#[x.cps[i]]⟩,H,I1,⟨_,rfl⟩,⟨rfl,_,by simp [hg],rfl⟩,st',fun b hb=>(hf b hb).1⟩⟩
 done:=by
  intro X hP hw hK hc i pins s σ H E I hf st hg
  subst hP hw hK
  obtain ⟨f0,f1,f2,f3,f4,f5⟩ :=hf it (by simp)
  have hg:x.cps.size≤i:=hg
  exact wpAny_pyNext_ascii_end (I.ok.hd hc) st (by simp [hg]) fun h' eb=>⟨rfl,I.turned (t':=s.toks) (fun b o hb e=>eb b o hb e) f0 f1 f3 f4 f5⟩
 self:=fun _ _ _ _ _ st h=>wpAny_pyIter_striter_ascii st h
theorem ZFg {P:Program} {w:World} {K:PySem.W.Frag} {tg:Expr} (x:Str) (t:Tok) (it:Addr):Turn P w K tg (Its x) [it] it (fun i h=>h.IsStrIter it "str_iterator" x t i) where
 mem:=by simp
 obj:=fun i h st b hb=>by
  have e:b=it:=by simpa using hb
  subst e
  obtain ⟨o,e,c,d⟩ :=st
  exact ⟨o,e,fun v z=>by rw [d] at z; cases z⟩
 keep:=fun i h h' st k=>let ⟨o,ho,r⟩ :=st; ⟨o,k it (by simp) o ho,r⟩
 item:=by
  intro X hP hw hK hc i pins s σ H E I hf st hg
  subst hP hw hK
  obtain ⟨f0,f1,f2,f3,f4,f5⟩ :=hf it (by simp)
  have hg:i < x.cps.size:=hg
  refine wpAny_pyNext_wide_item st (c:=x.cps[i]) (by simp [hg]) fun h' st' sb=>?_
  have I1:Inv X pins σ H { s with heap:=h',toks:=s.toks + 1 }:=I.turned (fun b o hb e=>(sb.2 b hb).trans e) f0 f1 f3 f4 f5
  obtain ⟨o,e,c,d⟩ :=id st'
  exact ⟨_,rfl,ZCu (s:={ s with heap:=h',toks:=s.toks + 1 }) e c d (by decide) ⟨.str ⟨#[x.cps[i]]⟩,H,I1,⟨_,rfl⟩,⟨rfl,_,by simp [hg],rfl⟩,st',fun b hb=>(hf b hb).1⟩⟩
 done:=by
  intro X hP hw hK hc i pins s σ H E I hf st hg
  subst hP hw hK
  obtain ⟨f0,f1,f2,f3,f4,f5⟩ :=hf it (by simp)
  have hg:x.cps.size≤i:=hg
  exact wpAny_pyNext_wide_end (I.ok.hd hc) st (by simp [hg]) fun h' eb=>⟨rfl,I.turned (t':=s.toks) (fun b o hb e=>eb b o hb e) f0 f1 f3 f4 f5⟩
 self:=fun _ _ _ _ _ st h=>wpAny_pyIter_striter_wide st h
def iSeq (K:PySem.W.Frag) (tl:TE):TI:=fun σ H R=>tl σ H fun x H1=>(∃ a xs,x=.ref a∧SqL K H1 a xs∧R (Itl K a) H1)∨(∃ a xs,x=.ref a∧SqT K H1 a xs∧R (Itt K a) H1)∨(∃ z,x=.str z∧R (Its z) H1)
theorem ZmP {X:Cx} {tg:Expr} {l:Expr} {tl:TE} (hl:PE X l tl):PI X tg l (iSeq X.K tl):=by
 intro pins s σ H R I h
 refine thn (hl pins s σ H _ I h) fun v s1 ⟨x,H1,I1,r1,q1⟩ =>?_
 have fp:∀ b ∈ [s1.heap.objs.size],FpOk X pins H1 b:=fun b hb=>by
  have e:b=s1.heap.objs.size:=by simpa using hb
  subst e
  exact I1.fpOk (Nat.le_refl _) (I1.hok.fresh (Nat.le_refl _))
 rcases q1 with ⟨a,xs,e,hq,q⟩ | ⟨a,xs,e,hq,q⟩ | ⟨z,e,q⟩
 ·subst e
  cases r1
  obtain ⟨its,rv,p,hz⟩ :=I1.list hq
  refine wpAny_pyIter_list p.isList ?_
  exact ⟨s1.heap.objs.size,[s1.heap.objs.size],_,_,H1,rfl,I1.kept (t':=s1.toks) fun b o e=>Heap.get?_push_of_some _ e,ZFe a _,⟨_,Heap.get?_push_size _ rfl,rfl,rfl⟩,fp,q⟩
 ·subst e
  cases r1
  obtain ⟨its,rv,p,hz⟩ :=I1.tuple hq
  refine wpAny_pyIter_tuple (show s1.heap.IsTuple a its.toArray from p) ?_
  exact ⟨s1.heap.objs.size,[s1.heap.objs.size],_,_,H1,rfl,I1.kept (t':=s1.toks) fun b o e=>Heap.get?_push_of_some _ e,ZCS a _,⟨_,Heap.get?_push_size _ rfl,rfl,rfl⟩,fp,q⟩
 ·subst e
  obtain ⟨t,rfl⟩ :=r1
  cases ha:z.cps.all (· < 128) with
  | false=>
   refine wpAny_pyIter_wide ha ?_
   exact ⟨s1.heap.objs.size,[s1.heap.objs.size],_,_,H1,rfl,I1.kept (t':=s1.toks) fun b o e=>Heap.get?_push_of_some _ e,ZFg z t _,⟨_,Heap.get?_push_size _ rfl,rfl,rfl⟩,fp,q⟩
  | true=>
   refine wpAny_pyIter_ascii ha ?_
   exact ⟨s1.heap.objs.size,[s1.heap.objs.size],_,_,H1,rfl,I1.kept (t':=s1.toks) fun b o e=>Heap.get?_push_of_some _ e,ZFf z t _,⟨_,Heap.get?_push_size _ rfl,rfl,rfl⟩,fp,q⟩
def ZKP (x:Str) (g:TG) (tb:TS) (D:Ends) (σ:St) (H:Hp):Prop:=
 ∃ W:Nat→Nat→St→Hp→Prop,(∃ m,W 0 m σ H)∧∀ i m σ H,W i m σ H→
   ((Its x).stop i H∧D.nx σ H)∨((Its x).go i H∧∃ N:St→Hp→Prop,(∀ σ' H',N σ' H'→∃ m',m' < m∧W (i + 1) m' σ' H')∧∀ x' H',(Its x).yld i H x' H'→g x' σ H' fun σ2 H2=>tb { D with nx:=N,ct:=N,bk:=D.nx } σ2 H2)
def SeqW (K:PySem.W.Frag) (x:V) (g:TG) (tb:TS) (D:Ends) (σ:St) (H1:Hp):Prop:=
 (∃ a xs,x=.ref a∧SqL K H1 a xs∧ZIX K a g tb D σ H1)∨(∃ a xs,x=.ref a∧SqT K H1 a xs∧ZIZ K a g tb D σ H1)∨(∃ z,x=.str z∧ZKP z g tb D σ H1)
section
variable {σ:St} {H:Hp} {D:Ends} {K:PySem.W.Frag} {g:TG} {tb:TS}
theorem ZGS {tl:TE} (h:tl σ H fun x H1=>SeqW K x g tb D σ H1):tFor (iSeq K tl) g tb D σ H:=h
theorem seqL {a:Addr} {xs:List V} (Pv:Nat→St→Hp→Prop) (h0:Pv 0 σ H) (hl:∀ i σ H,i≤xs.length→Pv i σ H→SqL K H a xs) (hs:∀ i x σ H,xs[i]?=some x→Pv i σ H→g x σ H fun σ2 H2=>tb { D with nx:=Pv (i + 1),ct:=Pv (i + 1),bk:=D.nx } σ2 H2) (hd:∀ σ H,Pv xs.length σ H→D.nx σ H):SeqW K (.ref a) g tb D σ H:=.inl ⟨a,xs,rfl,hl 0 σ H (Nat.zero_le _) h0,ZK4 Pv h0 hl hs hd⟩
theorem seqT {a:Addr} {xs:List V} (Pv:Nat→St→Hp→Prop) (h0:Pv 0 σ H) (hl:∀ i σ H,i≤xs.length→Pv i σ H→SqT K H a xs) (hs:∀ i x σ H,xs[i]?=some x→Pv i σ H→g x σ H fun σ2 H2=>tb { D with nx:=Pv (i + 1),ct:=Pv (i + 1),bk:=D.nx } σ2 H2) (hd:∀ σ H,Pv xs.length σ H→D.nx σ H):SeqW K (.ref a) g tb D σ H:=.inr (.inl ⟨a,xs,rfl,hl 0 σ H (Nat.zero_le _) h0,ZK5 Pv h0 hl hs hd⟩)
theorem seqX {x:Str} (Pv:Nat→St→Hp→Prop) (h0:Pv 0 σ H) (hs:∀ (i:Nat) (c:Nat) σ H,x.cps[i]?=some c→Pv i σ H→g (.str ⟨#[c]⟩) σ H fun σ2 H2=>tb { D with nx:=Pv (i + 1),ct:=Pv (i + 1),bk:=D.nx } σ2 H2) (hd:∀ σ H,Pv x.cps.size σ H→D.nx σ H):SeqW K (.str x) g tb D σ H:=by
 refine .inr (.inr ⟨x,rfl,fun i m σ H=>m=x.cps.size - i∧i≤x.cps.size∧Pv i σ H,⟨x.cps.size,by simp,Nat.zero_le _,h0⟩,?_⟩)
 rintro i m σ H ⟨rfl,hi,p⟩
 by_cases hlt:i < x.cps.size
 ·refine .inr ⟨hlt,Pv (i + 1),fun σ' H' p'=>⟨x.cps.size - (i + 1),by omega,rfl,hlt,p'⟩,fun x' H' y=>?_⟩
  obtain ⟨e,c,hc,y⟩ :=y
  subst e y
  exact hs i c σ _ hc p
 ·have e:i=x.cps.size:=by omega
  subst e
  exact .inl ⟨Nat.le_refl _,hd σ H p⟩
end
section
variable (P:Program) (w:World) (K:PySem.W.Frag) (mg:Str→Option Value) (base:Heap)
def FnS (k:Nat) (x:Str) (ps:List Str) (sp:Sp):Prop:=∃ f fd,FnOk P w K mg base CX0 k f fd ps sp∧Za0 K fd ps []∧PySem.W.keepIn K (.ref f)=true∧mg x=some (.ref f)
def MeS (k:Nat) (C:Addr) (m:Str) (ps:List Str) (sp:Sp):Prop:=Cls K C∧∃ f fd,FnOk P w K mg base CX0 k f fd ps sp∧Za0 K fd ps []∧Meth K C m f
def MkS (k:Nat) (x:Str) (C:Addr) (ps:List Str) (sp:Sp):Prop:=mg x=some (.ref C)∧∃ f fd,Mk K C f∧FnOk P w K mg base CX0 k f fd ps sp∧Za0 K fd ps []
end
def tFn (sp:Sp) (t:TA):TE:=fun σ H Q=>t σ H fun vs H1=>sp vs H1 Q E0
def MkG (C:Addr) (sp:Sp) (vs:List V) (H1:Hp) (Q:VK):Prop:=∀ x dx,H1 x=none→H1 dx=none→dx ≠ x→
 sp (.ref x :: vs) (upd (upd H1 dx (.own x)) x (.ins C dx [])) (fun v H2=>v=.non∧Q (.ref x) H2) E0
def tMk (C:Addr) (sp:Sp) (t:TA):TE:=fun σ H Q=>t σ H fun vs H1=>MkG C sp vs H1 Q
def tDy (D:Addr→Prop) (m:Str) (sp:Sp) (ta:TE) (t:TA):TE:=fun σ H Q=>ta σ H fun x H1=>∃ a C dx fs,x=.ref a∧H1 a=some (.ins C dx fs)∧D C∧fs.lookup m=none∧
 t σ H1 fun vs H2=>H2 a=some (.ins C dx fs)∧sp (x :: vs) H2 Q E0
def spAt (sp:Sp) (C:Addr):Sp:=fun vs H Q E=>sp vs H Q E∧∃ a dx fs r,vs=V.ref a :: r∧H a=some (.ins C dx fs)
theorem i_fn {sp:Sp} {t:TA} {σ:St} {H:Hp} {Q:VK} (h:t σ H fun vs H1=>sp vs H1 Q E0):tFn sp t σ H Q:=h
theorem i_mk {C:Addr} {sp:Sp} {t:TA} {σ:St} {H:Hp} {Q:VK} (h:t σ H fun vs H1=>MkG C sp vs H1 Q):tMk C sp t σ H Q:=h
theorem i_dy {D:Addr→Prop} {m:Str} {sp:Sp} {ta:TE} {t:TA} {σ:St} {H:Hp} {Q:VK} (h:ta σ H fun x H1=>∃ a C dx fs,x=.ref a∧H1 a=some (.ins C dx fs)∧D C∧fs.lookup m=none∧
 t σ H1 fun vs H2=>H2 a=some (.ins C dx fs)∧sp (x :: vs) H2 Q E0):tDy D m sp ta t σ H Q:=h
theorem ZzW (sp:Sp) (t:TA):ZIM sp [] E0 t=tFn sp t:=by
 funext σ H Q
 unfold ZIM tFn
 have e:(fun (vs:List V) (H1:Hp)=>sp (vs ++ []) H1 Q E0)=fun vs H1=>sp vs H1 Q E0:=by
  funext vs H1; rw [List.append_nil]
 rw [e]
theorem ZzX (C:Addr) (sp:Sp) (t:TA):ZGw C sp [] E0 t=tMk C sp t:=by
 funext σ H Q
 unfold ZGw tMk MkG
 congr 1
 funext vs H1
 rw [List.append_nil]
section
variable {X:Cx} {k k':Nat} {x m:Str} {C:Addr} {ps:List Str} {sp:Sp} {e o:Expr} {es:List Expr} {ta:TE} {t:TA} {p pos apos:Pos}
theorem Zce (G:FnS X.prog X.w X.K X.mg X.base k x ps sp) (hr:Room k' X.A) (ha:PA X (e :: es) t) (hk:k≤k':=by omega) (hg:Gl X x:=by rfl) (hdb:(x == ("__debug__" : Str))=false:=by decide)
  (he:starEach (e :: es) X.env=(false,eval e X.env) :: starEach es X.env:=by rfl) (hpl:(backTo pos (starEach es X.env)).any (·.1)=false:=by rfl):PE X (.Call (.Name x p) (e :: es) [] pos) (tFn sp t):=by
 obtain ⟨f,fd,F,hb,kp,hm⟩ :=G
 rw [← ZzW]
 exact ZAU F (hr.mono hk) hg hm kp hb .nil ZEy ha hdb he hpl
theorem ZAX (G:MkS X.prog X.w X.K X.mg X.base k x C ps sp) (hr:Room k' X.A) (ha:PA X (e :: es) t) (hk:k + 1≤k':=by omega) (hg:Gl X x:=by rfl) (hdb:(x == ("__debug__" : Str))=false:=by decide)
  (he:starEach (e :: es) X.env=(false,eval e X.env) :: starEach es X.env:=by rfl) (hpl:(backTo pos (starEach es X.env)).any (·.1)=false:=by rfl):PE X (.Call (.Name x p) (e :: es) [] pos) (tMk C sp t):=by
 obtain ⟨hm,f,fd,M,F,hb⟩ :=G
 rw [← ZzX]
 exact ZIs M F (hr.mono hk) hg hm hb .nil ZEy ha hdb he hpl
theorem ZHn (G:MkS X.prog X.w X.K X.mg X.base k x C ps sp) (hr:Room k' X.A) (hk:k + 1≤k':=by omega) (hg:Gl X x:=by rfl) (hdb:(x == ("__debug__" : Str))=false:=by decide):PE X (.Call (.Name x p) [] [] pos) (tMk C sp tNil):=by
 obtain ⟨hm,f,fd,M,F,hb⟩ :=G
 rw [← ZzX]
 exact ZGb M F (hr.mono hk) hg hm hb .nil ZEy hdb
theorem ZAW {pl:Sem Bool} {D:Addr→Prop} (hD:∀ C,D C→MeS X.prog X.w X.K X.mg X.base k C m ps (spAt sp C)) (hr:Room k' X.A) (ho:PE X o ta) (ha:PA X (e :: es) t) (hk:k≤k':=by omega)
  (hst:starEach (e :: es) X.env=(false,eval e X.env) :: starEach es X.env:=by rfl) (hpl:(backTo pos (starEach es X.env)).any (·.1)=false:=by rfl)
  (ht:eval (.Call (.Attribute o m apos) (e :: es) [] pos) X.env=(do
   let ov ← eval o X.env
   standAt apos.atName
   let (f,first) ← holding [ov] (getMethod ov m pl)
   callWith pos f first (backTo pos (starEach (e :: es) X.env)) (backToKw pos (keywordEach [] X.env))):=by rfl) :
  PE X (.Call (.Attribute o m apos) (e :: es) [] pos) (tDy D m sp ta t):=by
 intro pins s σ H Q I h
 refine PySem.W.methodCall_KW (pl:=pl) (thn (ho pins s σ H _ I h) fun u s1 ⟨x,H1,I1,rx,a,C,dx,fs,ex,ea,hC,l,q⟩ =>?_) ht
 subst ex
 obtain rfl:u=Value.ref a:=rx
 obtain ⟨c,f,fd,F,hb,hm⟩ :=hD C hC
 refine Zrr I1 ea c hm l ?_
 refine PySem.W.callWith_K (first:=[.ref a]) (h₀:=X.base) I.ok.mod.kin hm.kp (thn (ha pos pins s1 σ H1 _ I1 q) fun us s2 ⟨vs,H2,I2,r,eb,q2⟩ =>⟨I2.kIn,?_⟩) hst hpl
 exact ZB6 (us:=.ref a :: us) (vs:=.ref a :: vs) (dvs:=[]) (E:=E0) F (hr.mono hk) hb .nil ZEy I2 (.cons rfl r) (by rw [List.append_nil]; exact ⟨q2,a,dx,fs,vs,rfl,eb⟩)
theorem Zzz {pl:Sem Bool} {D:Addr→Prop} (hD:∀ C,D C→MeS X.prog X.w X.K X.mg X.base k C m ps (spAt sp C)) (hr:Room k' X.A) (ho:PE X o ta) (hk:k≤k':=by omega)
  (ht:eval (.Call (.Attribute o m apos) [] [] pos) X.env=(do
   let ov ← eval o X.env
   standAt apos.atName
   let (f,first) ← holding [ov] (getMethod ov m pl)
   callWith pos f first (backTo pos (starEach [] X.env)) (backToKw pos (keywordEach [] X.env))):=by rfl) :
  PE X (.Call (.Attribute o m apos) [] [] pos) (tDy D m sp ta tNil):=by
 intro pins s σ H Q I h
 refine PySem.W.methodCall_KW (pl:=pl) (thn (ho pins s σ H _ I h) fun u s1 ⟨x,H1,I1,rx,a,C,dx,fs,ex,ea,hC,l,eb,q⟩ =>?_) ht
 subst ex
 obtain rfl:u=Value.ref a:=rx
 obtain ⟨c,f,fd,F,hb,hm⟩ :=hD C hC
 refine Zrr I1 ea c hm l ?_
 exact PySem.W.callWith_K0 (first:=[.ref a]) I1.kIn hm.kp (ZB6 (us:=[.ref a]) (vs:=[.ref a]) (dvs:=[]) (E:=E0) F (hr.mono hk) hb .nil ZEy I1 (.cons rfl .nil) (by rw [List.append_nil]; exact ⟨q,a,dx,fs,[],rfl,eb⟩))
theorem ss (i:Nat) {x:Str} {e:Expr} {te:TE} {pos pos':Pos} (hN:X.N.Nodup) (he:PE X e te) (hi:X.N[i]?=some x:=by rfl) (hx:Loc X.env.scope x:=by first | exact Or.inl rfl | exact Or.inr rfl)
  (hs:swapsWith e (some (.Name x pos')) pos.line X.env=pure false:=by rfl) (hf:X.fn x=true∨X.env.scope.names.lookup x=some .local:=by first | exact .inl rfl | exact .inr rfl):PS X (.Assign [.Name x pos'] e pos) (tAsg te (ZyH i)):=
 ZKa hN hi hx he hs hf
theorem sg (i:Nat) {x:Str} {pos:Pos} (hN:X.N.Nodup) (hi:X.N[i]?=some x:=by rfl) (hx:Loc X.env.scope x:=by first | exact Or.inl rfl | exact Or.inr rfl) (hf:X.fn x=true∨X.env.scope.names.lookup x=some .local:=by first | exact .inl rfl | exact .inr rfl):PG X (.Name x pos) (ZyH i):=ZEG hN hi hx hf
def rIsi (K:PySem.W.Frag):List V→Hp→VK→Prop:=fun xs H Q=>∃ x t b,TyOf K H x t∧((∃ n,xs=[x,.ty n]∧PySem.W.kitOne K t (.type n)=some b)∨(∃ c,xs=[x,.ref c]∧PySem.W.kitOne K t (.ref c)=some b))∧Q (.bl b) H
theorem ZBg:Zlo X (.builtin "isinstance") (rIsi X.K):=by
 intro pins s σ H xs us Q I r h
 obtain ⟨x,t,b,ty,h,q⟩ :=h
 rcases h with ⟨n,rfl,e⟩ | ⟨c,rfl,e⟩
 ·obtain ⟨u,v,rfl,ru,rv⟩ :=Zwe r
  obtain rfl:v=Value.type n:=rv
  exact ZyO I ru ty e fun tk=>⟨.bl b,H,I.tok tk,rfl,q⟩
 ·obtain ⟨u,v,rfl,ru,rv⟩ :=Zwe r
  obtain rfl:v=Value.ref c:=rv
  exact ZyO I ru ty e fun tk=>⟨.bl b,H,I.tok tk,rfl,q⟩
theorem ZGU {K:PySem.W.Frag} {x:V} {n:String} {t:Value} {b:Bool} {H:Hp} {Q:VK} (ty:TyOf K H x t) (e:PySem.W.kitOne K t (.type n)=some b) (h:Q (.bl b) H):rIsi K [x,.ty n] H Q:=⟨x,t,b,ty,.inl ⟨n,rfl,e⟩,h⟩
theorem ZJr {K:PySem.W.Frag} {x:V} {c:Addr} {t:Value} {b:Bool} {H:Hp} {Q:VK} (ty:TyOf K H x t) (e:PySem.W.kitOne K t (.ref c)=some b) (h:Q (.bl b) H):rIsi K [x,.ref c] H Q:=⟨x,t,b,ty,.inr ⟨c,rfl,e⟩,h⟩
def ZxN:R2:=fun x y H Q=>rI0 (fun i j=>V.int (i + j)) x y H Q∨(∃ i j,x=.str i∧y=.str j∧i.length + j.length≤sizeLine∧Q (.str (i ++ j)) H)∨rCat x y H Q
theorem Zau:OpR X (binaryOp .Add) ZxN:=OpR.or ZJV (OpR.or ZCH ZJW)
theorem ZGK {i j:Int} {H:Hp} {Q:VK} (h:Q (.int (i + j)) H):ZxN (.int i) (.int j) H Q:=.inl ⟨i,j,rfl,rfl,h⟩
theorem Zlf {i j:Str} {H:Hp} {Q:VK} (z:i.length + j.length≤sizeLine) (h:Q (.str (i ++ j)) H):ZxN (.str i) (.str j) H Q:=.inr (.inl ⟨i,j,rfl,rfl,z,h⟩)
theorem ZJf {l b:Addr} {xs zs:List V} {H:Hp} {Q:VK} (h1:H l=some (.lst xs)) (h2:H b=some (.lst zs)) (z:xs.length + zs.length≤sizeLine) (h:∀ p,H p=none→Q (.ref p) (upd H p (.lst (xs ++ zs)))):ZxN (.ref l) (.ref b) H Q:=.inr (.inr ⟨l,b,xs,zs,rfl,rfl,h1,h2,z,h⟩)
end
section
variable {X:Cx} {K:PySem.W.Frag} {H:Hp} {Q:VK} {a:Expr} {ta:TE} {pos:Pos}
theorem Zdr:bootBuiltins "len" = some (.builtin "len"):=by decide +kernel
theorem ZeJ:bootBuiltins "isinstance" = some (.builtin "isinstance"):=by decide +kernel
theorem ZGD:bootBuiltins "max" = some (.builtin "max"):=by decide +kernel
theorem ZI1:bootBuiltins "min" = some (.builtin "min"):=by decide +kernel
theorem Zyx:bootBuiltins "int" = some (.type "int"):=by decide +kernel
theorem ZI2:bootBuiltins "str" = some (.type "str"):=by decide +kernel
theorem Zt4:bootBuiltins "list" = some (.type "list"):=by decide +kernel
theorem ZFv:bootBuiltins "tuple" = some (.type "tuple"):=by decide +kernel
def GC (mg:Str→Option Value) (x:Str) (v:V):Prop:=∃ u,mg x=some u∧RelV v u
theorem ZEC {x:Str} {v:V} (hg:Gl X x) (h:GC X.mg x v) (hd:(x == ("__debug__" : Str))=false:=by decide):PE X (.Name x pos) (tC v):=by
 obtain ⟨u,e,r⟩ :=h
 exact Zfx hg e r hd
def ZIP (K:PySem.W.Frag) (ta:TE):TE:=fun σ H Q=>ta σ H fun x H1=>∃ k,TruV K x H1 k∧Q (.bl (!k)) H1
theorem ZIt (ha:PE X a ta):PE X (.UnaryOp .Not a pos) (ZIP X.K ta):=by
 intro pins s σ H Q I h
 refine UnaryOp_ (thn (ha pins s σ H _ I h) fun v s1 ⟨x,H1,I1,r1,q1⟩ =>?_)
 exact not_of (thn (ZHC pins s1 σ H1 x v (fun k H2=>Q (.bl (!k)) H2) I1 r1 q1) fun b s2 ⟨H2,I2,q2⟩ =>⟨.bl (!b),H2,I2,rfl,q2⟩)
theorem ZG1 {σ:St} (h:ta σ H fun x H1=>∃ k,TruV K x H1 k∧Q (.bl (!k)) H1):ZIP K ta σ H Q:=h
def rLen (K:PySem.W.Frag):List V→Hp→VK→Prop:=fun xs H Q=>∃ x n,xs=[x]∧LenV K x H n∧Q (.int n) H
theorem ZaW:Zlo X (.builtin "len") (rLen X.K):=ZFx
theorem ZGW {p:Addr} {xs:List V} (h:SqL K H p xs) (k:Q (.int xs.length) H):rLen K [.ref p] H Q:=⟨_,_,rfl,.inl ⟨xs,h,rfl⟩,k⟩
theorem ZGV {p:Addr} {xs:List V} (h:H p=some (.lst xs)) (k:Q (.int xs.length) H):rLen K [.ref p] H Q:=⟨_,_,rfl,.inl ⟨xs,SqL.of h,rfl⟩,k⟩
theorem ZDL {x:Str} (z:x.length≤sizeLine) (k:Q (.int x.length) H):rLen K [.str x] H Q:=⟨_,_,rfl,⟨z,rfl⟩,k⟩
def ZKe:List V→Hp→VK→Prop:=fun xs H Q=>∃ i j,xs=[.int i,.int j]∧Q (.int (if j > i then j else i)) H
def ZKf:List V→Hp→VK→Prop:=fun xs H Q=>∃ i j,xs=[.int i,.int j]∧Q (.int (if j < i then j else i)) H
theorem ZC8 (hc:X.calm=true):Zlo X (.builtin "max") ZKe:=ZC7 hc
theorem ZDb (hc:X.calm=true):Zlo X (.builtin "min") ZKf:=ZDa hc
theorem ZH0 {i j:Int} (h:Q (.int (max i j)) H):ZKe [.int i,.int j] H Q:=by
 refine ⟨i,j,rfl,?_⟩
 have e:(if j > i then j else i)=max i j:=by split <;> omega
 rw [e]; exact h
theorem ZJt {i j:Int} (h:Q (.int (min i j)) H):ZKf [.int i,.int j] H Q:=by
 refine ⟨i,j,rfl,?_⟩
 have e:(if j < i then j else i)=min i j:=by split <;> omega
 rw [e]; exact h
def ZKd:List V→Hp→VK→Prop:=fun xs H Q=>(∃ i,xs=[.int i]∧Q (.int i) H)∨∃ k,xs=[.bl k]∧Q (.int (if k then 1 else 0)) H
theorem ZlM:Zlo X (.type "int") ZKd:=ZC5
theorem ZGT {b:Bool} (h:Q (.int (if b then 1 else 0)) H):ZKd [.bl b] H Q:=.inr ⟨b,rfl,h⟩
def ZEM (K:PySem.W.Frag):List V→Hp→VK→Prop:=fun xs H Q=>∃ p ys,xs=[.ref p]∧(SqL K H p ys∨SqT K H p ys)∧∀ l,H l=none→Q (.ref l) (upd H l (.lst ys))
theorem Zjf:Zlo X (.type "list") (ZEM X.K):=Zyz
def ZHu (K:PySem.W.Frag):List V→Hp→VK→Prop:=fun xs H Q=>∃ p ys,xs=[.ref p]∧((SqL K H p ys∧∀ l,H l=none→Q (.ref l) (upd H l (.tup ys)))∨(SqT K H p ys∧Q (.ref p) H))
theorem ZAo:Zlo X (.type "tuple") (ZHu X.K):=ZwR
theorem ZJB {p:Addr} {ys:List V} (h:H p=some (.lst ys)) (k:∀ l,H l=none→Q (.ref l) (upd H l (.tup ys))):ZHu K [.ref p] H Q:=⟨p,ys,rfl,.inl ⟨SqL.of h,k⟩⟩
theorem ZKZ {p:Addr} {xs:List V} {j:Nat} {v:V} (h:SqL K H p xs) (e:xs[j]?=some v) (k:Q v H):rIx K (.ref p) (.int (j:Int)) H Q:=.inl ⟨p,xs,j,v,rfl,rfl,h,ZlI e,k⟩
theorem Zgj {p:Addr} {xs:List V} {j:Nat} {v:V} (h:H p=some (.lst xs)) (e:xs[j]?=some v) (k:Q v H):rIx K (.ref p) (.int (j:Int)) H Q:=.inl ⟨p,xs,j,v,rfl,rfl,SqL.of h,ZlI e,k⟩
theorem ZDK {p:Addr} {xs:List V} {i:Int} {v:V} (h:H p=some (.lst xs)) (e:atI xs i=some v) (k:Q v H):rIx K (.ref p) (.int i) H Q:=.inl ⟨p,xs,i,v,rfl,rfl,SqL.of h,e,k⟩
theorem ZgF {p:Addr} {xs:List V} {i:Int} {v:V} (h:H p=some (.tup xs)) (e:atI xs i=some v) (k:Q v H):rIx K (.ref p) (.int i) H Q:=.inr (.inl ⟨p,xs,i,v,rfl,rfl,SqT.of h,e,k⟩)
theorem ZAC {x:Str} {i:Int} {c:Nat} (z:x.length≤sizeLine) (e:atI x.cps.toList i=some c) (k:Q (.str ⟨#[c]⟩) H):rIx K (.str x) (.int i) H Q:=.inr (.inr ⟨x,i,c,rfl,rfl,z,e,k⟩)
def rSlG (K:PySem.W.Frag):V→Option Int→Option Int→Hp→VK→Prop:=fun x lo hi H Q=>rSlL K x lo hi H Q∨rSlT K x lo hi H Q
theorem ZKq:SlR X (rSlG X.K):=SlR.or ZIE ZKs
theorem ZK1 {p:Addr} {xs:List V} {lo hi:Option Int} (h:SqL K H p xs) (k:∀ l,H l=none→Q (.ref l) (upd H l (.lst (cutV xs lo hi)))):rSlG K (.ref p) lo hi H Q:=.inl ⟨p,xs,rfl,h,k⟩
def ZIx:R2:=rI CMul fun i j=>V.int (i * j)
theorem ZrB:OpR X (binaryOp .Mult) ZIx:=ZJ1
theorem Zwr {i j:Int} (c:CMul i j) (h:Q (.int (i * j)) H):ZIx (.int i) (.int j) H Q:=⟨i,j,rfl,rfl,c,h⟩
def rInG (K:PySem.W.Frag):R2:=fun x y H Q=>(∃ i j,x=.str i∧y=.str j∧Q (.bl (!(Builtin.Str.occurrences j i 0 j.length 1).isEmpty)) H)∨rIn K false x y H Q
def ZIy (K:PySem.W.Frag):R2:=fun x y H Q=>(∃ i j,x=.str i∧y=.str j∧Q (.bl (!(!(Builtin.Str.occurrences j i 0 j.length 1).isEmpty))) H)∨rIn K true x y H Q
theorem Zu6:OpR X (compareOp .In) (rInG X.K):=OpR.or ZEv ZEu
theorem ZqL:OpR X (compareOp .NotIn) (ZIy X.K):=OpR.or Zzx Zzw
theorem ZFN {l:Addr} {xs:List V} {y:V} (h:H l=some (.lst xs)) (z:xs.length < sizeLine) (k:Q .non (upd H l (.lst (xs ++ [y])))):ZxO (.ref l) [y] H Q:=⟨l,xs,y,rfl,rfl,h,z,k⟩
theorem ZK0 {l:Addr} {xs:List V} {y:V} (h:H l=some (.lst (xs ++ [y]))) (k:Q y (upd H l (.lst xs))):rPop (.ref l) [] H Q:=⟨l,xs ++ [y],y,rfl,rfl,h,by simp,by rw [List.dropLast_concat]; exact k⟩
theorem tyL {l:Addr} {xs:List V} (h:H l=some (.lst xs)):tyV K "list" (.ref l) H:=.inl ⟨rfl,xs,SqL.of h⟩
end
theorem Zcd {n:Nat} (h:n≤1000000):n≤sizeLine:=Nat.le_trans h (by decide)
theorem ZHw {n:Nat} (h:n < 1000000):n < sizeLine:=Nat.lt_of_lt_of_le h (by decide)
theorem Zbu {l:List Addr} (h:l.Nodup) {i j:Nat} {a b:Addr} (ha:l[i]?=some a) (hb:l[j]?=some b) (hij:i ≠ j):a ≠ b:=by
 intro e
 subst e
 obtain ⟨h1,e1⟩ :=List.getElem?_eq_some_iff.mp ha
 obtain ⟨h2,e2⟩ :=List.getElem?_eq_some_iff.mp hb
 exact hij ((List.getElem_inj h).mp (e1.trans e2.symm))
theorem ZBC (K:PySem.W.Frag) (n:String):PySem.W.kitOne K (.type n) (.type n)=some true:=by
 unfold PySem.W.kitOne
 rw [if_pos (by simp)]
theorem Znr {H:Hp} {p:Addr} (h:H p=none) (o:HO):Same H (upd H p o):=fun b u q=>by rw [ZbM (Zao q h)]; exact q
theorem Zvd {H:Hp} {p q:Addr} (hp:H p=none) (hq:H q=none) (o u:HO):Same H (upd (upd H q u) p o):=fun b v e=>by rw [ZbM (Zao e hp),ZbM (Zao e hq)]; exact e
theorem Zcv {K:PySem.W.Frag} {t:Value} {D:Addr} {b:Bool} (hne:t ≠ .ref D) (h1:PySem.W.isClsIn K D=true) (h2:PySem.W.typeIn K (.ref D)=some (.type "type")) (h3:PySem.W.subIn K t (.ref D)=some b):PySem.W.kitOne K t (.ref D)=some b:=by
 unfold PySem.W.kitOne
 rw [if_neg (by simp [hne])]
 unfold PySem.W.kitCls
 dsimp only
 unfold PySem.W.isClsIn at h1
 rw [if_pos (by rw [h1,h2]; rfl)]
 exact h3
theorem ZD0 (K:PySem.W.Frag) (D:Addr):PySem.W.kitOne K (.ref D) (.ref D)=some true:=by
 unfold PySem.W.kitOne
 rw [if_pos (by simp)]
def Zx7 (C:Addr) (f:Str):Sp:=fun vs H Q _=>∃ p dx v,vs=[.ref p,v]∧H p=some (.ins C dx [])∧Q .non (upd H p (.ins C dx [(f,v)]))
theorem Zw1 {C:Addr} {f:Str} {v:V} {H:Hp} {Q:VK} (h:∀ (x dx:Addr) (H':Hp),Same H H'→H x=none→H' x=some (.ins C dx [(f,v)])→Q (.ref x) H') :
  MkG C (Zx7 C f) [v] H Q:=by
 intro x dx hx hdx ne
 refine ⟨x,dx,v,rfl,Za3,rfl,?_⟩
 rw [ZIU]
 exact h x dx _ (Zvd hx hdx _ _) hx Za3
theorem lk1 (f:Str) (v:V):List.lookup f [(f,v)]=some v:=by
 have h:=ZkP f f v []
 rw [if_pos rfl] at h
 exact h
theorem lk0 {f g:Str} (v:V) (h : ¬ g=f):List.lookup g [(f,v)]=none:=by
 have e:=ZkP f g v []
 rw [if_neg h] at e
 exact e
structure Bt (mg:Str→Option Value):Prop where
 len:mg "len" = none
 range:mg "range" = none
 isinstance:mg "isinstance" = none
 int:mg "int" = none
 bool:mg "bool" = none
 str:mg "str" = none
 list:mg "list" = none
 tuple:mg "tuple" = none
 dict:mg "dict" = none
 set:mg "set" = none
 sorted:mg "sorted" = none
 max:mg "max" = none
 min:mg "min" = none
 sum:mg "sum" = none
 any:mg "any" = none
 all:mg "all" = none
 abs:mg "abs" = none
 reversed:mg "reversed" = none
 enumerate:mg "enumerate" = none
 zip:mg "zip" = none
def Ext (H H':Hp):Prop:=∀ b o,H b=some o→(∀ xs,o ≠ .lst xs)→H' b=some o
theorem Ext.of {H H':Hp} (a:Same H H'):Ext H H':=fun b o h _=>a b o h
theorem ZGF {xs:List V} {k:Nat} (h:k≤xs.length):cutV xs none (some (k:Int))=xs.take k:=by
 unfold cutV
 rw [HT.sIx_none,HT.sIx_nat,Nat.min_eq_left h]
 simp
theorem ZwU {xs:List V} {k:Nat} (h:k≤xs.length):cutV xs (some (k:Int)) none=xs.drop k:=by
 unfold cutV
 rw [HT.sIx_none,HT.sIx_nat,Nat.min_eq_left h]
 rw [List.take_of_length_le (by rw [List.length_drop]; omega)]
theorem ZFA (xs:List V) (v:V):cutV (xs ++ [v]) none (some (-1))=xs:=by
 unfold cutV
 rw [HT.sIx_none]
 have e:HT.sIx (xs ++ [v]).length (xs ++ [v]).length (some (-1))=xs.length:=by
  have h:HT.sIx (xs ++ [v]).length (xs ++ [v]).length (some (-1))=(if (-1:Int) < 0 then ((-1:Int) + ((xs ++ [v]).length:Int)).toNat else min (-1:Int).toNat (xs ++ [v]).length):=rfl
  rw [h,if_pos (by decide),List.length_append,List.length_singleton]
  omega
 rw [e]
 simp
theorem ZHN (xs:List V) (i j:Nat):cutV xs (some (i:Int)) (some (j:Int))=(xs.drop i).take (j - i):=by
 unfold cutV
 rw [HT.sIx_nat,HT.sIx_nat]
 by_cases hi:i≤xs.length
 ·rw [Nat.min_eq_left hi]
  by_cases hj:j≤xs.length
  ·rw [Nat.min_eq_left hj]
  ·rw [Nat.min_eq_right (by omega),List.take_of_length_le (by rw [List.length_drop]; omega),List.take_of_length_le (by rw [List.length_drop]; omega)]
 ·rw [Nat.min_eq_right (show xs.length≤i by omega),List.drop_eq_nil_of_le (Nat.le_refl _),List.drop_eq_nil_of_le (show xs.length≤i by omega)]
  simp
theorem ZAI (ns:List Int) (i j:Nat):((ns.map V.int).drop i).take j=((ns.drop i).take j).map V.int:=by
 rw [List.map_take,List.map_drop]
section
variable {K:PySem.W.Frag} {H:Hp} {Q:VK}
theorem Zcu {xs:List V} (z:xs.length≤1000000) (h:∀ (p:Addr) (H':Hp),Same H H'→H p=none→H' p=some (.lst xs)→Q (.ref p) H'):NewL xs H Q:=
 ⟨Zcd z,fun p hp=>h p _ (Znr hp _) hp Za3⟩
theorem Zi0 {xs:List V} (z:xs.length≤1000000) (h:∀ (p:Addr) (H':Hp),Same H H'→H p=none→H' p=some (.tup xs)→Q (.ref p) H'):NewT xs H Q:=
 ⟨Zcd z,fun p hp=>h p _ (Znr hp _) hp Za3⟩
theorem j_sl {p:Addr} {xs ys:List V} {lo hi:Option Int} (h:SqL K H p xs) (e:cutV xs lo hi=ys) (k:∀ (l:Addr) (H':Hp),Same H H'→H l=none→H' l=some (.lst ys)→Q (.ref l) H'):rSlG K (.ref p) lo hi H Q:=
 ZK1 h fun l hl=>by rw [e]; exact k l _ (Znr hl _) hl Za3
theorem Zlp {l b:Addr} {xs zs:List V} (h1:H l=some (.lst xs)) (h2:H b=some (.lst zs)) (z:xs.length + zs.length≤1000000) (h:∀ (p:Addr) (H':Hp),Same H H'→H p=none→H' p=some (.lst (xs ++ zs))→Q (.ref p) H'):ZxN (.ref l) (.ref b) H Q:=
 ZJf h1 h2 (Zcd z) fun p hp=>h p _ (Znr hp _) hp Za3
theorem ZyQ {p:Addr} {ys:List V} (h:SqL K H p ys∨SqT K H p ys) (k:∀ (l:Addr) (H':Hp),Same H H'→H l=none→H' l=some (.lst ys)→Q (.ref l) H'):ZEM K [.ref p] H Q:=
 ⟨p,ys,rfl,h,fun l hl=>k l _ (Znr hl _) hl Za3⟩
def But (l:Addr) (H H':Hp):Prop:=∀ b o,b ≠ l→H b=some o→H' b=some o
theorem But.same {l:Addr} {H0 H H':Hp} (s:But l H H') (h0:H0 l=none) (s0:Same H0 H):Same H0 H':=fun b o e=>s b o (Zao e h0) (s0 b o e)
theorem ZAn {l:Addr} {H:Hp} {o:HO}:But l H (upd H l o):=fun b u n e=>by rw [ZbM n]; exact e
theorem ZfG {l:Addr} {xs:List V} {y:V} (h:H l=some (.lst xs)) (z:xs.length < 1000000) (k:∀ H':Hp,But l H H'→H' l=some (.lst (xs ++ [y]))→Q .non H'):ZxO (.ref l) [y] H Q:=ZFN h (ZHw z) (k _ ZAn Za3)
theorem ZK3 {l:Addr} {xs:List V} {y:V} (h:H l=some (.lst (xs ++ [y]))) (k:∀ H':Hp,But l H H'→H' l=some (.lst xs)→Q y H'):rPop (.ref l) [] H Q:=ZK0 h (k _ ZAn Za3)
end
end L2
set_option maxRecDepth 100000
set_option maxHeartbeats 4000000
namespace L2
open PySem PySem.Spec PyProof.Rows
def Zgo (X:Cx) (x:Str) (ns:List Str) (scope:Scope) (cl:List (Str × Addr)) (s:Shared) (H:Hp) (ex:List Addr):Cx where
 prog:=X.prog
 w:=X.w
 K:=X.K
 mg:=X.mg
 base:=X.base
 A:=X.A
 N:=x :: ns
 s₀:=s
 H₀:=H
 env:=compEnvC scope cl s.heap.objs.size X.env
 outer:=X.stack
 stack:=X.stack
 ex:=ex
 fn:=fun _=>false
 calm:=X.calm
 pn:=[]
 xe:=fun _ _=>False
def subS (σ:St) (ix:List Nat):St:=ix.map fun k=>(σ[k]?).join
def Zyg (sc:Scope) (N:List Str) (x:Str) (ns:List Str) (ix:List Nat) (scope:Scope):Prop:=
 scope.kind=.function∧(∀ y ∈ scope.names,y.2 ≠ .cell∧(y.2=.local→scope.names.lookup y.1=some .local)∧(y.2=.free→sc.names.lookup y.1=some .cell∨sc.names.lookup y.1=some .free))∧
 scope.names.lookup x=some .local∧(∀ y ∈ ns,scope.names.lookup y=some .free)∧(ix.map fun k=>N[k]?)=ns.map some∧(x :: ns).Nodup
instance (sc:Scope) (N:List Str) (x:Str) (ns:List Str) (ix:List Nat) (scope:Scope):Decidable (Zyg sc N x ns ix scope):=by unfold Zyg; infer_instance
def ZCi (J:It) (ix:List Nat) (tc:TT) (te:TE) (σ:St) (Q:VK) (H1:Hp):Prop:=∀ acc,H1 acc=none→∃ W:Nat→Nat→List V→Hp→Prop,(∃ m,W 0 m [] (upd H1 acc (.lst [])))∧
 ∀ i m ys H,W i m ys H→(J.stop i H∧Q (.ref acc) H)∨(J.go i H∧∀ x H',J.yld i H x H'→tc (some x :: subS σ ix) H' fun b H2=>
  if b=true then te (some x :: subS σ ix) H2 fun y H3=>H3 acc=some (.lst ys)∧ys.length < sizeLine∧∃ m',m' < m∧W (i + 1) m' (ys ++ [y]) (upd H3 acc (.lst (ys ++ [y]))) else ∃ m',m' < m∧W (i + 1) m' ys H2)
def ZKB (wi:TI) (ix:List Nat) (tc:TT) (te:TE):TE:=fun σ H Q=>wi σ H fun J H1=>ZCi J ix tc te σ Q H1
theorem Zju {α β:Type} [BEq α] [LawfulBEq α]:∀ {l:List (α × β)} {a:α} {b:β},l.lookup a=some b→(a,b) ∈ l
 | [],_,_,h=>by simp at h
 | (k,v) :: r,a,b,h=>by
  rw [List.lookup_cons] at h
  cases e:a == k with
  | true=>
   rw [e] at h
   have:a=k:=by simpa using e
   subst this
   cases h
   exact List.mem_cons_self
  | false=>
   rw [e] at h
   exact List.mem_cons_of_mem _ (Zju h)
theorem Zrm {env:Env}:∀ (names:List (Str × NameKind)) (acc:List (Str × Addr)),(∀ y ∈ names,y.2=.free→∃ c,env.cells.lookup y.1=some c)→(∀ y c,acc.lookup y=some c→env.cells.lookup y=some c)→
  ∃ cl,(forIn names acc fun x r=>match x with | (name,kind)=>if (kind == NameKind.free)=true then (do let a ← cellOf env name; pure (ForInStep.yield ((name,a) :: r))) else pure (ForInStep.yield r):Sem (List (Str × Addr)))=pure cl∧
   (∀ y c,cl.lookup y=some c→env.cells.lookup y=some c)∧(∀ y,(∃ c,acc.lookup y=some c)→∃ c,cl.lookup y=some c)∧∀ y ∈ names,y.2=.free→∃ c,cl.lookup y.1=some c
 | [],acc,_,ha=>⟨acc,rfl,ha,fun _ h=>h,fun _ h=>nomatch h⟩
 | (name,kind) :: r,acc,hn,ha=>by
  cases hk:kind == NameKind.free with
  | false=>
   obtain ⟨cl,e,h1,h2,h3⟩ :=Zrm r acc (fun y hy=>hn y (List.mem_cons_of_mem _ hy)) ha
   refine ⟨cl,?_,h1,h2,fun y hy hf=>?_⟩
   ·rw [List.forIn_cons]
    simp only [hk,Bool.false_eq_true,if_false]
    exact e
   ·rcases List.mem_cons.mp hy with rfl | hy
    ·have:kind=.free:=hf
     subst this
     simp at hk
    ·exact h3 y hy hf
  | true=>
   have hkf:kind=.free:=by simpa using hk
   obtain ⟨c,hc⟩ :=hn (name,kind) List.mem_cons_self hkf
   have hc:env.cells.lookup name=some c:=hc
   obtain ⟨cl,e,h1,h2,h3⟩ :=Zrm r ((name,c) :: acc) (fun y hy=>hn y (List.mem_cons_of_mem _ hy)) (fun y c' hy=>by
    rw [List.lookup_cons] at hy
    cases e:y == name with
    | true=>
     rw [e] at hy
     have:y=name:=by simpa using e
     subst this
     cases hy
     exact hc
    | false=>
     rw [e] at hy
     exact ha y c' hy)
   refine ⟨cl,?_,h1,fun y hy=>h2 y ?_,fun y hy hf=>?_⟩
   ·rw [List.forIn_cons]
    simp only [hk,if_true]
    have:cellOf env name=pure c:=by unfold cellOf; rw [hc]
    rw [this]
    exact e
   ·obtain ⟨c',hc'⟩ :=hy
    rw [List.lookup_cons]
    cases y == name
    ·exact ⟨c',hc'⟩
    ·exact ⟨c,rfl⟩
   ·rcases List.mem_cons.mp hy with rfl | hy
    ·exact h2 _ ⟨c,by rw [List.lookup_cons]; simp⟩
    ·exact h3 y hy hf
theorem ZCq {env:Env} (scope:Scope) (h:∀ y ∈ scope.names,y.2=.free→∃ c,env.cells.lookup y.1=some c) :
  ∃ cl,closureFor scope env=pure cl∧(∀ y c,cl.lookup y=some c→env.cells.lookup y=some c)∧∀ y ∈ scope.names,y.2=.free→∃ c,cl.lookup y.1=some c:=by
 obtain ⟨cl,e,h1,_,h3⟩ :=Zrm (env:=env) scope.names [] h (fun _ _ z=>by simp at z)
 refine ⟨cl,?_,h1,h3⟩
 show ((forIn scope.names [] fun x r=>match x with | (name,kind)=>if (kind == NameKind.free)=true then (do let a ← cellOf env name; pure (ForInStep.yield ((name,a) :: r))) else pure (ForInStep.yield r):Sem (List (Str × Addr))) >>= fun s=>pure s)=pure cl
 rw [e]
 rfl
theorem Zs6 {env:Env}:∀ (names:List (Str × NameKind)) (y:Str),(names.map fun (n,k)=>if (k == NameKind.free && env.scope.kind == .function && env.kindOf n == some .cell) then (n,NameKind.cell) else (n,k)).lookup y =
  (names.lookup y).map fun k=>if (k == NameKind.free && env.scope.kind == .function && env.kindOf y == some .cell)=true then NameKind.cell else k
 | [],y=>by simp
 | (n,k) :: r,y=>by
  have ih:=Zs6 (env:=env) r y
  rw [List.map_cons,List.lookup_cons]
  cases e:y == n with
  | true=>
   have ey:y=n:=by simpa using e
   subst ey
   by_cases hc:(k == NameKind.free && env.scope.kind == .function && env.kindOf y == some .cell)=true
   ·simp only [hc,if_true,List.lookup_cons,beq_self_eq_true,Option.map_some]
   ·simp only [hc,if_false,List.lookup_cons,beq_self_eq_true,Option.map_some,Bool.false_eq_true]
  | false=>
   by_cases hc:(k == NameKind.free && env.scope.kind == .function && env.kindOf n == some .cell)=true
   ·simp only [hc,if_true,List.lookup_cons,e]; exact ih
   ·simp only [hc,if_false,List.lookup_cons,e,Bool.false_eq_true]; exact ih
section
variable {X:Cx} {pins:List (Addr × Obj)} {σ:St} {H:Hp} {s:Shared} {cl:List (Str × Addr)} {x:Str} {ns:List Str} {ix:List Nat} {sc scope:Scope} {N:List Str} {fp:List Addr}
theorem ZHR (I:Inv X pins σ H s) (f:∀ b ∈ fp,FpOk X pins H b) (hlt:∀ b ∈ fp,b < s.heap.objs.size) (hcl:∀ y c,cl.lookup y=some c→X.env.cells.lookup y=some c) {H':Hp} (hn:∀ b ∈ fp,H' b=none):∀ b ∈ fp,FpOk (Zgo X x ns scope cl s H fp) [] H' b:=fun b hb=>by
 obtain ⟨f0,f1,f2,f3,f4,f5⟩ :=f b hb
 refine ⟨hn b hb,Nat.ne_of_lt (hlt b hb),fun z=>?_,.inl hb,fun y c e=>f4 y c (hcl y c e),fun p hp=>?_⟩
 ·rcases List.mem_cons.mp (I.stkSub b z) with z | z
  ·exact f1 z
  ·exact f2 z
 ·exact absurd (show p ∈ ([]:List (Addr × Obj)) from hp) (by simp)
theorem ZFO {h1:Heap} {m:Str→Option Value} {t':Nat} (I:Inv X pins σ H s) (hsc:X.env.scope=sc) (hN:X.N=N) (C:Zyg sc N x ns ix scope) (hcl:∀ y c,cl.lookup y=some c→X.env.cells.lookup y=some c)
  (hcla:∀ y ∈ scope.names,y.2=.free→∃ c,cl.lookup y.1=some c) (f:∀ b ∈ fp,FpOk X pins H b) (hlt:∀ b ∈ fp,b < s.heap.objs.size) (hn:h1.Ns s.heap.objs.size m) (hk:∀ b o,s.heap.get? b=some o→h1.get? b=some o) :
  Inv (Zgo X x ns scope cl s H fp) [] (none :: subS σ ix) H { s with heap:=h1,toks:=t' }:=by
 obtain ⟨c1,c2,c3,c4,c5,c6⟩ :=C
 have kind:∀ y,(relabel scope X.env).names.lookup y=(scope.names.lookup y).map fun k=>if (k == NameKind.free && X.env.scope.kind == .function && X.env.kindOf y == some .cell)=true then NameKind.cell else k:=fun y=>Zs6 scope.names y
 have fr:∀ y,((relabel scope X.env).names.lookup y=some .cell∨(relabel scope X.env).names.lookup y=some .free)→scope.names.lookup y=some .free:=fun y h=>by
  rw [kind y] at h
  cases e:scope.names.lookup y with
  | none=>rw [e] at h; simp at h
  | some k=>
   rw [e] at h
   have hm:=Zju e
   cases k with
   | free=>rfl
   | cell=>exact absurd rfl (c2 _ hm).1
   | «local»=>simp at h
   | globalExplicit=>simp at h
   | globalImplicit=>simp at h
 have fr':∀ y,scope.names.lookup y=some .free→(relabel scope X.env).names.lookup y=some .cell∨(relabel scope X.env).names.lookup y=some .free:=fun y h=>by
  rw [kind y,h]
  by_cases hc:(NameKind.free == NameKind.free && X.env.scope.kind == .function && X.env.kindOf y == some .cell)=true
  ·left; rw [Option.map_some,if_pos hc]
  ·right; rw [Option.map_some,if_neg hc]
 have noC:∀ p:Addr × Obj,p ∉ (Zgo X x ns scope cl s H fp).pn ++ []:=fun p hp=>absurd (show p ∈ ([]:List (Addr × Obj)) from hp) (by simp)
 have lenE:ix.length=ns.length:=by
  have:=congrArg List.length c5
  rwa [List.length_map,List.length_map] at this
 refine ⟨⟨I.ok.mod,c1,I.ok.glob,I.ok.blt,Nat.le_refl _,fun y z c h1 h2=>I.ok.inj y z c (hcl y c h1) (hcl z c h2),fun y hy=>?_,fun y c hy=>absurd hy (by simp [Zgo]),I.ok.hd,I.ok.frames,.inl rfl,fun b hb=>?_,I.bs,
  Nat.le_trans I.ok.bsz I.sz,fun b o e hb=>?_,fun b hb=>?_,I.stack,I.stkFree⟩,rfl,I.bare,Un.kept hk,⟨m,hn,fun i y v e1 e2 e3=>?_⟩,fun y c e=>?_,I.hok.fresh (Nat.le_refl _),fun y c e=>I.freeC y c (hcl y c e),fun p hp=>absurd hp (noC p),I.hok.kept hk,?_⟩
 ·exact hcla _ (Zju (fr y hy)) rfl
 ·obtain ⟨f0,f1,f2,f3,f4,f5⟩ :=f b hb
  exact ⟨Nat.ne_of_lt (hlt b hb),fun y c e=>f4 y c (hcl y c e)⟩
 ·obtain ⟨f0,f1,f2,f3,f4,f5⟩ :=f b hb
  rcases f3 with z | z
  ·exact I.ok.noex b o e z
  ·exact absurd (Nat.lt_of_lt_of_le (Heap.lt_size (I.ok.bs b o e).1) z) (Nat.lt_irrefl _)
 ·obtain ⟨f0,f1,f2,f3,f4,f5⟩ :=f b hb
  intro z
  rcases List.mem_cons.mp (I.stkSub b z) with z | z
  ·exact f1 z
  ·exact f2 z
 ·cases i with
  | zero=>cases e2
  | succ j=>
   have e1':ns[j]?=some y:=e1
   have e2':(ix.map fun k=>(σ[k]?).join)[j]?=some (some v):=e2
   have e5:=congrArg (fun l=>l[j]?) c5
   simp only [List.getElem?_map,e1',Option.map_some] at e5 e2'
   cases ek:ix[j]? with
   | none=>rw [ek] at e5; cases e5
   | some k=>
    rw [ek] at e5 e2'
    have eN:N[k]?=some y:=by simpa using e5
    have eσ:(σ[k]?).join=some v:=by simpa using e2'
    have eσ':σ[k]?=some (some v):=by
     cases q:σ[k]? with
     | none=>rw [q] at eσ; cases eσ
     | some w=>rw [q] at eσ; have:w=some v:=eσ; rw [this]
    have hy:=c4 y (List.mem_of_getElem? e1')
    have hk':=(c2 _ (Zju hy)).2.2 rfl
    rw [← hsc] at hk'
    obtain ⟨m0,hn0,hl⟩ :=I.loc
    obtain ⟨u,r,l⟩ :=hl k y v (by rw [hN]; exact eN) eσ' (.inr hk')
    refine ⟨u,r,?_⟩
    rcases l with ⟨kl,_⟩ | ⟨_,c,ec,z⟩
    ·exfalso
     have kl:X.env.scope.names.lookup y=some .local:=kl
     rw [kl] at hk'
     rcases hk' with z | z <;> cases z
    ·obtain ⟨c',ec'⟩ :=hcla _ (Zju hy) rfl
     have ee:c'=c:=by
      have:=hcl y c' ec'
      rw [ec] at this
      exact (Option.some.inj this).symm
     subst ee
     obtain ⟨o,ho,hd⟩ :=z
     exact .inr ⟨fr' y hy,c',ec',⟨o,hk _ _ ho,hd⟩⟩
 ·obtain ⟨v,o,ho,hd⟩ :=I.cell y c (hcl y c e)
  exact ⟨v,o,hk _ _ ho,hd⟩
 ·show (none :: subS σ ix).length=(x :: ns).length
  rw [List.length_cons,List.length_cons]
  unfold subS
  rw [List.length_map,lenE]
end
theorem ZCT {α β:Type} {M:Model} {A:Around} {a:α} {P:α→Shared→Prop} {E E':Value→Shared→Prop} {s s':Shared} {t:Sem β} {Q:β→Shared→Prop} (h:wpAny M A (pure a) P E s) (k:P a s→wpAny M A t Q E' s'):wpAny M A t Q E' s':=
 fun Γ p hi=>k (h Γ p hi) Γ p hi
def PTs (X:Cx) (ifs:List Expr) (t:TT):Prop:=
 ∀ (pins:List (Addr × Obj)) (s:Shared) (σ:St) (H:Hp) (Q:Bool→Hp→Prop),Inv X pins σ H s→t σ H Q→
  wpAny (model X.prog X.w) X.A (forIn ifs true fun c r=>if r=true then do let ok ← isTrue c X.env (eval c X.env); pure (ForInStep.yield ok) else pure (ForInStep.yield r)) (TP X pins σ Q) X.xe s
def ZKF:TT:=fun _ H Q=>Q true H
theorem ZAY {X:Cx}:PTs X [] ZKF:=fun _ _ _ H _ I h=>wpAny_tests_nil ⟨H,I,h⟩
section
variable {X:Cx} {pins:List (Addr × Obj)} {σ:St} {H:Hp} {s:Shared} {cl:List (Str × Addr)} {x:Str} {ns:List Str} {ix:List Nat} {sc scope:Scope} {N:List Str} {fp:List Addr} {elt iter:Expr} {px pos:Pos} {ifs:List Expr} {tc:TT} {te:TE} {wi:TI}
theorem ZFz {E:Value→Shared→Prop} {J:It} {it:Addr} {tn:Nat→Heap→Prop} {Q:VK} {RR:Value→Addr→Result→Shared→Prop} (hsc:X.env.scope=sc) (hN:X.N=N) (C:Zyg sc N x ns ix scope) (hc:X.calm=true)
  (ht:∀ cl s H ex,PTs (Zgo X x ns scope cl s H ex) ifs tc) (he:∀ cl s H ex,PE (Zgo X x ns scope cl s H ex) elt te) (I:Inv X pins σ H s) (hcl:∀ y c,cl.lookup y=some c→X.env.cells.lookup y=some c)
  (hcla:∀ y ∈ scope.names,y.2=.free→∃ c,cl.lookup y.1=some c) (T:Turn X.prog X.w X.K (.Name x px) J fp it tn) (st:tn 0 s.heap) (f:∀ b ∈ fp,FpOk X pins H b) (h:ZCi J ix tc te σ Q H)
  (fin:∀ D C m s' H',Inv X pins σ H' s'→s'.heap.Ns C m→FpOk X pins H' C→Q (.ref D) H'→RR (.ref D) C (.ok .next) s') :
  wpAny (model X.prog X.w) X.A (newList []) (fun ja s3=>wpAny (model X.prog X.w) X.A (newFunctionEnv scope X.env.globals cl [] X.env.qual none .none (some X.env)) (fun ce s4=>
   codeAny (model X.prog X.w) X.A (.compStart (.ListComp elt [⟨.Name x px,iter,ifs,0⟩] scope pos) 0 (.ref it) ja { ce with scope:=relabel scope X.env }) (RR ja ce.locals) s4) E s3) E s:=by
 have hC:=C
 obtain ⟨c1,c2,c3,c4,c5,c6⟩ :=C
 have hfr:H s.heap.objs.size=none:=I.hok.fresh (Nat.le_refl _)
 obtain ⟨W,⟨m0,w0⟩,turn⟩ :=h _ hfr
 refine wpAny_newObj_type (wpAny_newFunctionEnv (fun y hy=>(c2 y hy).1) (by intro y hy; simp at hy) (fun h1 hn1 hs1=>?_) c1)
 have I3:=I.lnew (its:=[]) (ys:=[]) (t':=s.toks) .nil (Nat.zero_le _)
 have hlt0:∀ b ∈ fp,b < s.heap.objs.size:=fun b hb=>by
  obtain ⟨o,ho,_⟩ :=T.obj _ _ st b hb
  exact Heap.lt_size ho
 generalize hs3:({ s with heap:=s.heap.push { cls:=.type "list",data:=.seq ([]:List Value).toArray },toks:=s.toks }:Shared)=s3 at I3
 have e3:s3.heap=s.heap.push { cls:=.type "list",data:=.seq ([]:List Value).toArray }:=by rw [← hs3]
 have sz3:s3.heap.objs.size=s.heap.objs.size + 1:=by rw [e3,Heap.size_push]
 have f3:∀ b ∈ fp,FpOk X pins (upd H s.heap.objs.size (.lst [])) b:=fun b hb=>⟨by rw [ZbM (Nat.ne_of_lt (hlt0 b hb))]; exact (f b hb).1,(f b hb).2⟩
 have hlt:∀ b ∈ fp,b < s3.heap.objs.size:=fun b hb=>by rw [sz3]; exact Nat.lt_succ_of_lt (hlt0 b hb)
 have hk:∀ b o,s3.heap.get? b=some o→h1.get? b=some o:=fun b o e=>by
  refine (hs1.2 b ?_).trans (Heap.get?_push_of_some _ ?_)
  ·have:=Heap.lt_size e
   rw [sz3] at this
   show b ≠ (s.heap.push _).objs.size
   rw [Heap.size_push]
   exact Nat.ne_of_lt this
  ·rw [e3] at e; exact e
 have hn3:h1.Ns s3.heap.objs.size (fun y=>([]:List (Str × Value)).reverse.lookup y):=by rw [e3]; exact hn1
 have I4:=ZFO (t':=s3.toks + ([]:List (Str × Value)).length) I3 hsc hN hC hcl hcla f3 hlt hn3 hk
 have st4:tn 0 h1:=T.keep _ _ _ st fun b hb o e=>hk b o (by rw [e3]; exact Heap.get?_push_of_some _ e)
 have stat:∀ {H':Hp},(∀ b ∈ fp,H' b=none)→∀ b ∈ fp,FpOk (Zgo X x ns scope cl s3 (upd H s.heap.objs.size (.lst [])) fp) [] H' b:=fun {H'} hn=>ZHR I3 f3 hlt hcl hn
 have loop:∀ s4:Shared,s4 = { s3 with heap:=h1,toks:=s3.toks + ([]:List (Str × Value)).length }→
   codeAny (model X.prog X.w) X.A (.compLoop (.ListComp elt [⟨.Name x px,iter,ifs,0⟩] scope pos) 0 (.ref it) (.ref s.heap.objs.size) (compEnvC scope cl s3.heap.objs.size X.env)) (RR (.ref s.heap.objs.size) s3.heap.objs.size) s4:=by
  rintro s4 rfl
  refine codeAny_compLoop_tests (fun n s'=>∃ i v0 ys H',Inv (Zgo X x ns scope cl s3 (upd H s.heap.objs.size (.lst [])) fp) [] (v0 :: subS σ ix) H' s'∧tn i s'.heap∧(∀ b ∈ fp,H' b=none)∧W i n ys H') ?_ m0 ⟨0,none,[],_,I4,st4,fun b hb=>(f3 b hb).1,w0⟩
  rintro n s5 ⟨i,v0,ys,H5,I5,st5,fr5,w5⟩
  rcases turn i n ys H5 w5 with ⟨stop,q⟩ | ⟨go,step⟩
  ·refine wpAny_mono (T.done (Zgo X x ns scope cl s3 (upd H s.heap.objs.size (.lst [])) fp) rfl rfl rfl hc i [] s5 _ H5 _ I5 (stat fr5) st5 stop) (fun r s6 hr=>?_) fun _ _ e=>e
   obtain ⟨hr,I6⟩ :=hr
   subst hr
   obtain ⟨m6,hn6,_⟩ :=id I6.loc
   refine fin _ _ m6 s6 H5 (I3.call' I6.os I6.base I6.hok I6.bare fun b hb=>?_) hn6 (I3.fpOk (Nat.le_refl _) I6.free) q
   obtain ⟨g0,g1,g2,g3,g4,g5⟩ :=f3 b hb
   exact ⟨g3,g1,g4,g5⟩
  ·refine wpAny_mono (T.item (Zgo X x ns scope cl s3 (upd H s.heap.objs.size (.lst [])) fp) rfl rfl rfl hc i [] s5 _ H5 _ I5 (stat fr5) st5 go) (fun r s6 hr=>?_) fun _ _ e=>e
   obtain ⟨u,hr,h6⟩ :=hr
   subst hr
   refine ZCT (a:=()) h6 fun q6=>?_
   obtain ⟨xv,H6,I6,r6,y6,st6,fr6⟩ :=q6
   have I6':=I6.pinned (stat fr6) (T.obj _ _ st6)
   have again:∀ {m':Nat} {ys':List V} {H7:Hp} {s7:Shared},Inv (Zgo X x ns scope cl s3 (upd H s.heap.objs.size (.lst [])) fp) ([] ++ ZzB fp s6.heap) (some xv :: subS σ ix) H7 s7→W (i + 1) m' ys' H7→
     ∃ i v0 ys H',Inv (Zgo X x ns scope cl s3 (upd H s.heap.objs.size (.lst [])) fp) [] (v0 :: subS σ ix) H' s7∧tn i s7.heap∧(∀ b ∈ fp,H' b=none)∧W i m' ys H':=fun {m' ys' H7 s7} I7 w7=>by
    refine ⟨i + 1,some xv,ys',H7,I7.unpinned,T.keep _ _ _ st6 fun b hb o e=>(I7.pin (b,o) (List.mem_append_right _ (List.mem_append_right _ (ZjB hb e)))).1,fun b hb=>?_,w7⟩
    obtain ⟨o,e,d⟩ :=T.obj _ _ st6 b hb
    exact (I7.pin (b,o) (List.mem_append_right _ (List.mem_append_right _ (ZjB hb e)))).2.1
   have lx:(relabel scope X.env).names.lookup x=some .local:=lookup_relabel_local c3
   refine wpAny_mono (ZEG (X:=Zgo X x ns scope cl s3 (upd H s.heap.objs.size (.lst [])) fp) (i:=0) (x:=x) (pos:=px) c6 rfl (.inl lx) (.inr lx) _ s6 _ H6 xv u (fun σ' H'=>σ'=some xv :: subS σ ix∧H'=H6) I6' r6 ⟨rfl,rfl⟩) (fun _ s7 h7=>?_) fun _ _ e=>e.elim
   obtain ⟨σ7,H7,I7,rfl,rfl⟩ :=h7
   refine wpAny_mono (ht cl s3 _ fp _ s7 _ _ _ I7 (step xv _ y6)) (fun b s8 h8=>?_) fun _ _ e=>e.elim
   obtain ⟨H8,I8,q8⟩ :=h8
   cases b with
   | false=>
    rw [if_neg Bool.false_ne_true] at q8 ⊢
    obtain ⟨m',hm,w8⟩ :=q8
    exact ⟨m',hm,again I8 w8⟩
   | true=>
    rw [if_pos rfl] at q8 ⊢
    refine wpAny_mono (he cl s3 _ fp _ s8 _ _ _ I8 q8) (fun uy s9 h9=>?_) fun _ _ e=>e.elim
    obtain ⟨y,H9,I9,r9,hacc,hz,m',hm,w9⟩ :=h9
    refine wpAny_mono (Zb9 (X:=Zgo X x ns scope cl s3 (upd H s.heap.objs.size (.lst [])) fp) _ s9 _ H9 (.ref s.heap.objs.size) [y] _ [uy] (fun v H'=>H'=upd H9 s.heap.objs.size (.lst (ys ++ [y]))) I9 rfl (.cons r9 .nil) ⟨_,ys,y,rfl,rfl,hacc,hz,rfl⟩) (fun _ s10 h10=>?_) fun _ _ e=>e.elim
    obtain ⟨v,H10,I10,_,rfl⟩ :=h10
    exact ⟨m',hm,again I10 w9⟩
 exact codeAny_compStart_list (loop _ rfl) (T.self _ 0 _ _ _ st4 (loop _ rfl))
theorem ZAV (hsc:X.env.scope=sc) (hN:X.N=N) (C:Zyg sc N x ns ix scope) (hc:X.calm=true) (hi:PI X (.Name x px) iter wi) (ht:∀ cl s H ex,PTs (Zgo X x ns scope cl s H ex) ifs tc) (he:∀ cl s H ex,PE (Zgo X x ns scope cl s H ex) elt te)
  (hs:∀ v,foldedSetIterable iter X.env v=pure v:=by intro _; rfl):PE X (.ListComp elt [⟨.Name x px,iter,ifs,0⟩] scope pos) (ZKB wi ix tc te):=by
 intro pins s σ H Q I h
 obtain ⟨cl,hclos,hcl,hcla⟩ :=ZCq (env:=X.env) scope fun y hy hf=>I.ok.has y.1 (by
  have:=(C.2.1 y hy).2.2 hf
  rw [← hsc] at this
  exact this)
 rw [eval_ListComp]
 refine wpAny_comprehension_free (use:=none) rfl hs hclos C.1 (fun y hy=>(C.2.1 y hy).2.1) (thn (hi pins s σ H _ I h) fun v s1 h1=>thn h1 fun itv s2 h2=>?_)
 obtain ⟨it,fp,tn,J,H2,rfl,I2,T,st2,f2,hg⟩ :=h2
 refine ZFz (RR:=fun ja C=>compPost (model X.prog X.w) X.A X.xe none (EP X pins σ Q) ja C) hsc hN C hc ht he I2 hcl hcla T st2 f2 hg ?_
 intro D C' m s' H' I' hn' fC q
 obtain ⟨g0,g1,g2,g3,g4,g5⟩ :=fC
 exact ⟨m,hn',fun h' hs'=>⟨.ref D,H',I'.turned (t':=s'.toks) (fun b o hb e=>hs'.extBut b o hb e) g0 (Ne.symm (Ne.symm g1)) g3 g4 g5,rfl,q⟩⟩
end
section
variable {wi:TI} {ix:List Nat} {tc:TT} {te:TE} {σ:St} {H:Hp} {Q:VK} {K:PySem.W.Frag}
def ZKO (K:PySem.W.Frag) (x:V) (ix:List Nat) (tc:TT) (te:TE) (σ:St) (Q:VK) (H1:Hp):Prop:=
 (∃ a xs,x=.ref a∧SqL K H1 a xs∧ZCi (Itl K a) ix tc te σ Q H1)∨(∃ a xs,x=.ref a∧SqT K H1 a xs∧ZCi (Itt K a) ix tc te σ Q H1)∨(∃ z,x=.str z∧ZCi (Its z) ix tc te σ Q H1)
theorem ZDF {tl:TE} (h:tl σ H fun x H1=>ZKO K x ix tc te σ Q H1):ZKB (iSeq K tl) ix tc te σ H Q:=h
theorem ZG0 {BQ:Bool→Hp→Prop} (h:BQ true H):ZKF σ H BQ:=h
def Wk (J:It) (xs:List V) (H1:Hp):Prop:=∀ H',Same H1 H'→(∀ i,i < xs.length→J.go i H'∧∀ x H2,J.yld i H' x H2→H2=H'∧xs[i]?=some x)∧J.stop xs.length H'
theorem ZA6 {a:Addr} {xs:List V} (h:SqL K H a xs):Wk (Itl K a) xs H:=fun H' s=>by
 have h':=s.seq h
 refine ⟨fun i hi=>⟨⟨xs,xs[i],h',by simp [hi]⟩,fun x H2 y=>?_⟩,⟨xs,h',Nat.le_refl _⟩⟩
 obtain ⟨e,y⟩ :=y
 exact ⟨e,y xs h'⟩
theorem ZAr {J:It} {xs:List V} (Pv:Nat→List V→Prop) (hw:Wk J xs H) (hz:xs.length≤1000000) (h0:Pv 0 [])
  (hs:∀ (i:Nat) (x:V) (ys:List V) (acc:Addr) (H':Hp),xs[i]?=some x→Same H H'→H acc=none→H' acc=some (.lst ys)→Pv i ys→ys.length≤i→
   ∀ R:Bool→Hp→Prop,(∀ b H2,Same H' H2→(b=false→Pv (i + 1) ys)→(b=true→∀ R2:V→Hp→Prop,(∀ y H3,Same H2 H3→Pv (i + 1) (ys ++ [y])→R2 y H3)→te (some x :: subS σ ix) H2 R2)→R b H2)→tc (some x :: subS σ ix) H' R)
  (hd:∀ (acc:Addr) (ys:List V) (H':Hp),H acc=none→Same H H'→H' acc=some (.lst ys)→Pv xs.length ys→Q (.ref acc) H'):ZCi J ix tc te σ Q H:=by
 intro acc hacc
 have sU:∀ {H2:Hp} (o:HO),Same H H2→Same H (upd H2 acc o):=fun o s b u e=>by rw [ZbM (Zao e hacc)]; exact s b u e
 refine ⟨fun i m ys H'=>m=xs.length - i∧i≤xs.length∧Same H H'∧H' acc=some (.lst ys)∧Pv i ys∧ys.length≤i,⟨xs.length,by simp,Nat.zero_le _,Znr hacc _,Za3,h0,Nat.le_refl _⟩,?_⟩
 rintro i m ys H' ⟨rfl,hi,sm,ea,pv,hy⟩
 by_cases hlt:i < xs.length
 ·obtain ⟨go,yl⟩ :=(hw H' sm).1 i hlt
  refine .inr ⟨go,fun x H2 y=>?_⟩
  obtain ⟨rfl,hx⟩ :=yl x H2 y
  refine hs i x ys acc _ hx sm hacc ea pv hy _ fun b H3 s3 pf pt=>?_
  cases b with
  | false=>
   rw [if_neg Bool.false_ne_true]
   exact ⟨xs.length - (i + 1),by omega,rfl,hlt,sm.trans s3,s3 _ _ ea,pf rfl,Nat.le_succ_of_le hy⟩
  | true=>
   rw [if_pos rfl]
   refine pt rfl _ fun y H4 s4 py=>⟨s4 _ _ (s3 _ _ ea),ZHw (by omega),xs.length - (i + 1),by omega,rfl,hlt,sU _ (sm.trans (s3.trans s4)),Za3,py,?_⟩
   rw [List.length_append,List.length_singleton]
   omega
 ·have e:i=xs.length:=by omega
  subst e
  exact .inl ⟨(hw H' sm).2,hd acc ys H' hacc sm ea pv⟩
end
section
variable {X:Cx} {K:PySem.W.Frag} {a o:Expr} {ta:TE} {pos:Pos}
theorem ZGc (hK:X.K=K) (ha:PE X a ta):PE X (.UnaryOp .Not a pos) (ZIP K ta):=by subst hK; exact ZIt ha
theorem ZDP (hK:X.K=K):IxR X (rIx K):=by subst hK; exact ZaA
end
end L2
set_option maxRecDepth 100000
set_option maxHeartbeats 4000000
namespace L2
open PySem PySem.Spec PyProof.Rows
section
variable {X:Cx} {K:PySem.W.Frag} {σ:St} {H:Hp} {Q:VK} {a:Expr} {ta:TE} {pos:Pos}
def rSlX:V→Option Int→Option Int→Hp→VK→Prop:=fun x lo hi H Q=>∃ z,x=.str z∧z.length≤sizeLine∧Q (.str (Txt.slice z lo hi)) H
theorem ZKr:SlR X rSlX:=by
 intro pins s σ H x v vl vu lo hi sl Q I rx hs pl pu h
 obtain ⟨z,rfl,hz,q⟩ :=h
 obtain ⟨t,rfl⟩ :=rx
 refine ⟨"str",_,F.slot_str_getitem.lookup,typeIs_str _ _ _,?_⟩
 obtain ⟨o,ho,hc,hd⟩ :=hs
 have fin:∀ (l u:Option (Int × Tok)),vl=partValue l→vu=partValue u→l.map (·.1)=lo→u.map (·.1)=hi→wpAny (model X.prog X.w) X.A (getItem (.str z t) (.ref sl)) (EP X pins σ Q) X.xe s:=fun l u e1 e2 e3 e4=>by
  subst e1 e2 e3 e4
  exact wpAny_getItem_str_slice (l:=l) (u:=u) (st:=none) ⟨o,ho,hc,hd⟩ rfl
   (post_val_or_str ⟨Nat.le_trans (Txt.slice_le z _ _) hz,fun t' k=>⟨.str _,H,I.tok k,⟨t',rfl⟩,q⟩⟩)
 have pv:∀ {v:Value} {o:Option Int},IsPart v o→∃ l:Option (Int × Tok),v=partValue l∧l.map (·.1)=o:=fun {v o} h=>by
  cases h <;> first | exact ⟨none,rfl,rfl⟩ | exact ⟨some (_,_),rfl,rfl⟩
 obtain ⟨l,e1,e3⟩ :=pv pl
 obtain ⟨u,e2,e4⟩ :=pv pu
 exact fin l u e1 e2 e3 e4
def rSlA (K:PySem.W.Frag):V→Option Int→Option Int→Hp→VK→Prop:=fun x lo hi H Q=>rSlG K x lo hi H Q∨rSlX x lo hi H Q
theorem Zdq:SlR X (rSlA X.K):=SlR.or ZKq ZKr
theorem ZAD {z:Str} {lo hi:Option Int} (hz:z.length≤1000000) (k:Q (.str (Txt.slice z lo hi)) H):rSlA K (.str z) lo hi H Q:=.inr ⟨z,rfl,Zcd hz,k⟩
theorem Znv {p:Addr} {xs ys:List V} {lo hi:Option Int} (h:SqL K H p xs) (e:cutV xs lo hi=ys) (k:∀ (l:Addr) (H':Hp),Same H H'→H l=none→H' l=some (.lst ys)→Q (.ref l) H'):rSlA K (.ref p) lo hi H Q:=.inl (j_sl h e k)
def ZKc:V→List V→Hp→VK→Prop:=fun x vs H Q=>∃ z y,x=.str z∧vs=[.str y]∧Q (.int (Txt.find z y)) H
theorem ZEc:MtM X "str.find" ZKc:=by
 intro pins s σ H x vs v us Q I rx rv h
 obtain ⟨z,y,rfl,rfl,q⟩ :=h
 obtain ⟨t,rfl⟩ :=rx
 obtain ⟨u,rfl,t',rfl⟩ :=rv.one
 exact SC.find ⟨.int _,H,I.tok _,⟨_,rfl⟩,q⟩
theorem ZzZ:∀ {ts:List Str} {us:List Value},Vals (ts.map V.str) us→∃ l:List (Str × Tok),us=strValues l∧l.map (·.1)=ts
 | [],_,r=>by cases r; exact ⟨[],rfl,rfl⟩
 | t :: ts,_,r=>by
  cases r with
  | cons r1 r2=>
   obtain ⟨k,rfl⟩ :=r1
   obtain ⟨l,rfl,rfl⟩ :=ZzZ r2
   exact ⟨(t,k) :: l,rfl,rfl⟩
def ZK9 (K:PySem.W.Frag):V→List V→Hp→VK→Prop:=fun x vs H Q=>∃ z l ts,x=.str z∧vs=[.ref l]∧SqL K H l (ts.map V.str)∧JoinOk z ts=true∧Q (.str (Txt.join z ts)) H
theorem ZEd:MtM X "str.join" (ZK9 X.K):=by
 intro pins s σ H x vs v us Q I rx rv h
 obtain ⟨z,l,ts,rfl,rfl,hq,hj,q⟩ :=h
 obtain ⟨t,rfl⟩ :=rx
 obtain ⟨u,rfl,ru⟩ :=rv.one
 cases ru
 obtain ⟨its,r',pl,hz⟩ :=I.list hq
 obtain ⟨ls,rfl,rfl⟩ :=ZzZ r'
 exact SC.join pl.isList rfl hj fun t' k=>⟨.str _,H,I.tok k,⟨t',rfl⟩,q⟩
theorem tyS {z:Str}:tyV K "str" (.str z) H:=by
 unfold tyV
 first
  | exact .inr (.inl ⟨rfl,_,rfl⟩)
  | exact .inr (.inr (.inl ⟨rfl,_,rfl⟩))
  | exact .inr (.inr ⟨rfl,_,rfl⟩)
  | simp
abbrev TJ:=St→Hp→Str→VK→Prop
def PJ (X:Cx) (es:List Expr) (t:TJ):Prop:=
 ∀ (out:Str) (pins:List (Addr × Obj)) (s:Shared) (σ:St) (H:Hp) (Q:VK),Inv X pins σ H s→t σ H out Q→wpAny (model X.prog X.w) X.A (joinParts out (evalEach es X.env)) (EP X pins σ Q) X.xe s
def tJn:TJ:=fun _ H out Q=>out.length≤sizeLine∧Q (.str out) H
def tJc (te:TE) (tr:TJ):TJ:=fun σ H out Q=>te σ H fun x H1=>∃ y,x=.str y∧(out ++ y).length≤sizeLine∧tr σ H1 (out ++ y) Q
theorem ZBV:PJ X [] tJn:=fun out pins s σ H Q I h=>joinParts_nil ⟨.str out,H,I.tok _,⟨_,rfl⟩,h.2⟩ h.1
theorem ZkR {e:Expr} {es:List Expr} {te:TE} {tr:TJ} (he:PE X e te) (hr:PJ X es tr):PJ X (e :: es) (tJc te tr):=by
 intro out pins s σ H Q I h
 show wpAny _ _ (joinParts out (eval e X.env :: evalEach es X.env)) _ _ s
 refine joinParts_cons (thn (he pins s σ H _ I h) fun v s1 ⟨x,H1,I1,r1,y,ex,hz,q⟩ =>?_)
 subst ex
 obtain ⟨t,rfl⟩ :=r1
 exact ⟨hz,hr _ pins s1 σ H1 Q I1 q⟩
def tFs (t:TJ):TE:=fun σ H Q=>t σ H Str.empty Q
theorem ZqN {e1 e2:Expr} {es:List Expr} {t:TJ} (h:PJ X (e1 :: e2 :: es) t):PE X (.JoinedStr (e1 :: e2 :: es) pos) (tFs t):=by
 intro pins s σ H Q I q
 exact JoinedStr_many (h Str.empty pins s σ H Q I q)
def tFmt (ta:TE):TE:=fun σ H Q=>ta σ H fun x H1=>∃ z,x=.str z∧z.length≤sizeLine∧Q (.str z) H1
theorem ZEA (ha:PE X a ta):PE X (.FormattedValue a (-1) none pos) (tFmt ta):=by
 intro pins s σ H Q I h
 refine FormattedValue_plain (thn (ha pins s σ H _ I h) fun v s1 ⟨x,H1,I1,r1,z,ex,hz,q⟩ =>?_)
 subst ex
 obtain ⟨t,rfl⟩ :=r1
 exact formatField_str (fun t' k=>⟨.str z,H1,I1.tok k,⟨t',rfl⟩,q⟩) hz
theorem i_fs {t:TJ} (h:t σ H Str.empty Q):tFs t σ H Q:=h
theorem i_jn {out:Str} (z:out.length≤1000000) (h:Q (.str out) H):tJn σ H out Q:=⟨Zcd z,h⟩
theorem i_jc {te:TE} {tr:TJ} {out:Str} (h:te σ H fun x H1=>∃ y,x=.str y∧(out ++ y).length≤sizeLine∧tr σ H1 (out ++ y) Q):tJc te tr σ H out Q:=h
theorem ZJo (h:ta σ H fun x H1=>∃ z,x=.str z∧z.length≤sizeLine∧Q (.str z) H1):tFmt ta σ H Q:=h
end
end L2
set_option maxRecDepth 100000
set_option maxHeartbeats 4000000
namespace L2
open PySem PySem.Spec PyProof.Rows
mutual
def DV (H:Hp):PyData→V→Prop
 | .none,v=>v=.non
 | .bool b,v=>v=.bl b
 | .int i,v=>v=.int i
 | .str x,v=>v=.str x
 | .list ds,v=>∃ p xs,v=.ref p∧H p=some (.lst xs)∧DVs H ds xs
 | .tuple ds,v=>∃ p xs,v=.ref p∧H p=some (.tup xs)∧DVs H ds xs
 | .dict _,_=>False
def DVs (H:Hp):List PyData→List V→Prop
 | [],xs=>xs=[]
 | d :: ds,xs=>∃ v r,xs=v :: r∧DV H d v∧DVs H ds r
end
section
variable {X:Cx} {pins:List (Addr × Obj)} {σ:St} {H:Hp} {s:Shared}
mutual
theorem ZkS (I:Inv X pins σ H s):∀ (d:PyData) (v:V) (u:Value),DV H d v→RelV v u→∃ as,Reads s.heap u d as
 | .none,v,u,h,r=>by
  rw [DV] at h; subst h; cases r; exact ⟨_,.none⟩
 | .bool b,v,u,h,r=>by
  rw [DV] at h; subst h; cases r; exact ⟨_,.bool b⟩
 | .int i,v,u,h,r=>by
  rw [DV] at h; subst h; obtain ⟨t,rfl⟩ :=r; exact ⟨_,.int i t⟩
 | .str x,v,u,h,r=>by
  rw [DV] at h; subst h; obtain ⟨t,rfl⟩ :=r; exact ⟨_,.str x t⟩
 | .list ds,v,u,h,r=>by
  rw [DV] at h
  obtain ⟨p,xs,rfl,e,hs⟩ :=h
  cases r
  obtain ⟨z,its,n,r',e'⟩ :=I.hok p _ e
  obtain ⟨as,ra⟩ :=Zvb I ds xs its hs r'
  exact ⟨_,.list e' rfl rfl (by simpa using ra)⟩
 | .tuple ds,v,u,h,r=>by
  rw [DV] at h
  obtain ⟨p,xs,rfl,e,hs⟩ :=h
  cases r
  obtain ⟨z,its,r',o,e',hc,n,hd⟩ :=I.hok p _ e
  obtain ⟨as,ra⟩ :=Zvb I ds xs its hs r'
  exact ⟨_,.tuple e' hc hd (by simpa using ra)⟩
 | .dict _,v,u,h,r=>by rw [DV] at h; exact h.elim
theorem Zvb (I:Inv X pins σ H s):∀ (ds:List PyData) (xs:List V) (us:List Value),DVs H ds xs→Vals xs us→∃ as,ReadsAll s.heap us ds as
 | [],xs,us,h,r=>by
  rw [DVs] at h; subst h; cases r; exact ⟨_,.nil⟩
 | d :: ds,xs,us,h,r=>by
  rw [DVs] at h
  obtain ⟨v,r0,rfl,h1,h2⟩ :=h
  cases r with
  | cons r1 r2=>
   obtain ⟨a1,q1⟩ :=ZkS I d v _ h1 r1
   obtain ⟨a2,q2⟩ :=Zvb I ds r0 _ h2 r2
   exact ⟨_,.cons q1 q2⟩
end
def rEqD:R2:=fun x y H Q=>∃ d1 d2,DV H d1 x∧DV H d2 y∧d1.canLay0=true∧d2.canLay0=true∧d1.depth≤60∧Q (.bl (PyData.eqv d1 d2)) H
theorem ZJX (hu:X.A.units + 64 < cLine):OpR X (compareOp .Eq) rEqD:=by
 intro pins s σ H x y v u Q I rx ry h
 obtain ⟨d1,d2,h1,h2,c1,c2,hd,q⟩ :=h
 obtain ⟨a1,q1⟩ :=ZkS I d1 x v h1 rx
 obtain ⟨a2,q2⟩ :=ZkS I d2 y u h2 ry
 exact SeqAt.compareEq_reads q1 q2 c1 c2 (Nat.lt_of_le_of_lt (Nat.add_le_add_left (Nat.le_trans (Nat.min_le_left _ _) hd) _) (by omega)) ⟨.bl _,H,I,rfl,q⟩
def rEqA:R2:=fun x y H Q=>rEq x y H Q∨rEqD x y H Q
theorem ZaU (hu:X.A.units + 64 < cLine):OpR X (compareOp .Eq) rEqA:=OpR.or ZK7 (ZJX hu)
def rNeD:R2:=fun x y H Q=>∃ d1 d2,DV H (.list d1) x∧DV H (.list d2) y∧PyData.canLayAll0 d1=true∧PyData.canLayAll0 d2=true∧PyData.depthAll d1≤60∧Q (.bl (!PyData.eqvAll d1 d2)) H
theorem ZJ2 (hu:X.A.units + 64 < cLine):OpR X (compareOp .NotEq) rNeD:=by
 intro pins s σ H x y v u Q I rx ry h
 obtain ⟨d1,d2,h1,h2,c1,c2,hd,q⟩ :=h
 obtain ⟨a1,q1⟩ :=ZkS I (.list d1) x v h1 rx
 obtain ⟨a2,q2⟩ :=ZkS I (.list d2) y u h2 ry
 cases q1 with
 | @list b1 o vs n _ as1 g1 g2 g3 g4=>
  cases q2 with
  | @list b2 o' vs' n' _ as2 k1 k2 k3 k4=>
   have hl:s.heap.IsList _ vs:=⟨_,g1,g2,_,g3⟩
   have hl':s.heap.IsList _ vs':=⟨_,k1,k2,_,k3⟩
   have n1:vs.size=d1.length:=by simpa using SeqAt.ReadsAll.length _ _ _ g4
   have n2:vs'.size=d2.length:=by simpa using SeqAt.ReadsAll.length _ _ _ k4
   have fin:EP X pins σ Q (.bool (!PyData.eqvAll d1 d2)) s:=⟨.bl _,H,I,rfl,q⟩
   by_cases hz:vs.size=vs'.size
   ·refine SeqAt.RcNeAt.lists hl hl' hz (by omega) (e:=SeqAt.pairEq d1 d2) (fun j j1 j2=>?_) _ _ _ _ ?_
    ·have:=SeqAt.eqAt_readsAll d1 d2 X.A.in1 s vs.toList vs'.toList _ _ g4 k4 c1 c2 (by
      have:X.A.in1.units=X.A.units + 1∨X.A.in1.units=X.A.units:=by first | exact .inl rfl | exact .inr rfl
      have h3:=Nat.min_le_left (PyData.depthAll d1) (PyData.depthAll d2)
      omega) j (by simpa using j1) (by simpa using j2)
     simpa using this
    ·have e:=SeqAt.eqvAll_eq d1 d2
     rw [← n1,← n2,← hz,Nat.min_self,beq_self_eq_true,Bool.and_true] at e
     rw [e]; exact fin
   ·refine SeqAt.RcNeAt.lists_lengths hl hl' (by simpa using hz) (by omega) _ _ _ _ ?_
    have e:=SeqAt.eqvAll_eq d1 d2
    have hb:(d1.length == d2.length)=false:=by
     rw [← n1,← n2]; simpa using hz
    rw [hb,Bool.and_false] at e
    rw [← e] at fin
    exact fin
def rNeT:R2:=fun x y H Q=>∃ d1 d2,DV H (.tuple d1) x∧DV H (.tuple d2) y∧PyData.canLayAll0 d1=true∧PyData.canLayAll0 d2=true∧PyData.depthAll d1≤60∧Q (.bl (!PyData.eqvAll d1 d2)) H
theorem ZJ3 (hu:X.A.units + 64 < cLine):OpR X (compareOp .NotEq) rNeT:=by
 intro pins s σ H x y v u Q I rx ry h
 obtain ⟨d1,d2,h1,h2,c1,c2,hd,q⟩ :=h
 obtain ⟨a1,q1⟩ :=ZkS I (.tuple d1) x v h1 rx
 obtain ⟨a2,q2⟩ :=ZkS I (.tuple d2) y u h2 ry
 cases q1 with
 | @tuple b1 o vs n _ as1 g1 g2 g3 g4=>
  cases q2 with
  | @tuple b2 o' vs' n' _ as2 k1 k2 k3 k4=>
   have hl:s.heap.IsTuple _ vs:=⟨_,g1,g2,_,g3⟩
   have hl':s.heap.IsTuple _ vs':=⟨_,k1,k2,_,k3⟩
   have n1:vs.size=d1.length:=by simpa using SeqAt.ReadsAll.length _ _ _ g4
   have n2:vs'.size=d2.length:=by simpa using SeqAt.ReadsAll.length _ _ _ k4
   refine SeqAt.RcNeAt.tuples hl hl' (by omega) (e:=SeqAt.pairEq d1 d2) (fun j j1 j2=>?_) _ _ _ _ ?_
   ·have:=SeqAt.eqAt_readsAll d1 d2 X.A.in1 s vs.toList vs'.toList _ _ g4 k4 c1 c2 (by
     have:X.A.in1.units=X.A.units + 1∨X.A.in1.units=X.A.units:=by first | exact .inl rfl | exact .inr rfl
     have h3:=Nat.min_le_left (PyData.depthAll d1) (PyData.depthAll d2)
     omega) j (by simpa using j1) (by simpa using j2)
    simpa using this
   ·rw [n1,n2,SeqAt.eqvAll_eq d1 d2]
    exact ⟨.bl _,H,I,rfl,q⟩
def rNeA:R2:=fun x y H Q=>rNe x y H Q∨rNeD x y H Q∨rNeT x y H Q
theorem Zzv (hu:X.A.units + 64 < cLine):OpR X (compareOp .NotEq) rNeA:=OpR.or ZK8 (OpR.or (ZJ2 hu) (ZJ3 hu))
end
theorem Zum:∀ a b:List Str,PyData.eqvAll (a.map .str) (b.map .str)=decide (a=b)
 | [],[]=>rfl
 | [],_ :: _=>by simp [PyData.eqvAll]
 | _ :: _,[]=>by simp [PyData.eqvAll]
 | x :: a,y :: b=>by
  simp only [List.map_cons,PyData.eqvAll,PyData.eqv,Zum a b,List.cons.injEq]
  by_cases h:x=y
  ·subst h; simp
  ·simp [h]
theorem ZwV (H:Hp):∀ a:List Str,DVs H (a.map .str) (a.map V.str)
 | []=>by rw [List.map_nil,DVs]; rfl
 | x :: a=>by
  rw [List.map_cons,DVs]
  exact ⟨.str x,a.map V.str,rfl,by rw [DV],ZwV H a⟩
section
variable {K:PySem.W.Frag} {H:Hp} {Q:VK}
theorem ZGP {i j:Int} (h:Q (.bl (decide (i=j))) H):rEqA (.int i) (.int j) H Q:=.inl (ZHW h)
theorem ZGQ {i j:Str} (h:Q (.bl (decide (i=j))) H):rEqA (.str i) (.str j) H Q:=.inl (ZHX h)
theorem ZGY {i j:Str} (h:Q (.bl (!decide (i=j))) H):rNeA (.str i) (.str j) H Q:=.inl (ZH1 h)
end
end L2
namespace PySem
open Sem (wp)
set_option maxRecDepth 100000
section
variable {prog:Program} {w:World} {A:Around} {s:Shared} {R:Result→Shared→Prop}
variable {I:Addr} {fp wr:List Addr} {G:Array GenState→Array GenState→Prop} {n:Nat} {P:Nat→Value→Prop} {St:Nat→Shared→Prop}
end
section
variable {prog:Program} {w:World} {A:Around} {E:Value→Shared→Prop} {s:Shared}
variable {I:Addr} {fp wr:List Addr} {G:Array GenState→Array GenState→Prop} {n:Nat} {P:Nat→Value→Prop} {St:Nat→Shared→Prop}
end
end PySem
namespace L2
open PySem PySem.Spec PyProof.Rows
section
variable {X:Cx} {tg:Expr}
theorem ZyM:∀ {ns:List Int} {us:List Value},Vals (ns.map V.int) us→∃ xs:List (Int × Tok),us=xs.map (fun x=>Value.int x.1 x.2)∧xs.map (·.1)=ns
 | [],_,r=>by
  cases r
  exact ⟨[],rfl,rfl⟩
 | n :: ns,_,r=>by
  cases r with
  | cons r rr=>
   obtain ⟨t,rfl⟩ :=r
   obtain ⟨xs,rfl,e⟩ :=ZyM rr
   exact ⟨(n,t) :: xs,rfl,by rw [List.map_cons,e]⟩
end
section
variable {σ:St} {H:Hp} {Q:VK} {D:Ends} {K:PySem.W.Frag} {g:TG} {tb:TS} {ix:List Nat} {tc:TT} {te:TE}
end
end L2
set_option maxRecDepth 100000
namespace PySem
open Sem (wp)
open AutoSeq1 (wpAny_loadPart')
section
variable {prog:Program} {w:World} {A:Around} {E:Value→Shared→Prop} {s:Shared}
end
end PySem
namespace L2
open PySem PySem.Spec PyProof.Rows
section
variable {X:Cx} {pins:List (Addr × Obj)} {σ:List (Option V)} {H:Hp} {s:Shared} {h':Heap}
end
section
variable {X:Cx}
end
section
variable {σ:St} {H:Hp} {Q:VK} {D:Ends} {K:PySem.W.Frag} {g:TG} {tb:TS}
theorem ZDE {r r':R2} {ta tb tc:TE} (h:ta σ H fun x H1=>tb σ H1 fun y H2=>r x y H2 fun z H3=>∃ k,z=.bl k∧(if k=true then tc σ H3 fun w' H4=>r' y w' H4 Q else Q (.bl false) H3)):ZFc r r' ta tb tc σ H Q:=h
end
end L2
set_option maxRecDepth 100000
namespace L2
open PySem PySem.Spec PyProof.Rows
section
variable {X:Cx}
end
section
open PySem.SeqAt
open PySem.AutoSeq1 (wpAny_loadPart')
open PySem.MeetsSeq PySem.MeetsSeq2 PySem.MeetsSeq3
end
def ZKN (i j:Int):Prop:=0 < j∧j≤18446744073709551616
theorem ZfS {X:Cx}:OpR X (binaryOp .FloorDiv) (rI ZKN fun i j=>.int (i / j)):=opI fun i j _ _ _ _ _ hc q=>by
 have h1:(0:Int) < j:=hc.1
 have h2:j≤18446744073709551616:=hc.2
 refine floordiv_int (by omega) (by rw [Int.fdiv_eq_ediv_of_nonneg i (by omega)]; exact q) (.inl (PyProof.noPylong_of_log2 ?_))
 have h3:j.natAbs.log2 < 65:=(Nat.log2_lt (by omega)).mpr (by omega)
 omega
section
variable {σ:St} {H:Hp} {Q:VK} {D:Ends} {K:PySem.W.Frag} {g:TG} {tb:TS}
end
end L2
set_option maxRecDepth 100000
namespace PySem
open Sem (wp)
theorem Obj.dict_mapFields (o:Obj) (f:Array Value→Array Value):(Obj.mapFields f o).dict=o.dict:=by unfold Obj.mapFields; split <;> rfl
def ZDw (l:List Env):List Addr:=l.filterMap (·.frame)
def Heap.Tr (h:Heap) (e:Addr) (cls:Value) (T:Addr):Prop:=∃ oe vs oT ts,h.get? e=some oe∧oe.cls=cls∧oe.dict=none∧oe.data=.fields vs∧vs[1]?=some (.ref T)∧T ≠ e∧h.get? T=some oT∧oT.data=.fields ts∧ts[3]?=some .none
structure Heap.Gone (fs own:List Addr) (h h':Heap):Prop where
 kept:∀ b o,b ∉ fs→b ∉ own→h.get? b=some o→h'.get? b=some o
 slot:∀ b o,b ∈ fs→b ∉ own→h.get? b=some o→∃ sl,h'.get? b=some { o with slots:=sl }
section
variable {M:Model} {A:Around} {E:Value→Shared→Prop} {s:Shared}
theorem ZuB {base:Heap} {env:Env} {outer:List Env} {L e:Addr} {oe:Obj} {vs:Array Value} {head:Value} {nx:Bool} {Q:Unit→Shared→Prop} (hfr:A.frames=some (env :: outer)) (hl:s.heap.FunFrames base (env :: outer)) (hf:env.frame=some L)
  (he:s.heap.get? e=some oe) (hdi:oe.dict=none) (hd:oe.data=.fields vs) (hsz:1 < vs.size)
  (q:∀ h' T,Heap.Gone (ZDw (env :: outer)) [e] s.heap h'→s.heap.get? T=none→s.heap.objs.size≤T→h'.Tr e oe.cls T→Q () { s with heap:=h' }) :
  wpAny M A (do let a ← frameOf env; let pl ← entryPlaceOf L nx; let b ← EntryCells.newEntry head a .none (rawInt L) .none pl; setField (.ref e) 1 b) (fun _ s'=>wpAny M A (setFlight (.ref e) none) Q E s') E s:=by
 have hene:e ∉ ZDw (env :: outer):=fun hm=>by
  obtain ⟨_,o,ho,hnf⟩ :=hl.mem hm
  rw [he] at ho; injection ho with ho; subst ho; exact hnf vs hd
 refine wpAny_bind (wpAny_frameOf_fun hfr hl hf fun h₁ hs₁=>?_)
 refine wpAny_bind (wpAny_entryPlaceOf fun pl hpl=>?_)
 unfold EntryCells.newEntry newFields
 refine wpAny_bind (wpAny_newObj_type ?_ (hpl.sizeOk5 _ _ _ _ _))
 have he₁:h₁.get? e=some oe:=(hs₁.2.1 e hene).trans he
 generalize hrec:({ cls:=.type "traceback",dict:=none,data:=.fields ([head,.ref L,.none,rawInt L,.none] ++ (if pl.isEmpty then List.replicate 6 Value.none else pl)).toArray }:Obj)=rec
 have hfree:rec.isFreed=false:=by subst hrec; rfl
 have hrd:rec.data=.fields ([head,.ref L,.none,rawInt L,.none] ++ (if pl.isEmpty then List.replicate 6 Value.none else pl)).toArray:=by subst hrec; rfl
 have he₂:=Heap.get?_push_of_some (h:=h₁) rec he₁
 refine wpAny_setField he₂ hd hsz ?_
 have hTe:h₁.objs.size ≠ e:=Nat.ne_of_gt (Heap.lt_size he₁)
 have hd₃:=Obj.data_mapFields hd (·.setIfInBounds 1 (Value.ref h₁.objs.size))
 have he₃:=Heap.get?_update_self (Obj.mapFields (·.setIfInBounds 1 (Value.ref h₁.objs.size))) he₂ (Obj.isFreed_of_fields hd₃)
 have hT₃:=(Heap.get?_update_other (h₁.push rec) (Obj.mapFields (·.setIfInBounds 1 (Value.ref h₁.objs.size))) (Ne.symm hTe)).trans (Heap.get?_push_size h₁ hfree)
 unfold setFlight
 refine wpAny_bind (wpAny_field he₃ hd₃ (x:=.ref h₁.objs.size) (by simp [hsz]) ?_)
 rw [if_pos (show (Value.ref h₁.objs.size != Value.none)=true from by simp)]
 refine wpAny_setField hT₃ hrd (by simp only [List.size_toArray,List.length_append,List.length_cons,List.length_nil] <;> omega) ?_
 have keep:∀ b o,b ≠ e→h₁.get? b=some o→(((h₁.push rec).update e (Obj.mapFields (·.setIfInBounds 1 (Value.ref h₁.objs.size)))).update h₁.objs.size (Obj.mapFields (·.setIfInBounds 3 ((none:Option Addr).elim Value.none fun f=>rawInt f)))).get? b=some o:=fun b o hbe hb=>by
  have hbT:h₁.objs.size ≠ b:=Nat.ne_of_gt (Heap.lt_size hb)
  rw [Heap.get?_update_other _ _ hbT,Heap.get?_update_other _ _ (Ne.symm hbe)]
  exact Heap.get?_push_of_some _ hb
 refine q _ h₁.objs.size ⟨fun b o hb ho e'=>?_,fun b o hb ho e'=>?_⟩ (Heap.get?_none_of_le (by rw [hs₁.1]; exact Nat.le_refl _)) (by rw [hs₁.1]; exact Nat.le_refl _) ?_
 ·exact keep b o (fun z=>ho (by rw [z]; exact List.mem_singleton.mpr rfl)) ((hs₁.2.1 b hb).trans e')
 ·obtain ⟨sl,e2⟩ :=hs₁.2.2 b o e'
  exact ⟨sl,keep b _ (fun z=>ho (by rw [z]; exact List.mem_singleton.mpr rfl)) e2⟩
 ·refine ⟨_,_,_,_,?_,Obj.cls_mapFields _ _,(Obj.dict_mapFields _ _).trans hdi,hd₃,by simp [hsz],hTe,Heap.get?_update_self _ hT₃ (Obj.isFreed_of_fields (Obj.data_mapFields hrd _)),Obj.data_mapFields hrd _,by first | (simp; done) | (rcases hpl with rfl | ⟨_,_,_,_,_,_,_,rfl⟩ <;> simp)⟩
  rw [Heap.get?_update_other _ _ hTe]; exact he₃
theorem ZAG {base:Heap} {env:Env} {outer:List Env} {L e:Addr} {oe:Obj} {vs:Array Value} {Q:Unit→Shared→Prop} (hfr:A.frames=some (env :: outer)) (hl:s.heap.FunFrames base (env :: outer)) (hf:env.frame=some L)
  (he:s.heap.get? e=some oe) (hdi:oe.dict=none) (hd:oe.data=.fields vs) (h1:vs[1]?=some .none)
  (q:∀ h' T,Heap.Gone (ZDw (env :: outer)) [e] s.heap h'→s.heap.get? T=none→s.heap.objs.size≤T→h'.Tr e oe.cls T→Q () { s with heap:=h' }):wpAny M A (leaving env (.ref e)) Q E s:=by
 unfold leaving noteFrame
 simp only [hf]
 refine wpAny_bind (wpAny_bind (wpAny_field he hd h1 ?_))
 rw [if_neg (by decide)]
 exact ZuB hfr hl hf he hdi hd (Array.getElem?_eq_some_iff.mp h1).1 q
theorem Zy5 {base:Heap} {env:Env} {outer:List Env} {L e T:Addr} {cls:Value} {Q:Unit→Shared→Prop} (hfr:A.frames=some (env :: outer)) (hl:s.heap.FunFrames base (env :: outer)) (hf:env.frame=some L) (ht:s.heap.Tr e cls T)
  (q:∀ h' T',Heap.Gone (ZDw (env :: outer)) [e,T] s.heap h'→s.heap.get? T'=none→s.heap.objs.size≤T'→h'.Tr e cls T'→Q () { s with heap:=h' }):wpAny M A (noteFrame (.ref e) env) (fun _ s'=>wpAny M A (setFlight (.ref e) none) Q E s') E s:=by
 obtain ⟨oe,vs,oT,ts,he,hcls,hdi,hd,h1,hTe,hT,hdT,h3⟩ :=ht
 subst hcls
 unfold noteFrame
 simp only [hf]
 refine wpAny_bind (wpAny_field he hd h1 ?_)
 rw [if_pos (show (Value.ref T != Value.none)=true from by simp)]
 refine wpAny_bind (wpAny_field hT hdT h3 ?_)
 rw [if_neg (show ¬ ((Value.none == rawInt L)=true) from by simp [rawInt])]
 refine wpAny_bind (wpAny_setField hT hdT (Array.getElem?_eq_some_iff.mp h3).1 ?_)
 have other:∀ b,b ≠ T→(s.heap.update T (Obj.mapFields (·.setIfInBounds 3 Value.none))).get? b=s.heap.get? b:=fun b hb=>Heap.get?_update_other _ _ (Ne.symm hb)
 have noRec:∀ b o,s.heap.get? b=some o→(∀ vs,o.data ≠ .fields vs)→b ≠ T:=fun b o hb hnf z=>by
  rw [z,hT] at hb; injection hb with hb; subst hb; exact hnf ts hdT
 have hsz:(s.heap.update T (Obj.mapFields (·.setIfInBounds 3 Value.none))).objs.size=s.heap.objs.size:=Heap.size_after_update ..
 refine ZuB (s:={ s with heap:=s.heap.update T (Obj.mapFields (·.setIfInBounds 3 Value.none)) }) hfr (hl.of_keeps fun b o hb hnf=>⟨o,(other b (noRec b o hb hnf)).trans hb,rfl⟩) hf ((other e (Ne.symm hTe)).trans he) hdi hd (Array.getElem?_eq_some_iff.mp h1).1 fun h' T' g n le tr=>?_
 have le':s.heap.objs.size≤T':=by rw [← hsz]; exact le
 refine q h' T' ⟨fun b o hb ho e'=>?_,fun b o hb ho e'=>?_⟩ (Heap.get?_none_of_le le') le' tr
 ·have hbT:b ≠ T:=fun z=>ho (by simp [z])
  exact g.kept b o hb (fun z=>ho (by simp [List.mem_singleton.mp z])) ((other b hbT).trans e')
 ·have hbT:b ≠ T:=fun z=>ho (by simp [z])
  exact g.slot b o hb (fun z=>ho (by simp [List.mem_singleton.mp z])) ((other b hbT).trans e')
theorem ZCA {base:Heap} {env:Env} {outer:List Env} {L e T:Addr} {cls:Value} {Q:Unit→Shared→Prop} (hfr:A.frames=some (env :: outer)) (hl:s.heap.FunFrames base (env :: outer)) (hf:env.frame=some L) (ht:s.heap.Tr e cls T)
  (q:∀ h' T',Heap.Gone (ZDw (env :: outer)) [e,T] s.heap h'→s.heap.get? T'=none→s.heap.objs.size≤T'→h'.Tr e cls T'→Q () { s with heap:=h' }):wpAny M A (leaving env (.ref e)) Q E s:=by
 unfold leaving
 exact wpAny_bind (Zy5 hfr hl hf ht q)
end
end PySem
namespace L2
open PySem PySem.Spec PyProof.Rows
section
variable {P:Program} {w:World} {H H':Hp} {h h' h1 h2:Heap} {a:Addr} {o:HO} {fs own:List Addr}
theorem Zd0.at (x:Zd0 P w H h a o):∃ u,h.get? a=some u:=by
 cases o with
 | lst xs=>obtain ⟨_,_,_,_,e⟩ :=x; exact ⟨_,e⟩
 | tup xs=>obtain ⟨_,_,_,⟨_,e,_⟩⟩ :=x; exact ⟨_,e⟩
 | dK kvs=>obtain ⟨_,_,_,_,o,_,_,e,_⟩ :=x; exact ⟨_,e⟩
 | dT kvs=>obtain ⟨_,_,_,_,o,_,_,e,_⟩ :=x; exact ⟨_,e⟩
 | set S n=>obtain ⟨o,_,_,_,e,_⟩ :=x; exact ⟨_,e⟩
 | ins C dx fs=>obtain ⟨_,_,_,e,_⟩ :=x; exact ⟨_,e⟩
 | own y=>obtain ⟨_,e⟩ :=x; exact ⟨_,e⟩
 | xd fs=>obtain ⟨_,⟨_,_,_,e,_⟩,_⟩ :=x; exact ⟨_,e⟩
 | rng lo hi=>obtain ⟨_,_,_,e⟩ :=x; exact ⟨_,e⟩
 | frz ob u=>obtain ⟨e,_⟩ :=x; exact ⟨_,e⟩
 | tbl ps=>exact ⟨_,(show h.get? a=some _ from x)⟩
 | met f y=>exact ⟨_,(show h.get? a=some _ from x)⟩
 | ext φ=>obtain ⟨_,⟨_,e⟩,_⟩ :=x; exact ⟨_,e⟩
theorem HOk.out (x:HOk P w H h) (e:h.get? a=none):H a=none:=by
 cases q:H a with
 | none=>rfl
 | some u=>obtain ⟨v,z⟩ :=Zd0.at (x a u q); rw [e] at z; cases z
theorem ZAu (u:Un fs [] H H' h h1) (g:Heap.Gone fs own h1 h2) (hn:∀ b ∈ own,h.get? b=none):Un fs [] H H' h h2:=by
 have no:∀ b o,h.get? b=some o→b ∉ own:=fun b o e z=>by rw [hn b z] at e; cases e
 refine ⟨fun b o e n hf hx=>g.kept b o hf (no b o e) (u.keep b o e n hf hx),fun b o e n hf hx=>?_,u.free,fun b o e hx=>?_,u.tups,u.frzs,u.tbls⟩
 ·obtain ⟨sl,q⟩ :=u.slot b o e n hf hx
  obtain ⟨sl',q'⟩ :=g.slot b _ hf (no b o e) q
  exact ⟨sl',q'⟩
 ·obtain ⟨o',q⟩ :=u.there b o e hx
  by_cases hf:b ∈ fs
  ·obtain ⟨sl',q'⟩ :=g.slot b _ hf (no b o e) q
   exact ⟨_,q'⟩
  ·exact ⟨_,g.kept b _ hf (no b o e) q⟩
theorem ZwW (x:HOk P w H h) (g:Heap.Gone fs own h h2) (hf:∀ b ∈ fs,H b=none) (ho:∀ b ∈ own,H b=none):HOk P w H h2:=fun b u e=>by
 refine (x b u e).stay (fun c v hc q=>?_) (fun _ q=>q) fun _ _ q=>q
 have hs:∃ z,H c=some z:=by
  rcases hc with z | z
  ·rw [z]; exact ⟨_,e⟩
  ·exact ⟨_,z⟩
 obtain ⟨z,hz⟩ :=hs
 exact g.kept c v (fun m=>by rw [hf c m] at hz; cases hz) (fun m=>by rw [ho c m] at hz; cases hz) q
end
def CX1 (P:Program) (w:World):CXT:=fun outer H s E e s'=>∃ ea T C H',e=.ref ea∧s'.os=s.os∧AllBare s'.gens∧Un (frs outer) [] H H' s.heap s'.heap∧HOk P w H' s'.heap∧H' ea=none∧H' T=none∧
 s.heap.get? ea=none∧s.heap.get? T=none∧s'.heap.Tr ea (.ref C) T∧E (.ref C) none H'
def Lets (X:Cx) (E:XK):Prop:=∀ (pins:List (Addr × Obj)) (σ:St) (H:Hp) (s:Shared) (h':Heap) (e C:Addr) (args:List Value),Inv X pins σ H s→Heap.MadeExcOf s.heap h' e (.ref C) args→E (.ref C) none H→X.xe (.ref e) { s with heap:=h' }
section
variable {P:Program} {w:World} {K:PySem.W.Frag} {mg:Str→Option Value} {base:Heap} {N:List Str} {qual:Str} {scope:Scope} {f:Addr} {cd:Value} {A:Around} {outer:List Env} {s:Shared} {H:Hp} {E:XK}
theorem ZFU:Lets (cxOf (CX1 P w) P w K mg base N qual scope f cd A outer s H E) E:=by
 intro pins σ H1 s1 h' e C args I hm hE
 obtain ⟨t,ho,_,_⟩ :=hm.there
 have I1:Inv (cxOf (CX1 P w) P w K mg base N qual scope f cd A outer s H E) pins σ H1 { s1 with heap:=h' }:=I.kept (t':=s1.toks) hm.keeps
 show wpAny _ _ (leaving _ _) _ _ _
 refine ZAG (s:={ s1 with heap:=h' }) I.ok.frames I1.stack rfl ho rfl rfl (by simp) fun h2 T g nT _ tr=>?_
 have He:H1 e=none:=I.hok.out hm.new
 have HT:H1 T=none:=I1.hok.out nT
 have un:Un (frs (cxOf (CX1 P w) P w K mg base N qual scope f cd A outer s H E).stack) [] H1 H1 s1.heap h2:=ZAu (Un.kept hm.keeps) g (fun b hb=>by rw [List.mem_singleton.mp hb]; exact hm.new)
 have hk:HOk P w H1 h2:=ZwW I1.hok g I1.stkFree (fun b hb=>by rw [List.mem_singleton.mp hb]; exact He)
 have I2:Inv (cxOf (CX1 P w) P w K mg base N qual scope f cd A outer s H E) pins σ H1 { s1 with heap:=h2 }:=I.call (g':=s1.gens) (t':=s1.toks) (d':=s1.drawn) (ch:=[]) un hk I.bare (fun b z=>absurd z (by simp))
 have back:∀ b,s1.heap.get? b=none→s.heap.get? b=none:=fun b hb=>by
  cases q:s.heap.get? b with
  | none=>rfl
  | some o=>
   obtain ⟨o',z⟩ :=I.base.there b o q (by show b ∉ []; simp)
   rw [hb] at z; cases z
 have nT1:s1.heap.get? T=none:=by
  cases q:s1.heap.get? T with
  | none=>rfl
  | some o=>have z:=hm.keeps T o q; rw [show h'.get? T=none from nT] at z; cases z
 exact ⟨e,T,C,H1,rfl,I.os,I.bare,I2.base,hk,He,HT,back e hm.new,back T nT1,tr,hE⟩
theorem ZIr:ZnG (CX1 P w) (cxOf (CX1 P w) P w K mg base N qual scope f cd A outer s H E) E:=by
 intro pins σ H1 s1 e s2 I hx
 obtain ⟨ea,T,C,H2,rfl,os,bare,un,hok,He,HT,ne,nT,tr,hE⟩ :=hx
 have I2:Inv (cxOf (CX1 P w) P w K mg base N qual scope f cd A outer s H E) pins σ H2 s2:=I.call' (ch:=[]) os un hok bare (fun b z=>absurd z (by simp))
 show wpAny _ _ (leaving _ _) _ _ _
 refine ZCA I.ok.frames I2.stack rfl tr fun h3 T' g nT' _ tr'=>?_
 have HT':H2 T'=none:=hok.out nT'
 have un3:Un (frs (cxOf (CX1 P w) P w K mg base N qual scope f cd A outer s H E).stack) [] H1 H2 s1.heap h3:=ZAu un g (fun b hb=>by
  rcases List.mem_cons.mp hb with z | z
  ·rw [z]; exact ne
  ·rw [List.mem_singleton.mp z]; exact nT)
 have hk:HOk P w H2 h3:=ZwW hok g I2.stkFree (fun b hb=>by
  rcases List.mem_cons.mp hb with z | z
  ·rw [z]; exact He
  ·rw [List.mem_singleton.mp z]; exact HT)
 have I3:Inv (cxOf (CX1 P w) P w K mg base N qual scope f cd A outer s H E) pins σ H2 { s2 with heap:=h3 }:=I.call' (s':={ s2 with heap:=h3 }) (ch:=[]) os un3 hk bare (fun b z=>absurd z (by simp))
 have back:∀ b,s1.heap.get? b=none→s.heap.get? b=none:=fun b hb=>by
  cases q:s.heap.get? b with
  | none=>rfl
  | some o=>
   obtain ⟨o',z⟩ :=I.base.there b o q (by show b ∉ []; simp)
   rw [hb] at z; cases z
 have nT1:s.heap.get? T'=none:=by
  cases q:s.heap.get? T' with
  | none=>rfl
  | some o=>
   obtain ⟨o',z⟩ :=I2.base.there T' o q (by show T' ∉ []; simp)
   rw [nT'] at z; cases z
 exact ⟨ea,T',C,H2,rfl,I3.os,bare,I3.base,hk,He,HT',back ea ne,nT1,tr',hE⟩
end
theorem Fun.ok1 {P:Program} {w:World} {K:PySem.W.Frag} {mg:Str→Option Value} {base:Heap} {x qual:Str} {st:Stmt} {f:Addr} {fd:FuncData} {N ps:List Str} {k:Nat} {sp:Sp} (F:Fun K x qual st f fd) (S:FnScope N ps (Zab st)) (len:∀ vs H Q E,sp vs H Q E→vs.length=ps.length)
  (hbody:∀ (cdv:Value) (A:Around) (outer:List Env) (s:Shared) (H:Hp) (vs:List V) (Q:VK) (E:XK),Room k (A.deeper (envOfC qual (Zab st) s.heap.objs.size f cdv))→sp vs H Q E→
   ∃ t,PSs (cxOf (CX1 P w) P w K mg base N qual (Zab st) f cdv A outer s H E) (Zah st) t∧t { nx:=fun _ H'=>Q .non H',rt:=Q } (start N vs) H):FnOk P w K mg base (CX1 P w) (k + 1) f fd ps sp:=by
 obtain ⟨oc,od,kV,doc,pm,an,cdv,ct,osl,rfl,lk,hcd⟩ :=F.ex
 exact ZJc lk hcd S len fun A outer s H vs Q E hr hsp=>hbody cdv A outer s H vs Q E hr hsp
end L2
set_option maxRecDepth 100000
namespace L2
open PySem PySem.Spec PyProof.Rows
abbrev vErr:List Value:=[.type "ValueError",.type "Exception",.type "BaseException",.type "object"]
abbrev ZBa (K:PySem.W.Frag) (C:Addr):Prop:=PySem.W.excIn K C vErr "ValueError.__new__" = true
theorem ZI9 {K:PySem.W.Frag} {h:Heap} {C:Addr} (X:K.In h) (q:ZBa K C):∃ bm N nm qn bs hdct sn sub ab col dd k0 k1 k2 k3 k5 mN,
  h.get? C=some (excClassObj nm qn C N bs bm hdct sn sub ab col dd k0 k1 k2 k3 k5 "ValueError.__new__")∧h.Ns N mN∧mN "__init__" = none∧OwnTail h vErr bm:=by
 unfold ZBa PySem.W.excIn at q
 split at q
 ·rename_i dd cd sl ho
  split at q
  ·rename_i C' bm k0 k1 k2 k3 n k5 hm hs
   simp only [Bool.and_eq_true,beq_iff_eq,Bool.not_eq_true'] at q
   obtain ⟨⟨⟨⟨⟨rfl,rfl⟩,hdel⟩,ht⟩,hok⟩,hni⟩ :=q
   obtain ⟨nm,bs,mro,ns,qn,hd,sn,sub,ab,col,del⟩ :=cd
   dsimp only at hm hdel hok hni
   subst hm hdel
   have hsl:sl = #[k0,k1,k2,k3,some (.builtin "ValueError.__new__"),k5]:=by
    obtain ⟨l⟩ :=sl
    simp only at hs
    rw [hs]
   subst hsl
   exact ⟨bm,ns,nm,qn,bs,hd,sn,sub,ab,col,dd,k0,k1,k2,k3,k5,_,X _ _ ho,.of_isNs (PySem.W.isNs_of_in X hok),PySem.W.nsMap_none_of_in X hok hni,PySem.W.tail_of_in X ht⟩
  ·cases q
 ·cases q
section
variable {X:Cx} {E:XK} {C:Addr} {x:Str} {np cpos pos:Pos} {e:Expr} {es:List Expr} {t:TA}
def ZHB (C:Addr) (E:XK) (t:TA):TS:=fun _ σ H=>t σ H fun vs H1=>vs.length≤9∧E (.ref C) none H1
theorem ZtD (hc:X.calm=true) (hl:Lets X E) (q:ZBa X.K C) (hg:Gl X x) (hm:X.mg x=some (.ref C)) (ha:PA X (e :: es) t) (hdb:(x == ("__debug__" : Str))=false:=by decide)
  (he:starEach (e :: es) X.env=(false,eval e X.env) :: starEach es X.env:=by rfl) (hpl:(backTo cpos (starEach es X.env)).any (·.1)=false:=by rfl) :
  PS X (.Raise (some (.Call (.Name x np) (e :: es) [] cpos)) none pos) (ZHB C E t):=by
 intro pins s σ H D I h
 obtain ⟨tl,N,nm,qn,bs,hdct,sn,sub,ab,col,dd,k0,k1,k2,k3,k5,mN,hC,hN,hni,T⟩ :=ZI9 I.mod.kin q
 have F:=PySem.F.excBase_ValueError
 refine wpAny_Raise_call_subU (C:=C) (nm:=nm) (q:=qn) (N:=N) (bs:=bs) (bm:=tl) (hdct:=hdct) (sn:=sn) (sub:=sub) (ab:=ab) (col:=col) (dd:=dd) (k0:=k0) (k1:=k1) (k2:=k2) (k3:=k3) (k5:=k5)
  F F.hasB F (mN:=mN) (T.hasType F.hasBase) (I.ok.hd hc) (by rw [he]; show (false || (backTo cpos (starEach es X.env)).any (·.1))=false; rw [hpl]; rfl) hni (ZkO I hg hm ⟨rfl,?_⟩ hdb)
 have h2:=ha cpos pins s σ H _ I h
 rw [he] at h2 ⊢
 refine Calls.evalArgs_plain (wpAny_mono h2 (fun vs s2 h3=>?_) fun _ _ y=>y)
 obtain ⟨us,H2,I2,r,hlen,hE⟩ :=h3
 refine ⟨rfl,?_,I2.bk _ _ hC,hN.keeps I2.bk,T.keeps I2.bk,fun h' e hm=>hl pins σ H2 s2 h' e C vs I2 hm hE⟩
 show vs.length≤sizeLine
 rw [← r.length]; exact Nat.le_trans hlen (by decide)
end
def XP (X:Cx) (pins:List (Addr × Obj)) (σ:St) (E:XK) (e:Value) (s':Shared):Prop:=∃ s1 H1,Inv X pins σ H1 s1∧CX1 X.prog X.w X.stack H1 s1 E e s'
abbrev TEx:=St→Hp→VK→XK→Prop
def PEx (X:Cx) (e:Expr) (t:TEx):Prop:=∀ (pins:List (Addr × Obj)) (s:Shared) (σ:St) (H:Hp) (Q:VK) (E:XK),Inv X pins σ H s→t σ H Q E→wpAny (model X.prog X.w) X.A (eval e X.env) (EP X pins σ Q) (XP X pins σ E) s
section
variable {X:Cx} {k:Nat} {f C:Addr} {fd:FuncData} {ps:List Str} {sp:Sp} {dvs:List V} {ds:List Value} {x m:Str} {p pos apos:Pos} {e o:Expr} {es:List Expr} {ta:TE} {t:TA}
theorem ZIA {pins:List (Addr × Obj)} {σ:St} {H:Hp} {s:Shared} {Q:VK} {E:XK} {us:List Value} {vs:List V} (F:FnOk X.prog X.w X.K X.mg X.base (CX1 X.prog X.w) k f fd ps sp) (hr:Room k X.A) (hb:Za0 X.K fd ps ds) (hd:Vals dvs ds)
  (I:Inv X pins σ H s) (r:Vals vs us) (h:sp (vs ++ dvs) H Q E):wpAny (model X.prog X.w) X.A (call (.ref f) us) (EP X pins σ Q) (XP X pins σ E) s:=by
 have r2:Vals (vs ++ dvs) (us ++ ds):=r.append hd
 have hl:(us ++ ds).length=ps.length:=by rw [← r2.length]; exact F.len _ _ _ _ h
 refine wpAny_call (codeAny_mono (F.run X.A X.stack s H ⟨us,[]⟩ (us ++ ds) (vs ++ dvs) Q E hr I.env0 (hb s us I.kIn hl) r2 h) fun r s' hq=>?_)
 cases r with
 | error e=>exact ⟨s,H,I,hq⟩
 | ok fl=>
  cases fl with
  | ret u=>exact I.after hq
  | next=>exact False.elim hq
  | brk=>exact False.elim hq
  | cont=>exact False.elim hq
def ZFb (sp:Sp) (dvs:List V) (t:TA):TEx:=fun σ H Q E=>t σ H fun vs H1=>sp (vs ++ dvs) H1 Q E
theorem ZGd (F:FnOk X.prog X.w X.K X.mg X.base (CX1 X.prog X.w) k f fd ps sp) (hr:Room k X.A) (hg:Gl X x) (hm:X.mg x=some (.ref f)) (hk:PySem.W.keepIn X.K (.ref f)=true) (hb:Za0 X.K fd ps ds) (hd:Vals dvs ds)
  (ha:PA X.nox (e :: es) t) (hdb:(x == ("__debug__" : Str))=false:=by decide) (he:starEach (e :: es) X.env=(false,eval e X.env) :: starEach es X.env:=by rfl) (hpl:(backTo pos (starEach es X.env)).any (·.1)=false:=by rfl) :
  PEx X (.Call (.Name x p) (e :: es) [] pos) (ZFb sp dvs t):=by
 intro pins s σ H Q E I h
 refine wpAny_Call_Name_kw (ZkO I hg hm ?_ hdb)
 refine PySem.W.callWith_K (h₀:=X.base) I.ok.mod.kin hk (wpAny_mono (ha pos pins s σ H _ (I.wish _) h) (fun us s1 ⟨vs,H1,I1,r,q⟩ =>⟨I1.unwish.kIn,?_⟩) fun _ _ z=>False.elim z) he hpl
 exact ZIA F hr hb hd I1.unwish r q
end
structure Caught (X:Cx) (pins:List (Addr × Obj)) (σ:St) (H:Hp) (s:Shared) (ea T C:Addr):Prop where
 inv:Inv X pins σ H s
 from_:∃ s1 H1,Inv X pins σ H1 s1∧s.os=s1.os∧Un (frs X.stack) [] H1 H s1.heap s.heap∧s1.heap.get? ea=none∧s1.heap.get? T=none
 he:H ea=none
 hT:H T=none
 tr:s.heap.Tr ea (.ref C) T
section
variable {X:Cx} {pins:List (Addr × Obj)} {σ:St} {H:Hp} {s:Shared} {ea T T' C:Addr} {h':Heap}
theorem Inv.new (I:Inv X pins σ H s) {b:Addr} (n:s.heap.get? b=none):b ≠ X.env.locals∧b ∉ X.fs∧∀ p ∈ X.pn ++ pins,p.1 ≠ b:=by
 refine ⟨fun z=>?_,fun z=>?_,fun p hp z=>?_⟩
 ·obtain ⟨m,⟨o,es,ep,ho,_⟩,_⟩ :=I.loc
  rw [z,ho] at n; cases n
 ·obtain ⟨_,o,ho,_⟩ :=I.funs.mem z
  rw [n] at ho; cases ho
 ·have q:=(I.pin p hp).1
  rw [z,n] at q; cases q
theorem Caught.gone (c:Caught X pins σ H s ea T C) (g:Heap.Gone (frs X.stack) [ea,T] s.heap h') (hn:T'=T∨s.heap.get? T'=none) (tr:h'.Tr ea (.ref C) T'):Caught X pins σ H { s with heap:=h' } ea T' C:=by
 obtain ⟨s1,H1,I1,os,un,ne,nT⟩ :=c.from_
 have un2:=ZAu un g (fun b hb=>by
  rcases List.mem_cons.mp hb with z | z
  ·rw [z]; exact ne
  ·rw [List.mem_singleton.mp z]; exact nT)
 have hk:HOk X.prog X.w H h':=ZwW c.inv.hok g c.inv.stkFree (fun b hb=>by
  rcases List.mem_cons.mp hb with z | z
  ·rw [z]; exact c.he
  ·rw [List.mem_singleton.mp z]; exact c.hT)
 have nT':s1.heap.get? T'=none:=by
  rcases hn with z | z
  ·rw [z]; exact nT
  ·cases q:s1.heap.get? T' with
   | none=>rfl
   | some o=>
    obtain ⟨o',q'⟩ :=un.there T' o q (by simp)
    rw [z] at q'; cases q'
 refine ⟨I1.call' (s':={ s with heap:=h' }) (ch:=[]) os un2 hk c.inv.bare (fun b z=>absurd z (by simp)),⟨s1,H1,I1,os,un2,ne,nT'⟩,c.he,?_,tr⟩
 rcases hn with z | z
 ·rw [z]; exact c.hT
 ·exact c.inv.hok.out z
theorem ZpD {M:Model} {A:Around} {E:Value→Shared→Prop} {Q:Unit→Shared→Prop} (c:Caught X pins σ H s ea T C) (q:∀ h',Caught X pins σ H { s with heap:=h' } ea T C→Q () { s with heap:=h' }):wpAny M A (setFlight (.ref ea) none) Q E s:=by
 obtain ⟨oe,vs,oT,ts,he,hcls,hdi,hd,h1,hTe,hT,hdT,h3⟩ :=id c.tr
 refine wpAny_setFlight_none he hd h1 hT hdT (Array.getElem?_eq_some_iff.mp h3).1 (q _ ?_)
 have other:∀ b,b ≠ T→(s.heap.update T (Obj.mapFields (·.setIfInBounds 3 Value.none))).get? b=s.heap.get? b:=fun b hb=>Heap.get?_update_other _ _ (Ne.symm hb)
 have hd':=Obj.data_mapFields hdT (·.setIfInBounds 3 Value.none)
 refine c.gone ⟨fun b o hf ho e=>(other b fun z=>ho (by simp [z])).trans e,fun b o hf ho e=>⟨o.slots,(other b fun z=>ho (by simp [z])).trans e⟩⟩ (.inl rfl)
  ⟨oe,vs,_,_,(other ea (Ne.symm hTe)).trans he,hcls,hdi,hd,h1,hTe,Heap.get?_update_self _ hT (Obj.isFreed_of_fields hd'),hd',?_⟩
 simp [(Array.getElem?_eq_some_iff.mp h3).1]
theorem ZAp {M:Model} {E:Value→Shared→Prop} {Q:Unit→Shared→Prop} {EX:XK} {e:Value} (hst:X.stack=X.env :: X.outer) (hf:X.env.frame=some X.env.locals) (h:XP X pins σ EX e s)
  (q:∀ ea T C H' h',e=.ref ea→EX (.ref C) none H'→Caught X pins σ H' { s with heap:=h' } ea T C→Q () { s with heap:=h' }) :
  wpAny M X.A (noteFrame e X.env) (fun _ s'=>wpAny M X.A (setFlight e none) Q E s') E s:=by
 obtain ⟨s1,H1,I1,ea,T,C,H2,rfl,os,bare,un,hok,He,HT,ne,nT,tr,hE⟩ :=h
 have I2:Inv X pins σ H2 s:=I1.call' (ch:=[]) os un hok bare (fun b z=>absurd z (by simp))
 have c:Caught X pins σ H2 s ea T C:=⟨I2,⟨s1,H1,I1,os,un,ne,nT⟩,He,HT,tr⟩
 refine Zy5 (base:=X.base) (env:=X.env) (outer:=X.outer) (by rw [I2.ok.frames,hst]) (by have:=I2.stack; rwa [hst] at this) hf tr fun h3 T' g nT' _ tr'=>q ea T' C H2 h3 rfl hE (c.gone (T':=T') ?_ (.inr nT') tr')
 rw [hst]; exact g
end
abbrev TSx:=Ends→(St→XK)→St→Hp→Prop
def PSx (X:Cx) (b:List Stmt) (t:TSx):Prop:=∀ (pins:List (Addr × Obj)) (s:Shared) (σ:St) (H:Hp) (D:Ends) (E:St→XK),Inv X pins σ H s→t D E σ H→wpAny (model X.prog X.w) X.A (execs b X.env) (SP X pins D) (fun e s'=>∃ σ',XP X pins σ' (E σ') e s') s
def PH (X:Cx) (hs:List ExceptHandler) (t:Addr→TS):Prop:=∀ (pins:List (Addr × Obj)) (s:Shared) (σ:St) (H:Hp) (D:Ends) (ea T C:Addr),Caught X pins σ H s ea T C→t C D σ H→wpAny (model X.prog X.w) X.A (handleBy (.ref ea) X.env hs) (SP X pins D) X.xe s
def tTry (tb:TSx) (th:Addr→TS):TS:=fun D σ H=>tb D (fun σ' v _ H'=>∃ C,v=.ref C∧th C D σ' H') σ H
section
variable {X:Cx} {b:List Stmt} {h₀:ExceptHandler} {hs:List ExceptHandler} {tb:TSx} {th:Addr→TS} {pos:Pos} {e:Expr} {te:TEx}
theorem ZHt (hb:PSx X b tb) (hh:PH X (h₀ :: hs) th) (hst:X.stack=X.env :: X.outer:=by rfl) (hf:X.env.frame=some X.env.locals:=by rfl):PS X (.Try b (h₀ :: hs) [] [] pos) (tTry tb th):=by
 intro pins s σ H D I h
 refine wpAny_Try_except (wpAny_mono (hb pins s σ H D _ I h) (fun fl s1 h1=>?_) fun e s1 h1=>?_)
 ·cases fl with
  | next=>exact wpAny_execs_nil h1
  | brk=>exact h1
  | cont=>exact h1
  | ret u=>exact h1
 ·obtain ⟨σ',hx⟩ :=h1
  refine ZAp hst hf hx fun ea T C H' h' e1 hE c=>?_
  subst e1
  obtain ⟨C',hC,ht⟩ :=hE
  cases hC
  exact hh pins _ σ' H' D ea T C c ht
theorem ZB1 {pos:Pos} (he:PEx X e te) (hs:swapsWith e none pos.line X.env=pure false:=by rfl):PSx X [.Expr e pos] (fun D E σ H=>te σ H (fun _ H'=>D.nx σ H') (E σ)):=by
 intro pins s σ H D E I h
 refine wpAny_execs_cons (wpAny_Expr_any (wpAny_mono (he pins s σ H _ _ I h) (fun u s1 h1=>?_) fun e s1 h1=>⟨σ,h1⟩) I.quiet hs)
 obtain ⟨v,H',I',r,q⟩ :=h1
 exact wpAny_execs_nil ⟨σ,H',I',q⟩
end
end L2
set_option maxRecDepth 100000
namespace L2
open PySem PySem.Spec PyProof.Rows
structure ExcK (K:PySem.W.Frag) (C:Addr):Prop where
 own:ZBa K C
 cl:(PySem.W.clsIn K C).isSome=true
 ga:PySem.W.findIn K (.ref C) "__getattribute__" = some (some (.builtin "BaseException.__getattribute__"))
 gb:PySem.W.findIn K (.ref C) "__getattr__" = some none
 cc:PySem.W.findIn K (.ref C) "__class__" = some (some (.builtin "object.__class__"))
 mb:PySem.W.mroIn K C (.type "BaseException")=some true
 mo:PySem.W.mroIn K C (.type "object")=some true
section
variable {prog:Program} {w:World} {A:Around} {E:Value→Shared→Prop} {h:Heap} {g:Array GenState} {d:Drawn} {t:Nat} {os:OsState} {a C:Addr} {o:Obj} {K:PySem.W.Frag}
theorem ZDq {M:Model} {nameV:Value} {Q:Unit→Shared→Prop} (X:K.In h) (c:ExcK K C) (I:PySem.W.InstAt h a o C none) (hq:Q () ⟨h,g,d,t,os⟩):wpAny M A (checkBuiltinCall "BaseException.__getattribute__" ⟨[.ref a,nameV],[]⟩) Q E ⟨h,g,d,t,os⟩ :=by
 have hk:builtinKind "BaseException.__getattribute__" = some .slot:=by decide +kernel
 have hsplit:splitId "BaseException.__getattribute__" = some ("BaseException","__getattribute__"):=by decide +kernel
 have ha:=F.args_bexc_ga (.ref a) nameV
 have L0:=I.type (M:=M)
 have L1:=PySem.W.looks_mroIn (M:=M) X c.mb
 simp only [checkBuiltinCall,hk,hsplit]
 refine wpAny_bind ?_
 ·unfold isInstance
  repeat (first | with_reducible refine L0.at ?_ | with_reducible refine L1.at ?_ | wp_step)
  exact hq
theorem ZDs {tk:Tok} {Q:Fin→Shared→Prop} (X:K.In h) (c:ExcK K C) (I:PySem.W.InstAt h a o C none) (hq:Q (.done (.ret (.ref C))) ⟨h,g,d,t,os⟩) :
  wpAny (model prog w) A (Builtin.«object.__getattribute__» ⟨[.ref a,.str "__class__" tk],[]⟩) Q E ⟨h,g,d,t,os⟩ :=by
 have hT5:(⟨h,g,d,t,os⟩ : Shared).TypeIs (.builtin "object.__class__") "getset_descriptor":=F.typeOf_object_class
 have f5:=F.typeOf_object_class
 have f6:=F.slot_gs_get.lookup
 have f7:=F.slot_gs_set.lookup
 have L0:=I.type (M:=model prog w)
 have L1:=PySem.W.looks_findIn (M:=model prog w) X c.cc
 repeat (any_goals (first | assumption | with_reducible refine L0.at ?_ | with_reducible refine L1.at ?_ | wp_step))
 refine PySem.W.class_get (s:=⟨h,g,d,t,os⟩) X I c.mo ?_
 repeat (any_goals (first | assumption | wp_step))
theorem ZJa {tk:Tok} {Q:Value→Shared→Prop} (X:K.In h) (c:ExcK K C) (I:PySem.W.InstAt h a o C none) (hq:Q (.ref C) ⟨h,g,d,t,os⟩):wpAny (model prog w) A (getAttrBy (.ref a) (.str "__class__" tk) false) Q E ⟨h,g,d,t,os⟩ :=by
 have f3:=PySem.F.attr_ValueError.ga.bind (.ref a)
 have hx2:(Value.builtin "BaseException.__getattribute__" == Value.builtin "object.__getattribute__")=false:=by decide +kernel
 have hx1:(onTheHeap (Value.ref C) && Value.builtin "BaseException.__getattribute__" == Value.builtin "object.__getattribute__")=false:=by rw [hx2]; rfl
 have L0:=I.type (M:=model prog w)
 have L1:=PySem.W.looks_findIn (M:=model prog w) X c.ga
 have L2:=PySem.W.looks_findIn (M:=model prog w) X c.gb
 repeat (any_goals (first | assumption | with_reducible refine L0.at ?_ | with_reducible refine L1.at ?_ | with_reducible refine L2.at ?_ | wp_step))
 refine codeAny_call_builtin PySem.F.attr_ValueError.ga.plain F.entry_bexc_ga (ZDq X c I (ZDs X c I ?_))
 repeat (any_goals (first | assumption | wp_step))
theorem ZDr {Q:Option Value→Shared→Prop} (X:K.In h) (c:ExcK K C) (I:PySem.W.InstAt h a o C none) (hq:Q (some (.ref C)) ⟨h,g,d,t + 1,os⟩):wpAny (model prog w) A (getAttr? (.ref a) "__class__") Q E ⟨h,g,d,t,os⟩ :=by
 unfold getAttr? getAttrBy?
 repeat (any_goals (first | assumption | with_reducible apply ZJa X c I | wp_step))
theorem Znj (c:ExcK K C):PySem.W.KitX K (.ref a) (.ref C) (fun h=>∃ o,PySem.W.InstAt h a o C none) where
 ty:=fun _ _ _ ⟨_,I⟩ =>I.type
 it:=fun _ _ X _=>by
  have hcD:=c.cl
  unfold PySem.W.clsIn at hcD
  split at hcD
  ·rename_i c' d' cd' sl' ho
   intro A' Q' E' s' k q
   unfold isType loadHead
   exact wpAny_bind (wpAny_loadPart (k _ _ (X _ _ ho)) (wpAny_pure q))
  ·cases hcD
 ne:=fun h tp dd its n sl X htp=>by
  have hcD:=c.cl
  refine Bool.eq_false_iff.mpr fun q=>?_
  have e:C=tp:=Value.ref.inj (beq_iff_eq.mp q)
  subst e
  unfold PySem.W.clsIn at hcD
  split at hcD
  ·rename_i c' d' cd' sl' ho
   have z:=(X _ _ ho).symm.trans htp
   cases z
  ·cases hcD
 ca:=fun {_ _ _ _ _ s} X ⟨_,I⟩ k=>by obtain ⟨h,g,d,t,os⟩ :=s; exact ZDr X c I k
theorem Zun {M:Model} {C':Addr} {b:Bool} {Q:Bool→Shared→Prop} (X:K.In h) (I:PySem.W.InstAt h a o C none) (ty:PySem.W.typeIn K (.ref C')=some (.type "type")) (cl:(PySem.W.clsIn K C').isSome=true) (mb:PySem.W.mroIn K C' (.type "BaseException")=some true) (e:PySem.W.mroIn K C (.ref C')=some b)
  (hq:Q b ⟨h,g,d,t,os⟩):wpAny M A (excMatches (.ref a) (.ref C')) Q E ⟨h,g,d,t,os⟩ :=by
 have f:=tc_notTuple
 have L0:=I.type (M:=M)
 have L1:=PySem.W.looks_typeIn (M:=M) X ty
 have L2:=PySem.W.looks_mroIn (M:=M) X mb
 have L3:=PySem.W.looks_mroIn (M:=M) X e
 have L4:PySem.W.Looks M h (isType (.ref C')) true:=by
  unfold PySem.W.clsIn at cl
  split at cl
  ·rename_i c' d' cd' sl' ho
   intro A' Q' E' s' k q
   unfold isType loadHead
   exact wpAny_bind (wpAny_loadPart (k _ _ (X _ _ ho)) (wpAny_pure q))
  ·cases cl
 unfold excMatches isInstance isExcClass
 repeat (first | with_reducible refine L0.at ?_ | with_reducible refine L1.at ?_ | with_reducible refine L2.at ?_ | with_reducible refine L3.at ?_ | with_reducible refine L4.at ?_ | wp_step)
 cases b <;> first | exact hq | (wp_walk; exact hq) | skip
end
abbrev Cx.hand (X:Cx) (ea:Addr) (pn':List (Addr × Obj)):Cx:={ X with A:=X.A.mark (some (.ref ea)),calm:=false,pn:=pn',xe:=fun _ _=>False }
section
variable {X:Cx} {pins l:List (Addr × Obj)} {σ:St} {H:Hp} {s:Shared} {ea T C:Addr} {h':Heap} {oe:Obj}
theorem Caught.inst (c:Caught X pins σ H s ea T C):∃ oe,PySem.W.InstAt s.heap ea oe C none∧∀ v,oe.data ≠ .cell v:=by
 obtain ⟨oe,vs,oT,ts,he,hcls,hdi,hd,_⟩ :=c.tr
 refine ⟨oe,⟨he,hcls,?_,?_⟩,fun v z=>?_⟩
 ·unfold PySem.W.notCls; rw [hd]
 ·rw [hdi]; trivial
 ·rw [hd] at z; cases z
theorem Cx.Ok.hand (ok:X.Ok) (pn':List (Addr × Obj)):(X.hand ea pn').Ok:=
 ⟨ok.mod,ok.kind,ok.glob,ok.blt,ok.above,ok.inj,ok.has,ok.cab,fun z=>Bool.noConfusion z,ok.frames,ok.stk,ok.exf,ok.bs,ok.bsz,ok.noex,ok.exfs,ok.funs,ok.frf⟩
theorem Caught.hand (c:Caught X pins σ H s ea T C) (I:PySem.W.InstAt s.heap ea oe C none) (nc:∀ v,oe.data ≠ .cell v):Inv (X.hand ea (X.pn ++ pins ++ [(ea,oe)])) [] σ H s:=by
 have J:=c.inv
 refine ⟨J.ok.hand _,J.os,J.bare,J.base,J.loc,J.cell,J.free,J.freeC,fun p hp=>?_,J.hok,J.len⟩
 have hp':p ∈ X.pn ++ pins∨p=(ea,oe):=by
  rcases List.mem_append.mp hp with z | z
  ·rcases List.mem_append.mp z with z | z
   ·exact .inl z
   ·exact .inr (List.mem_singleton.mp z)
  ·cases z
 rcases hp' with z | z
 ·exact J.pin p z
 ·subst z
  obtain ⟨s1,H1,I1,_,_,ne,_⟩ :=c.from_
  obtain ⟨n1,n2,_⟩ :=I1.new ne
  exact ⟨I.at_,c.he,n1,n2,nc⟩
theorem Inv.unhand (ok:X.Ok) (J:Inv (X.hand ea (X.pn ++ pins ++ l)) [] σ H s):Inv X pins σ H s:=
 ⟨ok,J.os,J.bare,J.base,J.loc,J.cell,J.free,J.freeC,fun p hp=>J.pin p (List.mem_append_left _ (List.mem_append_left _ hp)),J.hok,J.len⟩
theorem SP.unhand {D:Ends} {f:Flow} {s':Shared} (ok:X.Ok) (h:SP (X.hand ea (X.pn ++ pins ++ l)) [] D f s'):SP X pins D f s':=by
 cases f with
 | next=>obtain ⟨σ',H',I,q⟩ :=h; exact ⟨σ',H',I.unhand ok,q⟩
 | brk=>obtain ⟨σ',H',I,q⟩ :=h; exact ⟨σ',H',I.unhand ok,q⟩
 | cont=>obtain ⟨σ',H',I,q⟩ :=h; exact ⟨σ',H',I.unhand ok,q⟩
 | ret u=>obtain ⟨v,σ',H',I,r,q⟩ :=h; exact ⟨v,σ',H',I.unhand ok,r,q⟩
theorem Inv.forgot {t':Nat} {m':Str→Option Value} (I:Inv X pins σ H s) (hn':h'.Ns X.env.locals m') (hs:Heap.SameBut X.env.locals s.heap h'):Inv X pins (List.replicate X.N.length none) H { s with heap:=h',toks:=t' }:=by
 obtain ⟨m,hn,hl⟩ :=id I.loc
 obtain ⟨oL,_,_,hoL,_⟩ :=id hn
 have hok:HOk X.prog X.w H h':=fun b ob e=>by
  refine (I.hok b ob e).stay (fun c w' hc q=>(hs.2 c ?_).trans q) (fun _ q=>q) fun _ _ q=>q
  rintro rfl
  have hfree:=I.free
  rcases hc with z | hc
  ·rw [← z,hfree] at e; cases e
  ·rw [hfree] at hc; cases hc
 refine ⟨I.ok,I.os,I.bare,⟨fun b o e n hb hx=>?_,fun b o e n hb hx=>?_,I.base.free,fun b o e hx=>?_,I.base.tups,I.base.frzs,I.base.tbls⟩,⟨m',hn',fun j y v' e1 e2 e3=>?_⟩,fun y c e=>?_,I.free,I.freeC,fun p hp=>?_,hok,by simp⟩
 ·exact (hs.2 b (Nat.ne_of_lt (Nat.lt_of_lt_of_le (Heap.lt_size e) I.ok.above))).trans (I.base.keep b o e n hb hx)
 ·obtain ⟨sl,e1⟩ :=I.base.slot b o e n hb hx
  exact ⟨sl,(hs.2 b (Nat.ne_of_lt (Nat.lt_of_lt_of_le (Heap.lt_size e) I.ok.above))).trans e1⟩
 ·obtain ⟨o',e1⟩ :=I.base.there b o e hx
  exact ⟨o',(hs.2 b (Nat.ne_of_lt (Nat.lt_of_lt_of_le (Heap.lt_size e) I.ok.above))).trans e1⟩
 ·rw [List.getElem?_replicate] at e2
  split at e2 <;> cases e2
 ·obtain ⟨w',o,ho,hd⟩ :=I.cell y c e
  exact ⟨w',o,(hs.2 c (I.cne y c e)).trans ho,hd⟩
 ·obtain ⟨e,n,ne,nf,d⟩ :=I.pin p hp
  exact ⟨(hs.2 p.1 ne).trans e,n,ne,nf,d⟩
end
structure Clause (X:Cx) (N:Str) (C':Addr):Prop where
 gl:Gl X N
 mg:X.mg N=some (.ref C')
 ty:PySem.W.typeIn X.K (.ref C')=some (.type "type")
 cl:(PySem.W.clsIn X.K C').isSome=true
 mb:PySem.W.mroIn X.K C' (.type "BaseException")=some true
 db:(N == ("__debug__" : Str))=false
def ZIO (K:PySem.W.Frag) (C':Addr) (ts tr:Addr→TS):Addr→TS:=fun C D σ H=>∃ b,PySem.W.mroIn K C (.ref C')=some b∧(b=true→ts C D σ H)∧(b=false→tr C D σ H)
section
variable {X:Cx} {N:Str} {C':Addr} {np pos:Pos} {b₀:Stmt} {suite:List Stmt} {rest:List ExceptHandler} {ts tr:Addr→TS}
theorem ZHq:PH X [] (fun _ _ _ _=>False):=fun _ _ _ _ _ _ _ _ _ z=>False.elim z
theorem ZHp (cn:Clause X N C') (hs:∀ ea oe C pn',(ea,oe) ∈ pn'→oe.cls=.ref C→PSs (X.hand ea pn') (b₀ :: suite) (ts C)) (hr:PH X rest tr) :
  PH X (.ExceptHandler (some (.Name N np)) none (b₀ :: suite) pos :: rest) (ZIO X.K C' ts tr):=by
 intro pins s σ H D ea T C c h
 obtain ⟨b,eb,h1,h2⟩ :=h
 obtain ⟨oe,IA,nc⟩ :=c.inst
 have J:=c.hand IA nc
 refine wpAny_handleBy_cons (codeAny_handlers_test (ZkO (X:=X.hand ea (X.pn ++ pins ++ [(ea,oe)])) J cn.gl cn.mg ?_ cn.db)) (by intro q; cases q)
 obtain ⟨hp,g,d,t,os⟩ :=s
 refine Zun c.inv.kIn IA cn.ty cn.cl cn.mb eb ?_
 cases b with
 | false=>exact hr pins _ σ H D ea T C c (h2 rfl)
 | true=>
  refine codeAny_handlers_suite (ZpD c fun h' c'=>?_)
  obtain ⟨oe',IA',nc'⟩ :=c'.inst
  refine wpAny_mono (hs ea oe' C _ (List.mem_append_right _ (List.mem_singleton.mpr rfl)) IA'.cls [] _ σ H D (c'.hand IA' nc') (h1 rfl)) (fun f s2 q=>q.unhand c.inv.ok) fun _ _ z=>False.elim z
end
def ZGi (K:PySem.W.Frag) (ea C:Addr):List V→Hp→VK→Prop:=fun xs H Q=>∃ b,((∃ n,xs=[.ref ea,.ty n]∧PySem.W.kitOne K (.ref C) (.type n)=some b)∨(∃ c,xs=[.ref ea,.ref c]∧PySem.W.kitOne K (.ref C) (.ref c)=some b)∨
 (∃ c vs,xs=[.ref ea,.ref c]∧H c=some (.tup vs)∧∀ us,Vals vs us→PySem.W.kitAny K (.ref C) us=some b))∧Q (.bl b) H
theorem ZC6 {X:Cx} {ea C:Addr} {oe:Obj} {pn':List (Addr × Obj)} (k:ExcK X.K C) (hm:(ea,oe) ∈ pn') (hc:oe.cls=.ref C) (hd:oe.dict=none) (hn:PySem.W.notCls oe=true):Zlo (X.hand ea pn') (.builtin "isinstance") (ZGi X.K ea C):=by
 intro pins s σ H xs us Q I r h
 obtain ⟨b,h,q⟩ :=h
 have at_:=(I.pin _ (List.mem_append_left _ hm)).1
 have IA:∃ o,PySem.W.InstAt s.heap ea o C none:=⟨oe,at_,hc,hn,by rw [hd]; trivial⟩
 rcases h with ⟨n,rfl,e⟩ | ⟨c,rfl,e⟩ | ⟨c,vs,rfl,et,e⟩
 ·obtain ⟨u,v,rfl,ru,rv⟩ :=Zwe r
  obtain rfl:v=Value.type n:=rv
  obtain rfl:u=Value.ref ea:=ru
  exact PySem.W.kia_one (Znj k) I.kIn IA e (fun z=>nomatch z) fun tk=>⟨.bl b,H,I.tok tk,rfl,q⟩
 ·obtain ⟨u,v,rfl,ru,rv⟩ :=Zwe r
  obtain rfl:v=Value.ref c:=rv
  obtain rfl:u=Value.ref ea:=ru
  exact PySem.W.kia_one (Znj k) I.kIn IA e (fun z=>nomatch z) fun tk=>⟨.bl b,H,I.tok tk,rfl,q⟩
 ·obtain ⟨u,v,rfl,ru,rv⟩ :=Zwe r
  obtain rfl:v=Value.ref c:=rv
  obtain rfl:u=Value.ref ea:=ru
  obtain ⟨_,its,rv,⟨o,h1,h2,n,h3⟩⟩ :=(show Zd0 X.prog X.w H s.heap c (.tup vs) from I.hok c _ et)
  obtain ⟨oc,od,oda,osl⟩ :=o
  dsimp only at h2 h3
  subst h2 h3
  exact PySem.W.kia_tup (Znj k) I.kIn IA h1 (e its rv) (fun z=>nomatch z) fun tk=>⟨.bl b,H,I.tok tk,rfl,q⟩
theorem PS.nox {X:Cx} {st:Stmt} {t:TS} (h:PS X.nox st t):PS X st t:=fun pins s σ H D I hw=>
 wpAny_mono (h pins s σ H D (I.wish _) hw) (fun _ _ q=>q.unwish) fun _ _ z=>False.elim z
theorem PA.nox {X:Cx} {es:List Expr} {t:TA} (h:PA X.nox es t):PA X es t:=fun pos pins s σ H Q I hw=>
 wpAny_mono (h pos pins s σ H Q (I.wish _) hw) (fun _ _ ⟨v,H',I',r,q⟩ =>⟨v,H',I'.unwish,r,q⟩) fun _ _ z=>False.elim z
theorem ZH9 {K:PySem.W.Frag} {C:Addr} (h:PySem.W.subIn K (.ref C) (.type "ValueError")=some true):PySem.W.kitOne K (.ref C) (.type "ValueError")=some true:=by
 unfold PySem.W.kitOne PySem.W.kitCls
 dsimp only
 rw [if_neg (by simp),if_pos (show PySem.W.kitMeta "ValueError" = true by decide +kernel)]
 exact h
def FnS1 (P:Program) (w:World) (K:PySem.W.Frag) (mg:Str→Option Value) (base:Heap) (k:Nat) (x:Str) (ps:List Str) (sp:Sp):Prop:=∃ f fd,FnOk P w K mg base (CX1 P w) k f fd ps sp∧Za0 K fd ps []∧PySem.W.keepIn K (.ref f)=true∧mg x=some (.ref f)
def tFnX (sp:Sp) (t:TA):TEx:=fun σ H Q E=>t σ H fun vs H1=>sp vs H1 Q E
theorem ZCQ (sp:Sp) (t:TA):ZFb sp [] t=tFnX sp t:=by
 funext σ H Q E
 unfold ZFb tFnX
 have e:(fun (vs:List V) (H1:Hp)=>sp (vs ++ []) H1 Q E)=fun vs H1=>sp vs H1 Q E:=by
  funext vs H1; rw [List.append_nil]
 rw [e]
section
variable {X:Cx} {k k':Nat} {x:Str} {ps:List Str} {sp:Sp} {e:Expr} {es:List Expr} {t:TA} {p pos:Pos}
theorem ZHo (G:FnS1 X.prog X.w X.K X.mg X.base k x ps sp) (hr:Room k' X.A) (ha:PA X.nox (e :: es) t) (hk:k≤k':=by omega) (hg:Gl X x:=by rfl) (hdb:(x == ("__debug__" : Str))=false:=by decide)
  (he:starEach (e :: es) X.env=(false,eval e X.env) :: starEach es X.env:=by rfl) (hpl:(backTo pos (starEach es X.env)).any (·.1)=false:=by rfl):PEx X (.Call (.Name x p) (e :: es) [] pos) (tFnX sp t):=by
 obtain ⟨f,fd,F,hb,kp,hm⟩ :=G
 rw [← ZCQ]
 exact ZGd F (hr.mono hk) hg hm kp hb .nil ha hdb he hpl
theorem ZJ4 {X:Cx}:ZnG (CX1 X.prog X.w) X E0:=fun _ _ _ _ _ _ _ ⟨_,_,_,_,_,_,_,_,_,_,_,_,_,_,hE⟩ =>hE.elim
theorem ZJ6 (G:FnS1 X.prog X.w X.K X.mg X.base k x ps sp) (hr:Room k' X.A) (ha:PA X (e :: es) t) (hk:k≤k':=by omega) (hg:Gl X x:=by rfl) (hdb:(x == ("__debug__" : Str))=false:=by decide)
  (he:starEach (e :: es) X.env=(false,eval e X.env) :: starEach es X.env:=by rfl) (hpl:(backTo pos (starEach es X.env)).any (·.1)=false:=by rfl):PE X (.Call (.Name x p) (e :: es) [] pos) (tFn sp t):=by
 obtain ⟨f,fd,F,hb,kp,hm⟩ :=G
 rw [← ZzW]
 exact ZAU F (hr.mono hk) hg hm kp hb .nil ZJ4 ha hdb he hpl
end
section
variable {K:PySem.W.Frag} {D:Ends} {σ:St} {H:Hp} {Q:VK} {C C':Addr}
theorem Zw2 {E:XK} {t:TA} (h:t σ H fun vs H1=>vs.length≤9∧E (.ref C) none H1):ZHB C E t D σ H:=h
theorem ZG6 {te:TEx} {th:Addr→TS} (h:te σ H (fun _ H'=>D.nx σ H') (fun v _ H'=>∃ C,v=.ref C∧th C D σ H')):tTry (fun D E σ H=>te σ H (fun _ H'=>D.nx σ H') (E σ)) th D σ H:=h
theorem ZJp {sp:Sp} {t:TA} {E:XK} (h:t σ H fun vs H1=>sp vs H1 Q E):tFnX sp t σ H Q E:=h
theorem ZDI {ts tr:Addr→TS} (e:PySem.W.mroIn K C (.ref C')=some true) (h:ts C D σ H):ZIO K C' ts tr C D σ H:=⟨true,e,fun _=>h,fun z=>Bool.noConfusion z⟩
theorem ZHZ {ea:Addr} {n:String} {b:Bool} (e:PySem.W.kitOne K (.ref C) (.type n)=some b) (h:Q (.bl b) H):ZGi K ea C [.ref ea,.ty n] H Q:=⟨b,.inl ⟨n,rfl,e⟩,h⟩
theorem ZDJ {ea c:Addr} {cs:List Addr} (hc:H c=some (.tup (cs.map V.ref))) (e:∀ d ∈ cs,PySem.W.kitOne K (.ref C) (.ref d)=some false) (h:Q (.bl false) H):ZGi K ea C [.ref ea,.ref c] H Q:=by
 refine ⟨false,.inr (.inr ⟨c,_,rfl,hc,fun us r=>?_⟩),h⟩
 have:∀ (cs:List Addr) (us:List Value),(∀ d ∈ cs,PySem.W.kitOne K (.ref C) (.ref d)=some false)→Vals (cs.map V.ref) us→PySem.W.kitAny K (.ref C) us=some false:=by
  intro cs
  induction cs with
  | nil=>intro us _ r; cases r; rfl
  | cons d cs ih=>
   intro us e r
   rw [List.map_cons] at r
   cases r with
   | cons r1 r2=>
    rename_i u us'
    obtain rfl:u=Value.ref d:=r1
    unfold PySem.W.kitAny
    rw [e d List.mem_cons_self]
    exact ih us' (fun x hx=>e x (List.mem_cons_of_mem _ hx)) r2
 exact this cs us e r
end
end L2
set_option maxRecDepth 100000
namespace L2
open PySem PySem.Spec PyProof.Rows
section
variable {X:Cx} {a:Expr} {ta:TE} {pos:Pos}
def ZKD (ta:TE):TE:=fun σ H Q=>ta σ H fun x H1=>∃ z,x=.str z∧(reprText z).length≤sizeLine∧Q (.str (reprText z)) H1
theorem ZEB (ha:PE X a ta):PE X (.FormattedValue a 114 none pos) (ZKD ta):=by
 intro pins s σ H Q I h
 refine wpAny_FormattedValue_repr (thn (ha pins s σ H _ I h) fun v s1 ⟨x,H1,I1,r1,z,ex,hz,q⟩ =>?_)
 subst ex
 obtain ⟨t,rfl⟩ :=r1
 exact wpAny_pyReprObj_str (formatField_str (fun t' k=>⟨.str _,H1,I1.tok k,⟨t',rfl⟩,q⟩) hz) hz
end
section
variable {σ:St} {H:Hp} {Q:VK} {D:Ends} {K:PySem.W.Frag} {g:TG} {tb:TS} {ta:TE}
theorem ZGR (h:ta σ H fun x H1=>∃ z,x=.str z∧(reprText z).length≤sizeLine∧Q (.str (reprText z)) H1):ZKD ta σ H Q:=h
end
def Asc (z:Str):Prop:=∀ c ∈ z.cps.toList,c < 128
theorem Zyq {z:Str} (h:Asc z) (lo hi:Option Int):Asc (Txt.slice z lo hi):=by
 unfold Txt.slice
 split
 ·exact h
 ·intro c hc
  have hc:c ∈ (Builtin.Str.strSliceIndices lo hi 1 z.length).filterMap (z.cps[·]?):=by simpa using hc
  obtain ⟨i,_,e⟩ :=List.mem_filterMap.mp hc
  obtain ⟨hi,e⟩ :=Array.getElem?_eq_some_iff.mp e
  exact h c (by rw [← e]; simp)
theorem Zwl {x y:Str} (hx:Asc x) (hy:Asc y):Asc (x ++ y):=by
 intro c hc
 have hc:c ∈ (x.cps ++ y.cps).toList:=hc
 rw [Array.toList_append,List.mem_append] at hc
 exact hc.elim (hx c) (hy c)
theorem Zan (x y:Str):(x ++ y).length=x.length + y.length:=by
 show (x.cps ++ y.cps).size=_
 rw [Array.size_append]; rfl
end L2
set_option maxRecDepth 100000
namespace L2
open PySem PySem.Spec PyProof.Rows
section
variable {X:Cx} {k k':Nat} {f C:Addr} {fd:FuncData} {ps:List Str} {sp:Sp} {x:Str} {p pos:Pos} {e:Expr} {es:List Expr} {t:TA}
end
structure RoomH (k:Nat) (A:Around):Prop where
 dp:A.depth + 3 * k + 5 < recursionLimit
 un:A.units + 16 * k + 200 < cLine
theorem Room.mark {k:Nat} {A:Around} {v:Option Value} (r:Room k A):RoomH k (A.mark v):=⟨r.dp,r.un⟩
structure Lies (s:Shared) (H:Hp) (outer:List Env) (ea:Addr) (oe:Obj) (C:Addr):Prop where
 at_:s.heap.get? ea=some oe
 no:H ea=none
 nf:ea ∉ frs outer
 nc:∀ v,oe.data ≠ .cell v
 cls:oe.cls=.ref C
 dict:oe.dict=none
 nk:PySem.W.notCls oe=true
structure FnH (P:Program) (w:World) (K:PySem.W.Frag) (mg:Str→Option Value) (base:Heap) (k:Nat) (f:Addr) (fd:FuncData) (ps:List Str) (sp:Addr→Addr→Sp):Prop where
 len:∀ ea C vs H Q E,sp ea C vs H Q E→vs.length=ps.length
 run:∀ (A:Around) (outer:List Env) (s:Shared) (H:Hp) (args:Args) (us:List Value) (vs:List V) (Q:VK) (ea C:Addr) (oe:Obj),RoomH k A→Env0 P w K mg base A outer s H→Lies s H outer ea oe C→BindsTo s fd args (ps.zip us)→Vals vs us→sp ea C vs H Q E0→
  codeAny (model P w) A (.call (.ref f) args) (CR CX0 outer P w H s Q E0) s
abbrev cxH (P:Program) (w:World) (K:PySem.W.Frag) (mg:Str→Option Value) (base:Heap) (N:List Str) (qual:Str) (scope:Scope) (f:Addr) (cd:Value) (A:Around) (outer:List Env) (s:Shared) (H:Hp) (ea:Addr) (oe:Obj):Cx:=
 { cxOf CX0 P w K mg base N qual scope f cd A outer s H E0 with calm:=false,pn:=[(ea,oe)] }
theorem ZJd {P:Program} {w:World} {K:PySem.W.Frag} {mg:Str→Option Value} {base:Heap} {k:Nat} {f:Addr} {name qual:Str} {params:Arguments} {body:List Stmt} {scope:Scope} {dV kV doc pm cdv ct oc:Value} {an od:Option Addr}
  {osl:Array (Option Value)} {N ps:List Str} {sp:Addr→Addr→Sp} (lk:K.lookup f=some ⟨oc,od,.func (PySem.W.fnOf name qual params body scope dV kV doc pm an cdv ct),osl⟩) (hcd:PySem.W.codeIn K cdv qual=true) (S:FnScope N ps scope)
  (len:∀ ea C vs H Q E,sp ea C vs H Q E→vs.length=ps.length)
  (hbody:∀ (A:Around) (outer:List Env) (s:Shared) (H:Hp) (vs:List V) (Q:VK) (ea C:Addr) (oe:Obj),Lies s H outer ea oe C→sp ea C vs H Q E0→
   ∃ t,PSs (cxH P w K mg base N qual scope f cdv A outer s H ea oe) body t∧t { nx:=fun _ H'=>Q .non H',rt:=Q } (start N vs) H) :
  FnH P w K mg base k f (PySem.W.fnOf name qual params body scope dV kV doc pm an cdv ct) ps sp:=by
 refine ⟨len,fun A outer s H args us vs Q ea C oe hr e0 hy hb r hsp=>?_⟩
 have hl:=len _ _ _ _ _ _ hsp
 have KX:K.In s.heap:=e0.mod.kin.keeps fun b o e=>(e0.bs b o e).1
 have lim:s.heap.NoLimit:=e0.mod.nolimit.keeps fun b o e=>(e0.bs b o e).1
 have hkind:∀ y ∈ ps.zip us,scope.names.lookup y.1=some .local∨(scope.names.lookup y.1=some .cell∧((cellsFrom (s.heap.objs.size + 1) scope.names []).lookup y.1).isSome=true):=fun ⟨n,v⟩ hy=>by
  rcases S.par n (List.of_mem_zip hy).1 with q | q
  ·exact .inl q
  ·exact .inr ⟨q,PySem.W.cellsFrom_some _ _ _ (.inl q)⟩
 have hdp:A.depth < recursionLimit:=by have:=hr.dp; omega
 refine codeAny_call_function hdp (KX _ _ lk) rfl S.co S.gen rfl (PySem.W.codeRec_of KX hcd) (hb _ _ _ _ ?_)
 refine wpAny_newFunctionEnv_cells S.kind hkind fun env he s1 x=>?_
 subst he
 refine ⟨lim.keeps x.toInCall.keep,codeAny_func ?_⟩
 obtain ⟨t,ht,hq⟩ :=hbody A outer s H vs Q ea C oe hy hsp
 have e1:Env0 P w K mg base { A with handled:=none } outer s H:=⟨e0.frames,e0.mod,e0.bs,e0.bsz,e0.funs,e0.frf,e0.hok,e0.bare⟩
 have J:Inv (cxOf CX0 P w K mg base N qual scope f cdv { A with handled:=none } outer s H E0) [] (start N vs) H s1:=ZyN S rfl e1 hl r x
 have I:Inv (cxH P w K mg base N qual scope f cdv A outer s H ea oe) [] (start N vs) H s1:=by
  refine ⟨⟨J.ok.mod,J.ok.kind,J.ok.glob,J.ok.blt,J.ok.above,J.ok.inj,J.ok.has,J.ok.cab,fun z=>Bool.noConfusion z,J.ok.frames,J.ok.stk,J.ok.exf,J.ok.bs,J.ok.bsz,J.ok.noex,J.ok.exfs,J.ok.funs,J.ok.frf⟩,J.os,J.bare,J.base,J.loc,J.cell,J.free,J.freeC,fun p hp=>?_,J.hok,J.len⟩
  have hp':p=(ea,oe):=by
   have z:p ∈ [(ea,oe)] ++ []:=hp
   simpa using z
  subst hp'
  exact ⟨x.toInCall.keep _ _ hy.at_,hy.no,Nat.ne_of_lt (Heap.lt_size hy.at_),hy.nf,hy.nc⟩
 refine wpAny_mono (ht [] s1 (start N vs) H _ I hq) (fun fl s' hs=>?_) fun e s' hs=>hs
 have fin:∀ {σ':St} {H':Hp} {v:V} {u:Value},Inv (cxH P w K mg base N qual scope f cdv A outer s H ea oe) [] σ' H' s'→RelV v u→Q v H'→CE outer P w H s Q u s':=
  fun {σ' H' v u} J rv q=>⟨v,H',J.os,J.bare,J.base,J.hok,rv,q⟩
 cases fl with
 | ret u=>
  obtain ⟨v,σ',H',J,rv,q⟩ :=hs
  exact fin J rv q
 | next=>
  obtain ⟨σ',H',J,q⟩ :=hs
  exact fin (v:=V.non) (u:=Value.none) J rfl q
 | brk=>
  obtain ⟨_,_,_,q⟩ :=hs
  exact False.elim q
 | cont=>
  obtain ⟨_,_,_,q⟩ :=hs
  exact False.elim q
theorem Fun.okH {P:Program} {w:World} {K:PySem.W.Frag} {mg:Str→Option Value} {base:Heap} {x qual:Str} {st:Stmt} {f:Addr} {fd:FuncData} {N ps:List Str} {k:Nat} {sp:Addr→Addr→Sp} (F:Fun K x qual st f fd) (S:FnScope N ps (Zab st)) (len:∀ ea C vs H Q E,sp ea C vs H Q E→vs.length=ps.length)
  (hbody:∀ (cdv:Value) (A:Around) (outer:List Env) (s:Shared) (H:Hp) (vs:List V) (Q:VK) (ea C:Addr) (oe:Obj),Lies s H outer ea oe C→sp ea C vs H Q E0→
   ∃ t,PSs (cxH P w K mg base N qual (Zab st) f cdv A outer s H ea oe) (Zah st) t∧t { nx:=fun _ H'=>Q .non H',rt:=Q } (start N vs) H):FnH P w K mg base k f fd ps sp:=by
 obtain ⟨oc,od,kV,doc,pm,an,cdv,ct,osl,rfl,lk,hcd⟩ :=F.ex
 exact ZJd lk hcd S len fun A outer s H vs Q ea C oe hy hsp=>hbody cdv A outer s H vs Q ea C oe hy hsp
def FnSH (P:Program) (w:World) (K:PySem.W.Frag) (mg:Str→Option Value) (base:Heap) (k:Nat) (x:Str) (ps:List Str) (sp:Addr→Addr→Sp):Prop:=∃ f fd,FnH P w K mg base k f fd ps sp∧Za0 K fd ps []∧PySem.W.keepIn K (.ref f)=true∧mg x=some (.ref f)
def tFnH (sp:Addr→Addr→Sp) (ea C:Addr) (t:TA):TE:=fun σ H Q=>t σ H fun vs H1=>sp ea C vs H1 Q E0
theorem ZJ7 {X:Cx} {k k':Nat} {x:Str} {ps:List Str} {sp:Addr→Addr→Sp} {ea C:Addr} {oe:Obj} {pn':List (Addr × Obj)} {e:Expr} {es:List Expr} {t:TA} {p pos:Pos} (G:FnSH X.prog X.w X.K X.mg X.base k x ps sp) (hr:Room k' X.A)
  (hm:(ea,oe) ∈ pn') (hc:oe.cls=.ref C) (hd:oe.dict=none) (hn:PySem.W.notCls oe=true) (hst:X.stack=X.env :: X.outer) (hfr:X.env.frame=some X.env.locals)
  (ha:PA (X.hand ea pn') (e :: es) t) (hk:k≤k':=by omega) (hg:Gl X x:=by rfl) (hdb:(x == ("__debug__" : Str))=false:=by decide)
  (he:starEach (e :: es) X.env=(false,eval e X.env) :: starEach es X.env:=by rfl) (hpl:(backTo pos (starEach es X.env)).any (·.1)=false:=by rfl):PE (X.hand ea pn') (.Call (.Name x p) (e :: es) [] pos) (tFnH sp ea C t):=by
 obtain ⟨f,fd,F,hb,kp,hmg⟩ :=G
 intro pins s σ H Q I h
 refine wpAny_Call_Name_kw (ZkO (X:=X.hand ea pn') I hg hmg ?_ hdb)
 refine PySem.W.callWith_K (h₀:=X.base) I.ok.mod.kin kp (thn (ha pos pins s σ H _ I h) fun us s1 ⟨vs,H1,I1,r,q⟩ =>⟨I1.kIn,?_⟩) he hpl
 have hl:(us ++ []).length=ps.length:=by rw [List.append_nil,← r.length]; exact F.len _ _ _ _ _ _ q
 have hb':=hb s1 us I1.kIn hl
 rw [List.append_nil] at hb'
 obtain ⟨pe,pno,pl,pf,pc⟩ :=I1.pin _ (List.mem_append_left _ hm)
 have nf:ea ∉ frs X.stack:=fun z=>by
  rw [hst] at z
  unfold frs at z
  rw [List.filterMap_cons,hfr] at z
  rcases List.mem_cons.mp z with z | z
  ·exact pl z
  ·exact pf z
 refine wpAny_call (codeAny_mono (F.run (X.hand ea pn').A X.stack s1 H1 ⟨us,[]⟩ us vs Q ea C oe (hr.mono hk).mark I1.env0 ⟨pe,pno,nf,pc,hc,hd,hn⟩ hb' r q) fun r s' hq=>?_)
 cases r with
 | error e=>exact hq.elim
 | ok fl=>
  cases fl with
  | ret u=>exact I1.after hq
  | next=>exact False.elim hq
  | brk=>exact False.elim hq
  | cont=>exact False.elim hq
theorem Zyy {X:Cx} {ea C:Addr} {oe:Obj} (k:ExcK X.K C) (hm:(ea,oe) ∈ X.pn) (hc:oe.cls=.ref C) (hd:oe.dict=none) (hn:PySem.W.notCls oe=true):Zlo X (.builtin "isinstance") (ZGi X.K ea C):=by
 intro pins s σ H xs us Q I r h
 obtain ⟨b,h,q⟩ :=h
 have at_:=(I.pin _ (List.mem_append_left _ hm)).1
 have IA:∃ o,PySem.W.InstAt s.heap ea o C none:=⟨oe,at_,hc,hn,by rw [hd]; trivial⟩
 rcases h with ⟨n,rfl,e⟩ | ⟨c,rfl,e⟩ | ⟨c,vs,rfl,et,e⟩
 ·obtain ⟨u,v,rfl,ru,rv⟩ :=Zwe r
  obtain rfl:v=Value.type n:=rv
  obtain rfl:u=Value.ref ea:=ru
  exact PySem.W.kia_one (Znj k) I.kIn IA e (fun z=>nomatch z) fun tk=>⟨.bl b,H,I.tok tk,rfl,q⟩
 ·obtain ⟨u,v,rfl,ru,rv⟩ :=Zwe r
  obtain rfl:v=Value.ref c:=rv
  obtain rfl:u=Value.ref ea:=ru
  exact PySem.W.kia_one (Znj k) I.kIn IA e (fun z=>nomatch z) fun tk=>⟨.bl b,H,I.tok tk,rfl,q⟩
 ·obtain ⟨u,v,rfl,ru,rv⟩ :=Zwe r
  obtain rfl:v=Value.ref c:=rv
  obtain rfl:u=Value.ref ea:=ru
  obtain ⟨_,its,rv,⟨o,h1,h2,n,h3⟩⟩ :=(show Zd0 X.prog X.w H s.heap c (.tup vs) from I.hok c _ et)
  obtain ⟨oc,od,oda,osl⟩ :=o
  dsimp only at h2 h3
  subst h2 h3
  exact PySem.W.kia_tup (Znj k) I.kIn IA h1 (e its rv) (fun z=>nomatch z) fun tk=>⟨.bl b,H,I.tok tk,rfl,q⟩
theorem ZKV {sp:Addr→Addr→Sp} {ea C:Addr} {t:TA} {σ:St} {H:Hp} {Q:VK} (h:t σ H fun vs H1=>sp ea C vs H1 Q E0):tFnH sp ea C t σ H Q:=h
end L2
set_option maxRecDepth 100000
namespace L2
open PySem PySem.Spec PyProof.Rows
theorem ZIf {h:Heap} {a:Addr} {m m':Str→Option Value} (x:h.Ns a m) (y:h.Ns a m'):m=m':=by
 obtain ⟨o,es,ep,ho,hd,_,hm⟩ :=x
 obtain ⟨o',es',ep',ho',hd',_,hm'⟩ :=y
 rw [ho] at ho'
 cases ho'
 rw [hd] at hd'
 cases hd'
 funext n
 rw [← hm,← hm']
section
variable {X:Cx} {pins:List (Addr × Obj)} {σ:List (Option V)} {H H':Hp} {s:Shared} {h':Heap}
theorem Zpg {M:Model} {A:Around} {E:Value→Shared→Prop} {i:Nat} {x:Str} {v:V} {u:Value} {Q:Unit→Shared→Prop} (I:Inv X pins σ H s) (hN:X.N.Nodup) (hi:X.N[i]?=some x) (hk:X.env.scope.names.lookup x=some .local) (r:RelV v u)
  (h:∀ s' m,Inv X pins (σ.set i (some v)) H s'→s'.heap.Ns X.env.locals m→m x=some u→s'.toks=s.toks + 1→Heap.SameBut X.env.locals s.heap s'.heap→Q () s'):wpAny M A (storeName X.env x u) Q E s:=by
 obtain ⟨m,hn,hl⟩ :=id I.loc
 have hcls:(X.env.scope.kind == .class || (X.env.scope.kind == .module && X.env.locals != X.env.globals))=false:=by rw [I.ok.kind]; rfl
 have hiσ:i < σ.length:=by rw [I.len]; exact (List.getElem?_eq_some_iff.mp hi).1
 have cne:=I.cne
 have tracked:∀ {a:Addr} {h':Heap},(∃ o,s.heap.get? a=some o∧H a=none)→Heap.SameBut a s.heap h'→HOk X.prog X.w H h':=fun {a h'} ha hs b ob e=>by
  obtain ⟨_,_,hfree⟩ :=ha
  refine (I.hok b ob e).stay (fun c w' hc q=>(hs.2 c ?_).trans q) (fun _ q=>q) fun _ _ q=>q
  rintro rfl
  rcases hc with rfl | hc
  ·rw [hfree] at e; cases e
  ·rw [hfree] at hc; cases hc
 refine wpAny_storeName_local hk hn (fun h' hn' hs=>?_) hcls
 obtain ⟨oL,_,_,hoL,_⟩ :=id hn
 refine h _ _ ⟨I.ok,I.os,I.bare,⟨fun b o e n hb hx=>?_,fun b o e n hb hx=>?_,I.base.free,fun b o e hx=>?_,I.base.tups,I.base.frzs,I.base.tbls⟩,⟨_,hn',fun j y v' e1 e2 e3=>?_⟩,fun y c e=>?_,I.free,I.freeC,fun p hp=>?_,tracked ⟨oL,hoL,I.free⟩ hs,by simpa using I.len⟩ hn' (by simp) rfl hs
 ·exact (hs.2 b (Nat.ne_of_lt (Nat.lt_of_lt_of_le (Heap.lt_size e) I.ok.above))).trans (I.base.keep b o e n hb hx)
 ·obtain ⟨sl,e1⟩ :=I.base.slot b o e n hb hx
  exact ⟨sl,(hs.2 b (Nat.ne_of_lt (Nat.lt_of_lt_of_le (Heap.lt_size e) I.ok.above))).trans e1⟩
 ·obtain ⟨o',e1⟩ :=I.base.there b o e hx
  exact ⟨o',(hs.2 b (Nat.ne_of_lt (Nat.lt_of_lt_of_le (Heap.lt_size e) I.ok.above))).trans e1⟩
 ·by_cases hj:j=i
  ·subst hj
   rw [hi] at e1; cases e1
   rw [List.getElem?_set_self hiσ] at e2
   cases e2
   exact ⟨u,r,.inl ⟨hk,by simp⟩⟩
  ·rw [List.getElem?_set_ne (Ne.symm hj)] at e2
   obtain ⟨u',r',q⟩ :=hl j y v' e1 e2 e3
   refine ⟨u',r',?_⟩
   rcases q with ⟨k,e⟩ | ⟨k,c,e,z⟩
   ·refine .inl ⟨k,?_⟩
    have:y ≠ x:=fun e=>hj (Zxh hN e1 (e ▸ hi))
    simp [this,e]
   ·exact .inr ⟨k,c,e,z.sameBut hs (cne y c e)⟩
 ·obtain ⟨w',z⟩ :=I.cell y c e
  exact ⟨w',z.sameBut hs (cne y c e)⟩
 ·obtain ⟨e,n,ne,nf,d⟩ :=I.pin p hp
  exact ⟨(hs.2 p.1 ne).trans e,n,ne,nf,d⟩
end
def PSp (X:Cx) (st:Stmt) (t:TS):Prop:=∀ (pins:List (Addr × Obj)) (s:Shared) (σ:St) (H:Hp) (D:Ends),Inv X pins σ H s→t D σ H→wpAny (model X.prog X.w) X.A (exec st X.env) (fun f s'=>0 < s'.toks∧SP X pins D f s') X.xe s
def PSt (X:Cx) (st:Stmt) (t:TS):Prop:=∀ (pins:List (Addr × Obj)) (s:Shared) (σ:St) (H:Hp) (D:Ends),Inv X pins σ H s→0 < s.toks→t D σ H→wpAny (model X.prog X.w) X.A (exec st X.env) (SP X pins D) X.xe s
def PSst (X:Cx) (b:List Stmt) (t:TS):Prop:=∀ (pins:List (Addr × Obj)) (s:Shared) (σ:St) (H:Hp) (D:Ends),Inv X pins σ H s→0 < s.toks→t D σ H→wpAny (model X.prog X.w) X.A (execs b X.env) (SP X pins D) X.xe s
section
variable {X:Cx} {st:Stmt} {rest:List Stmt} {t u:TS} {pos:Pos}
theorem ZKb (h1:PSp X st t) (h2:PSst X rest u):PSs X (st :: rest) (tSeq t u):=by
 intro pins s σ H D I h
 refine wpAny_execs_cons (thn (h1 pins s σ H { D with nx:=u D } I h) fun f s1 q=>?_)
 obtain ⟨tk,q⟩ :=q
 cases f with
 | next=>
  obtain ⟨σ',H',I',q⟩ :=q
  exact h2 pins s1 σ' H' D I' tk q
 | ret v=>exact q
 | brk=>exact q
 | cont=>exact q
theorem ZEK (h1:PSt X st t) (h2:PSs X rest u):PSst X (st :: rest) (tSeq t u):=by
 intro pins s σ H D I tk h
 refine wpAny_execs_cons (thn (h1 pins s σ H { D with nx:=u D } I tk h) fun f s1 q=>?_)
 cases f with
 | next=>
  obtain ⟨σ',H',I',q⟩ :=q
  exact h2 pins s1 σ' H' D I' q
 | ret v=>exact q
 | brk=>exact q
 | cont=>exact q
theorem ssp (i:Nat) {x:Str} {e:Expr} {te:TE} {pos':Pos} (hN:X.N.Nodup) (he:PE X e te) (hi:X.N[i]?=some x:=by rfl) (hk:X.env.scope.names.lookup x=some .local:=by rfl) (hs:swapsWith e (some (.Name x pos')) pos.line X.env=pure false:=by rfl) :
  PSp X (.Assign [.Name x pos'] e pos) (tAsg te (ZyH i)):=by
 intro pins s σ H D I h
 refine wpAny_Assign_Name (thn (he pins s σ H _ I h) fun v s1 ⟨y,H1,I1,r1,q1⟩ =>?_) hs
 exact Zpg I1 hN hi hk r1 fun s2 m I2 hn hm ht _=>⟨by omega,_,H1,I2,q1⟩
end
def PEf (X:Cx) (e:Expr) (t:TE):Prop:=∀ (pins:List (Addr × Obj)) (s:Shared) (σ:St) (H:Hp) (Q:VK),Inv X pins σ H s→t σ H Q→wpAny (model X.prog X.w) X.A (eval e X.env) (fun u s'=>∃ z tk H',Inv X pins σ H' s'∧u=.str z tk∧s.toks≤tk∧Q (.str z) H') X.xe s
section
variable {X:Cx} {a b:Expr} {ta tb:TE} {pos:Pos}
def PJf (X:Cx) (es:List Expr) (t:TJ):Prop:=
 ∀ (n:Nat) (out:Str) (pins:List (Addr × Obj)) (s:Shared) (σ:St) (H:Hp) (Q:VK),n≤s.toks→Inv X pins σ H s→t σ H out Q→wpAny (model X.prog X.w) X.A (joinParts out (evalEach es X.env)) (fun u s'=>∃ z tk H',Inv X pins σ H' s'∧u=.str z tk∧n≤tk∧Q (.str z) H') X.xe s
theorem ZIu:PJf X [] tJn:=fun n out pins s σ H Q hn I h=>joinParts_nil ⟨out,_,H,I.tok _,rfl,hn,h.2⟩ h.1
theorem ZxJ {e:Expr} {es:List Expr} {te:TE} {tr:TJ} (he:PE X e te) (hr:PJf X es tr):PJf X (e :: es) (tJc te tr):=by
 intro n out pins s σ H Q hn I h
 show wpAny _ _ (joinParts out (eval e X.env :: evalEach es X.env)) _ _ s
 refine joinParts_cons (wpAny_mono (wpAny_toks_of hn (he pins s σ H _ I h)) (fun v s1 hv=>?_) fun _ _ y=>y.2)
 obtain ⟨hn1,x,H1,I1,r1,y,ex,hz,q⟩ :=hv
 subst ex
 obtain ⟨t,rfl⟩ :=r1
 exact ⟨hz,hr n _ pins s1 σ H1 Q hn1 I1 q⟩
theorem ZCK {e1 e2:Expr} {es:List Expr} {t:TJ} (h:PJf X (e1 :: e2 :: es) t):PEf X (.JoinedStr (e1 :: e2 :: es) pos) (tFs t):=by
 intro pins s σ H Q I q
 exact JoinedStr_many (h s.toks Str.empty pins s σ H Q (Nat.le_refl _) I q)
end
section
variable {X:Cx} {a b:Expr} {ta tb:TE} {pos:Pos}
def tRep (i j:Nat) (te:TE):List Nat→TS
 | []=>fun D σ H=>D.nx σ H
 | c :: cs=>fun D σ H=>∃ x:Str,(σ.set j (some (.str ⟨#[c]⟩)))[i]?=some (some (.str x))∧te (σ.set j (some (.str ⟨#[c]⟩))) H fun v H1=>∃ z:Str,v=.str z∧(((⟨#[c]⟩ : Str) == z)=false)∧x.length + (x.length + 1) * z.length≤16777216∧
   tRep i j te cs D ((σ.set j (some (.str ⟨#[c]⟩))).set i (some (.str (Txt.replace x ⟨#[c]⟩ z)))) H1
def ZFd (i j:Nat) (ti te:TE):TS:=fun D σ H=>ti σ H fun v H1=>∃ z:Str,v=.str z∧z.cps.all (· < 128)=true∧tRep i j te z.cps.toList D σ H1
theorem ZGk {i:Nat} {sp mk:Str} {e2:Expr} {te:TE} {p2 p3 p4 ap cp q1:Pos} {pins:List (Addr × Obj)} {σ:St} {H:Hp} {s:Shared} {m:Str→Option Value} {c k:Nat} {x:Str} {R:St→Hp→Prop}
  (hN:X.N.Nodup) (hi:X.N[i]?=some sp) (ki:X.env.scope.names.lookup sp=some .local) (kj:X.env.scope.names.lookup mk=some .local) (he:PEf X e2 te) (di:(sp == ("__debug__" : Str))=false) (dj:(mk == ("__debug__" : Str))=false)
  (hs:swapsWith (.Call (.Attribute (.Name sp p3) "replace" ap) [.Name mk p4,e2] [] cp) (some (.Name sp p2)) q1.line X.env=pure false)
  (hbase:attributeBase (.Name sp p3) "replace" X.env (eval (.Name sp p3) X.env)=eval (.Name sp p3) X.env)
  (hfew:((backTo cp (starEach [.Name mk p4,e2] X.env)).all (fun x=>!x.1) && (backToKw cp (keywordEach [] X.env)).all (fun x=>x.1.isSome)
   && decide ([Expr.Name mk p4,e2].length + ([]:List Keyword).length + (if ([]:List Keyword).isEmpty then 0 else 1) < 30))=true)
  (hline:(ap.endLine == cp.line)=true) (h1:starEach [.Name mk p4,e2] X.env=[(false,eval (.Name mk p4) X.env),(false,eval e2 X.env)])
  (I:Inv X pins σ H s) (hn:s.heap.Ns X.env.locals m) (hm:m mk=some (.str ⟨#[c]⟩ k)) (k0:k ≠ 0) (kt:k < s.toks) (ex:σ[i]?=some (some (.str x)))
  (h:te σ H fun v H1=>∃ z:Str,v=.str z∧(((⟨#[c]⟩ : Str) == z)=false)∧x.length + (x.length + 1) * z.length≤16777216∧R (σ.set i (some (.str (Txt.replace x ⟨#[c]⟩ z)))) H1) :
  wpAny (model X.prog X.w) X.A (execs [.Assign [.Name sp p2] (.Call (.Attribute (.Name sp p3) "replace" ap) [.Name mk p4,e2] [] cp) q1] X.env) (fun f s'=>f=.next∧0 < s'.toks∧∃ σ' H',Inv X pins σ' H' s'∧R σ' H') X.xe s:=by
 obtain ⟨m',hn',hl⟩ :=id I.loc
 obtain rfl:=ZIf hn hn'
 obtain ⟨u,ru,lu⟩ :=hl i sp _ hi ex (.inl ki)
 obtain ⟨t,rfl⟩ :=ru
 have hu:m sp=some (.str x t):=by
  rcases lu with ⟨_,z⟩ | ⟨z,_⟩
  ·exact z
  ·have z':X.env.scope.names.lookup sp=some .cell∨X.env.scope.names.lookup sp=some .free:=z
   rw [ki] at z'
   rcases z' with z' | z' <;> cases z'
 refine wpAny_execs_cons (wpAny_Assign_Name ?_ hs)
 refine wpAny_Call_method_late hbase hfew hline rfl (wpAny_Name (wpAny_loadName_local I.ok.kind ki hn hu ?_) di)
 obtain ⟨t1,t2⟩ :=ZCc (T:="str") I (x:=.str x) ⟨t,rfl⟩ tyS
 refine ⟨"str","str.replace",F.plainAttrs_str,F.slot_str_replace,F.type_str_replace,t1,t2,?_⟩
 rw [h1]
 refine Calls.callWith_builtin rfl (Calls.evalArgs_plain (Calls.spliced_cons (wpAny_Name (wpAny_loadName_local I.ok.kind kj hn hm ?_) dj)))
 refine Calls.spliced_cons (thn (he pins s σ H _ I h) fun v s1 hv=>Calls.spliced_nil ?_)
 obtain ⟨z,tk,H1,I1,rfl,htk,z',ez,hz,hlen,q⟩ :=hv
 cases ez
 refine SC.replace k0 (Nat.ne_of_gt (Nat.lt_of_lt_of_le (Nat.lt_of_le_of_lt (Nat.zero_le _) kt) htk)) (Nat.ne_of_lt (Nat.lt_of_lt_of_le kt htk)) hz hlen fun t' k'=>?_
 exact Zpg (v:=.str (Txt.replace x ⟨#[c]⟩ z)) (I1.tok k') hN hi ki ⟨t',rfl⟩ fun s2 m2 I2 _ _ ht _=>wpAny_execs_nil ⟨rfl,by omega,_,H1,I2,q⟩
theorem ZIv {i j:Nat} {sp mk:Str} {it e2:Expr} {ti te:TE} {p1 p2 p3 p4 ap cp q1 pos:Pos} (hp:PassesOwn (model X.prog X.w) X.A X.env X.xe) (hc:X.calm=true)
  (hN:X.N.Nodup) (hit:PE X it ti) (he:PEf X e2 te) (hi:X.N[i]?=some sp:=by rfl) (hj:X.N[j]?=some mk:=by rfl) (ki:X.env.scope.names.lookup sp=some .local:=by rfl) (kj:X.env.scope.names.lookup mk=some .local:=by rfl)
  (di:(sp == ("__debug__" : Str))=false:=by decide) (dj:(mk == ("__debug__" : Str))=false:=by decide)
  (hs:swapsWith (.Call (.Attribute (.Name sp p3) "replace" ap) [.Name mk p4,e2] [] cp) (some (.Name sp p2)) q1.line X.env=pure false:=by rfl)
  (hbase:attributeBase (.Name sp p3) "replace" X.env (eval (.Name sp p3) X.env)=eval (.Name sp p3) X.env:=by rfl)
  (hfew:((backTo cp (starEach [.Name mk p4,e2] X.env)).all (fun x=>!x.1) && (backToKw cp (keywordEach [] X.env)).all (fun x=>x.1.isSome)
   && decide ([Expr.Name mk p4,e2].length + ([]:List Keyword).length + (if ([]:List Keyword).isEmpty then 0 else 1) < 30))=true:=by rfl)
  (hline:(ap.endLine == cp.line)=true:=by rfl) (h1:starEach [.Name mk p4,e2] X.env=[(false,eval (.Name mk p4) X.env),(false,eval e2 X.env)]:=by rfl) (hfs:∀ x,foldedSetIterable it X.env x=pure x:=by intro _; rfl) :
  PSt X (.For (.Name mk p1) it [.Assign [.Name sp p2] (.Call (.Attribute (.Name sp p3) "replace" ap) [.Name mk p4,e2] [] cp) q1] [] pos) (ZFd i j ti te):=by
 intro pins s σ H D I htk h
 refine wpAny_For (wpAny_mono (wpAny_toks_of (n:=1) htk (hit pins s σ H _ I h)) (fun v s1 hv=>?_) fun _ _ y=>y.2) hfs
 obtain ⟨tk1,x,H1,I1,r1,z,ex,hasc,q⟩ :=hv
 subst ex
 obtain ⟨t,rfl⟩ :=r1
 refine wpAny_pyIter_ascii hasc ?_
 have fp:FpOk X pins H1 s1.heap.objs.size:=I1.fpOk (Nat.le_refl _) (I1.hok.fresh (Nat.le_refl _))
 have I2:Inv X pins σ H1 { s1 with heap:=s1.heap.push { cls:=.type "str_ascii_iterator",data:=.fields #[.str z t,.int 0 0] } }:=I1.kept (t':=s1.toks) fun b o e=>Heap.get?_push_of_some _ e
 refine codeAny_forLoop_any (fun n s'=>∃ k σ' H',n=z.cps.size - k∧k≤z.cps.size∧Inv X pins σ' H' s'∧s'.heap.IsStrIter s1.heap.objs.size "str_ascii_iterator" z t k∧H' s1.heap.objs.size=none∧0 < s'.toks∧tRep i j te (z.cps.toList.drop k) D σ' H') ?_ z.cps.size
  ⟨0,σ,H1,rfl,Nat.zero_le _,I2,⟨_,Heap.get?_push_size _ rfl,rfl,rfl⟩,fp.1,tk1,by rw [List.drop_zero]; exact q⟩
 rintro n s3 ⟨k,σ3,H3,rfl,hk,I3,st3,f3,tk3,w3⟩
 obtain ⟨g1,g2,g3,g4,g5⟩ :=fp.2
 by_cases hlt:k < z.cps.size
 ·have hz:z.cps[k]?=some z.cps[k]:=by simp [hlt]
  refine wpAny_passesOwn hp (wpAny_pyNext_ascii_item st3 hz fun h' st' sb=>?_)
  have I4:Inv X pins σ3 H3 { s3 with heap:=h',toks:=s3.toks + 1 }:=I3.turned (fun b o hb e=>(sb.2 b hb).trans e) f3 g1 g3 g4 g5
  obtain ⟨o,e,c,d⟩ :=id st'
  refine ZCu (s:={ s3 with heap:=h',toks:=s3.toks + 1 }) e c d (by decide) ?_
  have hd:z.cps.toList.drop k=z.cps[k] :: z.cps.toList.drop (k + 1):=by
   rw [List.drop_eq_getElem_cons (by simpa using hlt)]
   simp
  rw [hd] at w3
  obtain ⟨x,ex,w4⟩ :=w3
  have I5:=I4.pinned (fp:=[s1.heap.objs.size]) (fun b hb=>by rw [List.mem_singleton.mp hb]; exact ⟨f3,g1,g2,g3,g4,g5⟩) (fun b hb=>by rw [List.mem_singleton.mp hb]; exact ⟨o,e,fun v y=>by rw [d] at y; cases y⟩)
  refine wpAny_assign_Name (Zpg (v:=.str ⟨#[z.cps[k]]⟩) I5 hN hj kj ⟨_,rfl⟩ fun s5 m5 I6 hn5 hm5 ht5 _=>?_)
  refine wpAny_passesOwn hp (wpAny_mono (ZGk hN hi ki kj he di dj hs hbase hfew hline h1 I6 hn5 hm5 (Nat.ne_of_gt tk3) (by show s3.toks < s5.toks; rw [ht5]; exact Nat.lt_succ_of_lt (Nat.lt_succ_self _)) ex w4) (fun f s7 hq=>?_) fun _ _ y=>y)
  obtain ⟨rfl,tk7,σ7,H7,I7,w7⟩ :=hq
  have pe:=I7.pin (s1.heap.objs.size,o) (List.mem_append_right _ (List.mem_append_right _ (ZjB (by simp) e)))
  refine ⟨z.cps.size - (k + 1),by omega,k + 1,σ7,H7,rfl,hlt,I7.unpinned,⟨o,pe.1,c,d⟩,pe.2.1,tk7,w7⟩
 ·have hk':k=z.cps.size:=by omega
  subst hk'
  rw [List.drop_of_length_le (by simp)] at w3
  refine wpAny_passesOwn hp (wpAny_pyNext_ascii_end (I3.ok.hd hc) st3 (by simp) fun h' eb=>?_)
  exact wpAny_execs_nil ⟨σ3,H3,I3.turned (t':=s3.toks) (fun b o hb e=>eb b o hb e) f3 g1 g3 g4 g5,w3⟩
end
section
variable {X:Cx} {pins:List (Addr × Obj)} {σ:List (Option V)} {H:Hp} {s:Shared}
theorem Zwz:∀ ls:List (Str × Tok),Vals (ls.map fun p=>V.str p.1) (strValues ls)
 | []=>.nil
 | (z,t) :: ls=>.cons ⟨t,rfl⟩ (Zwz ls)
theorem ZmD {ls:List (Str × Tok)} {k:Nat} {Q:VK} (I:Inv X pins σ H s) (q:NewL (ls.map fun p=>V.str p.1) H Q):EP X pins σ Q (.ref s.heap.objs.size) { s with heap:=s.heap.push { cls:=.type "list",data:=.seq (strValues ls).toArray },toks:=k }:=
 ⟨.ref s.heap.objs.size,upd H s.heap.objs.size (.lst _),I.laid (t':=k) (fun b u e=>Heap.get?_push_of_some _ e) (Nat.le_refl _) ⟨q.1,strValues ls,0,Zwz ls,Heap.get?_push_size _ rfl⟩,rfl,q.2 _ (I.hok.fresh (Nat.le_refl _))⟩
theorem ZmE {ls:List (Str × Tok)} {ts:List Str} (h:ls.map (·.1)=ts):(ls.map fun p=>V.str p.1)=ts.map V.str:=by
 rw [← h,List.map_map]; rfl
def ZKh:V→List V→Hp→VK→Prop:=fun x vs H Q=>∃ z:Str,x=.str z∧z.length≤100000∧((vs=[]∧NewL ((Txt.words z).map V.str) H Q)∨(∃ c:Nat,vs=[.str ⟨#[c]⟩]∧NewL ((Txt.split z ⟨#[c]⟩).map V.str) H Q))
theorem ZFZ:MtR X "str.split" ZKh:=by
 intro pins s σ H x vs v us Q I rx rv h
 obtain ⟨z,rfl,hz,h⟩ :=h
 obtain ⟨t,rfl⟩ :=rx
 have hzs:z.length≤sizeLine:=Zcd (by omega)
 rcases h with ⟨rfl,q⟩ | ⟨c,rfl,q⟩
 ·cases rv
  have hw0:=StrLaws.sw_weight z
  have hw1:=StrLaws.len_le_wsum (Builtin.Str.spaceWords z (z.length + 1))
  refine call_meets F.slot_str_split (typeIs_str _ _ _) F.entry_str_split (F.args_str_split_1 _) (meets_str_split_space z t hzs (Zcd (by omega))) ?_
  cases hw:Builtin.Str.spaceWords z (z.length + 1) == [(0,z.length)]
  ·simp only [Bool.false_eq_true,if_false]
   rw [strsFrom_eq]
   have e:(numbered s.toks (wordsOf z)).map (·.1)=Txt.words z:=(numbered_texts _ _).trans (if_neg (ne_true_of_eq_false hw)).symm
   exact ZmD (ls:=numbered s.toks (wordsOf z)) I (by rw [ZmE e]; exact q)
  ·simp only [if_true]
   have e:[(z,t)].map (·.1)=Txt.words z:=(if_pos hw).symm
   exact ZmD (ls:=[(z,t)]) (k:=s.toks) I (by rw [ZmE e]; exact q)
 ·obtain ⟨u,rfl,tu,rfl⟩ :=rv.one
  have hy:((⟨#[c]⟩ : Str).length == 0)=false:=rfl
  cases h1:(decide (z.length < (⟨#[c]⟩ : Str).length) || decide (Builtin.Str.strKind z < Builtin.Str.strKind ⟨#[c]⟩))
  ·cases hf:(Builtin.Str.occurrences z ⟨#[c]⟩ 0 z.length (z.length + 1)).isEmpty
   ·have e0:Txt.split z ⟨#[c]⟩=Builtin.Str.partsBetween z (Builtin.Str.occurrences z ⟨#[c]⟩ 0 z.length (z.length + 1)) (⟨#[c]⟩ : Str).length:=(if_neg (ne_true_of_eq_false h1)).trans (if_neg (ne_true_of_eq_false hf))
    have hn:(Builtin.Str.partsBetween z (Builtin.Str.occurrences z ⟨#[c]⟩ 0 z.length (z.length + 1)) (⟨#[c]⟩ : Str).length).length≤sizeLine:=by
     rw [← e0]
     have:=q.1
     rwa [List.length_map] at this
    refine call_meets F.slot_str_split (typeIs_str _ _ _) F.entry_str_split (F.args_str_split_2 _ _) (meets_str_split_sep z ⟨#[c]⟩ t tu h1 hy hf hzs hn) ?_
    show wants _ _ _ { s with toks:=_,heap:=s.heap.push { cls:=.type "list",data:=.seq (strsFrom s.toks (Builtin.Str.partsBetween z (Builtin.Str.occurrences z ⟨#[c]⟩ 0 z.length (z.length + 1)) (⟨#[c]⟩ : Str).length)).toArray } }
    rw [strsFrom_eq]
    have e:(numbered s.toks (Builtin.Str.partsBetween z (Builtin.Str.occurrences z ⟨#[c]⟩ 0 z.length (z.length + 1)) (⟨#[c]⟩ : Str).length)).map (·.1)=Txt.split z ⟨#[c]⟩ :=(numbered_texts _ _).trans e0.symm
    exact ZmD (ls:=numbered s.toks _) I (by rw [ZmE e]; exact q)
   ·have e:[(z,t)].map (·.1)=Txt.split z ⟨#[c]⟩ :=((if_neg (ne_true_of_eq_false h1)).trans (if_pos hf)).symm
    exact call_meets F.slot_str_split (typeIs_str _ _ _) F.entry_str_split (F.args_str_split_2 _ _) (meets_str_split_not_found z ⟨#[c]⟩ t tu h1 hy hf) (ZmD (ls:=[(z,t)]) (k:=s.toks) I (by rw [ZmE e]; exact q))
  ·have e:[(z,t)].map (·.1)=Txt.split z ⟨#[c]⟩ :=(if_pos h1).symm
   exact call_meets F.slot_str_split (typeIs_str _ _ _) F.entry_str_split (F.args_str_split_2 _ _) (meets_str_split_cannot_occur z ⟨#[c]⟩ t tu h1) (ZmD (ls:=[(z,t)]) (k:=s.toks) I (by rw [ZmE e]; exact q))
def ZKg:R2:=fun x y H Q=>∃ (z:Str) (n:Int),x=.str z∧y=.int n∧MulOk z n∧Q (.str (Txt.mul z n)) H
theorem ZIp:OpR X (binaryOp .Mult) ZKg:=by
 intro pins s σ H x y v u Q I rx ry h
 obtain ⟨z,n,rfl,rfl,hm,q⟩ :=h
 obtain ⟨t,rfl⟩ :=rx
 obtain ⟨t',rfl⟩ :=ry
 exact SB.mul hm fun t' k=>⟨.str _,H,I.tok k,⟨t',rfl⟩,q⟩
end
section
variable {σ:St} {H:Hp} {Q:VK} {D:Ends}
theorem ZBt {i j:Nat} {ti te:TE} (h:ti σ H fun v H1=>∃ z:Str,v=.str z∧z.cps.all (· < 128)=true∧tRep i j te z.cps.toList D σ H1):ZFd i j ti te D σ H:=h
theorem ZJy {i j:Nat} {te:TE} (h:D.nx σ H):tRep i j te [] D σ H:=h
theorem ZDN {i j c:Nat} {cs:List Nat} {te:TE} (x:Str) (e:(σ.set j (some (.str ⟨#[c]⟩)))[i]?=some (some (.str x))) (h:te (σ.set j (some (.str ⟨#[c]⟩))) H fun v H1=>∃ z:Str,v=.str z∧(((⟨#[c]⟩ : Str) == z)=false)∧x.length + (x.length + 1) * z.length≤16777216∧
   tRep i j te cs D ((σ.set j (some (.str ⟨#[c]⟩))).set i (some (.str (Txt.replace x ⟨#[c]⟩ z)))) H1):tRep i j te (c :: cs) D σ H:=⟨x,e,h⟩
end
end L2
set_option maxRecDepth 100000
namespace L2
open PySem PySem.Spec PyProof.Rows
section
variable {ix:List Nat} {tc:TT} {te:TE} {σ:St} {H:Hp} {Q:VK}
end
def MeS1 (P:Program) (w:World) (K:PySem.W.Frag) (mg:Str→Option Value) (base:Heap) (k:Nat) (C:Addr) (m:Str) (ps:List Str) (sp:Sp):Prop:=Cls K C∧∃ f fd,FnOk P w K mg base (CX1 P w) k f fd ps sp∧Za0 K fd ps []∧Meth K C m f
section
variable {X:Cx} {k k':Nat} {m:Str} {ps:List Str} {sp:Sp} {e o:Expr} {es:List Expr} {ta:TE} {t:TA} {pos apos:Pos}
end
end L2
set_option maxRecDepth 100000
set_option maxHeartbeats 4000000
namespace L2
open PySem PySem.Spec PyProof.Rows
section
variable {X:Cx}
end
section
variable {X:Cx} {x x':Str} {ns:List Str} {ix:List Nat} {sc scope:Scope} {N:List Str} {elt iter:Expr} {px px' tp pos:Pos} {tk:Nat} {ifs:List Expr} {tc:TT} {te:TE} {wi:TI}
end
section
variable {ix:List Nat} {tc:TT} {te:TE} {σ:St} {H:Hp} {Q:VK} {K:PySem.W.Frag}
end
section
variable {X:Cx} {k k':Nat} {m:Str} {ps:List Str} {sp:Sp} {e o:Expr} {es:List Expr} {ta:TE} {t:TA} {pos apos:Pos} {E:XK}
def tDyP (D:Addr→Prop) (m:Str) (sp:Sp) (E:XK) (ta:TE) (t:TA):TE:=fun σ H Q=>ta σ H fun x H1=>∃ a C dx fs,x=.ref a∧H1 a=some (.ins C dx fs)∧D C∧fs.lookup m=none∧
 t σ H1 fun vs H2=>H2 a=some (.ins C dx fs)∧sp (x :: vs) H2 Q E
theorem ZJ5 {pl:Sem Bool} {D:Addr→Prop} (hp:ZnG (CX1 X.prog X.w) X E) (hD:∀ C,D C→MeS1 X.prog X.w X.K X.mg X.base k C m ps (spAt sp C)) (hr:Room k' X.A) (ho:PE X o ta) (ha:PA X (e :: es) t) (hk:k≤k':=by omega)
  (hst:starEach (e :: es) X.env=(false,eval e X.env) :: starEach es X.env:=by rfl) (hpl:(backTo pos (starEach es X.env)).any (·.1)=false:=by rfl)
  (ht:eval (.Call (.Attribute o m apos) (e :: es) [] pos) X.env=(do
   let ov ← eval o X.env
   standAt apos.atName
   let (f,first) ← holding [ov] (getMethod ov m pl)
   callWith pos f first (backTo pos (starEach (e :: es) X.env)) (backToKw pos (keywordEach [] X.env))):=by rfl) :
  PE X (.Call (.Attribute o m apos) (e :: es) [] pos) (tDyP D m sp E ta t):=by
 intro pins s σ H Q I h
 refine PySem.W.methodCall_KW (pl:=pl) (thn (ho pins s σ H _ I h) fun u s1 ⟨x,H1,I1,rx,a,C,dx,fs,ex,ea,hC,l,q⟩ =>?_) ht
 subst ex
 obtain rfl:u=Value.ref a:=rx
 obtain ⟨c,f,fd,F,hb,hm⟩ :=hD C hC
 refine Zrr I1 ea c hm l ?_
 refine PySem.W.callWith_K (first:=[.ref a]) (h₀:=X.base) I.ok.mod.kin hm.kp (thn (ha pos pins s1 σ H1 _ I1 q) fun us s2 ⟨vs,H2,I2,r,eb,q2⟩ =>⟨I2.kIn,?_⟩) hst hpl
 exact ZB6 (us:=.ref a :: us) (vs:=.ref a :: vs) (dvs:=[]) (E:=E) F (hr.mono hk) hb .nil hp I2 (.cons rfl r) (by rw [List.append_nil]; exact ⟨q2,a,dx,fs,vs,rfl,eb⟩)
theorem ZJj {D:Addr→Prop} {σ:St} {H:Hp} {Q:VK} (h:ta σ H fun x H1=>∃ a C dx fs,x=.ref a∧H1 a=some (.ins C dx fs)∧D C∧fs.lookup m=none∧
 t σ H1 fun vs H2=>H2 a=some (.ins C dx fs)∧sp (x :: vs) H2 Q E):tDyP D m sp E ta t σ H Q:=h
end
section
variable {X:Cx} {a:Expr} {ta:TE} {pos:Pos}
end
end L2
set_option maxRecDepth 100000
set_option maxHeartbeats 4000000
namespace L2
open PySem PySem.Spec PyProof.Rows
section
variable {X:Cx} {pins:List (Addr × Obj)} {σ:St} {H:Hp} {s:Shared} {h':Heap}
theorem Inv.forgot1 {t':Nat} {i:Nat} {n:Str} {m:Str→Option Value} {v0:Option Value} (I:Inv X pins σ H s) (hN:X.N.Nodup) (hi:X.N[i]?=some n)
  (hl:∀ (j:Nat) (x:Str) (v:V),X.N[j]?=some x→σ[j]?=some (some v)→Vis X.env.scope x→∃ u,RelV v u∧Look X.env s.heap m x u)
  (hn':h'.Ns X.env.locals (fun x=>if x=n then v0 else m x)) (hs:Heap.SameBut X.env.locals s.heap h'):Inv X pins (σ.set i none) H { s with heap:=h',toks:=t' }:=by
 have J:=I.forgot (t':=t') hn' hs
 refine ⟨J.ok,J.os,J.bare,J.base,⟨_,hn',fun j y v' e1 e2 e3=>?_⟩,J.cell,J.free,J.freeC,J.pin,J.hok,by rw [List.length_set]; exact I.len⟩
 have hji:j ≠ i:=fun e=>by
  subst e
  rw [List.getElem?_set] at e2
  split at e2
  ·split at e2 <;> cases e2
  ·rename_i z; exact z rfl
 rw [List.getElem?_set,if_neg (Ne.symm hji)] at e2
 have hyn:y ≠ n:=fun e=>by
  subst e
  have hjl:=(List.getElem?_eq_some_iff.mp e1).1
  exact hji ((List.getElem?_inj hjl hN).mp (e1.trans hi.symm))
 obtain ⟨u,r,l⟩ :=hl j y v' e1 e2 e3
 refine ⟨u,r,?_⟩
 rcases l with ⟨k1,k2⟩ | ⟨k1,c,k2,k3⟩
 ·exact .inl ⟨k1,by show (if y=n then v0 else m y)=_; rw [if_neg hyn]; exact k2⟩
 ·obtain ⟨o,ho,hd⟩ :=k3
  exact .inr ⟨k1,c,k2,⟨o,(hs.2 c (I.cne y c k2)).trans ho,hd⟩⟩
end
def tAsN (K:PySem.W.Frag) (i:Nat) (ts:Addr→Addr→TS):Addr→TS:=fun C D σ H=>ExcK K C∧∀ ea,ts ea C { nx:=fun σ' H'=>D.nx (σ'.set i none) H',rt:=D.rt } (σ.set i (some (.ref ea))) H
section
variable {X:Cx} {N:Str} {C':Addr} {np pos:Pos} {b₀:Stmt} {suite:List Stmt} {rest:List ExceptHandler} {ts tr:Addr→TS}
theorem ZEH {i:Nat} {n:Str} {ts:Addr→Addr→TS} (cn:Clause X N C') (hN:X.N.Nodup) (hi:X.N[i]?=some n) (hx:X.env.scope.names.lookup n=some .local)
  (hs:∀ ea oe C pn',(ea,oe) ∈ pn'→oe.cls=.ref C→oe.dict=none→PySem.W.notCls oe=true→ExcK X.K C→PSs (X.hand ea pn') (b₀ :: suite) (ts ea C)) (hr:PH X rest tr) :
  PH X (.ExceptHandler (some (.Name N np)) (some n) (b₀ :: suite) pos :: rest) (ZIO X.K C' (tAsN X.K i ts) tr):=by
 intro pins s σ H D ea T C c h
 obtain ⟨b,eb,h1,h2⟩ :=h
 obtain ⟨oe,IA,nc⟩ :=c.inst
 have J:=c.hand IA nc
 refine wpAny_handleBy_cons (codeAny_handlers_test (ZkO (X:=X.hand ea (X.pn ++ pins ++ [(ea,oe)])) J cn.gl cn.mg ?_ cn.db)) (by intro q; cases q)
 obtain ⟨hp,g,d,t,os⟩ :=s
 refine Zun c.inv.kIn IA cn.ty cn.cl cn.mb eb ?_
 cases b with
 | false=>exact hr pins _ σ H D ea T C c (h2 rfl)
 | true=>
  refine codeAny_handlers_suite_as (ZpD c fun h' c'=>?_)
  obtain ⟨oe',IA',nc'⟩ :=c'.inst
  have J':=c'.hand IA' nc'
  refine Zx8 (X:=X.hand ea (X.pn ++ pins ++ [(ea,oe')])) (v:=.ref ea) J' hN hi (.inl hx) rfl (fun s1 I1=>?_) (.inr hx)
  have hd:oe'.dict=none:=by
   have z:=IA'.dict
   cases q:oe'.dict with
   | none=>rfl
   | some y=>rw [q] at z; exact z.elim
  refine wpAny_mono (hs ea oe' C _ (List.mem_append_right _ (List.mem_singleton.mpr rfl)) IA'.cls hd IA'.no (h1 rfl).1 [] _ _ H _ I1 ((h1 rfl).2 ea)) (fun f s2 q=>?_) fun _ _ z=>False.elim z
  have q':=SP.unhand c.inv.ok q
  cases f with
  | next=>
   obtain ⟨σ',H',I2,z⟩ :=q'
   obtain ⟨m,hn,hl⟩ :=id I2.loc
   refine wpAny_nameGoes_keeps hx hn (by rw [I2.ok.kind]; rfl) fun h3 m3 hn3 hs3=>?_
   exact ⟨_,H',I2.forgot1 (t':=s2.toks + 1) hN hi hl hn3 hs3,z⟩
  | brk=>obtain ⟨_,_,_,z⟩ :=q'; exact False.elim z
  | cont=>obtain ⟨_,_,_,z⟩ :=q'; exact False.elim z
  | ret u=>
   obtain ⟨v,σ',H',I2,r,z⟩ :=q'
   obtain ⟨m,hn,_⟩ :=id I2.loc
   refine wpAny_nameGoes hx hn (by rw [I2.ok.kind]; rfl) fun h3 m3 hn3 hs3=>?_
   exact ⟨v,_,H',I2.forgot (t':=s2.toks + 1) hn3 hs3,r,z⟩
theorem ZKU {K:PySem.W.Frag} {i:Nat} {ts:Addr→Addr→TS} {C:Addr} {D:Ends} {σ:St} {H:Hp} (e:ExcK K C) (h:∀ ea,ts ea C { nx:=fun σ' H'=>D.nx (σ'.set i none) H',rt:=D.rt } (σ.set i (some (.ref ea))) H):tAsN K i ts C D σ H:=⟨e,h⟩
end
end L2
set_option maxRecDepth 100000
set_option maxHeartbeats 4000000
namespace L2
open PySem PySem.Spec PyProof.Rows
section
variable {X:Cx}
end
section
variable {X:Cx} {e:Expr} {td:TE} {st:Stmt} {t:TS}
end
theorem ZCJ {X:Cx} {a b c d:Str} {i j k l:Nat} {p q r o:Pos} {es:List Expr} {t:TA} (h:PA X es t):PA X (.Constant (.str a) i p :: .Constant (.str b) j q :: .Constant (.str c) k r :: .Constant (.str d) l o :: es) (Zvs (tC (.str a)) (Zvs (tC (.str b)) (Zvs (tC (.str c)) (Zvs (tC (.str d)) t)))):=
 Zaa Zak (Zaa Zak (Zaa Zak (Zaa Zak h)))
end L2
set_option maxRecDepth 100000
set_option maxHeartbeats 4000000
namespace L2
open PySem PySem.Spec PyProof.Rows
section
variable {X:Cx} {k k':Nat} {x:Str} {ps:List Str} {sp:Sp} {e:Expr} {es:List Expr} {t:TA} {pos p:Pos} {E:XK}
def tFnP (sp:Sp) (E:XK) (t:TA):TE:=fun σ H Q=>t σ H fun vs H1=>sp vs H1 Q E
theorem ZHm (hp:ZnG (CX1 X.prog X.w) X E) (G:FnS1 X.prog X.w X.K X.mg X.base k x ps sp) (hr:Room k' X.A) (ha:PA X (e :: es) t) (hk:k≤k':=by omega) (hg:Gl X x:=by rfl) (hdb:(x == ("__debug__" : Str))=false:=by decide)
  (he:starEach (e :: es) X.env=(false,eval e X.env) :: starEach es X.env:=by rfl) (hpl:(backTo pos (starEach es X.env)).any (·.1)=false:=by rfl):PE X (.Call (.Name x p) (e :: es) [] pos) (tFnP sp E t):=by
 obtain ⟨f,fd,F,hb,kp,hm⟩ :=G
 have z:=ZAU (p:=p) (pos:=pos) F (hr.mono hk) hg hm kp hb .nil hp ha hdb he hpl
 intro pins s σ H Q I h
 refine z pins s σ H Q I ?_
 show t σ H fun vs H1=>sp (vs ++ []) H1 Q E
 simp only [List.append_nil]
 exact h
theorem ZKW {σ:St} {H:Hp} {Q:VK} (h:t σ H fun vs H1=>sp vs H1 Q E):tFnP sp E t σ H Q:=h
end
def isTx (z:Str):Value→Bool
 | .str a _=>a == z
 | _=>false
section
variable {X:Cx}
def ZEL:V→List V→Hp→VK→Prop:=fun x vs H Q=>∃ (l:Addr) (ns:List Str) (z:Str) (j:Nat),x=.ref l∧vs=[.str z]∧H l=some (.lst (ns.map V.str))∧ns[j]?=some z∧(∀ m,m < j→ns[m]? ≠ some z)∧j < 1000000∧Q (.int (j:Int)) H
theorem ZF0:MtM X "list.index" ZEL:=by
 intro pins s σ H x vs v us Q I rx rv h
 obtain ⟨l,ns,z,j,rfl,rfl,hH,hj,hno,hz,q⟩ :=h
 cases rx
 obtain ⟨u,rfl,ru⟩ :=rv.one
 obtain ⟨tu,rfl⟩ :=(show ∃ t,u=Value.str z t from ru)
 obtain ⟨_,its,n,r,hl,e⟩ :=I.lstM hH
 have at':∀ m (hm:m < its.toArray.size),∃ a t,ns[m]?=some a∧its.toArray[m]=Value.str a t:=fun m hm=>by
  rw [List.size_toArray] at hm
  have hn:m < ns.length:=by
   have:=r.length
   rw [List.length_map] at this
   omega
  obtain ⟨w',hw,rw'⟩ :=r.get (i:=m) (x:=V.str ns[m]) (by rw [List.getElem?_map,List.getElem?_eq_getElem hn]; rfl)
  obtain ⟨t,ht⟩ :=(show ∃ t,w'=Value.str ns[m] t from rw')
  refine ⟨ns[m],t,List.getElem?_eq_getElem hn,?_⟩
  rw [List.getElem?_eq_getElem hm] at hw
  rw [List.getElem_toArray,Option.some.inj hw,ht]
 have hjl:j < its.toArray.size:=by
  have h1:=(List.getElem?_eq_some_iff.mp hj).1
  have:=r.length
  rw [List.length_map] at this
  rw [List.size_toArray]
  omega
 refine call_meets F.slot_list_index ⟨_,e,rfl⟩ F.entry_list_index (F.args_list_index_2 _ _) (MeetsSeq.list_index l its.toArray n (.str z tu) (isTx z) (fun y hy=>?_) j hjl (by omega) ?_ (fun m hm hlt=>?_)) ⟨e,⟨.int (j:Int),H,I.tok _,⟨_,rfl⟩,q⟩⟩
 ·obtain ⟨m,hm,rfl⟩ :=Array.mem_iff_getElem.mp hy
  obtain ⟨a,t,_,e2⟩ :=at' m hm
  rw [e2]
  exact eqGives_str a z t tu
 ·obtain ⟨a,t,h1,e2⟩ :=at' j hjl
  rw [e2]
  rw [hj] at h1
  cases h1
  show (z == z)=true
  exact beq_self_eq_true z
 ·obtain ⟨a,t,h1,e2⟩ :=at' m hm
  rw [e2]
  show (a == z)=false
  have ne:a ≠ z:=fun y=>hno m hlt (by rw [h1,y])
  exact beq_false_of_ne ne
end
section
variable {H:Hp} {Q:VK}
theorem ZHY {l:Addr} {ns:List Str} {z:Str} {j:Nat} (h:H l=some (.lst (ns.map V.str))) (hj:ns[j]?=some z) (hno:∀ m,m < j→ns[m]? ≠ some z) (hz:j < 1000000) (q:Q (.int (j:Int)) H):ZEL (.ref l) [.str z] H Q:=⟨l,ns,z,j,rfl,rfl,h,hj,hno,hz,q⟩
end
end L2
set_option maxRecDepth 100000
set_option maxHeartbeats 4000000
namespace L2
open PySem PySem.Spec PyProof.Rows
def PEt (X:Cx) (e:Expr) (t:TE):Prop:=∀ (pins:List (Addr × Obj)) (s:Shared) (σ:St) (H:Hp) (Q:VK),Inv X pins σ H s→0 < s.toks→t σ H Q→wpAny (model X.prog X.w) X.A (eval e X.env) (EP X pins σ Q) X.xe s
def ZKG (to:TE) (y z:Str):TE:=fun σ H Q=>to σ H fun v H1=>∃ x:Str,v=.str x∧(y == z)=false∧x.length + (x.length + 1) * z.length≤16777216∧Q (.str (Txt.replace x y z)) H1
section
variable {X:Cx}
theorem ZJ9 {e:Expr} {t:TE} (h:PE X e t):PEt X e t:=fun pins s σ H Q I _ q=>h pins s σ H Q I q
theorem ZEF {o:Expr} {to:TE} {y z:Str} {i j:Nat} {p q ap cp:Pos} (ho:PEt X o to)
  (hbase:attributeBase o "replace" X.env (eval o X.env)=eval o X.env:=by rfl)
  (hfew:((backTo cp (starEach [.Constant (.str y) i p,.Constant (.str z) j q] X.env)).all (fun x=>!x.1) && (backToKw cp (keywordEach [] X.env)).all (fun x=>x.1.isSome)
   && decide ([Expr.Constant (.str y) i p,.Constant (.str z) j q].length + ([]:List Keyword).length + (if ([]:List Keyword).isEmpty then 0 else 1) < 30))=true:=by rfl)
  (hline:(ap.endLine == cp.line)=true:=by rfl) (h1:starEach [.Constant (.str y) i p,.Constant (.str z) j q] X.env=[(false,eval (.Constant (.str y) i p) X.env),(false,eval (.Constant (.str z) j q) X.env)]:=by rfl) :
  PEt X (.Call (.Attribute o "replace" ap) [.Constant (.str y) i p,.Constant (.str z) j q] [] cp) (ZKG to y z):=by
 intro pins s σ H Q I htk h
 refine wpAny_Call_method_late hbase hfew hline rfl (wpAny_mono (wpAny_toks_of (n:=1) htk (ho pins s σ H _ I htk h)) (fun v s1 hv=>?_) fun _ _ y=>y.2)
 obtain ⟨tk1,w',H1,I1,r1,x,rfl,hz,hlen,q1⟩ :=hv
 obtain ⟨t,rfl⟩ :=r1
 obtain ⟨t1,t2⟩ :=ZCc (T:="str") I1 (x:=.str x) ⟨t,rfl⟩ tyS
 refine ⟨"str","str.replace",F.plainAttrs_str,F.slot_str_replace,F.type_str_replace,t1,t2,?_⟩
 rw [h1]
 refine Calls.callWith_builtin rfl (Calls.evalArgs_plain (Calls.spliced_cons (Calls.Constant_str (k:=i) (pos:=p) (Calls.spliced_cons (Calls.Constant_str (k:=j) (pos:=q) (Calls.spliced_nil ?_))))))
 refine SC.replace (Nat.ne_of_gt tk1) (Nat.succ_ne_zero _) (Nat.ne_of_lt (Nat.lt_succ_self _)) hz hlen fun t' k'=>?_
 exact ⟨.str (Txt.replace x y z),H1,I1.tok k',⟨t',rfl⟩,q1⟩
theorem ZIw {e:Expr} {t:TE} {pos:Pos} (h:PEt X e t):PSt X (.Return (some e) pos) (tRet t):=fun pins s σ H D I htk q=>wpAny_Return_some (thn (h pins s σ H _ I htk q) fun u s1 ⟨v,H1,I1,r,z⟩ =>⟨v,σ,H1,I1,r,z⟩)
theorem ZGf {st:Stmt} {t:TS} (h:PSt X st t):PSst X [st] t:=by
 intro pins s σ H D I htk q
 refine wpAny_execs_cons (thn (h pins s σ H D I htk q) fun f s1 q=>?_)
 cases f with
 | next=>exact wpAny_execs_nil q
 | ret v=>exact q
 | brk=>exact q
 | cont=>exact q
theorem ZJx {to:TE} {y z:Str} {σ:St} {H:Hp} {Q:VK} (h:to σ H fun v H1=>∃ x:Str,v=.str x∧(y == z)=false∧x.length + (x.length + 1) * z.length≤16777216∧Q (.str (Txt.replace x y z)) H1):ZKG to y z σ H Q:=h
end
section
variable {X:Cx}
def ZLa (K:PySem.W.Frag):List V→Hp→VK→Prop:=fun xs H Q=>∃ (p:Addr) (ns:List Int),xs=[.ref p]∧SqL K H p (ns.map V.int)∧0 < ns.length∧∀ M:Int,Q (.int M) H
theorem ZC9 (hc:X.calm=true):Zlo X (.builtin "max") (ZLa X.K):=by
 intro pins s σ H xs us Q I r h
 obtain ⟨p,ns,rfl,hq,hn,q⟩ :=h
 cases r with
 | cons r rr=>
  cases rr
  cases r
  obtain ⟨its,rv,pl,hz⟩ :=I.list hq
  obtain ⟨zs,e,en⟩ :=ZyM rv
  have pl':s.heap.IsList p (intItems zs.toArray):=by
   have e':intItems zs.toArray=its.toArray:=by rw [e]; simp [intItems]
   rw [e']; exact pl.isList
  have hsz:0 < zs.toArray.size:=by
   rw [List.size_toArray]
   have:=congrArg List.length en
   rw [List.length_map] at this
   omega
  refine max_intList (I.ok.hd hc) pl' hsz fun v h' tk hv hk=>?_
  obtain ⟨t,rfl⟩ :=intItems_at hv
  exact ⟨.int _,H,I.kept hk,⟨t,rfl⟩,q _⟩
def ZLb:R2:=fun x y H Q=>ZIx x y H Q∨ZKg x y H Q
theorem ZAR:OpR X (binaryOp .Mult) ZLb:=OpR.or ZrB ZIp
end
end L2
open PySem L2
local macro_rules | `(tactic| walk_at "side") => `(tactic| first | omega | (show (_ : Int) < _; omega) | exact ⟨by omega, by omega⟩ | exact ⟨by omega, by omega, by decide⟩)
local macro_rules | `(tactic| walk_at "rd1") => `(tactic| first
 | (with_reducible first | refine ZiZ ?_ | refine ZJh ?_ | refine i_op ?_ | refine i_c ?_ | refine ZGM ?_ | refine ZJu ?_ | refine ZJq ?_ | refine ZJz ?_ | refine i_fn ?_ | refine i_cb ?_ | refine ZG4 ?_ | refine ZJl ?_ | refine ZJm ?_ | refine ZG5 ?_ | refine i_dy ?_ | refine i_mk ?_ | refine ZJn ?_ | refine ZG3 ?_ | refine ZGO ?_ | refine ZGZ ?_ | refine i_retN ?_ | refine i_brk ?_ | refine i_cont ?_ | refine i_un ?_ | refine ZJg ?_ | refine i_or ?_ | refine ZJv ?_ | refine ZGL ?_ | refine i_orV ?_ | refine ZG1 ?_ | refine i_if ?_ | refine ZJA ?_ | refine ZJs ?_ | refine i_bm ?_ | refine ZJi ?_ | refine i_sl ?_ | refine ZG2 ?_ | refine ZBu ?_ | refine ZDH ?_ | refine i_forR2 ?_ | refine i_forR3 ?_ | refine i_compR3 ?_ | refine i_listrev ?_ | refine i_sortset ?_ | refine ZGS ?_ | refine i_forE ?_ | refine i_forEX ?_ | refine ZBt ?_ | refine i_forD ?_ | refine i_compD ?_ | refine i_compS2 ?_ | refine i_frzE ?_ | refine i_thawF ?_ | refine i_forK ?_ | refine i_compK ?_ | refine i_dpopT ?_ | refine i_dget ?_ | refine i_thawR ?_ | refine i_fmtI ?_ | refine ZJj ?_ | refine ZKW ?_ | refine ZJx ?_ | refine i_listrng ?_ | refine i_frz ?_ | refine i_addF ?_ | refine i_forZ ?_ | refine i_forV ?_ | refine i_bitlen ?_ | refine ZDE ?_ | refine i_truI ?_ | refine i_compR1 ?_ | refine i_compR2 ?_ | refine ZDF ?_ | refine ZG0 ?_ | refine ZJw ?_ | refine ZGK ?_ | refine i_rU ?_ | refine ZGP ?_ | refine ZGQ ?_ | refine i_eqAB ?_ | refine i_neAI ?_ | refine ZGY ?_ | refine i_neAB ?_ | refine i_fs ?_ | refine i_gsub ?_ | refine i_jc ?_ | refine ZJo ?_ | refine ZGR ?_ | refine ZHW ?_ | refine ZHX ?_ | refine i_eqB ?_ | refine i_neI ?_ | refine ZH1 ?_ | refine i_neB ?_ | refine i_intI ?_ | refine ZGT ?_ | refine ZH0 ?_ | refine ZJt ?_)
 | ((with_reducible refine ZGX ?_); (try dsimp only [List.set_cons_succ,List.set_cons_zero]))
 | ((with_reducible refine' ZJC ?hv ?_); (case hv=>exact rfl))
 | ((with_reducible refine i_rI ?hc ?_); (case hc=>walk_at "side"))
 | ((with_reducible refine' ZGW ?hc ?_); (case hc=>assumption))
 | ((with_reducible refine' ZGV ?hc ?_); (case hc=>assumption))
 | ((with_reducible refine' i_lenT ?hc ?_); (case hc=>assumption))
 | ((with_reducible refine' ZGU ?ht ?he ?_); (case ht=>first | exact TyOf.bl _ | exact TyOf.int _ | exact TyOf.str _ | exact TyOf.non | exact TyOf.lst (by assumption) | exact TyOf.tup (by assumption)); (case he=>first | exact ZBC _ _ | exact kit_int_bool _ | exact kit_bool_int _ | exact kit_str_bool _ | exact kit_str_int _ | exact kit_list_int _ | exact kit_list_bool _ | exact kit_none_int _ | exact kit_none_list _ | exact kit_none_str _ | exact kit_none_tuple _ | exact kit_list_tuple _ | exact kit_tuple_list _ | exact kit_str_list _ | exact kit_int_str _ | exact kit_int_list _ | exact kit_bool_str _ | exact kit_bool_list _ | exact kit_int_tuple _ | exact kit_str_tuple _ | exact kit_bool_tuple _ | exact kit_tuple_int _ | exact kit_tuple_bool _ | exact kit_tuple_str _ | exact kit_list_str _ | exact kit_none_bool _)))
local macro_rules | `(tactic| walk_at "rs1") => `(tactic| first
 | (with_reducible first | refine ZJh ?_ | refine i_op ?_ | refine i_c ?_ | refine ZGM ?_ | refine ZJu ?_ | refine ZJq ?_ | refine ZJz ?_ | refine i_fn ?_ | refine i_cb ?_ | refine ZG4 ?_ | refine ZJl ?_ | refine ZJm ?_ | refine ZG5 ?_ | refine i_dy ?_ | refine i_mk ?_ | refine ZJn ?_ | refine ZG3 ?_ | refine ZGO ?_ | refine ZGZ ?_ | refine i_retN ?_ | refine i_brk ?_ | refine i_cont ?_ | refine i_un ?_ | refine ZJg ?_ | refine i_or ?_ | refine ZJv ?_ | refine ZGL ?_ | refine i_orV ?_ | refine ZG1 ?_ | refine i_if ?_ | refine ZJA ?_ | refine ZJs ?_ | refine i_bm ?_ | refine ZJi ?_ | refine i_sl ?_ | refine ZG2 ?_ | refine ZBu ?_ | refine ZDH ?_ | refine i_forR2 ?_ | refine i_forR3 ?_ | refine i_compR3 ?_ | refine i_listrev ?_ | refine i_sortset ?_ | refine ZGS ?_ | refine i_forE ?_ | refine i_forEX ?_ | refine ZBt ?_ | refine i_forD ?_ | refine i_compD ?_ | refine i_compS2 ?_ | refine i_frzE ?_ | refine i_thawR ?_ | refine i_fmtI ?_ | refine ZJj ?_ | refine i_listrng ?_ | refine i_frz ?_ | refine i_addF ?_ | refine i_forZ ?_ | refine i_forV ?_ | refine i_bitlen ?_ | refine ZDE ?_ | refine i_truI ?_ | refine i_compR1 ?_ | refine i_compR2 ?_ | refine ZDF ?_ | refine ZG0 ?_ | refine ZJw ?_ | refine ZGK ?_ | refine i_rU ?_ | refine ZGP ?_ | refine ZGQ ?_ | refine i_eqAB ?_ | refine i_neAI ?_ | refine ZGY ?_ | refine i_neAB ?_ | refine i_fs ?_ | refine i_gsub ?_ | refine i_jc ?_ | refine ZJo ?_ | refine ZGR ?_ | refine ZHW ?_ | refine ZHX ?_ | refine i_eqB ?_ | refine i_neI ?_ | refine ZH1 ?_ | refine i_neB ?_ | refine i_intI ?_ | refine ZGT ?_ | refine ZH0 ?_ | refine ZJt ?_)
 | ((with_reducible refine ZGX ?_); (try dsimp only [List.set_cons_succ,List.set_cons_zero]))
 | ((with_reducible refine' ZJC ?hv ?_); (case hv=>exact rfl))
 | ((with_reducible refine i_rI ?hc ?_); (case hc=>walk_at "side"))
 | ((with_reducible refine' ZGW ?hc ?_); (case hc=>assumption))
 | ((with_reducible refine' ZGV ?hc ?_); (case hc=>assumption))
 | ((with_reducible refine' i_lenT ?hc ?_); (case hc=>assumption))
 | ((with_reducible refine' ZGU ?ht ?he ?_); (case ht=>first | exact TyOf.bl _ | exact TyOf.int _ | exact TyOf.str _ | exact TyOf.non | exact TyOf.lst (by assumption) | exact TyOf.tup (by assumption)); (case he=>first | exact ZBC _ _ | exact kit_int_bool _ | exact kit_bool_int _ | exact kit_str_bool _ | exact kit_str_int _ | exact kit_list_int _ | exact kit_list_bool _ | exact kit_none_int _ | exact kit_none_list _ | exact kit_none_str _ | exact kit_none_tuple _ | exact kit_list_tuple _ | exact kit_tuple_list _ | exact kit_str_list _ | exact kit_int_str _ | exact kit_int_list _ | exact kit_bool_str _ | exact kit_bool_list _ | exact kit_int_tuple _ | exact kit_str_tuple _ | exact kit_bool_tuple _ | exact kit_tuple_int _ | exact kit_tuple_bool _ | exact kit_tuple_str _ | exact kit_list_str _ | exact kit_none_bool _)))
local macro_rules | `(tactic| walk_at "rs") => `(tactic| repeat walk_at "rs1")
local macro_rules | `(tactic| walk_at "hp") => `(tactic| first | assumption | solve_by_elim (maxDepth := 16) only [*, Zao])
local macro_rules | `(tactic| walk_at "rd0") => `(tactic| ((try dsimp only [cxOf]); (try simp only [L2.start, List.map_cons, List.map_nil, List.length_cons, List.length_nil, Nat.reduceAdd, Nat.reduceSub, List.replicate_zero, List.append_nil, List.cons_append, List.nil_append, List.replicate_succ]); (repeat walk_at "rd1")))
local macro_rules | `(tactic| walk_at "rs0") => `(tactic| ((try dsimp only [cxOf]); (try simp only [L2.start, List.map_cons, List.map_nil, List.length_cons, List.length_nil, Nat.reduceAdd, Nat.reduceSub, List.replicate_zero, List.append_nil, List.cons_append, List.nil_append, List.replicate_succ]); (repeat walk_at "rs1")))
local macro_rules | `(tactic| walk_at "rd") => `(tactic| repeat walk_at "rd1")
local macro_rules | `(tactic| walk_at "tst") => `(tactic| repeat first | walk_at "rd1" | refine ZdP (decide_eq_true (by omega)) ?_ | refine Zcc (decide_eq_false (by omega)) ?_ | refine Zcc rfl ?_ | refine ZdP rfl ?_ | refine ⟨_, rfl, ?_⟩)
set_option maxRecDepth 100000
set_option maxHeartbeats 4000000
open PySem L2
namespace LW
open PySem L2 EM
def top (i:Nat):Stmt:=PySem.Challenge.pw_evernever_k07_unread.main.body.getD i (.Pass ⟨0,0,0,0⟩)
abbrev ZcD:Stmt:=top 16
abbrev Zi5:Stmt:=top 29
abbrev ZfT:Stmt:=top 32
abbrev ZcE:Stmt:=top 33
abbrev Zi4:Stmt:=top 34
abbrev ZfU:Stmt:=top 35
abbrev Zb7:Stmt:=top 37
abbrev Zox:Stmt:=top 38
abbrev Zbg:Stmt:=top 40
abbrev Zb4:Stmt:=top 41
abbrev Zbh:Stmt:=top 42
abbrev ZcA:Stmt:=top 43
abbrev Zb5:Stmt:=top 44
abbrev ZcC:Stmt:=top 45
abbrev ZbD:Stmt:=top 46
abbrev ZbP:Stmt:=top 47
abbrev Zca:Stmt:=top 48
abbrev ZaO:Stmt:=top 49
abbrev Zb6:Stmt:=top 50
abbrev ZbF:Stmt:=top 51
abbrev ZcB:Stmt:=top 52
abbrev Zbi:Stmt:=top 53
abbrev ZbE:Stmt:=top 54
abbrev ZbG:Stmt:=top 55
abbrev ZaS:Stmt:=top 56
abbrev ZaY:Stmt:=top 57
abbrev Zbj:Stmt:=top 58
abbrev Zv2:Stmt:=top 59
abbrev ZaF:Stmt:=ZbV (top 17) 0
abbrev Zcx:Stmt:=ZbV (top 18) 0
abbrev Zcm:Stmt:=ZbV (top 18) 3
abbrev Zb0:Stmt:=ZbV (top 18) 4
abbrev Zcz:Stmt:=ZbV (top 19) 0
abbrev Zcn:Stmt:=ZbV (top 19) 3
abbrev Zb3:Stmt:=ZbV (top 19) 4
abbrev Zdj:Stmt:=ZbV (top 20) 0
abbrev Zda:Stmt:=ZbV (top 20) 3
abbrev Zcy:Stmt:=ZbV (top 20) 4
abbrev ZbA:Stmt:=ZbV (top 21) 0
abbrev ZbB:Stmt:=ZbV (top 21) 1
abbrev Zbe:Stmt:=ZbV (top 21) 2
abbrev Za6:Stmt:=ZbV (top 22) 0
abbrev Zbz:Stmt:=ZbV (top 22) 1
abbrev ZaJ:Stmt:=ZbV (top 23) 0
abbrev ZaX:Stmt:=ZbV (top 23) 1
abbrev Zbf:Stmt:=ZbV (top 24) 0
abbrev Zb2:Stmt:=ZbV (top 24) 1
abbrev Zb1:Stmt:=ZbV (top 36) 0
abbrev ZaQ:Stmt:=ZbV (top 36) 1
abbrev ZaP:Stmt:=ZbV (top 36) 2
abbrev ZaR:Stmt:=ZbV (top 36) 3
abbrev ZbC:Stmt:=ZbV (top 36) 4
theorem ZzG:FnScope ["part","text","bound"] ["part","text","bound"] (Zab ZcD):=⟨rfl,rfl,rfl,by decide +kernel,rfl,by decide +kernel,by decide +kernel⟩
theorem ZtF:FnScope ["text","sign","spaced","mark"] ["text"] (Zab Zi5):=⟨rfl,rfl,rfl,by decide +kernel,rfl,by decide +kernel,by decide +kernel⟩
theorem ZES:FnScope ["parts"] ["parts"] (Zab ZfT):=⟨rfl,rfl,rfl,by decide +kernel,rfl,by decide +kernel,by decide +kernel⟩
theorem ZzH:FnScope ["parts"] ["parts"] (Zab ZcE):=⟨rfl,rfl,rfl,by decide +kernel,rfl,by decide +kernel,by decide +kernel⟩
theorem ZGm:FnScope ["parts"] ["parts"] (Zab Zi4):=⟨rfl,rfl,rfl,by decide +kernel,rfl,by decide +kernel,by decide +kernel⟩
theorem ZEU:FnScope ["word","names"] ["word","names"] (Zab ZfU):=⟨rfl,rfl,rfl,by decide +kernel,rfl,by decide +kernel,by decide +kernel⟩
theorem ZgS:FnScope ["found","names","levels","word","level"] ["found","names"] (Zab Zb7):=⟨rfl,rfl,rfl,by decide +kernel,rfl,by decide +kernel,by decide +kernel⟩
theorem ZET:FnScope ["text","names","found"] ["text","names"] (Zab Zox):=⟨rfl,rfl,rfl,by decide +kernel,rfl,by decide +kernel,by decide +kernel⟩
theorem Zvf:FnScope ["_law_script","_law_k"] ["_law_script","_law_k"] (Zab Zbg):=⟨rfl,rfl,rfl,by decide +kernel,rfl,by decide +kernel,by decide +kernel⟩
theorem ZkW:FnScope ["_law_name_here","_law_names_here","_law_some"] ["_law_name_here","_law_names_here"] (Zab Zb4):=⟨rfl,rfl,rfl,by decide +kernel,rfl,by decide +kernel,by decide +kernel⟩
theorem Zcb:FnScope ["_law_seed","_law_size","_law_some","_law_name_here","_law_state","_law_k"] ["_law_seed","_law_size"] (Zab Zbh):=⟨rfl,rfl,rfl,by decide +kernel,rfl,by decide +kernel,by decide +kernel⟩
theorem ZcZ:FnScope ["_law_k","_law_cell","_law_some","_law_way","_law_size","_law_word","_law_place","_law_at"] ["_law_k","_law_cell"] (Zab ZcA):=⟨rfl,rfl,rfl,by decide +kernel,rfl,by decide +kernel,by decide +kernel⟩
theorem ZkX:FnScope ["_law_many","_law_cell","_law_names_here","_law_k"] ["_law_many","_law_cell"] (Zab Zb5):=⟨rfl,rfl,rfl,by decide +kernel,rfl,by decide +kernel,by decide +kernel⟩
theorem Zs8:FnScope ["_law_tree_here","_law_wraps"] ["_law_tree_here","_law_wraps"] (Zab ZcC):=⟨rfl,rfl,rfl,by decide +kernel,rfl,by decide +kernel,by decide +kernel⟩
theorem Zv6:FnScope ["_law_entry","_law_bind"] ["_law_entry","_law_bind"] (Zab ZbD):=⟨rfl,rfl,rfl,by decide +kernel,rfl,by decide +kernel,by decide +kernel⟩
theorem Zco:FnScope ["_law_pile","_law_kind","_law_more","_law_most","_law_nots","_law_top","_law_made","_law_left","_law_opened_here"] ["_law_pile","_law_kind","_law_more","_law_most","_law_nots"] (Zab ZbP):=⟨rfl,rfl,rfl,by decide +kernel,rfl,by decide +kernel,by decide +kernel⟩
theorem ZeF:FnScope ["_law_cells","_law_many","_law_last","_law_most","_law_nots","_law_pile","_law_cell","_law_kind","_law_more"] ["_law_cells","_law_many","_law_last","_law_most","_law_nots"] (Zab Zca):=⟨rfl,rfl,rfl,by decide +kernel,rfl,by decide +kernel,by decide +kernel⟩
theorem Zap:FnScope ["_law_tree_here","_law_names_here","_law_wraps","_law_kind","_law_bind","_law_found","_law_part","_law_inner"] ["_law_tree_here","_law_names_here","_law_wraps"] (Zab ZaO):=⟨rfl,rfl,rfl,by decide +kernel,rfl,by decide +kernel,by decide +kernel⟩
theorem Zq8:FnScope ["_law_tree_here","_law_names_here","_law_line"] ["_law_tree_here","_law_names_here"] (Zab Zb6):=⟨rfl,rfl,rfl,by decide +kernel,rfl,by decide +kernel,by decide +kernel⟩
theorem Zbk:FnScope ["_law_some","_law_seed","_law_line","_law_last","_law_state","_law_word","_law_gap"] ["_law_some","_law_seed"] (Zab ZbF):=⟨rfl,rfl,rfl,by decide +kernel,rfl,by decide +kernel,by decide +kernel⟩
theorem ZeE:FnScope ["_law_some","_law_at","_law_sorts","_law_k","_law_place","_law_sort"] ["_law_some","_law_at","_law_sorts"] (Zab ZcB):=⟨rfl,rfl,rfl,by decide +kernel,rfl,by decide +kernel,by decide +kernel⟩
theorem Zvg:FnScope ["_law_name_here","_law_names_here","_law_more"] ["_law_name_here","_law_names_here","_law_more"] (Zab Zbi):=⟨rfl,rfl,rfl,by decide +kernel,rfl,by decide +kernel,by decide +kernel⟩
theorem Zdk:FnScope ["_law_some","_law_names_here","_law_way","_law_at","_law_more","_law_place","_law_word"] ["_law_some","_law_names_here","_law_way","_law_at","_law_more"] (Zab ZbE):=⟨rfl,rfl,rfl,by decide +kernel,rfl,by decide +kernel,by decide +kernel⟩
theorem Zdl:FnScope ["_law_some","_law_names_here","_law_way","_law_at","_law_more","_law_k"] ["_law_some","_law_names_here","_law_way","_law_at","_law_more"] (Zab ZbG):=⟨rfl,rfl,rfl,by decide +kernel,rfl,by decide +kernel,by decide +kernel⟩
theorem ZiB:FnScope ["_law_cell","_law_some"] ["_law_cell"] (Zab ZaS):=⟨rfl,rfl,rfl,by decide +kernel,rfl,by decide +kernel,by decide +kernel⟩
theorem ZrE:FnScope ["_law_e"] ["_law_e"] (Zab ZaY):=⟨rfl,rfl,rfl,by decide +kernel,rfl,by decide +kernel,by decide +kernel⟩
theorem ZbK:FnScope ["_law_line","_law_names_here","_law_refused_here","_law_handed","_law_rightly","_law_e"] ["_law_line","_law_names_here"] (Zab Zbj):=⟨rfl,rfl,rfl,by decide +kernel,rfl,by decide +kernel,by decide +kernel⟩
theorem Zfi:FnScope ["_law_script","_law_many","_law_names_here","_law_tree_here","_law_way","_law_more","_law_at","_law_known","_law_some","_law_good","_law_spoilt_here","_law_place","_law_found","_law_told"] ["_law_script"] (Zab Zv2):=⟨rfl,rfl,rfl,by decide +kernel,rfl,by decide +kernel,by decide +kernel⟩
theorem ZdZ:FnScope ["self"] ["self"] (Zab ZaF):=⟨rfl,rfl,rfl,by decide +kernel,rfl,by decide +kernel,by decide +kernel⟩
theorem ZzE:FnScope ["self","at"] ["self","at"] (Zab Zcx):=⟨rfl,rfl,rfl,by decide +kernel,rfl,by decide +kernel,by decide +kernel⟩
theorem ZxS:FnScope ["self","names"] ["self","names"] (Zab Zb0):=⟨rfl,rfl,rfl,by decide +kernel,rfl,by decide +kernel,by decide +kernel⟩
theorem ZzF:FnScope ["self","truth"] ["self","truth"] (Zab Zcz):=⟨rfl,rfl,rfl,by decide +kernel,rfl,by decide +kernel,by decide +kernel⟩
theorem ZxV:FnScope ["self","names"] ["self","names"] (Zab Zb3):=⟨rfl,rfl,rfl,by decide +kernel,rfl,by decide +kernel,by decide +kernel⟩
theorem ZA2:FnScope ["self","part"] ["self","part"] (Zab Zdj):=⟨rfl,rfl,rfl,by decide +kernel,rfl,by decide +kernel,by decide +kernel⟩
theorem Zs7:FnScope ["self","names","text"] ["self","names"] (Zab Zcy):=⟨rfl,rfl,rfl,by decide +kernel,rfl,by decide +kernel,by decide +kernel⟩
theorem Zv4:FnScope ["self","parts"] ["self","parts"] (Zab ZbA):=⟨rfl,rfl,rfl,by decide +kernel,rfl,by decide +kernel,by decide +kernel⟩
theorem ZhC:FnScope ["self","names","texts","part"] ["self","names"] (Zab Zbe):=⟨rfl,rfl,rfl,by decide +kernel,rfl,by decide +kernel,by decide +kernel⟩
theorem Ztj:FnScope ["self"] ["self"] (Zab Za6):=⟨rfl,rfl,rfl,by decide +kernel,rfl,by decide +kernel,by decide +kernel⟩
theorem Zv3:FnScope ["self"] ["self"] (Zab Zbz):=⟨rfl,rfl,rfl,by decide +kernel,rfl,by decide +kernel,by decide +kernel⟩
theorem Zpe:FnScope ["self"] ["self"] (Zab ZaJ):=⟨rfl,rfl,rfl,by decide +kernel,rfl,by decide +kernel,by decide +kernel⟩
theorem ZrD:FnScope ["self"] ["self"] (Zab ZaX):=⟨rfl,rfl,rfl,by decide +kernel,rfl,by decide +kernel,by decide +kernel⟩
theorem Zve:FnScope ["self"] ["self"] (Zab Zbf):=⟨rfl,rfl,rfl,by decide +kernel,rfl,by decide +kernel,by decide +kernel⟩
theorem ZxU:FnScope ["self"] ["self"] (Zab Zb2):=⟨rfl,rfl,rfl,by decide +kernel,rfl,by decide +kernel,by decide +kernel⟩
theorem ZxT:FnScope ["self"] ["self"] (Zab Zb1):=⟨rfl,rfl,rfl,by decide +kernel,rfl,by decide +kernel,by decide +kernel⟩
theorem Zfd:FnScope ["self","part","turn"] ["self","part"] (Zab ZaQ):=⟨rfl,rfl,rfl,by decide +kernel,rfl,by decide +kernel,by decide +kernel⟩
theorem Zq6:FnScope ["self","word"] ["self","word"] (Zab ZaP):=⟨rfl,rfl,rfl,by decide +kernel,rfl,by decide +kernel,by decide +kernel⟩
theorem Zq7:FnScope ["self","word","names"] ["self","word","names"] (Zab ZaR):=⟨rfl,rfl,rfl,by decide +kernel,rfl,by decide +kernel,by decide +kernel⟩
theorem Zv5:FnScope ["self"] ["self"] (Zab ZbC):=⟨rfl,rfl,rfl,by decide +kernel,rfl,by decide +kernel,by decide +kernel⟩
structure Ad where
 Zeu:Addr
 Zui:FuncData
 Zo2:Addr
 ZDl:FuncData
 Zkq:Addr
 ZBl:FuncData
 Zev:Addr
 Zuj:FuncData
 Zo1:Addr
 ZDk:FuncData
 Zkr:Addr
 ZBm:FuncData
 Zdz:Addr
 Zss:FuncData
 Zuo:Addr
 ZGG:FuncData
 Zcq:Addr
 Zn3:FuncData
 Zdw:Addr
 Zsp:FuncData
 Zcr:Addr
 Zn4:FuncData
 Zep:Addr
 Zud:FuncData
 Zdx:Addr
 Zsq:FuncData
 Zes:Addr
 Zug:FuncData
 Zc3:Addr
 ZpQ:FuncData
 Zer:Addr
 Zuf:FuncData
 Zet:Addr
 Zuh:FuncData
 ZbI:Addr
 Zl7:FuncData
 Zdy:Addr
 Zsr:FuncData
 Zc5:Addr
 ZpS:FuncData
 Zeq:Addr
 Zue:FuncData
 Zcs:Addr
 Zn5:FuncData
 Zc4:Addr
 ZpR:FuncData
 Zc6:Addr
 ZpT:FuncData
 Zbv:Addr
 Zjl:FuncData
 ZbO:Addr
 Zk9:FuncData
 Zct:Addr
 Zn6:FuncData
 f_law:Addr
 d_law:FuncData
 Zas:Addr
 Zhb:FuncData
 Zds:Addr
 Zt9:FuncData
 ZcR:Addr
 Zsj:FuncData
 ZcS:Addr
 Zsk:FuncData
 Zdv:Addr
 Zuc:FuncData
 ZcV:Addr
 Zsn:FuncData
 ZcW:Addr
 Zso:FuncData
 ZeB:Addr
 Zwq:FuncData
 Zdt:Addr
 Zua:FuncData
 Zdu:Addr
 Zub:FuncData
 ZaK:Addr
 Zkl:FuncData
 ZaI:Addr
 Zn0:FuncData
 ZaE:Addr
 Zn1:FuncData
 ZbH:Addr
 Zl6:FuncData
 Zch:Addr
 ZpO:FuncData
 Za2:Addr
 Zh5:FuncData
 Zbs:Addr
 Zk8:FuncData
 ZbW:Addr
 Zn2:FuncData
 ZcU:Addr
 Zsm:FuncData
 ZcT:Addr
 Zsl:FuncData
 Zba:Addr
 Zjj:FuncData
 Za9:Addr
 Zji:FuncData
 Zbb:Addr
 Zjk:FuncData
 Zci:Addr
 ZpP:FuncData
 Zaj:Addr
 ZaB:Addr
 ZaC:Addr
 C_Not:Addr
 Zat:Addr
 C_And:Addr
 Zaq:Addr
 C_Or:Addr
 Zaw:Addr
 Zag:Addr
 ZdX:Addr
 ZbQ:Addr
 ZbR:Addr
 ZbS:Addr
 ZcG:Addr
 Za1:Addr
 ZcH:Addr
 ZcI:Addr
 ZbT:Addr
 ZaG:Addr
 ZbU:Addr
 Zbl:Addr
 v_JOINS:Addr
structure Txt (K:PySem.W.Frag) (mg:Str→Option Value) (t:Ad):Prop where
 ZoG:Fun K "bracketed" "bracketed" ZcD t.Zeu t.Zui
 Zt1:Za0 K t.Zui ["part","text","bound"] []
 ZuL:mg "bracketed" = some (.ref t.Zeu)
 Zz9:Fun K "words" "words" Zi5 t.Zo2 t.ZDl
 ZC2:Za0 K t.ZDl ["text"] []
 ZD9:mg "words" = some (.ref t.Zo2)
 ZwC:Fun K "and_of" "and_of" ZfT t.Zkq t.ZBl
 ZBd:Za0 K t.ZBl ["parts"] []
 ZBN:mg "and_of" = some (.ref t.Zkq)
 ZoH:Fun K "either_of" "either_of" ZcE t.Zev t.Zuj
 Zt2:Za0 K t.Zuj ["parts"] []
 ZuM:mg "either_of" = some (.ref t.Zev)
 Zz8:Fun K "or_of" "or_of" Zi4 t.Zo1 t.ZDk
 ZC1:Za0 K t.ZDk ["parts"] []
 ZD8:mg "or_of" = some (.ref t.Zo1)
 ZwD:Fun K "single" "single" ZfU t.Zkr t.ZBm
 ZBe:Za0 K t.ZBm ["word","names"] []
 ZBO:mg "single" = some (.ref t.Zkr)
 Zlw:Fun K "formula_in" "formula_in" Zb7 t.Zdz t.Zss
 Zr6:Za0 K t.Zss ["found","names"] []
 ZsT:mg "formula_in" = some (.ref t.Zdz)
 ZCU:Fun K "read" "read" Zox t.Zuo t.ZGG
 ZGC:Za0 K t.ZGG ["text","names"] []
 ZHe:mg "read" = some (.ref t.Zuo)
 ZiD:Fun K "_law_cell_at" "_law_cell_at" Zbg t.Zcq t.Zn3
 ZnP:Za0 K t.Zn3 ["_law_script","_law_k"] []
 Zom:mg "_law_cell_at" = some (.ref t.Zcq)
 Zlt:Fun K "_law_fresh" "_law_fresh" Zb4 t.Zdw t.Zsp
 Zr3:Za0 K t.Zsp ["_law_name_here","_law_names_here"] []
 ZsQ:mg "_law_fresh" = some (.ref t.Zdw)
 ZiE:Fun K "_law_letters" "_law_letters" Zbh t.Zcr t.Zn4
 ZnQ:Za0 K t.Zn4 ["_law_seed","_law_size"] []
 Zon:mg "_law_letters" = some (.ref t.Zcr)
 ZoB:Fun K "_law_name" "_law_name" ZcA t.Zep t.Zud
 ZtW:Za0 K t.Zud ["_law_k","_law_cell"] []
 ZuG:mg "_law_name" = some (.ref t.Zep)
 Zlu:Fun K "_law_names" "_law_names" Zb5 t.Zdx t.Zsq
 Zr4:Za0 K t.Zsq ["_law_many","_law_cell"] []
 ZsR:mg "_law_names" = some (.ref t.Zdx)
 ZoE:Fun K "_law_rank" "_law_rank" ZcC t.Zes t.Zug
 ZtZ:Za0 K t.Zug ["_law_tree_here","_law_wraps"] []
 ZuJ:mg "_law_rank" = some (.ref t.Zes)
 ZjR:Fun K "_law_opened" "_law_opened" ZbD t.Zc3 t.ZpQ
 Zpz:Za0 K t.ZpQ ["_law_entry","_law_bind"] []
 Zqt:mg "_law_opened" = some (.ref t.Zc3)
 ZoD:Fun K "_law_over" "_law_over" ZbP t.Zer t.Zuf
 ZtY:Za0 K t.Zuf ["_law_pile","_law_kind","_law_more","_law_most","_law_nots"] []
 ZuI:mg "_law_over" = some (.ref t.Zer)
 ZoF:Fun K "_law_tree" "_law_tree" Zca t.Zet t.Zuh
 Zt0:Za0 K t.Zuh ["_law_cells","_law_many","_law_last","_law_most","_law_nots"] []
 ZuK:mg "_law_tree" = some (.ref t.Zet)
 ZeI:Fun K "_law_words_of" "_law_words_of" ZaO t.ZbI t.Zl7
 Zg2:Za0 K t.Zl7 ["_law_tree_here","_law_names_here","_law_wraps"] []
 Zhl:mg "_law_words_of" = some (.ref t.ZbI)
 Zlv:Fun K "_law_plain" "_law_plain" Zb6 t.Zdy t.Zsr
 Zr5:Za0 K t.Zsr ["_law_tree_here","_law_names_here"] []
 ZsS:mg "_law_plain" = some (.ref t.Zdy)
 ZjT:Fun K "_law_spaced" "_law_spaced" ZbF t.Zc5 t.ZpS
 ZpB:Za0 K t.ZpS ["_law_some","_law_seed"] []
 Zqv:mg "_law_spaced" = some (.ref t.Zc5)
 ZoC:Fun K "_law_next" "_law_next" ZcB t.Zeq t.Zue
 ZtX:Za0 K t.Zue ["_law_some","_law_at","_law_sorts"] []
 ZuH:mg "_law_next" = some (.ref t.Zeq)
 ZiF:Fun K "_law_no_name" "_law_no_name" Zbi t.Zcs t.Zn5
 ZnR:Za0 K t.Zn5 ["_law_name_here","_law_names_here","_law_more"] []
 Zoo:mg "_law_no_name" = some (.ref t.Zcs)
 ZjS:Fun K "_law_put_in" "_law_put_in" ZbE t.Zc4 t.ZpR
 ZpA:Za0 K t.ZpR ["_law_some","_law_names_here","_law_way","_law_at","_law_more"] []
 Zqu:mg "_law_put_in" = some (.ref t.Zc4)
 ZjU:Fun K "_law_spoilt" "_law_spoilt" ZbG t.Zc6 t.ZpT
 ZpC:Za0 K t.ZpT ["_law_some","_law_names_here","_law_way","_law_at","_law_more"] []
 Zqw:mg "_law_spoilt" = some (.ref t.Zc6)
 Zfk:Fun K "_law_other_sign" "_law_other_sign" ZaS t.Zbv t.Zjl
 Zje:Za0 K t.Zjl ["_law_cell"] []
 Zjv:mg "_law_other_sign" = some (.ref t.Zbv)
 Zgb:Fun K "_law_of_others" "_law_of_others" ZaY t.ZbO t.Zk9
 Zk5:Za0 K t.Zk9 ["_law_e"] []
 Zlj:mg "_law_of_others" = some (.ref t.ZbO)
 ZiG:Fun K "_law_refused" "_law_refused" Zbj t.Zct t.Zn6
 ZnS:Za0 K t.Zn6 ["_law_line","_law_names_here"] []
 Zop:mg "_law_refused" = some (.ref t.Zct)
 F_law:Fun K "law" "law" Zv2 t.f_law t.d_law
 b_law:Za0 K t.d_law ["_law_script"] []
 m_law:mg "law" = some (.ref t.f_law)
 Zc0:Fun K "looseness" "Formula.looseness" ZaF t.Zas t.Zhb
 Zc1:Za0 K t.Zhb ["self"] []
 ZtI:Fun K "__init__" "Lamp.__init__" Zcx t.Zds t.Zt9
 ZtU:Za0 K t.Zt9 ["self","at"] []
 Zyi:Fun K "lamps" "Lamp.lamps" Zcm t.ZcR t.Zsj
 Zyr:Za0 K t.Zsj ["self"] []
 ZrM:Fun K "shown" "Lamp.shown" Zb0 t.ZcS t.Zsk
 ZlK:Za0 K t.Zsk ["self","names"] []
 ZtK:Fun K "__init__" "Sure.__init__" Zcz t.Zdv t.Zuc
 ZtV:Za0 K t.Zuc ["self","truth"] []
 Zyj:Fun K "lamps" "Sure.lamps" Zcn t.ZcV t.Zsn
 Zys:Za0 K t.Zsn ["self"] []
 ZrP:Fun K "shown" "Sure.shown" Zb3 t.ZcW t.Zso
 ZlL:Za0 K t.Zso ["self","names"] []
 Zwk:Fun K "__init__" "Not.__init__" Zdj t.ZeB t.Zwq
 Zwm:Za0 K t.Zwq ["self","part"] []
 Zz7:Fun K "lamps" "Not.lamps" Zda t.Zdt t.Zua
 ZAk:Za0 K t.Zua ["self"] []
 ZtJ:Fun K "shown" "Not.shown" Zcy t.Zdu t.Zub
 ZoT:Za0 K t.Zub ["self","names"] []
 Zpk:Fun K "__init__" "Joined.__init__" ZbA t.ZaK t.Zkl
 Zgx:Za0 K t.Zkl ["self","parts"] []
 ZvE:Fun K "lamps" "Joined.lamps" ZbB t.ZaI t.Zn0
 ZvI:Za0 K t.Zn0 ["self"] []
 ZnD:Fun K "shown" "Joined.shown" Zbe t.ZaE t.Zn1
 Zd1:Za0 K t.Zn1 ["self","names"] []
 Zls:Fun K "looseness" "And.looseness" Za6 t.ZbH t.Zl6
 ZlJ:Za0 K t.Zl6 ["self"] []
 Zpj:Fun K "between" "And.between" Zbz t.Zch t.ZpO
 Zpx:Za0 K t.ZpO ["self"] []
 ZhK:Fun K "looseness" "Either.looseness" ZaJ t.Za2 t.Zh5
 ZhQ:Za0 K t.Zh5 ["self"] []
 Zk1:Fun K "between" "Either.between" ZaX t.Zbs t.Zk8
 Zk4:Za0 K t.Zk8 ["self"] []
 ZnE:Fun K "looseness" "Or.looseness" Zbf t.ZbW t.Zn2
 ZnO:Za0 K t.Zn2 ["self"] []
 ZrO:Fun K "between" "Or.between" Zb2 t.ZcU t.Zsm
 Zr2:Za0 K t.Zsm ["self"] []
 ZrN:Fun K "__init__" "Level.__init__" Zb1 t.ZcT t.Zsl
 Zr1:Za0 K t.Zsl ["self"] []
 Zi7:Fun K "take_part" "Level.take_part" ZaQ t.Zba t.Zjj
 Zjc:Za0 K t.Zjj ["self","part"] []
 Zi6:Fun K "take_join" "Level.take_join" ZaP t.Za9 t.Zji
 Zjb:Za0 K t.Zji ["self","word"] []
 Zi8:Fun K "take_word" "Level.take_word" ZaR t.Zbb t.Zjk
 Zjd:Za0 K t.Zjk ["self","word","names"] []
 Zpl:Fun K "whole" "Level.whole" ZbC t.Zci t.ZpP
 Zpy:Za0 K t.ZpP ["self"] []
 ZyZ:mg "Formula" = some (.ref t.Zaj)
 ZC4:Cls K t.Zaj
 ZFn:∀ (H:Hp) (a dx:Addr) (fs:List (Str × V)),H a=some (.ins t.Zaj dx fs)→TyOf K H (.ref a) (.ref t.Zaj)
 Zf2:Zar K t.Zaj "at"
 ZdD:Zar K t.Zaj "truth"
 Zd8:Zar K t.Zaj "part"
 ZdC:Zar K t.Zaj "parts"
 Zd7:Zar K t.Zaj "nots"
 Zd6:Zar K t.Zaj "ands"
 ZcN:Zar K t.Zaj "eithers"
 Ze4:Zar K t.Zaj "ors"
 ZcO:Zar K t.Zaj "lacking"
 Zo4:Meth K t.Zaj "looseness" t.Zas
 ZHc:mg "Lamp" = some (.ref t.ZaB)
 Zwn:Cls K t.ZaB
 ZHF:∀ (H:Hp) (a dx:Addr) (fs:List (Str × V)),H a=some (.ins t.ZaB dx fs)→TyOf K H (.ref a) (.ref t.ZaB)
 ZG8:Mk K t.ZaB t.Zds
 Zhq:Zar K t.ZaB "at"
 Zf5:Zar K t.ZaB "truth"
 Zhs:Zar K t.ZaB "part"
 Zf4:Zar K t.ZaB "parts"
 Zhr:Zar K t.ZaB "nots"
 Zhp:Zar K t.ZaB "ands"
 Zeb:Zar K t.ZaB "eithers"
 ZjG:Zar K t.ZaB "ors"
 Zec:Zar K t.ZaB "lacking"
 ZyJ:Meth K t.ZaB "lamps" t.ZcR
 Zmm:Meth K t.ZaB "shown" t.ZcS
 Zld:Meth K t.ZaB "looseness" t.Zas
 ZHd:mg "Sure" = some (.ref t.ZaC)
 Zwo:Cls K t.ZaC
 ZHG:∀ (H:Hp) (a dx:Addr) (fs:List (Str × V)),H a=some (.ins t.ZaC dx fs)→TyOf K H (.ref a) (.ref t.ZaC)
 ZG9:Mk K t.ZaC t.Zdv
 ZmO:Zar K t.ZaC "at"
 ZdF:Zar K t.ZaC "truth"
 Zhx:Zar K t.ZaC "part"
 Zf9:Zar K t.ZaC "parts"
 Zhw:Zar K t.ZaC "nots"
 Zhv:Zar K t.ZaC "ands"
 Zed:Zar K t.ZaC "eithers"
 ZjL:Zar K t.ZaC "ors"
 Zee:Zar K t.ZaC "lacking"
 ZyK:Meth K t.ZaC "lamps" t.ZcV
 Zmo:Meth K t.ZaC "shown" t.ZcW
 Zle:Meth K t.ZaC "looseness" t.Zas
 m_Not:mg "Not" = some (.ref t.C_Not)
 c_Not:Cls K t.C_Not
 y_Not:∀ (H:Hp) (a dx:Addr) (fs:List (Str × V)),H a=some (.ins t.C_Not dx fs)→TyOf K H (.ref a) (.ref t.C_Not)
 k_Not:Mk K t.C_Not t.ZeB
 ZqB:Zar K t.C_Not "at"
 Zhu:Zar K t.C_Not "truth"
 ZeD:Zar K t.C_Not "part"
 Zht:Zar K t.C_Not "parts"
 ZjJ:Zar K t.C_Not "nots"
 ZjI:Zar K t.C_Not "ands"
 Zfa:Zar K t.C_Not "eithers"
 ZmK:Zar K t.C_Not "ors"
 Zfb:Zar K t.C_Not "lacking"
 ZAw:Meth K t.C_Not "lamps" t.Zdt
 Zo5:Meth K t.C_Not "shown" t.Zdu
 Zmn:Meth K t.C_Not "looseness" t.Zas
 ZFX:mg "Joined" = some (.ref t.Zat)
 ZFw:Cls K t.Zat
 ZGz:∀ (H:Hp) (a dx:Addr) (fs:List (Str × V)),H a=some (.ins t.Zat dx fs)→TyOf K H (.ref a) (.ref t.Zat)
 ZFQ:Mk K t.Zat t.ZaK
 Zho:Zar K t.Zat "at"
 Zea:Zar K t.Zat "truth"
 Ze7:Zar K t.Zat "part"
 Zd9:Zar K t.Zat "parts"
 Ze6:Zar K t.Zat "nots"
 Ze5:Zar K t.Zat "ands"
 Zde:Zar K t.Zat "eithers"
 Zf3:Zar K t.Zat "ors"
 Zdf:Zar K t.Zat "lacking"
 ZvL:Meth K t.Zat "lamps" t.ZaI
 ZvM:Meth K t.Zat "shown" t.ZaE
 Zp6:Meth K t.Zat "looseness" t.Zas
 m_And:mg "And" = some (.ref t.C_And)
 c_And:Cls K t.C_And
 y_And:∀ (H:Hp) (a dx:Addr) (fs:List (Str × V)),H a=some (.ins t.C_And dx fs)→TyOf K H (.ref a) (.ref t.C_And)
 k_And:Mk K t.C_And t.ZaK
 ZqA:Zar K t.C_And "at"
 Zhm:Zar K t.C_And "truth"
 ZjF:Zar K t.C_And "part"
 Zex:Zar K t.C_And "parts"
 ZjE:Zar K t.C_And "nots"
 ZjD:Zar K t.C_And "ands"
 ZeZ:Zar K t.C_And "eithers"
 ZmJ:Zar K t.C_And "ors"
 Ze0:Zar K t.C_And "lacking"
 Zml:Meth K t.C_And "looseness" t.ZbH
 Zp5:Meth K t.C_And "between" t.Zch
 ZAv:Meth K t.C_And "lamps" t.ZaI
 Zo3:Meth K t.C_And "shown" t.ZaE
 ZBJ:mg "Either" = some (.ref t.Zaq)
 Zm9:Cls K t.Zaq
 ZCh:∀ (H:Hp) (a dx:Addr) (fs:List (Str × V)),H a=some (.ins t.Zaq dx fs)→TyOf K H (.ref a) (.ref t.Zaq)
 ZBA:Mk K t.Zaq t.ZaK
 Zhn:Zar K t.Zaq "at"
 Zd5:Zar K t.Zaq "truth"
 Ze3:Zar K t.Zaq "part"
 Zcw:Zar K t.Zaq "parts"
 Ze2:Zar K t.Zaq "nots"
 Ze1:Zar K t.Zaq "ands"
 Zdc:Zar K t.Zaq "eithers"
 Zf1:Zar K t.Zaq "ors"
 Zdd:Zar K t.Zaq "lacking"
 Zia:Meth K t.Zaq "looseness" t.Za2
 Zlc:Meth K t.Zaq "between" t.Zbs
 ZvK:Meth K t.Zaq "lamps" t.ZaI
 ZiX:Meth K t.Zaq "shown" t.ZaE
 m_Or:mg "Or" = some (.ref t.C_Or)
 c_Or:Cls K t.C_Or
 y_Or:∀ (H:Hp) (a dx:Addr) (fs:List (Str × V)),H a=some (.ins t.C_Or dx fs)→TyOf K H (.ref a) (.ref t.C_Or)
 k_Or:Mk K t.C_Or t.ZaK
 ZuQ:Zar K t.C_Or "at"
 ZjK:Zar K t.C_Or "truth"
 ZmN:Zar K t.C_Or "part"
 Zfv:Zar K t.C_Or "parts"
 ZmM:Zar K t.C_Or "nots"
 ZmL:Zar K t.C_Or "ands"
 Zf7:Zar K t.C_Or "eithers"
 ZqC:Zar K t.C_Or "ors"
 Zf8:Zar K t.C_Or "lacking"
 Zoe:Meth K t.C_Or "looseness" t.ZbW
 ZsE:Meth K t.C_Or "between" t.ZcU
 ZCv:Meth K t.C_Or "lamps" t.ZaI
 Zrs:Meth K t.C_Or "shown" t.ZaE
 ZD6:mg "Level" = some (.ref t.Zaw)
 Zbd:Cls K t.Zaw
 ZIW:∀ (H:Hp) (a dx:Addr) (fs:List (Str × V)),H a=some (.ins t.Zaw dx fs)→TyOf K H (.ref a) (.ref t.Zaw)
 ZDV:Mk K t.Zaw t.ZcT
 ZjH:Zar K t.Zaw "at"
 Ze9:Zar K t.Zaw "truth"
 Zf6:Zar K t.Zaw "part"
 Ze8:Zar K t.Zaw "parts"
 ZbZ:Zar K t.Zaw "nots"
 Zcl:Zar K t.Zaw "ands"
 Zbm:Zar K t.Zaw "eithers"
 ZdE:Zar K t.Zaw "ors"
 ZaD:Zar K t.Zaw "lacking"
 Zjp:Meth K t.Zaw "take_part" t.Zba
 Zjo:Meth K t.Zaw "take_join" t.Za9
 Zjq:Meth K t.Zaw "take_word" t.Zbb
 Zp7:Meth K t.Zaw "whole" t.Zci
 b_ValueError:mg "ValueError" = none
 Zew:mg "NoFormula" = some (.ref t.Zag)
 ZdJ:PySem.W.typeIn K (.ref t.Zag)=some (.type "type")
 ZlY:(PySem.W.clsIn K t.Zag).isSome=true
 ZcY:PySem.W.mroIn K t.Zag (.type "BaseException")=some true
 ZD7:mg "NoBar" = some (.ref t.ZdX)
 Znu:PySem.W.typeIn K (.ref t.ZdX)=some (.type "type")
 ZFy:(PySem.W.clsIn K t.ZdX).isSome=true
 Zqx:PySem.W.mroIn K t.ZdX (.type "BaseException")=some true
 Zy0:mg "NoChart" = some (.ref t.ZbQ)
 ZgU:PySem.W.typeIn K (.ref t.ZbQ)=some (.type "type")
 ZCl:(PySem.W.clsIn K t.ZbQ).isSome=true
 Zjw:PySem.W.mroIn K t.ZbQ (.type "BaseException")=some true
 Zy1:mg "NoFence" = some (.ref t.ZbR)
 ZgV:PySem.W.typeIn K (.ref t.ZbR)=some (.type "type")
 ZCm:(PySem.W.clsIn K t.ZbR).isSome=true
 Zjx:PySem.W.mroIn K t.ZbR (.type "BaseException")=some true
 Zy2:mg "NoFrame" = some (.ref t.ZbS)
 ZgW:PySem.W.typeIn K (.ref t.ZbS)=some (.type "type")
 ZCn:(PySem.W.clsIn K t.ZbS).isSome=true
 Zjy:PySem.W.mroIn K t.ZbS (.type "BaseException")=some true
 ZBK:mg "NoLine" = some (.ref t.ZcG)
 ZjO:PySem.W.typeIn K (.ref t.ZcG)=some (.type "type")
 ZDd:(PySem.W.clsIn K t.ZcG).isSome=true
 ZmF:PySem.W.mroIn K t.ZcG (.type "BaseException")=some true
 ZuF:mg "NoMachine" = some (.ref t.Za1)
 ZeG:PySem.W.typeIn K (.ref t.Za1)=some (.type "type")
 ZyA:(PySem.W.clsIn K t.Za1).isSome=true
 Zf0:PySem.W.mroIn K t.Za1 (.type "BaseException")=some true
 ZBL:mg "NoName" = some (.ref t.ZcH)
 ZjP:PySem.W.typeIn K (.ref t.ZcH)=some (.type "type")
 ZDe:(PySem.W.clsIn K t.ZcH).isSome=true
 ZmG:PySem.W.mroIn K t.ZcH (.type "BaseException")=some true
 ZBM:mg "NoStep" = some (.ref t.ZcI)
 ZjQ:PySem.W.typeIn K (.ref t.ZcI)=some (.type "type")
 ZDf:(PySem.W.clsIn K t.ZcI).isSome=true
 ZmH:PySem.W.mroIn K t.ZcI (.type "BaseException")=some true
 Zy3:mg "NotShut" = some (.ref t.ZbT)
 ZgX:PySem.W.typeIn K (.ref t.ZbT)=some (.type "type")
 ZCo:(PySem.W.clsIn K t.ZbT).isSome=true
 Zjz:PySem.W.mroIn K t.ZbT (.type "BaseException")=some true
 Zqs:mg "NothingLeft" = some (.ref t.ZaG)
 Zdm:PySem.W.typeIn K (.ref t.ZaG)=some (.type "type")
 ZvJ:(PySem.W.clsIn K t.ZaG).isSome=true
 Zd4:PySem.W.mroIn K t.ZaG (.type "BaseException")=some true
 Zy4:mg "TooMany" = some (.ref t.ZbU)
 ZgY:PySem.W.typeIn K (.ref t.ZbU)=some (.type "type")
 ZCp:(PySem.W.clsIn K t.ZbU).isSome=true
 ZjA:PySem.W.mroIn K t.ZbU (.type "BaseException")=some true
 ZuE:mg "EverError" = some (.ref t.Zbl)
 ZdI:PySem.W.typeIn K (.ref t.Zbl)=some (.type "type")
 Zr7:(PySem.W.clsIn K t.Zbl).isSome=true
 ZeC:PySem.W.mroIn K t.Zbl (.type "BaseException")=some true
 Zez:ExcK K t.Zag
 Zvt:PySem.W.kitOne K (.ref t.Zag) (.type "ValueError")=some true
 Za4:PySem.W.mroIn K t.Zag (.ref t.Zag)=some true
 Zlr:PySem.W.kitOne K (.ref t.Zag) (.ref t.Zag)=some true
 ZbN:PySem.W.mroIn K t.Zag (.ref t.ZdX)=some false
 ZiC:PySem.W.kitOne K (.ref t.Zag) (.ref t.ZdX)=some false
 Zbn:PySem.W.mroIn K t.Zag (.ref t.ZbQ)=some false
 Zgs:PySem.W.kitOne K (.ref t.Zag) (.ref t.ZbQ)=some false
 Zbo:PySem.W.mroIn K t.Zag (.ref t.ZbR)=some false
 Zgt:PySem.W.kitOne K (.ref t.Zag) (.ref t.ZbR)=some false
 Zbp:PySem.W.mroIn K t.Zag (.ref t.ZbS)=some false
 Zgu:PySem.W.kitOne K (.ref t.Zag) (.ref t.ZbS)=some false
 Zbw:PySem.W.mroIn K t.Zag (.ref t.ZcG)=some false
 ZhE:PySem.W.kitOne K (.ref t.Zag) (.ref t.ZcG)=some false
 Za5:PySem.W.mroIn K t.Zag (.ref t.Za1)=some false
 Zfj:PySem.W.kitOne K (.ref t.Zag) (.ref t.Za1)=some false
 Zbx:PySem.W.mroIn K t.Zag (.ref t.ZcH)=some false
 ZhF:PySem.W.kitOne K (.ref t.Zag) (.ref t.ZcH)=some false
 Zby:PySem.W.mroIn K t.Zag (.ref t.ZcI)=some false
 ZhG:PySem.W.kitOne K (.ref t.Zag) (.ref t.ZcI)=some false
 Zbq:PySem.W.mroIn K t.Zag (.ref t.ZbT)=some false
 Zgv:PySem.W.kitOne K (.ref t.Zag) (.ref t.ZbT)=some false
 ZaV:PySem.W.mroIn K t.Zag (.ref t.ZaG)=some false
 ZeH:PySem.W.kitOne K (.ref t.Zag) (.ref t.ZaG)=some false
 Zbr:PySem.W.mroIn K t.Zag (.ref t.ZbU)=some false
 Zgw:PySem.W.kitOne K (.ref t.Zag) (.ref t.ZbU)=some false
 ZaT:PySem.W.mroIn K t.Zag (.ref t.Zbl)=some true
 Zlq:PySem.W.kitOne K (.ref t.Zag) (.ref t.Zbl)=some true
 Zwf:t.Zaj ≠ t.ZaB
 Zwg:t.Zaj ≠ t.ZaC
 Zyc:t.Zaj ≠ t.C_Not
 Zto:t.Zaj ≠ t.Zat
 Zyb:t.Zaj ≠ t.C_And
 Ztn:t.Zaj ≠ t.Zaq
 Zz4:t.Zaj ≠ t.C_Or
 Zvw:t.Zaj ≠ t.Zaw
 Zpi:t.ZaB ≠ t.ZaC
 ZrJ:t.ZaB ≠ t.C_Not
 Zyd:t.ZaB ≠ t.Zat
 ZrI:t.ZaB ≠ t.C_And
 ZkZ:t.ZaB ≠ t.Zaq
 Zvy:t.ZaB ≠ t.C_Or
 Zta:t.ZaB ≠ t.Zaw
 ZrL:t.ZaC ≠ t.C_Not
 Zyf:t.ZaC ≠ t.Zat
 ZrK:t.ZaC ≠ t.C_And
 Zk0:t.ZaC ≠ t.Zaq
 ZvB:t.ZaC ≠ t.C_Or
 Ztb:t.ZaC ≠ t.Zaw
 Zz6:t.C_Not ≠ t.Zat
 Zvz:t.C_Not ≠ t.C_And
 Zm2:t.C_Not ≠ t.Zaq
 Zye:t.C_Not ≠ t.C_Or
 ZvA:t.C_Not ≠ t.Zaw
 Zz5:t.Zat ≠ t.C_And
 Zvx:t.Zat ≠ t.Zaq
 ZA8:t.Zat ≠ t.C_Or
 Zwh:t.Zat ≠ t.Zaw
 Zm1:t.C_And ≠ t.Zaq
 Zya:t.C_And ≠ t.C_Or
 Zvv:t.C_And ≠ t.Zaw
 Zph:t.Zaq ≠ t.C_Or
 Zoy:t.Zaq ≠ t.Zaw
 ZwB:t.C_Or ≠ t.Zaw
 Zoz:PySem.W.kitOne K (.ref t.ZaB) (.ref t.Zaj)=some true
 ZoA:PySem.W.kitOne K (.ref t.ZaC) (.ref t.Zaj)=some true
 Zrj:PySem.W.kitOne K (.ref t.C_Not) (.ref t.Zaj)=some true
 Ztp:PySem.W.kitOne K (.ref t.Zat) (.ref t.Zaj)=some true
 Zri:PySem.W.kitOne K (.ref t.C_And) (.ref t.Zaj)=some true
 Zln:PySem.W.kitOne K (.ref t.Zaq) (.ref t.Zaj)=some true
 Ztc:PySem.W.kitOne K (.ref t.C_Or) (.ref t.Zaj)=some true
 ZvC:PySem.W.kitOne K (.ref t.Zaw) (.ref t.Zaj)=some false
 Zwi:PySem.W.kitOne K (.type "NoneType") (.ref t.Zaj)=some false
 bl:∀ (s:Shared) (u:Value),BindsTo s t.d_law ⟨[u],[]⟩ [("_law_script",u)]
 B:Bt mg
 g_LETTERS:GC mg "LETTERS" (.str "abcdefghijklmnopqrstuvwxyz")
 g_MARKS:GC mg "MARKS" (.str "(),")
 g_BLANK:GC mg "BLANK" (.str " ")
 g_JOINS:GC mg "JOINS" (.ref t.v_JOINS)
 q_JOINS:∀ H,SqT K H t.v_JOINS ((["and","either","or"]:List Str).map V.str)
theorem txt_mk {K:PySem.W.Frag} {h:Heap} {mg:Str→Option Value} (X:K.In h) (G:h.Ns mainGlobals mg)
  {Zeu:Addr} {Zzq ZrZ:Option Addr} {ZzS:Array (Option Value)} {Zzf ZsO ZsC Zs4 ZlW Zsh:Value}
  {Zo2:Addr} {ZF4 ZBc:Option Addr} {ZGo:Array (Option Value)} {ZF2 ZBz ZBo ZBX ZwT ZBj:Value}
  {Zkq:Addr} {ZEi Zyo:Option Addr} {ZEX:Array (Option Value)} {ZEg ZyS ZyD ZzC Zt5 ZyB:Value}
  {Zev:Addr} {Zzr Zr0:Option Addr} {ZzT:Array (Option Value)} {Zzg ZsP ZsD Zs5 ZlX Zsi:Value}
  {Zo1:Addr} {ZF3 ZBb:Option Addr} {ZGn:Array (Option Value)} {ZF1 ZBy ZBn ZBW ZwS ZBi:Value}
  {Zkr:Addr} {ZEj Zyp:Option Addr} {ZEY:Array (Option Value)} {ZEh ZyT ZyE ZzD Zt6 ZyC:Value}
  {Zdz:Addr} {ZxB Zpw:Option Addr} {Zx5:Array (Option Value)} {Zxr Zqn Zp3 Zq0 Zkk ZpN:Value}
  {Zuo:Addr} {ZIh ZCZ:Option Addr} {ZIF:Array (Option Value)} {ZIg ZDU ZDm ZEI ZAq ZDh:Value}
  {Zcq:Addr} {Zu1 ZlE:Option Addr} {Zvl:Array (Option Value)} {ZuU Zmy Zmb ZmT Zg6 Zl2:Value}
  {Zdw:Addr} {Zxy Zpt:Option Addr} {Zx2:Array (Option Value)} {Zxo Zqk Zp0 ZqX Zkh ZpK:Value}
  {Zcr:Addr} {Zu2 ZlF:Option Addr} {Zvm:Array (Option Value)} {ZuV Zmz Zmc ZmU Zg7 Zl3:Value}
  {Zep:Addr} {Zzl ZrU:Option Addr} {ZzN:Array (Option Value)} {Zza ZsJ Zsx ZsZ ZlR Zsc:Value}
  {Zdx:Addr} {Zxz Zpu:Option Addr} {Zx3:Array (Option Value)} {Zxp Zql Zp1 ZqY Zki ZpL:Value}
  {Zes:Addr} {Zzo ZrX:Option Addr} {ZzQ:Array (Option Value)} {Zzd ZsM ZsA Zs2 ZlU Zsf:Value}
  {Zc3:Addr} {ZvX ZnK:Option Addr} {Zwa:Array (Option Value)} {ZvQ Zoi Zoa Zot ZiO ZnW:Value}
  {Zer:Addr} {Zzn ZrW:Option Addr} {ZzP:Array (Option Value)} {Zzc ZsL Zsz Zs1 ZlT Zse:Value}
  {Zet:Addr} {Zzp ZrY:Option Addr} {ZzR:Array (Option Value)} {Zze ZsN ZsB Zs3 ZlV Zsg:Value}
  {ZbI:Addr} {Zti Zk3:Option Addr} {Ztl:Array (Option Value)} {Ztg Zlh Zlb Zll Zge Zk7:Value}
  {Zdy:Addr} {ZxA Zpv:Option Addr} {Zx4:Array (Option Value)} {Zxq Zqm Zp2 ZqZ Zkj ZpM:Value}
  {Zc5:Addr} {ZvZ ZnM:Option Addr} {Zwc:Array (Option Value)} {ZvS Zok Zoc Zov ZiQ ZnY:Value}
  {Zeq:Addr} {Zzm ZrV:Option Addr} {ZzO:Array (Option Value)} {Zzb ZsK Zsy Zs0 ZlS Zsd:Value}
  {Zcs:Addr} {Zu3 ZlG:Option Addr} {Zvn:Array (Option Value)} {ZuW ZmA Zmd ZmV Zg8 Zl4:Value}
  {Zc4:Addr} {ZvY ZnL:Option Addr} {Zwb:Array (Option Value)} {ZvR Zoj Zob Zou ZiP ZnX:Value}
  {Zc6:Addr} {Zv0 ZnN:Option Addr} {Zwd:Array (Option Value)} {ZvT Zol Zod Zow ZiR ZnZ:Value}
  {Zbv:Addr} {ZqK ZhP:Option Addr} {Zre:Array (Option Value)} {ZqG Zih Zh9 ZiA ZeP Zh4:Value}
  {ZbO:Addr} {Zrz Zja:Option Addr} {ZrH:Array (Option Value)} {Zrx Zjt Zjn ZjN Zfn Zjh:Value}
  {Zct:Addr} {Zu4 ZlH:Option Addr} {Zvo:Array (Option Value)} {ZuX ZmB Zme ZmW Zg9 Zl5:Value}
  {f_law:Addr} {ZJS ZGB:Option Addr} {ZKp:Array (Option Value)} {ZJR ZG7 ZGH ZHs ZDc ZGE:Value}
  {Zas:Addr} {Znx Zgm:Option Addr} {Znz:Array (Option Value)} {Znw Zgq Zgp Zgr ZdY Zgn:Value}
  {Zds:Addr} {Zzh ZrQ:Option Addr} {ZzJ:Array (Option Value)} {Zy6 ZsF Zst ZsV ZlN Zr8:Value}
  {ZcR:Addr} {Zxs Zpn:Option Addr} {ZxW:Array (Option Value)} {Zxi Zqe ZpU ZqR Zkb ZpE:Value}
  {ZcS:Addr} {Zxt Zpo:Option Addr} {ZxX:Array (Option Value)} {Zxj Zqf ZpV ZqS Zkc ZpF:Value}
  {Zdv:Addr} {Zzk ZrT:Option Addr} {ZzM:Array (Option Value)} {Zy9 ZsI Zsw ZsY ZlQ Zsb:Value}
  {ZcV:Addr} {Zxw Zpr:Option Addr} {Zx0:Array (Option Value)} {Zxm Zqi ZpY ZqV Zkf ZpI:Value}
  {ZcW:Addr} {Zxx Zps:Option Addr} {Zx1:Array (Option Value)} {Zxn Zqj ZpZ ZqW Zkg ZpJ:Value}
  {ZeB:Addr} {ZAP ZtS:Option Addr} {ZA3:Array (Option Value)} {ZAO Zux Zuk Zu9 ZoU Zt7:Value}
  {Zdt:Addr} {Zzi ZrR:Option Addr} {ZzK:Array (Option Value)} {Zy7 ZsG Zsu ZsW ZlO Zr9:Value}
  {Zdu:Addr} {Zzj ZrS:Option Addr} {ZzL:Array (Option Value)} {Zy8 ZsH Zsv ZsX ZlP Zsa:Value}
  {ZaK:Addr} {ZvV ZnI:Option Addr} {Zv8:Array (Option Value)} {ZvO Zog Zn8 Zor ZiM ZnU:Value}
  {ZaI:Addr} {ZuY ZlB:Option Addr} {Zvi:Array (Option Value)} {ZuR Zmv Zl8 ZmQ Zg3 ZlZ:Value}
  {ZaE:Addr} {ZuZ ZlC:Option Addr} {Zvj:Array (Option Value)} {ZuS Zmw Zl9 ZmR Zg4 Zl0:Value}
  {ZbH:Addr} {Zth Zk2:Option Addr} {Ztk:Array (Option Value)} {Ztf Zlg Zla Zlk Zgd Zk6:Value}
  {Zch:Addr} {ZvU ZnH:Option Addr} {Zv7:Array (Option Value)} {ZvN Zof Zn7 Zoq ZiL ZnT:Value}
  {Za2:Addr} {Zpb Zg1:Option Addr} {Zpf:Array (Option Value)} {Zpa Zhh Zhc Zhz Zen Zha:Value}
  {Zbs:Addr} {Zry Zi9:Option Addr} {ZrG:Array (Option Value)} {Zrw Zjs Zjm ZjM Zfm Zjg:Value}
  {ZbW:Addr} {Zu0 ZlD:Option Addr} {Zvk:Array (Option Value)} {ZuT Zmx Zma ZmS Zg5 Zl1:Value}
  {ZcU:Addr} {Zxv Zpq:Option Addr} {ZxZ:Array (Option Value)} {Zxl Zqh ZpX ZqU Zke ZpH:Value}
  {ZcT:Addr} {Zxu Zpp:Option Addr} {ZxY:Array (Option Value)} {Zxk Zqg ZpW ZqT Zkd ZpG:Value}
  {Zba:Addr} {ZqI ZhN:Option Addr} {Zrc:Array (Option Value)} {ZqE Zif Zh7 Ziy ZeN Zh2:Value}
  {Za9:Addr} {ZqH ZhM:Option Addr} {Zrb:Array (Option Value)} {ZqD Zie Zh6 Zix ZeM Zh1:Value}
  {Zbb:Addr} {ZqJ ZhO:Option Addr} {Zrd:Array (Option Value)} {ZqF Zig Zh8 Ziz ZeO Zh3:Value}
  {Zci:Addr} {ZvW ZnJ:Option Addr} {Zv9:Array (Option Value)} {ZvP Zoh Zn9 Zos ZiN ZnV:Value}
  {Zaj:Addr}
  {ZaB:Addr}
  {ZaC:Addr}
  {C_Not:Addr}
  {Zat:Addr}
  {C_And:Addr}
  {Zaq:Addr}
  {C_Or:Addr}
  {Zaw:Addr}
  {Zag:Addr}
  {ZdX:Addr}
  {ZbQ:Addr}
  {ZbR:Addr}
  {ZbS:Addr}
  {ZcG:Addr}
  {Za1:Addr}
  {ZcH:Addr}
  {ZcI:Addr}
  {ZbT:Addr}
  {ZaG:Addr}
  {ZbU:Addr}
  {Zbl:Addr}
  {tk_LETTERS:Tok}
  {tk_MARKS:Tok}
  {tk_BLANK:Tok}
  {v_JOINS:Addr} {nn_JOINS:Nat} {od_JOINS:Option Addr} {sl_JOINS:Array (Option Value)} {tk_JOINS_0 tk_JOINS_1 tk_JOINS_2:Tok}
  (ZoR:PySem.W.nsIn K mainGlobals "bracketed" = some (some (.ref Zeu)))
  (ZAi:PySem.W.nsIn K mainGlobals "words" = some (some (.ref Zo2)))
  (ZwM:PySem.W.nsIn K mainGlobals "and_of" = some (some (.ref Zkq)))
  (ZoS:PySem.W.nsIn K mainGlobals "either_of" = some (some (.ref Zev)))
  (ZAh:PySem.W.nsIn K mainGlobals "or_of" = some (some (.ref Zo1)))
  (ZwN:PySem.W.nsIn K mainGlobals "single" = some (some (.ref Zkr)))
  (ZlA:PySem.W.nsIn K mainGlobals "formula_in" = some (some (.ref Zdz)))
  (ZCY:PySem.W.nsIn K mainGlobals "read" = some (some (.ref Zuo)))
  (ZiH:PySem.W.nsIn K mainGlobals "_law_cell_at" = some (some (.ref Zcq)))
  (Zlx:PySem.W.nsIn K mainGlobals "_law_fresh" = some (some (.ref Zdw)))
  (ZiI:PySem.W.nsIn K mainGlobals "_law_letters" = some (some (.ref Zcr)))
  (ZoM:PySem.W.nsIn K mainGlobals "_law_name" = some (some (.ref Zep)))
  (Zly:PySem.W.nsIn K mainGlobals "_law_names" = some (some (.ref Zdx)))
  (ZoP:PySem.W.nsIn K mainGlobals "_law_rank" = some (some (.ref Zes)))
  (ZjW:PySem.W.nsIn K mainGlobals "_law_opened" = some (some (.ref Zc3)))
  (ZoO:PySem.W.nsIn K mainGlobals "_law_over" = some (some (.ref Zer)))
  (ZoQ:PySem.W.nsIn K mainGlobals "_law_tree" = some (some (.ref Zet)))
  (Zg0:PySem.W.nsIn K mainGlobals "_law_words_of" = some (some (.ref ZbI)))
  (Zlz:PySem.W.nsIn K mainGlobals "_law_plain" = some (some (.ref Zdy)))
  (ZjY:PySem.W.nsIn K mainGlobals "_law_spaced" = some (some (.ref Zc5)))
  (ZoN:PySem.W.nsIn K mainGlobals "_law_next" = some (some (.ref Zeq)))
  (ZiJ:PySem.W.nsIn K mainGlobals "_law_no_name" = some (some (.ref Zcs)))
  (ZjX:PySem.W.nsIn K mainGlobals "_law_put_in" = some (some (.ref Zc4)))
  (ZjZ:PySem.W.nsIn K mainGlobals "_law_spoilt" = some (some (.ref Zc6)))
  (Zfl:PySem.W.nsIn K mainGlobals "_law_other_sign" = some (some (.ref Zbv)))
  (Zgc:PySem.W.nsIn K mainGlobals "_law_of_others" = some (some (.ref ZbO)))
  (ZiK:PySem.W.nsIn K mainGlobals "_law_refused" = some (some (.ref Zct)))
  (a_law:PySem.W.nsIn K mainGlobals "law" = some (some (.ref f_law)))
  (ZtM:PySem.W.nsIn K mainGlobals "Formula" = some (some (.ref Zaj)))
  (ZCW:PySem.W.nsIn K mainGlobals "Lamp" = some (some (.ref ZaB)))
  (ZCX:PySem.W.nsIn K mainGlobals "Sure" = some (some (.ref ZaC)))
  (a_Not:PySem.W.nsIn K mainGlobals "Not" = some (some (.ref C_Not)))
  (ZwI:PySem.W.nsIn K mainGlobals "Joined" = some (some (.ref Zat)))
  (a_And:PySem.W.nsIn K mainGlobals "And" = some (some (.ref C_And)))
  (ZwH:PySem.W.nsIn K mainGlobals "Either" = some (some (.ref Zaq)))
  (a_Or:PySem.W.nsIn K mainGlobals "Or" = some (some (.ref C_Or)))
  (ZAf:PySem.W.nsIn K mainGlobals "Level" = some (some (.ref Zaw)))
  (ZoK:PySem.W.nsIn K mainGlobals "NoFormula" = some (some (.ref Zag)))
  (ZAg:PySem.W.nsIn K mainGlobals "NoBar" = some (some (.ref ZdX)))
  (ZtN:PySem.W.nsIn K mainGlobals "NoChart" = some (some (.ref ZbQ)))
  (ZtO:PySem.W.nsIn K mainGlobals "NoFence" = some (some (.ref ZbR)))
  (ZtP:PySem.W.nsIn K mainGlobals "NoFrame" = some (some (.ref ZbS)))
  (ZwJ:PySem.W.nsIn K mainGlobals "NoLine" = some (some (.ref ZcG)))
  (ZoL:PySem.W.nsIn K mainGlobals "NoMachine" = some (some (.ref Za1)))
  (ZwK:PySem.W.nsIn K mainGlobals "NoName" = some (some (.ref ZcH)))
  (ZwL:PySem.W.nsIn K mainGlobals "NoStep" = some (some (.ref ZcI)))
  (ZtQ:PySem.W.nsIn K mainGlobals "NotShut" = some (some (.ref ZbT)))
  (ZjV:PySem.W.nsIn K mainGlobals "NothingLeft" = some (some (.ref ZaG)))
  (ZtR:PySem.W.nsIn K mainGlobals "TooMany" = some (some (.ref ZbU)))
  (ZoJ:PySem.W.nsIn K mainGlobals "EverError" = some (some (.ref Zbl)))
  (Zic:PySem.W.isClsIn K Zag=true)
  (ZdJ:PySem.W.typeIn K (.ref Zag)=some (.type "type"))
  (ZcY:PySem.W.mroIn K Zag (.type "BaseException")=some true)
  (Ztu:PySem.W.isClsIn K ZdX=true)
  (Znu:PySem.W.typeIn K (.ref ZdX)=some (.type "type"))
  (Zqx:PySem.W.mroIn K ZdX (.type "BaseException")=some true)
  (Znd:PySem.W.isClsIn K ZbQ=true)
  (ZgU:PySem.W.typeIn K (.ref ZbQ)=some (.type "type"))
  (Zjw:PySem.W.mroIn K ZbQ (.type "BaseException")=some true)
  (Zne:PySem.W.isClsIn K ZbR=true)
  (ZgV:PySem.W.typeIn K (.ref ZbR)=some (.type "type"))
  (Zjx:PySem.W.mroIn K ZbR (.type "BaseException")=some true)
  (Znf:PySem.W.isClsIn K ZbS=true)
  (ZgW:PySem.W.typeIn K (.ref ZbS)=some (.type "type"))
  (Zjy:PySem.W.mroIn K ZbS (.type "BaseException")=some true)
  (Zqa:PySem.W.isClsIn K ZcG=true)
  (ZjO:PySem.W.typeIn K (.ref ZcG)=some (.type "type"))
  (ZmF:PySem.W.mroIn K ZcG (.type "BaseException")=some true)
  (Zid:PySem.W.isClsIn K Za1=true)
  (ZeG:PySem.W.typeIn K (.ref Za1)=some (.type "type"))
  (Zf0:PySem.W.mroIn K Za1 (.type "BaseException")=some true)
  (Zqb:PySem.W.isClsIn K ZcH=true)
  (ZjP:PySem.W.typeIn K (.ref ZcH)=some (.type "type"))
  (ZmG:PySem.W.mroIn K ZcH (.type "BaseException")=some true)
  (Zqc:PySem.W.isClsIn K ZcI=true)
  (ZjQ:PySem.W.typeIn K (.ref ZcI)=some (.type "type"))
  (ZmH:PySem.W.mroIn K ZcI (.type "BaseException")=some true)
  (Zng:PySem.W.isClsIn K ZbT=true)
  (ZgX:PySem.W.typeIn K (.ref ZbT)=some (.type "type"))
  (Zjz:PySem.W.mroIn K ZbT (.type "BaseException")=some true)
  (ZfF:PySem.W.isClsIn K ZaG=true)
  (Zdm:PySem.W.typeIn K (.ref ZaG)=some (.type "type"))
  (Zd4:PySem.W.mroIn K ZaG (.type "BaseException")=some true)
  (Znh:PySem.W.isClsIn K ZbU=true)
  (ZgY:PySem.W.typeIn K (.ref ZbU)=some (.type "type"))
  (ZjA:PySem.W.mroIn K ZbU (.type "BaseException")=some true)
  (Zib:PySem.W.isClsIn K Zbl=true)
  (ZdI:PySem.W.typeIn K (.ref Zbl)=some (.type "type"))
  (ZeC:PySem.W.mroIn K Zbl (.type "BaseException")=some true)
  (Zm7:PySem.W.excIn K Zag [.type "ValueError",.type "Exception",.type "BaseException",.type "object"] "ValueError.__new__" = true)
  (Zm4:PySem.W.findIn K (.ref Zag) "__getattribute__" = some (some (.builtin "BaseException.__getattribute__")))
  (Zm5:PySem.W.findIn K (.ref Zag) "__getattr__" = some none)
  (Zm3:PySem.W.findIn K (.ref Zag) "__class__" = some (some (.builtin "object.__class__")))
  (Zm6:PySem.W.mroIn K Zag (.type "object")=some true)
  (Zm8:PySem.W.subIn K (.ref Zag) (.type "ValueError")=some true)
  (Za4:PySem.W.mroIn K Zag (.ref Zag)=some true)
  (ZbN:PySem.W.mroIn K Zag (.ref ZdX)=some false)
  (Zbn:PySem.W.mroIn K Zag (.ref ZbQ)=some false)
  (Zbo:PySem.W.mroIn K Zag (.ref ZbR)=some false)
  (Zbp:PySem.W.mroIn K Zag (.ref ZbS)=some false)
  (Zbw:PySem.W.mroIn K Zag (.ref ZcG)=some false)
  (Za5:PySem.W.mroIn K Zag (.ref Za1)=some false)
  (Zbx:PySem.W.mroIn K Zag (.ref ZcH)=some false)
  (Zby:PySem.W.mroIn K Zag (.ref ZcI)=some false)
  (Zbq:PySem.W.mroIn K Zag (.ref ZbT)=some false)
  (ZaV:PySem.W.mroIn K Zag (.ref ZaG)=some false)
  (Zbr:PySem.W.mroIn K Zag (.ref ZbU)=some false)
  (ZaT:PySem.W.mroIn K Zag (.ref Zbl)=some true)
  (b_ValueError:PySem.W.nsIn K mainGlobals "ValueError" = some none)
  (ne_:[Zag,ZdX,ZbQ,ZbR,ZbS,ZcG,Za1,ZcH,ZcI,ZbT,ZaG,ZbU,Zbl].Nodup)
  (Zeo:PySem.W.findIn K (.ref Zaj) "looseness" = some (some (.ref Zas)))
  (ZoX:PySem.W.findIn K (.ref ZaB) "__init__" = some (some (.ref Zds)))
  (Zmf:PySem.W.findIn K (.ref ZaB) "lamps" = some (some (.ref ZcR)))
  (Zmg:PySem.W.findIn K (.ref ZaB) "shown" = some (some (.ref ZcS)))
  (Zgg:PySem.W.findIn K (.ref ZaB) "looseness" = some (some (.ref Zas)))
  (Zo0:PySem.W.findIn K (.ref ZaC) "__init__" = some (some (.ref Zdv)))
  (Zmj:PySem.W.findIn K (.ref ZaC) "lamps" = some (some (.ref ZcV)))
  (Zmk:PySem.W.findIn K (.ref ZaC) "shown" = some (some (.ref ZcW)))
  (Zgh:PySem.W.findIn K (.ref ZaC) "looseness" = some (some (.ref Zas)))
  (Zro:PySem.W.findIn K (.ref C_Not) "__init__" = some (some (.ref ZeB)))
  (ZoY:PySem.W.findIn K (.ref C_Not) "lamps" = some (some (.ref Zdt)))
  (ZoZ:PySem.W.findIn K (.ref C_Not) "shown" = some (some (.ref Zdu)))
  (Zhe:PySem.W.findIn K (.ref C_Not) "looseness" = some (some (.ref Zas)))
  (Zko:PySem.W.findIn K (.ref Zat) "__init__" = some (some (.ref ZaK)))
  (ZiU:PySem.W.findIn K (.ref Zat) "lamps" = some (some (.ref ZaI)))
  (ZiV:PySem.W.findIn K (.ref Zat) "shown" = some (some (.ref ZaE)))
  (ZeR:PySem.W.findIn K (.ref Zat) "looseness" = some (some (.ref Zas)))
  (Zhd:PySem.W.findIn K (.ref C_And) "looseness" = some (some (.ref ZbH)))
  (Zkm:PySem.W.findIn K (.ref C_And) "between" = some (some (.ref Zch)))
  (Zrn:PySem.W.findIn K (.ref C_And) "__init__" = some (some (.ref ZaK)))
  (ZoV:PySem.W.findIn K (.ref C_And) "lamps" = some (some (.ref ZaI)))
  (ZoW:PySem.W.findIn K (.ref C_And) "shown" = some (some (.ref ZaE)))
  (ZeQ:PySem.W.findIn K (.ref Zaq) "looseness" = some (some (.ref Za2)))
  (Zgf:PySem.W.findIn K (.ref Zaq) "between" = some (some (.ref Zbs)))
  (Zkn:PySem.W.findIn K (.ref Zaq) "__init__" = some (some (.ref ZaK)))
  (ZiS:PySem.W.findIn K (.ref Zaq) "lamps" = some (some (.ref ZaI)))
  (ZiT:PySem.W.findIn K (.ref Zaq) "shown" = some (some (.ref ZaE)))
  (ZiW:PySem.W.findIn K (.ref C_Or) "looseness" = some (some (.ref ZbW)))
  (Zmi:PySem.W.findIn K (.ref C_Or) "between" = some (some (.ref ZcU)))
  (Zul:PySem.W.findIn K (.ref C_Or) "__init__" = some (some (.ref ZaK)))
  (Zrp:PySem.W.findIn K (.ref C_Or) "lamps" = some (some (.ref ZaI)))
  (Zrq:PySem.W.findIn K (.ref C_Or) "shown" = some (some (.ref ZaE)))
  (Zmh:PySem.W.findIn K (.ref Zaw) "__init__" = some (some (.ref ZcT)))
  (Zfp:PySem.W.findIn K (.ref Zaw) "take_part" = some (some (.ref Zba)))
  (Zfo:PySem.W.findIn K (.ref Zaw) "take_join" = some (some (.ref Za9)))
  (Zfq:PySem.W.findIn K (.ref Zaw) "take_word" = some (some (.ref Zbb)))
  (Zkp:PySem.W.findIn K (.ref Zaw) "whole" = some (some (.ref Zci)))
  (ZkM:K.lookup Zeu=some ⟨Zzf,Zzq,.func (PySem.W.fnOf "bracketed" "bracketed" (Zai ZcD) (Zah ZcD) (Zab ZcD) .none ZsO ZsC Zs4 ZrZ ZlW Zsh),ZzS⟩)
  (Zj9:PySem.W.codeIn K ZlW "bracketed" = true)
  (ZkB:PySem.W.keepIn K (.ref Zeu)=true)
  (Zw9:K.lookup Zo2=some ⟨ZF2,ZF4,.func (PySem.W.fnOf "words" "words" (Zai Zi5) (Zah Zi5) (Zab Zi5) .none ZBz ZBo ZBX ZBc ZwT ZBj),ZGo⟩)
  (ZwQ:PySem.W.codeIn K ZwT "words" = true)
  (Zw6:PySem.W.keepIn K (.ref Zo2)=true)
  (Ztx:K.lookup Zkq=some ⟨ZEg,ZEi,.func (PySem.W.fnOf "and_of" "and_of" (Zai ZfT) (Zah ZfT) (Zab ZfT) .none ZyS ZyD ZzC Zyo Zt5 ZyB),ZEX⟩)
  (Ztq:PySem.W.codeIn K Zt5 "and_of" = true)
  (Ztv:PySem.W.keepIn K (.ref Zkq)=true)
  (ZkN:K.lookup Zev=some ⟨Zzg,Zzr,.func (PySem.W.fnOf "either_of" "either_of" (Zai ZcE) (Zah ZcE) (Zab ZcE) .none ZsP ZsD Zs5 Zr0 ZlX Zsi),ZzT⟩)
  (Zka:PySem.W.codeIn K ZlX "either_of" = true)
  (ZkC:PySem.W.keepIn K (.ref Zev)=true)
  (Zw8:K.lookup Zo1=some ⟨ZF1,ZF3,.func (PySem.W.fnOf "or_of" "or_of" (Zai Zi4) (Zah Zi4) (Zab Zi4) .none ZBy ZBn ZBW ZBb ZwS ZBi),ZGn⟩)
  (ZwP:PySem.W.codeIn K ZwS "or_of" = true)
  (Zw5:PySem.W.keepIn K (.ref Zo1)=true)
  (Zty:K.lookup Zkr=some ⟨ZEh,ZEj,.func (PySem.W.fnOf "single" "single" (Zai ZfU) (Zah ZfU) (Zab ZfU) .none ZyT ZyE ZzD Zyp Zt6 ZyC),ZEY⟩)
  (Ztr:PySem.W.codeIn K Zt6 "single" = true)
  (Ztw:PySem.W.keepIn K (.ref Zkr)=true)
  (Ziw:K.lookup Zdz=some ⟨Zxr,ZxB,.func (PySem.W.fnOf "formula_in" "formula_in" (Zai Zb7) (Zah Zb7) (Zab Zb7) .none Zqn Zp3 Zq0 Zpw Zkk ZpN),Zx5⟩)
  (Zh0:PySem.W.codeIn K Zkk "formula_in" = true)
  (Zim:PySem.W.keepIn K (.ref Zdz)=true)
  (ZBD:K.lookup Zuo=some ⟨ZIg,ZIh,.func (PySem.W.fnOf "read" "read" (Zai Zox) (Zah Zox) (Zab Zox) .none ZDU ZDm ZEI ZCZ ZAq ZDh),ZIF⟩)
  (ZBf:PySem.W.codeIn K ZAq "read" = true)
  (ZBB:PySem.W.keepIn K (.ref Zuo)=true)
  (ZfO:K.lookup Zcq=some ⟨ZuU,Zu1,.func (PySem.W.fnOf "_law_cell_at" "_law_cell_at" (Zai Zbg) (Zah Zbg) (Zab Zbg) .none Zmy Zmb ZmT ZlE Zg6 Zl2),Zvl⟩)
  (ZfB:PySem.W.codeIn K Zg6 "_law_cell_at" = true)
  (ZfH:PySem.W.keepIn K (.ref Zcq)=true)
  (Zit:K.lookup Zdw=some ⟨Zxo,Zxy,.func (PySem.W.fnOf "_law_fresh" "_law_fresh" (Zai Zb4) (Zah Zb4) (Zab Zb4) .none Zqk Zp0 ZqX Zpt Zkh ZpK),Zx2⟩)
  (ZhX:PySem.W.codeIn K Zkh "_law_fresh" = true)
  (Zij:PySem.W.keepIn K (.ref Zdw)=true)
  (ZfP:K.lookup Zcr=some ⟨ZuV,Zu2,.func (PySem.W.fnOf "_law_letters" "_law_letters" (Zai Zbh) (Zah Zbh) (Zab Zbh) .none Zmz Zmc ZmU ZlF Zg7 Zl3),Zvm⟩)
  (ZfC:PySem.W.codeIn K Zg7 "_law_letters" = true)
  (ZfI:PySem.W.keepIn K (.ref Zcr)=true)
  (ZkH:K.lookup Zep=some ⟨Zza,Zzl,.func (PySem.W.fnOf "_law_name" "_law_name" (Zai ZcA) (Zah ZcA) (Zab ZcA) .none ZsJ Zsx ZsZ ZrU ZlR Zsc),ZzN⟩)
  (Zj4:PySem.W.codeIn K ZlR "_law_name" = true)
  (Zkw:PySem.W.keepIn K (.ref Zep)=true)
  (Ziu:K.lookup Zdx=some ⟨Zxp,Zxz,.func (PySem.W.fnOf "_law_names" "_law_names" (Zai Zb5) (Zah Zb5) (Zab Zb5) .none Zql Zp1 ZqY Zpu Zki ZpL),Zx3⟩)
  (ZhY:PySem.W.codeIn K Zki "_law_names" = true)
  (Zik:PySem.W.keepIn K (.ref Zdx)=true)
  (ZkK:K.lookup Zes=some ⟨Zzd,Zzo,.func (PySem.W.fnOf "_law_rank" "_law_rank" (Zai ZcC) (Zah ZcC) (Zab ZcC) .none ZsM ZsA Zs2 ZrX ZlU Zsf),ZzQ⟩)
  (Zj7:PySem.W.codeIn K ZlU "_law_rank" = true)
  (Zkz:PySem.W.keepIn K (.ref Zes)=true)
  (ZgO:K.lookup Zc3=some ⟨ZvQ,ZvX,.func (PySem.W.fnOf "_law_opened" "_law_opened" (Zai ZbD) (Zah ZbD) (Zab ZbD) .none Zoi Zoa Zot ZnK ZiO ZnW),Zwa⟩)
  (ZgB:PySem.W.codeIn K ZiO "_law_opened" = true)
  (ZgH:PySem.W.keepIn K (.ref Zc3)=true)
  (ZkJ:K.lookup Zer=some ⟨Zzc,Zzn,.func (PySem.W.fnOf "_law_over" "_law_over" (Zai ZbP) (Zah ZbP) (Zab ZbP) .none ZsL Zsz Zs1 ZrW ZlT Zse),ZzP⟩)
  (Zj6:PySem.W.codeIn K ZlT "_law_over" = true)
  (Zky:PySem.W.keepIn K (.ref Zer)=true)
  (ZkL:K.lookup Zet=some ⟨Zze,Zzp,.func (PySem.W.fnOf "_law_tree" "_law_tree" (Zai Zca) (Zah Zca) (Zab Zca) .none ZsN ZsB Zs3 ZrY ZlV Zsg),ZzR⟩)
  (Zj8:PySem.W.codeIn K ZlV "_law_tree" = true)
  (ZkA:PySem.W.keepIn K (.ref Zet)=true)
  (ZeY:K.lookup ZbI=some ⟨Ztg,Zti,.func (PySem.W.fnOf "_law_words_of" "_law_words_of" (Zai ZaO) (Zah ZaO) (Zab ZaO) .none Zlh Zlb Zll Zk3 Zge Zk7),Ztl⟩)
  (ZeL:PySem.W.codeIn K Zge "_law_words_of" = true)
  (ZeW:PySem.W.keepIn K (.ref ZbI)=true)
  (Ziv:K.lookup Zdy=some ⟨Zxq,ZxA,.func (PySem.W.fnOf "_law_plain" "_law_plain" (Zai Zb6) (Zah Zb6) (Zab Zb6) .none Zqm Zp2 ZqZ Zpv Zkj ZpM),Zx4⟩)
  (ZhZ:PySem.W.codeIn K Zkj "_law_plain" = true)
  (Zil:PySem.W.keepIn K (.ref Zdy)=true)
  (ZgQ:K.lookup Zc5=some ⟨ZvS,ZvZ,.func (PySem.W.fnOf "_law_spaced" "_law_spaced" (Zai ZbF) (Zah ZbF) (Zab ZbF) .none Zok Zoc Zov ZnM ZiQ ZnY),Zwc⟩)
  (ZgD:PySem.W.codeIn K ZiQ "_law_spaced" = true)
  (ZgJ:PySem.W.keepIn K (.ref Zc5)=true)
  (ZkI:K.lookup Zeq=some ⟨Zzb,Zzm,.func (PySem.W.fnOf "_law_next" "_law_next" (Zai ZcB) (Zah ZcB) (Zab ZcB) .none ZsK Zsy Zs0 ZrV ZlS Zsd),ZzO⟩)
  (Zj5:PySem.W.codeIn K ZlS "_law_next" = true)
  (Zkx:PySem.W.keepIn K (.ref Zeq)=true)
  (ZfQ:K.lookup Zcs=some ⟨ZuW,Zu3,.func (PySem.W.fnOf "_law_no_name" "_law_no_name" (Zai Zbi) (Zah Zbi) (Zab Zbi) .none ZmA Zmd ZmV ZlG Zg8 Zl4),Zvn⟩)
  (ZfD:PySem.W.codeIn K Zg8 "_law_no_name" = true)
  (ZfJ:PySem.W.keepIn K (.ref Zcs)=true)
  (ZgP:K.lookup Zc4=some ⟨ZvR,ZvY,.func (PySem.W.fnOf "_law_put_in" "_law_put_in" (Zai ZbE) (Zah ZbE) (Zab ZbE) .none Zoj Zob Zou ZnL ZiP ZnX),Zwb⟩)
  (ZgC:PySem.W.codeIn K ZiP "_law_put_in" = true)
  (ZgI:PySem.W.keepIn K (.ref Zc4)=true)
  (ZgR:K.lookup Zc6=some ⟨ZvT,Zv0,.func (PySem.W.fnOf "_law_spoilt" "_law_spoilt" (Zai ZbG) (Zah ZbG) (Zab ZbG) .none Zol Zod Zow ZnN ZiR ZnZ),Zwd⟩)
  (ZgE:PySem.W.codeIn K ZiR "_law_spoilt" = true)
  (ZgK:PySem.W.keepIn K (.ref Zc6)=true)
  (ZdU:K.lookup Zbv=some ⟨ZqG,ZqK,.func (PySem.W.fnOf "_law_other_sign" "_law_other_sign" (Zai ZaS) (Zah ZaS) (Zab ZaS) .none Zih Zh9 ZiA ZhP ZeP Zh4),Zre⟩)
  (ZdN:PySem.W.codeIn K ZeP "_law_other_sign" = true)
  (ZdQ:PySem.W.keepIn K (.ref Zbv)=true)
  (Zel:K.lookup ZbO=some ⟨Zrx,Zrz,.func (PySem.W.fnOf "_law_of_others" "_law_of_others" (Zai ZaY) (Zah ZaY) (Zab ZaY) .none Zjt Zjn ZjN Zja Zfn Zjh),ZrH⟩)
  (Zei:PySem.W.codeIn K Zfn "_law_of_others" = true)
  (Zej:PySem.W.keepIn K (.ref ZbO)=true)
  (ZfR:K.lookup Zct=some ⟨ZuX,Zu4,.func (PySem.W.fnOf "_law_refused" "_law_refused" (Zai Zbj) (Zah Zbj) (Zab Zbj) .none ZmB Zme ZmW ZlH Zg9 Zl5),Zvo⟩)
  (ZfE:PySem.W.codeIn K Zg9 "_law_refused" = true)
  (ZfK:PySem.W.keepIn K (.ref Zct)=true)
  (l_law:K.lookup f_law=some ⟨ZJR,ZJS,.func (PySem.W.fnOf "law" "law" (Zai Zv2) (Zah Zv2) (Zab Zv2) .none ZG7 ZGH ZHs ZGB ZDc ZGE),ZKp⟩)
  (c_law:PySem.W.codeIn K ZDc "law" = true)
  (k_law:PySem.W.keepIn K (.ref f_law)=true)
  (Zc8:K.lookup Zas=some ⟨Znw,Znx,.func (PySem.W.fnOf "looseness" "Formula.looseness" (Zai ZaF) (Zah ZaF) (Zab ZaF) .none Zgq Zgp Zgr Zgm ZdY Zgn),Znz⟩)
  (Zc2:PySem.W.codeIn K ZdY "Formula.looseness" = true)
  (ZaL:PySem.W.keepIn K (.ref Zas)=true)
  (Za8:PySem.W.isFn K (.ref Zas)=true)
  (ZkD:K.lookup Zds=some ⟨Zy6,Zzh,.func (PySem.W.fnOf "__init__" "Lamp.__init__" (Zai Zcx) (Zah Zcx) (Zab Zcx) .none ZsF Zst ZsV ZrQ ZlN Zr8),ZzJ⟩)
  (Zj0:PySem.W.codeIn K ZlN "Lamp.__init__" = true)
  (Zku:PySem.W.keepIn K (.ref Zds)=true)
  (Zo6:PySem.W.isFn K (.ref Zds)=true)
  (Zin:K.lookup ZcR=some ⟨Zxi,Zxs,.func (PySem.W.fnOf "lamps" "Lamp.lamps" (Zai Zcm) (Zah Zcm) (Zab Zcm) .none Zqe ZpU ZqR Zpn Zkb ZpE),ZxW⟩)
  (ZhR:PySem.W.codeIn K Zkb "Lamp.lamps" = true)
  (ZfV:PySem.W.keepIn K (.ref ZcR)=true)
  (Zmp:PySem.W.isFn K (.ref ZcR)=true)
  (Zio:K.lookup ZcS=some ⟨Zxj,Zxt,.func (PySem.W.fnOf "shown" "Lamp.shown" (Zai Zb0) (Zah Zb0) (Zab Zb0) .none Zqf ZpV ZqS Zpo Zkc ZpF),ZxX⟩)
  (ZhS:PySem.W.codeIn K Zkc "Lamp.shown" = true)
  (ZfW:PySem.W.keepIn K (.ref ZcS)=true)
  (Zmq:PySem.W.isFn K (.ref ZcS)=true)
  (ZkG:K.lookup Zdv=some ⟨Zy9,Zzk,.func (PySem.W.fnOf "__init__" "Sure.__init__" (Zai Zcz) (Zah Zcz) (Zab Zcz) .none ZsI Zsw ZsY ZrT ZlQ Zsb),ZzM⟩)
  (Zj3:PySem.W.codeIn K ZlQ "Sure.__init__" = true)
  (Zkv:PySem.W.keepIn K (.ref Zdv)=true)
  (Zo9:PySem.W.isFn K (.ref Zdv)=true)
  (Zir:K.lookup ZcV=some ⟨Zxm,Zxw,.func (PySem.W.fnOf "lamps" "Sure.lamps" (Zai Zcn) (Zah Zcn) (Zab Zcn) .none Zqi ZpY ZqV Zpr Zkf ZpI),Zx0⟩)
  (ZhV:PySem.W.codeIn K Zkf "Sure.lamps" = true)
  (ZfY:PySem.W.keepIn K (.ref ZcV)=true)
  (Zmt:PySem.W.isFn K (.ref ZcV)=true)
  (Zis:K.lookup ZcW=some ⟨Zxn,Zxx,.func (PySem.W.fnOf "shown" "Sure.shown" (Zai Zb3) (Zah Zb3) (Zab Zb3) .none Zqj ZpZ ZqW Zps Zkg ZpJ),Zx1⟩)
  (ZhW:PySem.W.codeIn K Zkg "Sure.shown" = true)
  (ZfZ:PySem.W.keepIn K (.ref ZcW)=true)
  (Zmu:PySem.W.isFn K (.ref ZcW)=true)
  (Znk:K.lookup ZeB=some ⟨ZAO,ZAP,.func (PySem.W.fnOf "__init__" "Not.__init__" (Zai Zdj) (Zah Zdj) (Zab Zdj) .none Zux Zuk Zu9 ZtS ZoU Zt7),ZA3⟩)
  (Zna:PySem.W.codeIn K ZoU "Not.__init__" = true)
  (Zni:PySem.W.keepIn K (.ref ZeB)=true)
  (Zrv:PySem.W.isFn K (.ref ZeB)=true)
  (ZkE:K.lookup Zdt=some ⟨Zy7,Zzi,.func (PySem.W.fnOf "lamps" "Not.lamps" (Zai Zda) (Zah Zda) (Zab Zda) .none ZsG Zsu ZsW ZrR ZlO Zr9),ZzK⟩)
  (Zj1:PySem.W.codeIn K ZlO "Not.lamps" = true)
  (Zhi:PySem.W.keepIn K (.ref Zdt)=true)
  (Zo7:PySem.W.isFn K (.ref Zdt)=true)
  (ZkF:K.lookup Zdu=some ⟨Zy8,Zzj,.func (PySem.W.fnOf "shown" "Not.shown" (Zai Zcy) (Zah Zcy) (Zab Zcy) .none ZsH Zsv ZsX ZrS ZlP Zsa),ZzL⟩)
  (Zj2:PySem.W.codeIn K ZlP "Not.shown" = true)
  (Zhj:PySem.W.keepIn K (.ref Zdu)=true)
  (Zo8:PySem.W.isFn K (.ref Zdu)=true)
  (ZgM:K.lookup ZaK=some ⟨ZvO,ZvV,.func (PySem.W.fnOf "__init__" "Joined.__init__" (Zai ZbA) (Zah ZbA) (Zab ZbA) .none Zog Zn8 Zor ZnI ZiM ZnU),Zv8⟩)
  (Zgz:PySem.W.codeIn K ZiM "Joined.__init__" = true)
  (ZgG:PySem.W.keepIn K (.ref ZaK)=true)
  (ZdO:PySem.W.isFn K (.ref ZaK)=true)
  (ZfL:K.lookup ZaI=some ⟨ZuR,ZuY,.func (PySem.W.fnOf "lamps" "Joined.lamps" (Zai ZbB) (Zah ZbB) (Zab ZbB) .none Zmv Zl8 ZmQ ZlB Zg3 ZlZ),Zvi⟩)
  (Zfy:PySem.W.codeIn K Zg3 "Joined.lamps" = true)
  (ZbX:PySem.W.keepIn K (.ref ZaI)=true)
  (Zdh:PySem.W.isFn K (.ref ZaI)=true)
  (ZfM:K.lookup ZaE=some ⟨ZuS,ZuZ,.func (PySem.W.fnOf "shown" "Joined.shown" (Zai Zbe) (Zah Zbe) (Zab Zbe) .none Zmw Zl9 ZmR ZlC Zg4 Zl0),Zvj⟩)
  (Zfz:PySem.W.codeIn K Zg4 "Joined.shown" = true)
  (ZbY:PySem.W.keepIn K (.ref ZaE)=true)
  (Zdi:PySem.W.isFn K (.ref ZaE)=true)
  (ZeX:K.lookup ZbH=some ⟨Ztf,Zth,.func (PySem.W.fnOf "looseness" "And.looseness" (Zai Za6) (Zah Za6) (Zab Za6) .none Zlg Zla Zlk Zk2 Zgd Zk6),Ztk⟩)
  (ZeK:PySem.W.codeIn K Zgd "And.looseness" = true)
  (ZdA:PySem.W.keepIn K (.ref ZbH)=true)
  (Zhf:PySem.W.isFn K (.ref ZbH)=true)
  (ZgL:K.lookup Zch=some ⟨ZvN,ZvU,.func (PySem.W.fnOf "between" "And.between" (Zai Zbz) (Zah Zbz) (Zab Zbz) .none Zof Zn7 Zoq ZnH ZiL ZnT),Zv7⟩)
  (Zgy:PySem.W.codeIn K ZiL "And.between" = true)
  (ZeU:PySem.W.keepIn K (.ref Zch)=true)
  (Zks:PySem.W.isFn K (.ref Zch)=true)
  (Zdp:K.lookup Za2=some ⟨Zpa,Zpb,.func (PySem.W.fnOf "looseness" "Either.looseness" (Zai ZaJ) (Zah ZaJ) (Zab ZaJ) .none Zhh Zhc Zhz Zg1 Zen Zha),Zpf⟩)
  (Zdo:PySem.W.codeIn K Zen "Either.looseness" = true)
  (Zck:PySem.W.keepIn K (.ref Za2)=true)
  (ZeT:PySem.W.isFn K (.ref Za2)=true)
  (Zek:K.lookup Zbs=some ⟨Zrw,Zry,.func (PySem.W.fnOf "between" "Either.between" (Zai ZaX) (Zah ZaX) (Zab ZaX) .none Zjs Zjm ZjM Zi9 Zfm Zjg),ZrG⟩)
  (Zeh:PySem.W.codeIn K Zfm "Either.between" = true)
  (Zdb:PySem.W.keepIn K (.ref Zbs)=true)
  (Zgi:PySem.W.isFn K (.ref Zbs)=true)
  (ZfN:K.lookup ZbW=some ⟨ZuT,Zu0,.func (PySem.W.fnOf "looseness" "Or.looseness" (Zai Zbf) (Zah Zbf) (Zab Zbf) .none Zmx Zma ZmS ZlD Zg5 Zl1),Zvk⟩)
  (ZfA:PySem.W.codeIn K Zg5 "Or.looseness" = true)
  (Zd3:PySem.W.keepIn K (.ref ZbW)=true)
  (ZiY:PySem.W.isFn K (.ref ZbW)=true)
  (Ziq:K.lookup ZcU=some ⟨Zxl,Zxv,.func (PySem.W.fnOf "between" "Or.between" (Zai Zb2) (Zah Zb2) (Zab Zb2) .none Zqh ZpX ZqU Zpq Zke ZpH),ZxZ⟩)
  (ZhU:PySem.W.codeIn K Zke "Or.between" = true)
  (ZfX:PySem.W.keepIn K (.ref ZcU)=true)
  (Zms:PySem.W.isFn K (.ref ZcU)=true)
  (Zip:K.lookup ZcT=some ⟨Zxk,Zxu,.func (PySem.W.fnOf "__init__" "Level.__init__" (Zai Zb1) (Zah Zb1) (Zab Zb1) .none Zqg ZpW ZqT Zpp Zkd ZpG),ZxY⟩)
  (ZhT:PySem.W.codeIn K Zkd "Level.__init__" = true)
  (Zii:PySem.W.keepIn K (.ref ZcT)=true)
  (Zmr:PySem.W.isFn K (.ref ZcT)=true)
  (ZdS:K.lookup Zba=some ⟨ZqE,ZqI,.func (PySem.W.fnOf "take_part" "Level.take_part" (Zai ZaQ) (Zah ZaQ) (Zab ZaQ) .none Zif Zh7 Ziy ZhN ZeN Zh2),Zrc⟩)
  (ZdL:PySem.W.codeIn K ZeN "Level.take_part" = true)
  (ZcL:PySem.W.keepIn K (.ref Zba)=true)
  (Zfs:PySem.W.isFn K (.ref Zba)=true)
  (ZdR:K.lookup Za9=some ⟨ZqD,ZqH,.func (PySem.W.fnOf "take_join" "Level.take_join" (Zai ZaP) (Zah ZaP) (Zab ZaP) .none Zie Zh6 Zix ZhM ZeM Zh1),Zrb⟩)
  (ZdK:PySem.W.codeIn K ZeM "Level.take_join" = true)
  (ZcK:PySem.W.keepIn K (.ref Za9)=true)
  (Zfr:PySem.W.isFn K (.ref Za9)=true)
  (ZdT:K.lookup Zbb=some ⟨ZqF,ZqJ,.func (PySem.W.fnOf "take_word" "Level.take_word" (Zai ZaR) (Zah ZaR) (Zab ZaR) .none Zig Zh8 Ziz ZhO ZeO Zh3),Zrd⟩)
  (ZdM:PySem.W.codeIn K ZeO "Level.take_word" = true)
  (ZcM:PySem.W.keepIn K (.ref Zbb)=true)
  (Zft:PySem.W.isFn K (.ref Zbb)=true)
  (ZgN:K.lookup Zci=some ⟨ZvP,ZvW,.func (PySem.W.fnOf "whole" "Level.whole" (Zai ZbC) (Zah ZbC) (Zab ZbC) .none Zoh Zn9 Zos ZnJ ZiN ZnV),Zv9⟩)
  (ZgA:PySem.W.codeIn K ZiN "Level.whole" = true)
  (ZeV:PySem.W.keepIn K (.ref Zci)=true)
  (Zkt:PySem.W.isFn K (.ref Zci)=true)
  (Znn:PySem.W.plainGet K Zaj Str.empty=true)
  (Znc:PySem.W.hasDictIn K Zaj=true)
  (Zno:PySem.W.plainOver K Zaj=true)
  (Znq:PySem.W.findIn K (.ref Zaj) "__setattr__" = some (some (.builtin "object.__setattr__")))
  (Zwt:PySem.W.keepIn K (.ref Zaj)=true)
  (Zrt:PySem.W.findIn K (.ref Zaj) "__class__" = some (some (.builtin "object.__class__")))
  (Zru:PySem.W.mroIn K Zaj (.type "object")=some true)
  (Zf2:PySem.W.findIn K (.ref Zaj) "at" = some none)
  (ZdD:PySem.W.findIn K (.ref Zaj) "truth" = some none)
  (Zd8:PySem.W.findIn K (.ref Zaj) "part" = some none)
  (ZdC:PySem.W.findIn K (.ref Zaj) "parts" = some none)
  (Zd7:PySem.W.findIn K (.ref Zaj) "nots" = some none)
  (Zd6:PySem.W.findIn K (.ref Zaj) "ands" = some none)
  (ZcN:PySem.W.findIn K (.ref Zaj) "eithers" = some none)
  (Ze4:PySem.W.findIn K (.ref Zaj) "ors" = some none)
  (ZcO:PySem.W.findIn K (.ref Zaj) "lacking" = some none)
  (ZxH:PySem.W.plainGet K ZaB Str.empty=true)
  (ZwY:PySem.W.hasDictIn K ZaB=true)
  (ZxK:PySem.W.plainOver K ZaB=true)
  (ZxQ:PySem.W.findIn K (.ref ZaB) "__setattr__" = some (some (.builtin "object.__setattr__")))
  (ZAE:PySem.W.keepIn K (.ref ZaB)=true)
  (ZAx:PySem.W.findIn K (.ref ZaB) "__class__" = some (some (.builtin "object.__class__")))
  (ZAz:PySem.W.mroIn K ZaB (.type "object")=some true)
  (ZAL:PySem.W.makesIn K ZaB=true)
  (Zhq:PySem.W.findIn K (.ref ZaB) "at" = some none)
  (Zf5:PySem.W.findIn K (.ref ZaB) "truth" = some none)
  (Zhs:PySem.W.findIn K (.ref ZaB) "part" = some none)
  (Zf4:PySem.W.findIn K (.ref ZaB) "parts" = some none)
  (Zhr:PySem.W.findIn K (.ref ZaB) "nots" = some none)
  (Zhp:PySem.W.findIn K (.ref ZaB) "ands" = some none)
  (Zeb:PySem.W.findIn K (.ref ZaB) "eithers" = some none)
  (ZjG:PySem.W.findIn K (.ref ZaB) "ors" = some none)
  (Zec:PySem.W.findIn K (.ref ZaB) "lacking" = some none)
  (ZxI:PySem.W.plainGet K ZaC Str.empty=true)
  (ZwZ:PySem.W.hasDictIn K ZaC=true)
  (ZxL:PySem.W.plainOver K ZaC=true)
  (ZxR:PySem.W.findIn K (.ref ZaC) "__setattr__" = some (some (.builtin "object.__setattr__")))
  (ZAF:PySem.W.keepIn K (.ref ZaC)=true)
  (ZAy:PySem.W.findIn K (.ref ZaC) "__class__" = some (some (.builtin "object.__class__")))
  (ZAA:PySem.W.mroIn K ZaC (.type "object")=some true)
  (ZAM:PySem.W.makesIn K ZaC=true)
  (ZmO:PySem.W.findIn K (.ref ZaC) "at" = some none)
  (ZdF:PySem.W.findIn K (.ref ZaC) "truth" = some none)
  (Zhx:PySem.W.findIn K (.ref ZaC) "part" = some none)
  (Zf9:PySem.W.findIn K (.ref ZaC) "parts" = some none)
  (Zhw:PySem.W.findIn K (.ref ZaC) "nots" = some none)
  (Zhv:PySem.W.findIn K (.ref ZaC) "ands" = some none)
  (Zed:PySem.W.findIn K (.ref ZaC) "eithers" = some none)
  (ZjL:PySem.W.findIn K (.ref ZaC) "ors" = some none)
  (Zee:PySem.W.findIn K (.ref ZaC) "lacking" = some none)
  (ZBU:PySem.W.plainGet K C_Not Str.empty=true)
  (ZBs:PySem.W.hasDictIn K C_Not=true)
  (ZBZ:PySem.W.plainOver K C_Not=true)
  (ZB9:PySem.W.findIn K (.ref C_Not) "__setattr__" = some (some (.builtin "object.__setattr__")))
  (ZDX:PySem.W.keepIn K (.ref C_Not)=true)
  (ZDz:PySem.W.findIn K (.ref C_Not) "__class__" = some (some (.builtin "object.__class__")))
  (ZDD:PySem.W.mroIn K C_Not (.type "object")=some true)
  (ZEb:PySem.W.makesIn K C_Not=true)
  (ZqB:PySem.W.findIn K (.ref C_Not) "at" = some none)
  (Zhu:PySem.W.findIn K (.ref C_Not) "truth" = some none)
  (ZeD:PySem.W.findIn K (.ref C_Not) "part" = some none)
  (Zht:PySem.W.findIn K (.ref C_Not) "parts" = some none)
  (ZjJ:PySem.W.findIn K (.ref C_Not) "nots" = some none)
  (ZjI:PySem.W.findIn K (.ref C_Not) "ands" = some none)
  (Zfa:PySem.W.findIn K (.ref C_Not) "eithers" = some none)
  (ZmK:PySem.W.findIn K (.ref C_Not) "ors" = some none)
  (Zfb:PySem.W.findIn K (.ref C_Not) "lacking" = some none)
  (ZqP:PySem.W.plainGet K Zat Str.empty=true)
  (Zp9:PySem.W.hasDictIn K Zat=true)
  (Zq2:PySem.W.plainOver K Zat=true)
  (Zq5:PySem.W.findIn K (.ref Zat) "__setattr__" = some (some (.builtin "object.__setattr__")))
  (Zuz:PySem.W.keepIn K (.ref Zat)=true)
  (Zur:PySem.W.findIn K (.ref Zat) "__class__" = some (some (.builtin "object.__class__")))
  (Zut:PySem.W.mroIn K Zat (.type "object")=some true)
  (ZuO:PySem.W.makesIn K Zat=true)
  (Zho:PySem.W.findIn K (.ref Zat) "at" = some none)
  (Zea:PySem.W.findIn K (.ref Zat) "truth" = some none)
  (Ze7:PySem.W.findIn K (.ref Zat) "part" = some none)
  (Zd9:PySem.W.findIn K (.ref Zat) "parts" = some none)
  (Ze6:PySem.W.findIn K (.ref Zat) "nots" = some none)
  (Ze5:PySem.W.findIn K (.ref Zat) "ands" = some none)
  (Zde:PySem.W.findIn K (.ref Zat) "eithers" = some none)
  (Zf3:PySem.W.findIn K (.ref Zat) "ors" = some none)
  (Zdf:PySem.W.findIn K (.ref Zat) "lacking" = some none)
  (ZBT:PySem.W.plainGet K C_And Str.empty=true)
  (ZBr:PySem.W.hasDictIn K C_And=true)
  (ZBY:PySem.W.plainOver K C_And=true)
  (ZB8:PySem.W.findIn K (.ref C_And) "__setattr__" = some (some (.builtin "object.__setattr__")))
  (ZDW:PySem.W.keepIn K (.ref C_And)=true)
  (ZDy:PySem.W.findIn K (.ref C_And) "__class__" = some (some (.builtin "object.__class__")))
  (ZDC:PySem.W.mroIn K C_And (.type "object")=some true)
  (ZEa:PySem.W.makesIn K C_And=true)
  (ZqA:PySem.W.findIn K (.ref C_And) "at" = some none)
  (Zhm:PySem.W.findIn K (.ref C_And) "truth" = some none)
  (ZjF:PySem.W.findIn K (.ref C_And) "part" = some none)
  (Zex:PySem.W.findIn K (.ref C_And) "parts" = some none)
  (ZjE:PySem.W.findIn K (.ref C_And) "nots" = some none)
  (ZjD:PySem.W.findIn K (.ref C_And) "ands" = some none)
  (ZeZ:PySem.W.findIn K (.ref C_And) "eithers" = some none)
  (ZmJ:PySem.W.findIn K (.ref C_And) "ors" = some none)
  (Ze0:PySem.W.findIn K (.ref C_And) "lacking" = some none)
  (ZqO:PySem.W.plainGet K Zaq Str.empty=true)
  (Zp8:PySem.W.hasDictIn K Zaq=true)
  (Zq1:PySem.W.plainOver K Zaq=true)
  (Zq4:PySem.W.findIn K (.ref Zaq) "__setattr__" = some (some (.builtin "object.__setattr__")))
  (Zuy:PySem.W.keepIn K (.ref Zaq)=true)
  (Zuq:PySem.W.findIn K (.ref Zaq) "__class__" = some (some (.builtin "object.__class__")))
  (Zus:PySem.W.mroIn K Zaq (.type "object")=some true)
  (ZuN:PySem.W.makesIn K Zaq=true)
  (Zhn:PySem.W.findIn K (.ref Zaq) "at" = some none)
  (Zd5:PySem.W.findIn K (.ref Zaq) "truth" = some none)
  (Ze3:PySem.W.findIn K (.ref Zaq) "part" = some none)
  (Zcw:PySem.W.findIn K (.ref Zaq) "parts" = some none)
  (Ze2:PySem.W.findIn K (.ref Zaq) "nots" = some none)
  (Ze1:PySem.W.findIn K (.ref Zaq) "ands" = some none)
  (Zdc:PySem.W.findIn K (.ref Zaq) "eithers" = some none)
  (Zf1:PySem.W.findIn K (.ref Zaq) "ors" = some none)
  (Zdd:PySem.W.findIn K (.ref Zaq) "lacking" = some none)
  (pg_Or:PySem.W.plainGet K C_Or Str.empty=true)
  (hd_Or:PySem.W.hasDictIn K C_Or=true)
  (po_Or:PySem.W.plainOver K C_Or=true)
  (sa_Or:PySem.W.findIn K (.ref C_Or) "__setattr__" = some (some (.builtin "object.__setattr__")))
  (kc_Or:PySem.W.keepIn K (.ref C_Or)=true)
  (ha_Or:PySem.W.findIn K (.ref C_Or) "__class__" = some (some (.builtin "object.__class__")))
  (hm_Or:PySem.W.mroIn K C_Or (.type "object")=some true)
  (mk_Or:PySem.W.makesIn K C_Or=true)
  (ZuQ:PySem.W.findIn K (.ref C_Or) "at" = some none)
  (ZjK:PySem.W.findIn K (.ref C_Or) "truth" = some none)
  (ZmN:PySem.W.findIn K (.ref C_Or) "part" = some none)
  (Zfv:PySem.W.findIn K (.ref C_Or) "parts" = some none)
  (ZmM:PySem.W.findIn K (.ref C_Or) "nots" = some none)
  (ZmL:PySem.W.findIn K (.ref C_Or) "ands" = some none)
  (Zf7:PySem.W.findIn K (.ref C_Or) "eithers" = some none)
  (ZqC:PySem.W.findIn K (.ref C_Or) "ors" = some none)
  (Zf8:PySem.W.findIn K (.ref C_Or) "lacking" = some none)
  (ZtB:PySem.W.plainGet K Zaw Str.empty=true)
  (Ztt:PySem.W.hasDictIn K Zaw=true)
  (ZtC:PySem.W.plainOver K Zaw=true)
  (ZtE:PySem.W.findIn K (.ref Zaw) "__setattr__" = some (some (.builtin "object.__setattr__")))
  (Zw7:PySem.W.keepIn K (.ref Zaw)=true)
  (ZwX:PySem.W.findIn K (.ref Zaw) "__class__" = some (some (.builtin "object.__class__")))
  (Zw0:PySem.W.mroIn K Zaw (.type "object")=some true)
  (Zxf:PySem.W.makesIn K Zaw=true)
  (ZjH:PySem.W.findIn K (.ref Zaw) "at" = some none)
  (Ze9:PySem.W.findIn K (.ref Zaw) "truth" = some none)
  (Zf6:PySem.W.findIn K (.ref Zaw) "part" = some none)
  (Ze8:PySem.W.findIn K (.ref Zaw) "parts" = some none)
  (ZbZ:PySem.W.findIn K (.ref Zaw) "nots" = some none)
  (Zcl:PySem.W.findIn K (.ref Zaw) "ands" = some none)
  (Zbm:PySem.W.findIn K (.ref Zaw) "eithers" = some none)
  (ZdE:PySem.W.findIn K (.ref Zaw) "ors" = some none)
  (ZaD:PySem.W.findIn K (.ref Zaw) "lacking" = some none)
  (nd_:[Zaj,ZaB,ZaC,C_Not,Zat,C_And,Zaq,C_Or,Zaw].Nodup)
  (hn_:PySem.W.specialIn K (.builtin "object.__class__") "__get__" = some (some (.builtin "getset_descriptor.__get__")))
  (htk_:PySem.W.takesIn K (.builtin "object.__class__")=some true)
  (ZcJ:PySem.W.isClsIn K Zaj=true)
  (ZcQ:PySem.W.typeIn K (.ref Zaj)=some (.type "type"))
  (Zi1:PySem.W.subIn K (.ref ZaB) (.ref Zaj)=some true)
  (Zi2:PySem.W.subIn K (.ref ZaC) (.ref Zaj)=some true)
  (ZkV:PySem.W.subIn K (.ref C_Not) (.ref Zaj)=some true)
  (Zgl:PySem.W.subIn K (.ref Zat) (.ref Zaj)=some true)
  (ZkU:PySem.W.subIn K (.ref C_And) (.ref Zaj)=some true)
  (Zgk:PySem.W.subIn K (.ref Zaq) (.ref Zaj)=some true)
  (ZmZ:PySem.W.subIn K (.ref C_Or) (.ref Zaj)=some true)
  (ZhB:PySem.W.subIn K (.ref Zaw) (.ref Zaj)=some false)
  (Zi3:PySem.W.subIn K (.type "NoneType") (.ref Zaj)=some false)
  (b_len:PySem.W.nsIn K mainGlobals "len" = some none)
  (b_range:PySem.W.nsIn K mainGlobals "range" = some none)
  (b_isinstance:PySem.W.nsIn K mainGlobals "isinstance" = some none)
  (b_int:PySem.W.nsIn K mainGlobals "int" = some none)
  (b_bool:PySem.W.nsIn K mainGlobals "bool" = some none)
  (b_str:PySem.W.nsIn K mainGlobals "str" = some none)
  (b_list:PySem.W.nsIn K mainGlobals "list" = some none)
  (b_tuple:PySem.W.nsIn K mainGlobals "tuple" = some none)
  (b_dict:PySem.W.nsIn K mainGlobals "dict" = some none)
  (b_set:PySem.W.nsIn K mainGlobals "set" = some none)
  (b_sorted:PySem.W.nsIn K mainGlobals "sorted" = some none)
  (b_max:PySem.W.nsIn K mainGlobals "max" = some none)
  (b_min:PySem.W.nsIn K mainGlobals "min" = some none)
  (b_sum:PySem.W.nsIn K mainGlobals "sum" = some none)
  (b_any:PySem.W.nsIn K mainGlobals "any" = some none)
  (b_all:PySem.W.nsIn K mainGlobals "all" = some none)
  (b_abs:PySem.W.nsIn K mainGlobals "abs" = some none)
  (b_reversed:PySem.W.nsIn K mainGlobals "reversed" = some none)
  (b_enumerate:PySem.W.nsIn K mainGlobals "enumerate" = some none)
  (b_zip:PySem.W.nsIn K mainGlobals "zip" = some none)
  (g_LETTERS:PySem.W.nsIn K mainGlobals "LETTERS" = some (some (.str "abcdefghijklmnopqrstuvwxyz" tk_LETTERS)))
  (g_MARKS:PySem.W.nsIn K mainGlobals "MARKS" = some (some (.str "()," tk_MARKS)))
  (g_BLANK:PySem.W.nsIn K mainGlobals "BLANK" = some (some (.str " " tk_BLANK)))
  (g_JOINS:PySem.W.nsIn K mainGlobals "JOINS" = some (some (.ref v_JOINS)))
  (lk_JOINS:K.lookup v_JOINS=some ⟨.type "tuple",od_JOINS,.seq #[.str "and" tk_JOINS_0,.str "either" tk_JOINS_1,.str "or" tk_JOINS_2] nn_JOINS,sl_JOINS⟩)
  : ∃ t:Ad,Txt K mg t:=by
 refine ⟨⟨Zeu,PySem.W.fnOf "bracketed" "bracketed" (Zai ZcD) (Zah ZcD) (Zab ZcD) .none ZsO ZsC Zs4 ZrZ ZlW Zsh,Zo2,PySem.W.fnOf "words" "words" (Zai Zi5) (Zah Zi5) (Zab Zi5) .none ZBz ZBo ZBX ZBc ZwT ZBj,Zkq,PySem.W.fnOf "and_of" "and_of" (Zai ZfT) (Zah ZfT) (Zab ZfT) .none ZyS ZyD ZzC Zyo Zt5 ZyB,Zev,PySem.W.fnOf "either_of" "either_of" (Zai ZcE) (Zah ZcE) (Zab ZcE) .none ZsP ZsD Zs5 Zr0 ZlX Zsi,Zo1,PySem.W.fnOf "or_of" "or_of" (Zai Zi4) (Zah Zi4) (Zab Zi4) .none ZBy ZBn ZBW ZBb ZwS ZBi,Zkr,PySem.W.fnOf "single" "single" (Zai ZfU) (Zah ZfU) (Zab ZfU) .none ZyT ZyE ZzD Zyp Zt6 ZyC,Zdz,PySem.W.fnOf "formula_in" "formula_in" (Zai Zb7) (Zah Zb7) (Zab Zb7) .none Zqn Zp3 Zq0 Zpw Zkk ZpN,Zuo,PySem.W.fnOf "read" "read" (Zai Zox) (Zah Zox) (Zab Zox) .none ZDU ZDm ZEI ZCZ ZAq ZDh,Zcq,PySem.W.fnOf "_law_cell_at" "_law_cell_at" (Zai Zbg) (Zah Zbg) (Zab Zbg) .none Zmy Zmb ZmT ZlE Zg6 Zl2,Zdw,PySem.W.fnOf "_law_fresh" "_law_fresh" (Zai Zb4) (Zah Zb4) (Zab Zb4) .none Zqk Zp0 ZqX Zpt Zkh ZpK,Zcr,PySem.W.fnOf "_law_letters" "_law_letters" (Zai Zbh) (Zah Zbh) (Zab Zbh) .none Zmz Zmc ZmU ZlF Zg7 Zl3,Zep,PySem.W.fnOf "_law_name" "_law_name" (Zai ZcA) (Zah ZcA) (Zab ZcA) .none ZsJ Zsx ZsZ ZrU ZlR Zsc,Zdx,PySem.W.fnOf "_law_names" "_law_names" (Zai Zb5) (Zah Zb5) (Zab Zb5) .none Zql Zp1 ZqY Zpu Zki ZpL,Zes,PySem.W.fnOf "_law_rank" "_law_rank" (Zai ZcC) (Zah ZcC) (Zab ZcC) .none ZsM ZsA Zs2 ZrX ZlU Zsf,Zc3,PySem.W.fnOf "_law_opened" "_law_opened" (Zai ZbD) (Zah ZbD) (Zab ZbD) .none Zoi Zoa Zot ZnK ZiO ZnW,Zer,PySem.W.fnOf "_law_over" "_law_over" (Zai ZbP) (Zah ZbP) (Zab ZbP) .none ZsL Zsz Zs1 ZrW ZlT Zse,Zet,PySem.W.fnOf "_law_tree" "_law_tree" (Zai Zca) (Zah Zca) (Zab Zca) .none ZsN ZsB Zs3 ZrY ZlV Zsg,ZbI,PySem.W.fnOf "_law_words_of" "_law_words_of" (Zai ZaO) (Zah ZaO) (Zab ZaO) .none Zlh Zlb Zll Zk3 Zge Zk7,Zdy,PySem.W.fnOf "_law_plain" "_law_plain" (Zai Zb6) (Zah Zb6) (Zab Zb6) .none Zqm Zp2 ZqZ Zpv Zkj ZpM,Zc5,PySem.W.fnOf "_law_spaced" "_law_spaced" (Zai ZbF) (Zah ZbF) (Zab ZbF) .none Zok Zoc Zov ZnM ZiQ ZnY,Zeq,PySem.W.fnOf "_law_next" "_law_next" (Zai ZcB) (Zah ZcB) (Zab ZcB) .none ZsK Zsy Zs0 ZrV ZlS Zsd,Zcs,PySem.W.fnOf "_law_no_name" "_law_no_name" (Zai Zbi) (Zah Zbi) (Zab Zbi) .none ZmA Zmd ZmV ZlG Zg8 Zl4,Zc4,PySem.W.fnOf "_law_put_in" "_law_put_in" (Zai ZbE) (Zah ZbE) (Zab ZbE) .none Zoj Zob Zou ZnL ZiP ZnX,Zc6,PySem.W.fnOf "_law_spoilt" "_law_spoilt" (Zai ZbG) (Zah ZbG) (Zab ZbG) .none Zol Zod Zow ZnN ZiR ZnZ,Zbv,PySem.W.fnOf "_law_other_sign" "_law_other_sign" (Zai ZaS) (Zah ZaS) (Zab ZaS) .none Zih Zh9 ZiA ZhP ZeP Zh4,ZbO,PySem.W.fnOf "_law_of_others" "_law_of_others" (Zai ZaY) (Zah ZaY) (Zab ZaY) .none Zjt Zjn ZjN Zja Zfn Zjh,Zct,PySem.W.fnOf "_law_refused" "_law_refused" (Zai Zbj) (Zah Zbj) (Zab Zbj) .none ZmB Zme ZmW ZlH Zg9 Zl5,f_law,PySem.W.fnOf "law" "law" (Zai Zv2) (Zah Zv2) (Zab Zv2) .none ZG7 ZGH ZHs ZGB ZDc ZGE,Zas,PySem.W.fnOf "looseness" "Formula.looseness" (Zai ZaF) (Zah ZaF) (Zab ZaF) .none Zgq Zgp Zgr Zgm ZdY Zgn,Zds,PySem.W.fnOf "__init__" "Lamp.__init__" (Zai Zcx) (Zah Zcx) (Zab Zcx) .none ZsF Zst ZsV ZrQ ZlN Zr8,ZcR,PySem.W.fnOf "lamps" "Lamp.lamps" (Zai Zcm) (Zah Zcm) (Zab Zcm) .none Zqe ZpU ZqR Zpn Zkb ZpE,ZcS,PySem.W.fnOf "shown" "Lamp.shown" (Zai Zb0) (Zah Zb0) (Zab Zb0) .none Zqf ZpV ZqS Zpo Zkc ZpF,Zdv,PySem.W.fnOf "__init__" "Sure.__init__" (Zai Zcz) (Zah Zcz) (Zab Zcz) .none ZsI Zsw ZsY ZrT ZlQ Zsb,ZcV,PySem.W.fnOf "lamps" "Sure.lamps" (Zai Zcn) (Zah Zcn) (Zab Zcn) .none Zqi ZpY ZqV Zpr Zkf ZpI,ZcW,PySem.W.fnOf "shown" "Sure.shown" (Zai Zb3) (Zah Zb3) (Zab Zb3) .none Zqj ZpZ ZqW Zps Zkg ZpJ,ZeB,PySem.W.fnOf "__init__" "Not.__init__" (Zai Zdj) (Zah Zdj) (Zab Zdj) .none Zux Zuk Zu9 ZtS ZoU Zt7,Zdt,PySem.W.fnOf "lamps" "Not.lamps" (Zai Zda) (Zah Zda) (Zab Zda) .none ZsG Zsu ZsW ZrR ZlO Zr9,Zdu,PySem.W.fnOf "shown" "Not.shown" (Zai Zcy) (Zah Zcy) (Zab Zcy) .none ZsH Zsv ZsX ZrS ZlP Zsa,ZaK,PySem.W.fnOf "__init__" "Joined.__init__" (Zai ZbA) (Zah ZbA) (Zab ZbA) .none Zog Zn8 Zor ZnI ZiM ZnU,ZaI,PySem.W.fnOf "lamps" "Joined.lamps" (Zai ZbB) (Zah ZbB) (Zab ZbB) .none Zmv Zl8 ZmQ ZlB Zg3 ZlZ,ZaE,PySem.W.fnOf "shown" "Joined.shown" (Zai Zbe) (Zah Zbe) (Zab Zbe) .none Zmw Zl9 ZmR ZlC Zg4 Zl0,ZbH,PySem.W.fnOf "looseness" "And.looseness" (Zai Za6) (Zah Za6) (Zab Za6) .none Zlg Zla Zlk Zk2 Zgd Zk6,Zch,PySem.W.fnOf "between" "And.between" (Zai Zbz) (Zah Zbz) (Zab Zbz) .none Zof Zn7 Zoq ZnH ZiL ZnT,Za2,PySem.W.fnOf "looseness" "Either.looseness" (Zai ZaJ) (Zah ZaJ) (Zab ZaJ) .none Zhh Zhc Zhz Zg1 Zen Zha,Zbs,PySem.W.fnOf "between" "Either.between" (Zai ZaX) (Zah ZaX) (Zab ZaX) .none Zjs Zjm ZjM Zi9 Zfm Zjg,ZbW,PySem.W.fnOf "looseness" "Or.looseness" (Zai Zbf) (Zah Zbf) (Zab Zbf) .none Zmx Zma ZmS ZlD Zg5 Zl1,ZcU,PySem.W.fnOf "between" "Or.between" (Zai Zb2) (Zah Zb2) (Zab Zb2) .none Zqh ZpX ZqU Zpq Zke ZpH,ZcT,PySem.W.fnOf "__init__" "Level.__init__" (Zai Zb1) (Zah Zb1) (Zab Zb1) .none Zqg ZpW ZqT Zpp Zkd ZpG,Zba,PySem.W.fnOf "take_part" "Level.take_part" (Zai ZaQ) (Zah ZaQ) (Zab ZaQ) .none Zif Zh7 Ziy ZhN ZeN Zh2,Za9,PySem.W.fnOf "take_join" "Level.take_join" (Zai ZaP) (Zah ZaP) (Zab ZaP) .none Zie Zh6 Zix ZhM ZeM Zh1,Zbb,PySem.W.fnOf "take_word" "Level.take_word" (Zai ZaR) (Zah ZaR) (Zab ZaR) .none Zig Zh8 Ziz ZhO ZeO Zh3,Zci,PySem.W.fnOf "whole" "Level.whole" (Zai ZbC) (Zah ZbC) (Zab ZbC) .none Zoh Zn9 Zos ZnJ ZiN ZnV,Zaj,ZaB,ZaC,C_Not,Zat,C_And,Zaq,C_Or,Zaw,Zag,ZdX,ZbQ,ZbR,ZbS,ZcG,Za1,ZcH,ZcI,ZbT,ZaG,ZbU,Zbl,v_JOINS⟩,?_⟩
 exact {
  ZoG:=Zam (st:=ZcD) ZkM Zj9 ZkB,
  Zt1:=(Zam (st:=ZcD) ZkM Zj9 ZkB).binds (ps:=["part","text","bound"]) fun _ _ _ _ _ _ us hl=>match us,hl with | [_,_,_],_=>rfl,
  ZuL:=PySem.W.mg_of X G ZoR,
  Zz9:=Zam (st:=Zi5) Zw9 ZwQ Zw6,
  ZC2:=(Zam (st:=Zi5) Zw9 ZwQ Zw6).binds (ps:=["text"]) fun _ _ _ _ _ _ us hl=>match us,hl with | [_],_=>rfl,
  ZD9:=PySem.W.mg_of X G ZAi,
  ZwC:=Zam (st:=ZfT) Ztx Ztq Ztv,
  ZBd:=(Zam (st:=ZfT) Ztx Ztq Ztv).binds (ps:=["parts"]) fun _ _ _ _ _ _ us hl=>match us,hl with | [_],_=>rfl,
  ZBN:=PySem.W.mg_of X G ZwM,
  ZoH:=Zam (st:=ZcE) ZkN Zka ZkC,
  Zt2:=(Zam (st:=ZcE) ZkN Zka ZkC).binds (ps:=["parts"]) fun _ _ _ _ _ _ us hl=>match us,hl with | [_],_=>rfl,
  ZuM:=PySem.W.mg_of X G ZoS,
  Zz8:=Zam (st:=Zi4) Zw8 ZwP Zw5,
  ZC1:=(Zam (st:=Zi4) Zw8 ZwP Zw5).binds (ps:=["parts"]) fun _ _ _ _ _ _ us hl=>match us,hl with | [_],_=>rfl,
  ZD8:=PySem.W.mg_of X G ZAh,
  ZwD:=Zam (st:=ZfU) Zty Ztr Ztw,
  ZBe:=(Zam (st:=ZfU) Zty Ztr Ztw).binds (ps:=["word","names"]) fun _ _ _ _ _ _ us hl=>match us,hl with | [_,_],_=>rfl,
  ZBO:=PySem.W.mg_of X G ZwN,
  Zlw:=Zam (st:=Zb7) Ziw Zh0 Zim,
  Zr6:=(Zam (st:=Zb7) Ziw Zh0 Zim).binds (ps:=["found","names"]) fun _ _ _ _ _ _ us hl=>match us,hl with | [_,_],_=>rfl,
  ZsT:=PySem.W.mg_of X G ZlA,
  ZCU:=Zam (st:=Zox) ZBD ZBf ZBB,
  ZGC:=(Zam (st:=Zox) ZBD ZBf ZBB).binds (ps:=["text","names"]) fun _ _ _ _ _ _ us hl=>match us,hl with | [_,_],_=>rfl,
  ZHe:=PySem.W.mg_of X G ZCY,
  ZiD:=Zam (st:=Zbg) ZfO ZfB ZfH,
  ZnP:=(Zam (st:=Zbg) ZfO ZfB ZfH).binds (ps:=["_law_script","_law_k"]) fun _ _ _ _ _ _ us hl=>match us,hl with | [_,_],_=>rfl,
  Zom:=PySem.W.mg_of X G ZiH,
  Zlt:=Zam (st:=Zb4) Zit ZhX Zij,
  Zr3:=(Zam (st:=Zb4) Zit ZhX Zij).binds (ps:=["_law_name_here","_law_names_here"]) fun _ _ _ _ _ _ us hl=>match us,hl with | [_,_],_=>rfl,
  ZsQ:=PySem.W.mg_of X G Zlx,
  ZiE:=Zam (st:=Zbh) ZfP ZfC ZfI,
  ZnQ:=(Zam (st:=Zbh) ZfP ZfC ZfI).binds (ps:=["_law_seed","_law_size"]) fun _ _ _ _ _ _ us hl=>match us,hl with | [_,_],_=>rfl,
  Zon:=PySem.W.mg_of X G ZiI,
  ZoB:=Zam (st:=ZcA) ZkH Zj4 Zkw,
  ZtW:=(Zam (st:=ZcA) ZkH Zj4 Zkw).binds (ps:=["_law_k","_law_cell"]) fun _ _ _ _ _ _ us hl=>match us,hl with | [_,_],_=>rfl,
  ZuG:=PySem.W.mg_of X G ZoM,
  Zlu:=Zam (st:=Zb5) Ziu ZhY Zik,
  Zr4:=(Zam (st:=Zb5) Ziu ZhY Zik).binds (ps:=["_law_many","_law_cell"]) fun _ _ _ _ _ _ us hl=>match us,hl with | [_,_],_=>rfl,
  ZsR:=PySem.W.mg_of X G Zly,
  ZoE:=Zam (st:=ZcC) ZkK Zj7 Zkz,
  ZtZ:=(Zam (st:=ZcC) ZkK Zj7 Zkz).binds (ps:=["_law_tree_here","_law_wraps"]) fun _ _ _ _ _ _ us hl=>match us,hl with | [_,_],_=>rfl,
  ZuJ:=PySem.W.mg_of X G ZoP,
  ZjR:=Zam (st:=ZbD) ZgO ZgB ZgH,
  Zpz:=(Zam (st:=ZbD) ZgO ZgB ZgH).binds (ps:=["_law_entry","_law_bind"]) fun _ _ _ _ _ _ us hl=>match us,hl with | [_,_],_=>rfl,
  Zqt:=PySem.W.mg_of X G ZjW,
  ZoD:=Zam (st:=ZbP) ZkJ Zj6 Zky,
  ZtY:=(Zam (st:=ZbP) ZkJ Zj6 Zky).binds (ps:=["_law_pile","_law_kind","_law_more","_law_most","_law_nots"]) fun _ _ _ _ _ _ us hl=>match us,hl with | [_,_,_,_,_],_=>rfl,
  ZuI:=PySem.W.mg_of X G ZoO,
  ZoF:=Zam (st:=Zca) ZkL Zj8 ZkA,
  Zt0:=(Zam (st:=Zca) ZkL Zj8 ZkA).binds (ps:=["_law_cells","_law_many","_law_last","_law_most","_law_nots"]) fun _ _ _ _ _ _ us hl=>match us,hl with | [_,_,_,_,_],_=>rfl,
  ZuK:=PySem.W.mg_of X G ZoQ,
  ZeI:=Zam (st:=ZaO) ZeY ZeL ZeW,
  Zg2:=(Zam (st:=ZaO) ZeY ZeL ZeW).binds (ps:=["_law_tree_here","_law_names_here","_law_wraps"]) fun _ _ _ _ _ _ us hl=>match us,hl with | [_,_,_],_=>rfl,
  Zhl:=PySem.W.mg_of X G Zg0,
  Zlv:=Zam (st:=Zb6) Ziv ZhZ Zil,
  Zr5:=(Zam (st:=Zb6) Ziv ZhZ Zil).binds (ps:=["_law_tree_here","_law_names_here"]) fun _ _ _ _ _ _ us hl=>match us,hl with | [_,_],_=>rfl,
  ZsS:=PySem.W.mg_of X G Zlz,
  ZjT:=Zam (st:=ZbF) ZgQ ZgD ZgJ,
  ZpB:=(Zam (st:=ZbF) ZgQ ZgD ZgJ).binds (ps:=["_law_some","_law_seed"]) fun _ _ _ _ _ _ us hl=>match us,hl with | [_,_],_=>rfl,
  Zqv:=PySem.W.mg_of X G ZjY,
  ZoC:=Zam (st:=ZcB) ZkI Zj5 Zkx,
  ZtX:=(Zam (st:=ZcB) ZkI Zj5 Zkx).binds (ps:=["_law_some","_law_at","_law_sorts"]) fun _ _ _ _ _ _ us hl=>match us,hl with | [_,_,_],_=>rfl,
  ZuH:=PySem.W.mg_of X G ZoN,
  ZiF:=Zam (st:=Zbi) ZfQ ZfD ZfJ,
  ZnR:=(Zam (st:=Zbi) ZfQ ZfD ZfJ).binds (ps:=["_law_name_here","_law_names_here","_law_more"]) fun _ _ _ _ _ _ us hl=>match us,hl with | [_,_,_],_=>rfl,
  Zoo:=PySem.W.mg_of X G ZiJ,
  ZjS:=Zam (st:=ZbE) ZgP ZgC ZgI,
  ZpA:=(Zam (st:=ZbE) ZgP ZgC ZgI).binds (ps:=["_law_some","_law_names_here","_law_way","_law_at","_law_more"]) fun _ _ _ _ _ _ us hl=>match us,hl with | [_,_,_,_,_],_=>rfl,
  Zqu:=PySem.W.mg_of X G ZjX,
  ZjU:=Zam (st:=ZbG) ZgR ZgE ZgK,
  ZpC:=(Zam (st:=ZbG) ZgR ZgE ZgK).binds (ps:=["_law_some","_law_names_here","_law_way","_law_at","_law_more"]) fun _ _ _ _ _ _ us hl=>match us,hl with | [_,_,_,_,_],_=>rfl,
  Zqw:=PySem.W.mg_of X G ZjZ,
  Zfk:=Zam (st:=ZaS) ZdU ZdN ZdQ,
  Zje:=(Zam (st:=ZaS) ZdU ZdN ZdQ).binds (ps:=["_law_cell"]) fun _ _ _ _ _ _ us hl=>match us,hl with | [_],_=>rfl,
  Zjv:=PySem.W.mg_of X G Zfl,
  Zgb:=Zam (st:=ZaY) Zel Zei Zej,
  Zk5:=(Zam (st:=ZaY) Zel Zei Zej).binds (ps:=["_law_e"]) fun _ _ _ _ _ _ us hl=>match us,hl with | [_],_=>rfl,
  Zlj:=PySem.W.mg_of X G Zgc,
  ZiG:=Zam (st:=Zbj) ZfR ZfE ZfK,
  ZnS:=(Zam (st:=Zbj) ZfR ZfE ZfK).binds (ps:=["_law_line","_law_names_here"]) fun _ _ _ _ _ _ us hl=>match us,hl with | [_,_],_=>rfl,
  Zop:=PySem.W.mg_of X G ZiK,
  F_law:=Zam (st:=Zv2) l_law c_law k_law,
  b_law:=(Zam (st:=Zv2) l_law c_law k_law).binds (ps:=["_law_script"]) fun _ _ _ _ _ _ us hl=>match us,hl with | [_],_=>rfl,
  m_law:=PySem.W.mg_of X G a_law,
  Zc0:=Zam (st:=ZaF) Zc8 Zc2 ZaL,
  Zc1:=(Zam (st:=ZaF) Zc8 Zc2 ZaL).binds (ps:=["self"]) fun _ _ _ _ _ _ us hl=>match us,hl with | [_],_=>rfl,
  ZtI:=Zam (st:=Zcx) ZkD Zj0 Zku,
  ZtU:=(Zam (st:=Zcx) ZkD Zj0 Zku).binds (ps:=["self","at"]) fun _ _ _ _ _ _ us hl=>match us,hl with | [_,_],_=>rfl,
  Zyi:=Zam (st:=Zcm) Zin ZhR ZfV,
  Zyr:=(Zam (st:=Zcm) Zin ZhR ZfV).binds (ps:=["self"]) fun _ _ _ _ _ _ us hl=>match us,hl with | [_],_=>rfl,
  ZrM:=Zam (st:=Zb0) Zio ZhS ZfW,
  ZlK:=(Zam (st:=Zb0) Zio ZhS ZfW).binds (ps:=["self","names"]) fun _ _ _ _ _ _ us hl=>match us,hl with | [_,_],_=>rfl,
  ZtK:=Zam (st:=Zcz) ZkG Zj3 Zkv,
  ZtV:=(Zam (st:=Zcz) ZkG Zj3 Zkv).binds (ps:=["self","truth"]) fun _ _ _ _ _ _ us hl=>match us,hl with | [_,_],_=>rfl,
  Zyj:=Zam (st:=Zcn) Zir ZhV ZfY,
  Zys:=(Zam (st:=Zcn) Zir ZhV ZfY).binds (ps:=["self"]) fun _ _ _ _ _ _ us hl=>match us,hl with | [_],_=>rfl,
  ZrP:=Zam (st:=Zb3) Zis ZhW ZfZ,
  ZlL:=(Zam (st:=Zb3) Zis ZhW ZfZ).binds (ps:=["self","names"]) fun _ _ _ _ _ _ us hl=>match us,hl with | [_,_],_=>rfl,
  Zwk:=Zam (st:=Zdj) Znk Zna Zni,
  Zwm:=(Zam (st:=Zdj) Znk Zna Zni).binds (ps:=["self","part"]) fun _ _ _ _ _ _ us hl=>match us,hl with | [_,_],_=>rfl,
  Zz7:=Zam (st:=Zda) ZkE Zj1 Zhi,
  ZAk:=(Zam (st:=Zda) ZkE Zj1 Zhi).binds (ps:=["self"]) fun _ _ _ _ _ _ us hl=>match us,hl with | [_],_=>rfl,
  ZtJ:=Zam (st:=Zcy) ZkF Zj2 Zhj,
  ZoT:=(Zam (st:=Zcy) ZkF Zj2 Zhj).binds (ps:=["self","names"]) fun _ _ _ _ _ _ us hl=>match us,hl with | [_,_],_=>rfl,
  Zpk:=Zam (st:=ZbA) ZgM Zgz ZgG,
  Zgx:=(Zam (st:=ZbA) ZgM Zgz ZgG).binds (ps:=["self","parts"]) fun _ _ _ _ _ _ us hl=>match us,hl with | [_,_],_=>rfl,
  ZvE:=Zam (st:=ZbB) ZfL Zfy ZbX,
  ZvI:=(Zam (st:=ZbB) ZfL Zfy ZbX).binds (ps:=["self"]) fun _ _ _ _ _ _ us hl=>match us,hl with | [_],_=>rfl,
  ZnD:=Zam (st:=Zbe) ZfM Zfz ZbY,
  Zd1:=(Zam (st:=Zbe) ZfM Zfz ZbY).binds (ps:=["self","names"]) fun _ _ _ _ _ _ us hl=>match us,hl with | [_,_],_=>rfl,
  Zls:=Zam (st:=Za6) ZeX ZeK ZdA,
  ZlJ:=(Zam (st:=Za6) ZeX ZeK ZdA).binds (ps:=["self"]) fun _ _ _ _ _ _ us hl=>match us,hl with | [_],_=>rfl,
  Zpj:=Zam (st:=Zbz) ZgL Zgy ZeU,
  Zpx:=(Zam (st:=Zbz) ZgL Zgy ZeU).binds (ps:=["self"]) fun _ _ _ _ _ _ us hl=>match us,hl with | [_],_=>rfl,
  ZhK:=Zam (st:=ZaJ) Zdp Zdo Zck,
  ZhQ:=(Zam (st:=ZaJ) Zdp Zdo Zck).binds (ps:=["self"]) fun _ _ _ _ _ _ us hl=>match us,hl with | [_],_=>rfl,
  Zk1:=Zam (st:=ZaX) Zek Zeh Zdb,
  Zk4:=(Zam (st:=ZaX) Zek Zeh Zdb).binds (ps:=["self"]) fun _ _ _ _ _ _ us hl=>match us,hl with | [_],_=>rfl,
  ZnE:=Zam (st:=Zbf) ZfN ZfA Zd3,
  ZnO:=(Zam (st:=Zbf) ZfN ZfA Zd3).binds (ps:=["self"]) fun _ _ _ _ _ _ us hl=>match us,hl with | [_],_=>rfl,
  ZrO:=Zam (st:=Zb2) Ziq ZhU ZfX,
  Zr2:=(Zam (st:=Zb2) Ziq ZhU ZfX).binds (ps:=["self"]) fun _ _ _ _ _ _ us hl=>match us,hl with | [_],_=>rfl,
  ZrN:=Zam (st:=Zb1) Zip ZhT Zii,
  Zr1:=(Zam (st:=Zb1) Zip ZhT Zii).binds (ps:=["self"]) fun _ _ _ _ _ _ us hl=>match us,hl with | [_],_=>rfl,
  Zi7:=Zam (st:=ZaQ) ZdS ZdL ZcL,
  Zjc:=(Zam (st:=ZaQ) ZdS ZdL ZcL).binds (ps:=["self","part"]) fun _ _ _ _ _ _ us hl=>match us,hl with | [_,_],_=>rfl,
  Zi6:=Zam (st:=ZaP) ZdR ZdK ZcK,
  Zjb:=(Zam (st:=ZaP) ZdR ZdK ZcK).binds (ps:=["self","word"]) fun _ _ _ _ _ _ us hl=>match us,hl with | [_,_],_=>rfl,
  Zi8:=Zam (st:=ZaR) ZdT ZdM ZcM,
  Zjd:=(Zam (st:=ZaR) ZdT ZdM ZcM).binds (ps:=["self","word","names"]) fun _ _ _ _ _ _ us hl=>match us,hl with | [_,_,_],_=>rfl,
  Zpl:=Zam (st:=ZbC) ZgN ZgA ZeV,
  Zpy:=(Zam (st:=ZbC) ZgN ZgA ZeV).binds (ps:=["self"]) fun _ _ _ _ _ _ us hl=>match us,hl with | [_],_=>rfl,
  ZyZ:=PySem.W.mg_of X G ZtM,
  ZC4:=⟨Znn,Znc,Zno,Znq⟩,
  ZFn:=fun H a dx fs e=>TyOf.ins e ⟨Znn,Znc,Zno,Znq⟩ Zrt hn_ htk_ Zru,
  Zf2:=Zf2,
  ZdD:=ZdD,
  Zd8:=Zd8,
  ZdC:=ZdC,
  Zd7:=Zd7,
  Zd6:=Zd6,
  ZcN:=ZcN,
  Ze4:=Ze4,
  ZcO:=ZcO,
  Zo4:=⟨Zeo,Za8,ZaL⟩,
  ZHc:=PySem.W.mg_of X G ZCW,
  Zwn:=⟨ZxH,ZwY,ZxK,ZxQ⟩,
  ZHF:=fun H a dx fs e=>TyOf.ins e ⟨ZxH,ZwY,ZxK,ZxQ⟩ ZAx hn_ htk_ ZAz,
  ZG8:=⟨ZAL,ZoX,Zo6,ZAE⟩,
  Zhq:=Zhq,
  Zf5:=Zf5,
  Zhs:=Zhs,
  Zf4:=Zf4,
  Zhr:=Zhr,
  Zhp:=Zhp,
  Zeb:=Zeb,
  ZjG:=ZjG,
  Zec:=Zec,
  ZyJ:=⟨Zmf,Zmp,ZfV⟩,
  Zmm:=⟨Zmg,Zmq,ZfW⟩,
  Zld:=⟨Zgg,Za8,ZaL⟩,
  ZHd:=PySem.W.mg_of X G ZCX,
  Zwo:=⟨ZxI,ZwZ,ZxL,ZxR⟩,
  ZHG:=fun H a dx fs e=>TyOf.ins e ⟨ZxI,ZwZ,ZxL,ZxR⟩ ZAy hn_ htk_ ZAA,
  ZG9:=⟨ZAM,Zo0,Zo9,ZAF⟩,
  ZmO:=ZmO,
  ZdF:=ZdF,
  Zhx:=Zhx,
  Zf9:=Zf9,
  Zhw:=Zhw,
  Zhv:=Zhv,
  Zed:=Zed,
  ZjL:=ZjL,
  Zee:=Zee,
  ZyK:=⟨Zmj,Zmt,ZfY⟩,
  Zmo:=⟨Zmk,Zmu,ZfZ⟩,
  Zle:=⟨Zgh,Za8,ZaL⟩,
  m_Not:=PySem.W.mg_of X G a_Not,
  c_Not:=⟨ZBU,ZBs,ZBZ,ZB9⟩,
  y_Not:=fun H a dx fs e=>TyOf.ins e ⟨ZBU,ZBs,ZBZ,ZB9⟩ ZDz hn_ htk_ ZDD,
  k_Not:=⟨ZEb,Zro,Zrv,ZDX⟩,
  ZqB:=ZqB,
  Zhu:=Zhu,
  ZeD:=ZeD,
  Zht:=Zht,
  ZjJ:=ZjJ,
  ZjI:=ZjI,
  Zfa:=Zfa,
  ZmK:=ZmK,
  Zfb:=Zfb,
  ZAw:=⟨ZoY,Zo7,Zhi⟩,
  Zo5:=⟨ZoZ,Zo8,Zhj⟩,
  Zmn:=⟨Zhe,Za8,ZaL⟩,
  ZFX:=PySem.W.mg_of X G ZwI,
  ZFw:=⟨ZqP,Zp9,Zq2,Zq5⟩,
  ZGz:=fun H a dx fs e=>TyOf.ins e ⟨ZqP,Zp9,Zq2,Zq5⟩ Zur hn_ htk_ Zut,
  ZFQ:=⟨ZuO,Zko,ZdO,Zuz⟩,
  Zho:=Zho,
  Zea:=Zea,
  Ze7:=Ze7,
  Zd9:=Zd9,
  Ze6:=Ze6,
  Ze5:=Ze5,
  Zde:=Zde,
  Zf3:=Zf3,
  Zdf:=Zdf,
  ZvL:=⟨ZiU,Zdh,ZbX⟩,
  ZvM:=⟨ZiV,Zdi,ZbY⟩,
  Zp6:=⟨ZeR,Za8,ZaL⟩,
  m_And:=PySem.W.mg_of X G a_And,
  c_And:=⟨ZBT,ZBr,ZBY,ZB8⟩,
  y_And:=fun H a dx fs e=>TyOf.ins e ⟨ZBT,ZBr,ZBY,ZB8⟩ ZDy hn_ htk_ ZDC,
  k_And:=⟨ZEa,Zrn,ZdO,ZDW⟩,
  ZqA:=ZqA,
  Zhm:=Zhm,
  ZjF:=ZjF,
  Zex:=Zex,
  ZjE:=ZjE,
  ZjD:=ZjD,
  ZeZ:=ZeZ,
  ZmJ:=ZmJ,
  Ze0:=Ze0,
  Zml:=⟨Zhd,Zhf,ZdA⟩,
  Zp5:=⟨Zkm,Zks,ZeU⟩,
  ZAv:=⟨ZoV,Zdh,ZbX⟩,
  Zo3:=⟨ZoW,Zdi,ZbY⟩,
  ZBJ:=PySem.W.mg_of X G ZwH,
  Zm9:=⟨ZqO,Zp8,Zq1,Zq4⟩,
  ZCh:=fun H a dx fs e=>TyOf.ins e ⟨ZqO,Zp8,Zq1,Zq4⟩ Zuq hn_ htk_ Zus,
  ZBA:=⟨ZuN,Zkn,ZdO,Zuy⟩,
  Zhn:=Zhn,
  Zd5:=Zd5,
  Ze3:=Ze3,
  Zcw:=Zcw,
  Ze2:=Ze2,
  Ze1:=Ze1,
  Zdc:=Zdc,
  Zf1:=Zf1,
  Zdd:=Zdd,
  Zia:=⟨ZeQ,ZeT,Zck⟩,
  Zlc:=⟨Zgf,Zgi,Zdb⟩,
  ZvK:=⟨ZiS,Zdh,ZbX⟩,
  ZiX:=⟨ZiT,Zdi,ZbY⟩,
  m_Or:=PySem.W.mg_of X G a_Or,
  c_Or:=⟨pg_Or,hd_Or,po_Or,sa_Or⟩,
  y_Or:=fun H a dx fs e=>TyOf.ins e ⟨pg_Or,hd_Or,po_Or,sa_Or⟩ ha_Or hn_ htk_ hm_Or,
  k_Or:=⟨mk_Or,Zul,ZdO,kc_Or⟩,
  ZuQ:=ZuQ,
  ZjK:=ZjK,
  ZmN:=ZmN,
  Zfv:=Zfv,
  ZmM:=ZmM,
  ZmL:=ZmL,
  Zf7:=Zf7,
  ZqC:=ZqC,
  Zf8:=Zf8,
  Zoe:=⟨ZiW,ZiY,Zd3⟩,
  ZsE:=⟨Zmi,Zms,ZfX⟩,
  ZCv:=⟨Zrp,Zdh,ZbX⟩,
  Zrs:=⟨Zrq,Zdi,ZbY⟩,
  ZD6:=PySem.W.mg_of X G ZAf,
  Zbd:=⟨ZtB,Ztt,ZtC,ZtE⟩,
  ZIW:=fun H a dx fs e=>TyOf.ins e ⟨ZtB,Ztt,ZtC,ZtE⟩ ZwX hn_ htk_ Zw0,
  ZDV:=⟨Zxf,Zmh,Zmr,Zw7⟩,
  ZjH:=ZjH,
  Ze9:=Ze9,
  Zf6:=Zf6,
  Ze8:=Ze8,
  ZbZ:=ZbZ,
  Zcl:=Zcl,
  Zbm:=Zbm,
  ZdE:=ZdE,
  ZaD:=ZaD,
  Zjp:=⟨Zfp,Zfs,ZcL⟩,
  Zjo:=⟨Zfo,Zfr,ZcK⟩,
  Zjq:=⟨Zfq,Zft,ZcM⟩,
  Zp7:=⟨Zkp,Zkt,ZeV⟩,
  b_ValueError:=PySem.W.mg_none_of X G b_ValueError,
  Zew:=PySem.W.mg_of X G ZoK,
  ZdJ:=ZdJ,
  ZlY:=Zic,
  ZcY:=ZcY,
  ZD7:=PySem.W.mg_of X G ZAg,
  Znu:=Znu,
  ZFy:=Ztu,
  Zqx:=Zqx,
  Zy0:=PySem.W.mg_of X G ZtN,
  ZgU:=ZgU,
  ZCl:=Znd,
  Zjw:=Zjw,
  Zy1:=PySem.W.mg_of X G ZtO,
  ZgV:=ZgV,
  ZCm:=Zne,
  Zjx:=Zjx,
  Zy2:=PySem.W.mg_of X G ZtP,
  ZgW:=ZgW,
  ZCn:=Znf,
  Zjy:=Zjy,
  ZBK:=PySem.W.mg_of X G ZwJ,
  ZjO:=ZjO,
  ZDd:=Zqa,
  ZmF:=ZmF,
  ZuF:=PySem.W.mg_of X G ZoL,
  ZeG:=ZeG,
  ZyA:=Zid,
  Zf0:=Zf0,
  ZBL:=PySem.W.mg_of X G ZwK,
  ZjP:=ZjP,
  ZDe:=Zqb,
  ZmG:=ZmG,
  ZBM:=PySem.W.mg_of X G ZwL,
  ZjQ:=ZjQ,
  ZDf:=Zqc,
  ZmH:=ZmH,
  Zy3:=PySem.W.mg_of X G ZtQ,
  ZgX:=ZgX,
  ZCo:=Zng,
  Zjz:=Zjz,
  Zqs:=PySem.W.mg_of X G ZjV,
  Zdm:=Zdm,
  ZvJ:=ZfF,
  Zd4:=Zd4,
  Zy4:=PySem.W.mg_of X G ZtR,
  ZgY:=ZgY,
  ZCp:=Znh,
  ZjA:=ZjA,
  ZuE:=PySem.W.mg_of X G ZoJ,
  ZdI:=ZdI,
  Zr7:=Zib,
  ZeC:=ZeC,
  Zez:=⟨Zm7,Zic,Zm4,Zm5,Zm3,ZcY,Zm6⟩,
  Zvt:=ZH9 Zm8,
  Za4:=Za4,
  Zlr:=ZD0 _ _,
  ZbN:=ZbN,
  ZiC:=Zcv (fun e=>Zbu ne_ (i:=0) (j:=1) rfl rfl (by decide) (Value.ref.inj e)) Ztu Znu ZbN,
  Zbn:=Zbn,
  Zgs:=Zcv (fun e=>Zbu ne_ (i:=0) (j:=2) rfl rfl (by decide) (Value.ref.inj e)) Znd ZgU Zbn,
  Zbo:=Zbo,
  Zgt:=Zcv (fun e=>Zbu ne_ (i:=0) (j:=3) rfl rfl (by decide) (Value.ref.inj e)) Zne ZgV Zbo,
  Zbp:=Zbp,
  Zgu:=Zcv (fun e=>Zbu ne_ (i:=0) (j:=4) rfl rfl (by decide) (Value.ref.inj e)) Znf ZgW Zbp,
  Zbw:=Zbw,
  ZhE:=Zcv (fun e=>Zbu ne_ (i:=0) (j:=5) rfl rfl (by decide) (Value.ref.inj e)) Zqa ZjO Zbw,
  Za5:=Za5,
  Zfj:=Zcv (fun e=>Zbu ne_ (i:=0) (j:=6) rfl rfl (by decide) (Value.ref.inj e)) Zid ZeG Za5,
  Zbx:=Zbx,
  ZhF:=Zcv (fun e=>Zbu ne_ (i:=0) (j:=7) rfl rfl (by decide) (Value.ref.inj e)) Zqb ZjP Zbx,
  Zby:=Zby,
  ZhG:=Zcv (fun e=>Zbu ne_ (i:=0) (j:=8) rfl rfl (by decide) (Value.ref.inj e)) Zqc ZjQ Zby,
  Zbq:=Zbq,
  Zgv:=Zcv (fun e=>Zbu ne_ (i:=0) (j:=9) rfl rfl (by decide) (Value.ref.inj e)) Zng ZgX Zbq,
  ZaV:=ZaV,
  ZeH:=Zcv (fun e=>Zbu ne_ (i:=0) (j:=10) rfl rfl (by decide) (Value.ref.inj e)) ZfF Zdm ZaV,
  Zbr:=Zbr,
  Zgw:=Zcv (fun e=>Zbu ne_ (i:=0) (j:=11) rfl rfl (by decide) (Value.ref.inj e)) Znh ZgY Zbr,
  ZaT:=ZaT,
  Zlq:=Zcv (fun e=>Zbu ne_ (i:=0) (j:=12) rfl rfl (by decide) (Value.ref.inj e)) Zib ZdI ZaT,
  Zwf:=Zbu nd_ (i:=0) (j:=1) rfl rfl (by decide),
  Zwg:=Zbu nd_ (i:=0) (j:=2) rfl rfl (by decide),
  Zyc:=Zbu nd_ (i:=0) (j:=3) rfl rfl (by decide),
  Zto:=Zbu nd_ (i:=0) (j:=4) rfl rfl (by decide),
  Zyb:=Zbu nd_ (i:=0) (j:=5) rfl rfl (by decide),
  Ztn:=Zbu nd_ (i:=0) (j:=6) rfl rfl (by decide),
  Zz4:=Zbu nd_ (i:=0) (j:=7) rfl rfl (by decide),
  Zvw:=Zbu nd_ (i:=0) (j:=8) rfl rfl (by decide),
  Zpi:=Zbu nd_ (i:=1) (j:=2) rfl rfl (by decide),
  ZrJ:=Zbu nd_ (i:=1) (j:=3) rfl rfl (by decide),
  Zyd:=Zbu nd_ (i:=1) (j:=4) rfl rfl (by decide),
  ZrI:=Zbu nd_ (i:=1) (j:=5) rfl rfl (by decide),
  ZkZ:=Zbu nd_ (i:=1) (j:=6) rfl rfl (by decide),
  Zvy:=Zbu nd_ (i:=1) (j:=7) rfl rfl (by decide),
  Zta:=Zbu nd_ (i:=1) (j:=8) rfl rfl (by decide),
  ZrL:=Zbu nd_ (i:=2) (j:=3) rfl rfl (by decide),
  Zyf:=Zbu nd_ (i:=2) (j:=4) rfl rfl (by decide),
  ZrK:=Zbu nd_ (i:=2) (j:=5) rfl rfl (by decide),
  Zk0:=Zbu nd_ (i:=2) (j:=6) rfl rfl (by decide),
  ZvB:=Zbu nd_ (i:=2) (j:=7) rfl rfl (by decide),
  Ztb:=Zbu nd_ (i:=2) (j:=8) rfl rfl (by decide),
  Zz6:=Zbu nd_ (i:=3) (j:=4) rfl rfl (by decide),
  Zvz:=Zbu nd_ (i:=3) (j:=5) rfl rfl (by decide),
  Zm2:=Zbu nd_ (i:=3) (j:=6) rfl rfl (by decide),
  Zye:=Zbu nd_ (i:=3) (j:=7) rfl rfl (by decide),
  ZvA:=Zbu nd_ (i:=3) (j:=8) rfl rfl (by decide),
  Zz5:=Zbu nd_ (i:=4) (j:=5) rfl rfl (by decide),
  Zvx:=Zbu nd_ (i:=4) (j:=6) rfl rfl (by decide),
  ZA8:=Zbu nd_ (i:=4) (j:=7) rfl rfl (by decide),
  Zwh:=Zbu nd_ (i:=4) (j:=8) rfl rfl (by decide),
  Zm1:=Zbu nd_ (i:=5) (j:=6) rfl rfl (by decide),
  Zya:=Zbu nd_ (i:=5) (j:=7) rfl rfl (by decide),
  Zvv:=Zbu nd_ (i:=5) (j:=8) rfl rfl (by decide),
  Zph:=Zbu nd_ (i:=6) (j:=7) rfl rfl (by decide),
  Zoy:=Zbu nd_ (i:=6) (j:=8) rfl rfl (by decide),
  ZwB:=Zbu nd_ (i:=7) (j:=8) rfl rfl (by decide),
  Zoz:=Zcv (fun e=>Zbu nd_ (i:=1) (j:=0) rfl rfl (by decide) (Value.ref.inj e)) ZcJ ZcQ Zi1,
  ZoA:=Zcv (fun e=>Zbu nd_ (i:=2) (j:=0) rfl rfl (by decide) (Value.ref.inj e)) ZcJ ZcQ Zi2,
  Zrj:=Zcv (fun e=>Zbu nd_ (i:=3) (j:=0) rfl rfl (by decide) (Value.ref.inj e)) ZcJ ZcQ ZkV,
  Ztp:=Zcv (fun e=>Zbu nd_ (i:=4) (j:=0) rfl rfl (by decide) (Value.ref.inj e)) ZcJ ZcQ Zgl,
  Zri:=Zcv (fun e=>Zbu nd_ (i:=5) (j:=0) rfl rfl (by decide) (Value.ref.inj e)) ZcJ ZcQ ZkU,
  Zln:=Zcv (fun e=>Zbu nd_ (i:=6) (j:=0) rfl rfl (by decide) (Value.ref.inj e)) ZcJ ZcQ Zgk,
  Ztc:=Zcv (fun e=>Zbu nd_ (i:=7) (j:=0) rfl rfl (by decide) (Value.ref.inj e)) ZcJ ZcQ ZmZ,
  ZvC:=Zcv (fun e=>Zbu nd_ (i:=8) (j:=0) rfl rfl (by decide) (Value.ref.inj e)) ZcJ ZcQ ZhB,
  Zwi:=Zcv (fun e=>nomatch e) ZcJ ZcQ Zi3,
  bl:=fun s u=>.of_eq rfl,
  B:=⟨PySem.W.mg_none_of X G b_len,PySem.W.mg_none_of X G b_range,PySem.W.mg_none_of X G b_isinstance,PySem.W.mg_none_of X G b_int,PySem.W.mg_none_of X G b_bool,PySem.W.mg_none_of X G b_str,PySem.W.mg_none_of X G b_list,PySem.W.mg_none_of X G b_tuple,PySem.W.mg_none_of X G b_dict,PySem.W.mg_none_of X G b_set,PySem.W.mg_none_of X G b_sorted,PySem.W.mg_none_of X G b_max,PySem.W.mg_none_of X G b_min,PySem.W.mg_none_of X G b_sum,PySem.W.mg_none_of X G b_any,PySem.W.mg_none_of X G b_all,PySem.W.mg_none_of X G b_abs,PySem.W.mg_none_of X G b_reversed,PySem.W.mg_none_of X G b_enumerate,PySem.W.mg_none_of X G b_zip⟩,
  g_LETTERS:=⟨_,PySem.W.mg_of X G g_LETTERS,⟨_,rfl⟩⟩,
  g_MARKS:=⟨_,PySem.W.mg_of X G g_MARKS,⟨_,rfl⟩⟩,
  g_BLANK:=⟨_,PySem.W.mg_of X G g_BLANK,⟨_,rfl⟩⟩,
  g_JOINS:=⟨_,PySem.W.mg_of X G g_JOINS,rfl⟩,
  q_JOINS:=fun H=>.inr ⟨_,_,_,lk_JOINS,rfl,rfl,Nat.le_of_ble_eq_true rfl,.cons ⟨_,rfl⟩ (.cons ⟨_,rfl⟩ (.cons ⟨_,rfl⟩ (.nil)))⟩ }
def cell (ns:List Int) (k:Nat):Int:=ns.getD k 0
def spLaw (K:PySem.W.Frag):Sp:=fun vs H Q _=>∃ (a:Addr) (ns:List Int),vs=[.ref a]∧SqL K H a (ns.map V.int)∧ns.length≤63∧Only H∧∀ H',Q (.bl true) H'
def ZKt (K:PySem.W.Frag):Sp:=fun vs H Q _=>∃ (a:Addr) (ns:List Int) (k:Nat),vs=[.ref a,.int (k:Int)]∧SqL K H a (ns.map V.int)∧Q (.int (cell ns k)) H
section
variable {P:Program} {w:World} {K:PySem.W.Frag} {mg:Str→Option Value} {base:Heap} {t:Ad}
theorem ZCD (T:Txt K mg t):FnS P w K mg base 1 "_law_cell_at" ["_law_script","_law_k"] (ZKt K):=by
 refine ⟨_,_,T.ZiD.ok Zvf (fun vs H Q E h=>?_) (fun cdv A outer s H vs Q E hr h=>?_),T.ZnP,T.ZiD.kp,T.Zom⟩
 ·obtain ⟨a,ns,k,rfl,_⟩ :=h
  rfl
 ·obtain ⟨a,ns,k,rfl,hS,q⟩ :=h
  refine ⟨_,(Zac (Za7 (Zal ZCI (pv 1) (ZaM ZaW rfl T.B.len Zdr (Zaa (pv 0) Zad)) (Zax _))
   (Zaf (Zay (ZaZ ZaA (pv 0) (pv 1) (fun _ _=>rfl))))
   Zaz)
   (Zaf (Zay Zae))),?_⟩
  walk_at "rd0"
  refine Zcj (fun h=>?_) (fun h=>?_)
  ·rw [List.length_map] at h
   have hk:k < ns.length:=by omega
   walk_at "rd"
   refine ZKZ (j:=k) (v:=.int (cell ns k)) hS ?_ q
   rw [List.getElem?_map,List.getElem?_eq_getElem hk]
   simp [cell,List.getD_eq_getElem?_getD,List.getElem?_eq_getElem hk]
  ·rw [List.length_map] at h
   walk_at "rd"
   have e:cell ns k=0:=by
    simp only [cell,List.getD_eq_getElem?_getD]
    rw [List.getElem?_eq_none (by omega)]
    rfl
   rw [e] at q
   exact q
end
theorem Zhg {t u:TS} {D:Ends} {σ:St} {H:Hp} (Pn:St→Hp→Prop) (h2:∀ σ H,Pn σ H→u D σ H) (h1:∀ Kn:St→Hp→Prop,(∀ σ H,Pn σ H→Kn σ H)→t { D with nx:=Kn } σ H):tSeq t u D σ H:=h1 (u D) h2
def cw (t:Ad):W3→Addr
 | .a=>t.C_And
 | .e=>t.Zaq
 | .o=>t.C_Or
def FmAt (t:Ad) (H:Hp):Nat→Addr→Fm→Prop
 | 0,_,_=>False
 | n + 1,p,f=>match f with
  | .lamp k=>∃ dx,H p=some (.ins t.ZaB dx [(("at" : Str),.int (k:Int))])
  | .sure b=>∃ dx,H p=some (.ins t.ZaC dx [(("truth" : Str),.bl b)])
  | .neg g=>∃ dx q,H p=some (.ins t.C_Not dx [(("part" : Str),.ref q)])∧FmAt t H n q g
  | .join w gs=>∃ dx tp ps,H p=some (.ins (cw t w) dx [(("parts" : Str),.ref tp)])∧H tp=some (.tup (ps.map V.ref))∧Paired (FmAt t H n) ps gs
def isFm (t:Ad) (C:Addr):Prop:=C=t.ZaB∨C=t.ZaC∨C=t.C_Not∨C=t.C_And∨C=t.Zaq∨C=t.C_Or
theorem ZaH {α β:Type} {F G:α→β→Prop} (h:∀ a b,F a b→G a b):∀ {xs:List α} {ys:List β},Paired F xs ys→Paired G xs ys
 | _,_,.nil=>.nil
 | _,_,.cons r s=>.cons (h _ _ r) (ZaH h s)
theorem Zfw {α β:Type} {F:α→β→Prop}:∀ {xs:List α} {ys:List β} {i:Nat} {x:α},Paired F xs ys→xs[i]?=some x→∃ y,ys[i]?=some y∧F x y
 | _,_,_,_,.nil,e=>by simp at e
 | _,_,0,_,.cons r _,e=>by simp at e; subst e; exact ⟨_,rfl,r⟩
 | _,_,i + 1,x,.cons _ s,e=>by
  obtain ⟨u,h1,h2⟩ :=Zfw (i:=i) (x:=x) s (by simpa using e)
  exact ⟨u,by simpa using h1,h2⟩
theorem ZdV {α β:Type} {F:α→β→Prop}:∀ {xs xs':List α} {ys ys':List β},Paired F xs ys→Paired F xs' ys'→Paired F (xs ++ xs') (ys ++ ys')
 | _,_,_,_,.nil,s=>s
 | _,_,_,_,.cons r q,s=>.cons r (ZdV q s)
theorem Zpd {α β:Type} {F:α→β→Prop}:∀ {xs:List α} {ys:List β} (n:Nat),Paired F xs ys→Paired F (xs.take n) (ys.take n)
 | _,_,0,_=>by rw [List.take_zero,List.take_zero]; exact .nil
 | _,_,_ + 1,.nil=>by rw [List.take_nil,List.take_nil]; exact .nil
 | _,_,n + 1,.cons r q=>by rw [List.take_succ_cons,List.take_succ_cons]; exact .cons r (Zpd n q)
theorem Zpc {α β:Type} {F:α→β→Prop}:∀ {xs:List α} {ys:List β} (n:Nat),Paired F xs ys→Paired F (xs.drop n) (ys.drop n)
 | _,_,0,q=>q
 | _,_,_ + 1,.nil=>by rw [List.drop_nil,List.drop_nil]; exact .nil
 | _,_,n + 1,.cons r q=>by rw [List.drop_succ_cons,List.drop_succ_cons]; exact Zpc n q
theorem Zcg {α β:Type} {F:α→β→Prop} {xs:List α} {ys:List β} (h:Paired F xs ys):xs.length=ys.length:=Paired.length h
theorem ZAT {α β:Type} {F:α→β→Prop} {xs:List α} {ys:List β} {x:α} {y:β} (h:Paired F (xs ++ [x]) (ys ++ [y])):Paired F xs ys∧F x y:=by
 have hl:xs.length=ys.length:=by have:=Zcg h; simpa using this
 have a:=Zpd xs.length h
 have b:=Zpc xs.length h
 rw [List.take_left,hl,List.take_left] at a
 rw [List.drop_left,hl,List.drop_left] at b
 cases b with
 | cons r _=>exact ⟨a,r⟩
theorem Zup {ps:List Addr} {i:Nat} {x:V} (h:(ps.map V.ref)[i]?=some x):∃ p,x=V.ref p∧ps[i]?=some p:=by
 rw [List.getElem?_map] at h
 cases e:ps[i]? with
 | none=>rw [e] at h; cases h
 | some p=>rw [e] at h; exact ⟨p,(Option.some.inj h).symm,rfl⟩
theorem Zeg {α:Type} {l:List α} {i:Nat} {x:α} (h:l[i]?=some x):l.take (i + 1)=l.take i ++ [x]:=by
 rw [List.take_add_one,h]; rfl
section
variable {P:Program} {w:World} {K:PySem.W.Frag} {mg:Str→Option Value} {base:Heap} {t:Ad} {H H':Hp} {n:Nat} {p:Addr} {f:Fm}
theorem FmAt.mono (s:Ext H H'):∀ {n:Nat} {p:Addr} {f:Fm},FmAt t H n p f→FmAt t H' n p f
 | 0,_,_,h=>h
 | n + 1,p,f,h=>by
  cases f with
  | lamp k=>obtain ⟨dx,e⟩ :=h; exact ⟨dx,s _ _ e (fun _ z=>nomatch z)⟩
  | sure b=>obtain ⟨dx,e⟩ :=h; exact ⟨dx,s _ _ e (fun _ z=>nomatch z)⟩
  | neg g=>obtain ⟨dx,q,e,h⟩ :=h; exact ⟨dx,q,s _ _ e (fun _ z=>nomatch z),FmAt.mono s h⟩
  | join w gs=>obtain ⟨dx,tp,ps,e,e2,h⟩ :=h; exact ⟨dx,tp,ps,s _ _ e (fun _ z=>nomatch z),s _ _ e2 (fun _ z=>nomatch z),ZaH (fun a b h=>FmAt.mono s h) h⟩
theorem FmAt.le:∀ {n m:Nat} {p:Addr} {f:Fm},n≤m→FmAt t H n p f→FmAt t H m p f
 | 0,_,_,_,_,h=>h.elim
 | n + 1,0,_,_,hm,_=>absurd hm (by omega)
 | n + 1,m + 1,p,f,hm,h=>by
  have hm':n≤m:=by omega
  cases f with
  | lamp k=>exact h
  | sure b=>exact h
  | neg g=>obtain ⟨dx,q,e,h⟩ :=h; exact ⟨dx,q,e,FmAt.le hm' h⟩
  | join w gs=>obtain ⟨dx,tp,ps,e,e2,h⟩ :=h; exact ⟨dx,tp,ps,e,e2,ZaH (fun a b h=>FmAt.le hm' h) h⟩
theorem ZH3 (t:Ad) (w:W3):isFm t (cw t w):=by
 cases w
 ·exact .inr (.inr (.inr (.inl rfl)))
 ·exact .inr (.inr (.inr (.inr (.inl rfl))))
 ·exact .inr (.inr (.inr (.inr (.inr rfl))))
theorem FmAt.ins (h:FmAt t H n p f) (m:Str) (h1 : ¬ m = "at") (h2 : ¬ m = "truth") (h3 : ¬ m = "part") (h4 : ¬ m = "parts"):∃ C dx fs,H p=some (.ins C dx fs)∧isFm t C∧fs.lookup m=none:=by
 cases n with
 | zero=>exact h.elim
 | succ n=>
  cases f with
  | lamp k=>obtain ⟨dx,e⟩ :=h; exact ⟨_,dx,_,e,.inl rfl,lk0 _ h1⟩
  | sure b=>obtain ⟨dx,e⟩ :=h; exact ⟨_,dx,_,e,.inr (.inl rfl),lk0 _ h2⟩
  | neg g=>obtain ⟨dx,q,e,h⟩ :=h; exact ⟨_,dx,_,e,.inr (.inr (.inl rfl)),lk0 _ h3⟩
  | join w gs=>obtain ⟨dx,tp,ps,e,e2,h⟩ :=h; exact ⟨_,dx,_,e,ZH3 t w,lk0 _ h4⟩
theorem FmAt.lamp {dx:Addr} {fs:List (Str × V)} (T:Txt K mg t) (h:FmAt t H (n + 1) p f) (e:H p=some (.ins t.ZaB dx fs)):∃ k:Nat,f=.lamp k∧fs=[(("at" : Str),.int (k:Int))]:=by
 cases f with
 | lamp k=>obtain ⟨dx',e'⟩ :=h; rw [e] at e'; injection e' with e'; injection e' with _ _ e'; exact ⟨k,rfl,e'⟩
 | sure b=>obtain ⟨dx',e'⟩ :=h; rw [e] at e'; injection e' with e'; injection e' with e' _ _; exact absurd e' T.Zpi
 | neg g=>obtain ⟨dx',q,e',_⟩ :=h; rw [e] at e'; injection e' with e'; injection e' with e' _ _; exact absurd e' T.ZrJ
 | join w gs=>obtain ⟨dx',tp,ps,e',_⟩ :=h; rw [e] at e'; injection e' with e'; injection e' with e' _ _; cases w; exact absurd e' T.ZrI; exact absurd e' T.ZkZ; exact absurd e' T.Zvy
theorem FmAt.sure {dx:Addr} {fs:List (Str × V)} (T:Txt K mg t) (h:FmAt t H (n + 1) p f) (e:H p=some (.ins t.ZaC dx fs)):∃ b:Bool,f=.sure b∧fs=[(("truth" : Str),.bl b)]:=by
 cases f with
 | lamp k=>obtain ⟨dx',e'⟩ :=h; rw [e] at e'; injection e' with e'; injection e' with e' _ _; exact absurd e'.symm T.Zpi
 | sure b=>obtain ⟨dx',e'⟩ :=h; rw [e] at e'; injection e' with e'; injection e' with _ _ e'; exact ⟨b,rfl,e'⟩
 | neg g=>obtain ⟨dx',q,e',_⟩ :=h; rw [e] at e'; injection e' with e'; injection e' with e' _ _; exact absurd e' T.ZrL
 | join w gs=>obtain ⟨dx',tp,ps,e',_⟩ :=h; rw [e] at e'; injection e' with e'; injection e' with e' _ _; cases w; exact absurd e' T.ZrK; exact absurd e' T.Zk0; exact absurd e' T.ZvB
theorem FmAt.neg {dx:Addr} {fs:List (Str × V)} (T:Txt K mg t) (h:FmAt t H (n + 1) p f) (e:H p=some (.ins t.C_Not dx fs)):∃ g q,f=.neg g∧fs=[(("part" : Str),.ref q)]∧FmAt t H n q g:=by
 cases f with
 | lamp k=>obtain ⟨dx',e'⟩ :=h; rw [e] at e'; injection e' with e'; injection e' with e' _ _; exact absurd e'.symm T.ZrJ
 | sure b=>obtain ⟨dx',e'⟩ :=h; rw [e] at e'; injection e' with e'; injection e' with e' _ _; exact absurd e'.symm T.ZrL
 | neg g=>obtain ⟨dx',q,e',h⟩ :=h; rw [e] at e'; injection e' with e'; injection e' with _ _ e'; exact ⟨g,q,rfl,e',h⟩
 | join w gs=>obtain ⟨dx',tp,ps,e',_⟩ :=h; rw [e] at e'; injection e' with e'; injection e' with e' _ _; cases w; exact absurd e' T.Zvz; exact absurd e' T.Zm2; exact absurd e' T.Zye
theorem ZBk (T:Txt K mg t) {v w:W3} (e:cw t v=cw t w):v=w:=by
 cases v <;> cases w <;> first
  | rfl
  | exact absurd e T.Zm1
  | exact absurd e T.Zya
  | exact absurd e T.Zph
  | exact absurd e.symm T.Zm1
  | exact absurd e.symm T.Zya
  | exact absurd e.symm T.Zph
theorem FmAt.join {dx:Addr} {fs:List (Str × V)} {w:W3} (T:Txt K mg t) (h:FmAt t H (n + 1) p f) (e:H p=some (.ins (cw t w) dx fs)) :
  ∃ gs tp ps,f=.join w gs∧fs=[(("parts" : Str),.ref tp)]∧H tp=some (.tup (ps.map V.ref))∧Paired (FmAt t H n) ps gs:=by
 cases f with
 | lamp k=>obtain ⟨dx',e'⟩ :=h; rw [e] at e'; injection e' with e'; injection e' with e' _ _; cases w; exact absurd e'.symm T.ZrI; exact absurd e'.symm T.ZkZ; exact absurd e'.symm T.Zvy
 | sure b=>obtain ⟨dx',e'⟩ :=h; rw [e] at e'; injection e' with e'; injection e' with e' _ _; cases w; exact absurd e'.symm T.ZrK; exact absurd e'.symm T.Zk0; exact absurd e'.symm T.ZvB
 | neg g=>obtain ⟨dx',q,e',_⟩ :=h; rw [e] at e'; injection e' with e'; injection e' with e' _ _; cases w; exact absurd e'.symm T.Zvz; exact absurd e'.symm T.Zm2; exact absurd e'.symm T.Zye
 | join v gs=>
  obtain ⟨dx',tp,ps,e',e2,h⟩ :=h
  rw [e] at e'; injection e' with e'; injection e' with e1 _ e3
  obtain rfl:=ZBk T e1
  exact ⟨gs,tp,ps,rfl,e3,e2,h⟩
theorem ZIj (T:Txt K mg t):MkS P w K mg base 1 "Lamp" t.ZaB ["self","at"] (Zx7 t.ZaB "at"):=by
 refine ⟨T.ZHc,_,_,T.ZG8,T.ZtI.ok ZzE (fun vs H Q E h=>?_) (fun cdv A outer s H vs Q E hr h=>?_),T.ZtU⟩
 ·obtain ⟨p,dx,v,rfl,_⟩ :=h
  rfl
 ·obtain ⟨p,dx,v,rfl,hp,q⟩ :=h
  refine ⟨_,(Zaf (ZhA (pv 0) (pv 1) rfl)),?_⟩
  walk_at "rd0"
  exact ⟨p,_,_,_,rfl,hp,T.Zwn,T.Zhq,by decide,q⟩
theorem ZIk (T:Txt K mg t):MkS P w K mg base 1 "Sure" t.ZaC ["self","truth"] (Zx7 t.ZaC "truth"):=by
 refine ⟨T.ZHd,_,_,T.ZG9,T.ZtK.ok ZzF (fun vs H Q E h=>?_) (fun cdv A outer s H vs Q E hr h=>?_),T.ZtV⟩
 ·obtain ⟨p,dx,v,rfl,_⟩ :=h
  rfl
 ·obtain ⟨p,dx,v,rfl,hp,q⟩ :=h
  refine ⟨_,(Zaf (ZhA (pv 0) (pv 1) rfl)),?_⟩
  walk_at "rd0"
  exact ⟨p,_,_,_,rfl,hp,T.Zwo,T.ZdF,by decide,q⟩
theorem ZJU (T:Txt K mg t):MkS P w K mg base 1 "Not" t.C_Not ["self","part"] (Zx7 t.C_Not "part"):=by
 refine ⟨T.m_Not,_,_,T.k_Not,T.Zwk.ok ZA2 (fun vs H Q E h=>?_) (fun cdv A outer s H vs Q E hr h=>?_),T.Zwm⟩
 ·obtain ⟨p,dx,v,rfl,_⟩ :=h
  rfl
 ·obtain ⟨p,dx,v,rfl,hp,q⟩ :=h
  refine ⟨_,(Zaf (ZhA (pv 0) (pv 1) rfl)),?_⟩
  walk_at "rd0"
  exact ⟨p,_,_,_,rfl,hp,T.c_Not,T.ZeD,by decide,q⟩
def Zvp (C:Addr):Sp:=fun vs H Q _=>∃ p dx l ys,vs=[.ref p,.ref l]∧H p=some (.ins C dx [])∧H l=some (.lst ys)∧∀ tp,H tp=none→Q .non (upd (upd H tp (.tup ys)) p (.ins C dx [(("parts" : Str),.ref tp)]))
theorem ZrA {C:Addr} (T:Txt K mg t) (cl:Cls K C) (na:Zar K C "parts"):FnOk P w K mg base CX0 1 t.ZaK t.Zkl ["self","parts"] (Zvp C):=by
 refine T.Zpk.ok Zv4 (fun vs H Q E h=>?_) (fun cdv A outer s H vs Q E hr h=>?_)
 ·obtain ⟨p,dx,l,ys,rfl,_⟩ :=h
  rfl
 ·obtain ⟨p,dx,l,ys,rfl,hp,hl,q⟩ :=h
  refine ⟨_,(Zaf (ZhA (pv 0) (ZdG ZAo rfl T.B.tuple ZFv (Zaa (pv 1) Zad)) rfl)),?_⟩
  walk_at "rd0"
  refine ZJB hl fun tp htp=>?_
  walk_at "rd"
  exact ⟨p,_,_,_,rfl,by rw [ZbM (Zao hp htp)]; exact hp,cl,na,by decide,q tp htp⟩
theorem ZJT (T:Txt K mg t):MkS P w K mg base 1 "And" t.C_And ["self","parts"] (Zvp t.C_And):=⟨T.m_And,_,_,T.k_And,ZrA T T.c_And T.Zex,T.Zgx⟩
theorem ZEl (T:Txt K mg t):MkS P w K mg base 1 "Either" t.Zaq ["self","parts"] (Zvp t.Zaq):=⟨T.ZBJ,_,_,T.ZBA,ZrA T T.Zm9 T.Zcw,T.Zgx⟩
theorem ZK6 (T:Txt K mg t):MkS P w K mg base 1 "Or" t.C_Or ["self","parts"] (Zvp t.C_Or):=⟨T.m_Or,_,_,T.k_Or,ZrA T T.c_Or T.Zfv,T.Zgx⟩
theorem ZAB {C l:Addr} {ys:List V} {H:Hp} {Q:VK} (hl:H l=some (.lst ys)) (h:∀ (x dx tp:Addr) (H':Hp),Same H H'→H x=none→H' x=some (.ins C dx [(("parts" : Str),.ref tp)])→H' tp=some (.tup ys)→Q (.ref x) H') :
  MkG C (Zvp C) [.ref l] H Q:=by
 intro x dx hx hdx ne
 have s2:=Zvd hx hdx (.ins C dx []) (.own x)
 refine ⟨x,dx,l,ys,rfl,Za3,s2 _ _ hl,fun tp htp=>⟨rfl,?_⟩⟩
 have hxt:tp ≠ x:=by
  intro e; subst e; rw [Za3] at htp; cases htp
 have htp0:H tp=none:=s2.free htp
 refine h x dx tp _ (fun b o e=>?_) hx Za3 (by rw [ZbM hxt,Za3])
 rw [ZbM (Zao e hx),ZbM (Zao e htp0),ZbM (Zao e hx),ZbM (Zao e hdx)]
 exact e
end
def Lt (z:Str):Prop:=∀ c ∈ z.cps.toList,97≤c∧c≤122
theorem Zqr {z:Str} (h:Lt z) (lo hi:Option Int):Lt (Txt.slice z lo hi):=by
 unfold Txt.slice
 split
 ·exact h
 ·intro c hc
  have hc:c ∈ (Builtin.Str.strSliceIndices lo hi 1 z.length).filterMap (z.cps[·]?):=by simpa using hc
  obtain ⟨i,_,e⟩ :=List.mem_filterMap.mp hc
  obtain ⟨hi,e⟩ :=Array.getElem?_eq_some_iff.mp e
  exact h c (by rw [← e]; simp)
theorem Zhk {x y:Str} (hx:Lt x) (hy:Lt y):Lt (x ++ y):=by
 intro c hc
 have hc:c ∈ (x.cps ++ y.cps).toList:=hc
 rw [Array.toList_append,List.mem_append] at hc
 exact hc.elim (hx c) (hy c)
theorem ZyY {k:Nat} (h:k < 26):Lt ⟨#[97 + k]⟩ :=by
 intro c hc
 have hc:c ∈ [97 + k]:=hc
 rw [List.mem_singleton.mp hc]
 omega
def abc:Str:="abcdefghijklmnopqrstuvwxyz"
theorem ZD2:∀ k,k < 26→abc.cps.toList[k]?=some (97 + k):=by decide +kernel
theorem ZFT:∀ k,k < 26→Txt.find abc ⟨#[97 + k]⟩=(k:Int):=by decide +kernel
theorem ZAs {z:Str} {k:Nat} (h:k < z.length):∃ c,z.cps.toList[k]?=some c:=by
 have h:k < z.cps.toList.length:=by simpa [Str.length] using h
 exact ⟨_,List.getElem?_eq_getElem h⟩
def Nm (z:Str):Prop:=Lt z∧1≤z.length∧z.length≤20
theorem ZHr {α:Type} [DecidableEq α] (f:Nat→α):∀ (k:Nat) (L:List α),(∀ i,i < k→f i ∈ L)→(∀ i j,i < j→j < k→f i ≠ f j)→k≤L.length
 | 0,_,_,_=>Nat.zero_le _
 | k + 1,L,h,d=>by
  have hk:=h k (by omega)
  have:=ZHr f k (L.erase (f k)) (fun i hi=>(List.mem_erase_of_ne (d i k hi (by omega))).mpr (h i (by omega))) (fun i j hij hj=>d i j hij (by omega))
  rw [List.length_erase_of_mem hk] at this
  have:0 < L.length:=List.length_pos_of_mem hk
  omega
def rot (u:Str) (c j:Nat):Str:=u ++ ⟨#[97 + (c + j) % 26]⟩
theorem ZKk {u:Str} {c i j:Nat} (h:i < j) (hj:j < 26):rot u c i ≠ rot u c j:=by
 intro e
 have e:(u.cps ++ #[97 + (c + i) % 26])=(u.cps ++ #[97 + (c + j) % 26]):=congrArg Str.cps e
 have e:=congrArg Array.toList e
 rw [Array.toList_append,Array.toList_append] at e
 have e:=List.append_cancel_left e
 simp at e
 omega
theorem ZDj {z:Str} (h:1≤z.length) (hz:Lt z):∃ c,c < 26∧z=rot (Txt.slice z none (some (-1))) c 0:=by
 have hl:z.cps.toList.length=z.length:=by simp [Str.length]
 obtain ⟨c,hc⟩ :=ZAs (z:=z) (k:=z.length - 1) (by omega)
 have hm:=hz c (List.mem_of_getElem? hc)
 refine ⟨c - 97,by omega,?_⟩
 have e1:Txt.slice z none (some (-1))=⟨(z.cps.toList.take (z.length - 1)).toArray⟩ :=by
  rw [PyProof.Rows.slice_to_neg (by decide)]
  show StrLaws.sliceText z none (some _)=_
  rw [StrLaws.sliceText_to (by constructor <;> omega)]
  rw [List.drop_zero,show ((max 0 ((z.length:Int) + -1)) - 0).toNat=z.length - 1 by omega]
 rw [e1]
 unfold rot
 have e2:z.cps.toList=z.cps.toList.take (z.length - 1) ++ [c]:=by
  have:=Zeg hc
  rw [show z.length - 1 + 1=z.cps.toList.length by omega,List.take_length] at this
  exact this
 have e3:97 + (c - 97 + 0) % 26=c:=by omega
 rw [e3]
 show z=Str.append _ _
 unfold Str.append
 obtain ⟨a⟩ :=z
 congr 1
 apply Array.toList_inj.mp
 rw [Array.toList_append]
 exact e2
theorem ZEP (u:Str) (c j:Nat):Txt.slice (rot u c j) none (some (-1))=u:=by
 have hl:(rot u c j).length=u.length + 1:=by unfold rot; rw [Zan]; rfl
 rw [PyProof.Rows.slice_to_neg (by decide)]
 show StrLaws.sliceText (rot u c j) none (some _)=_
 have hl2:(rot u c j).cps.toList.length=(rot u c j).length:=by simp [Str.length]
 rw [StrLaws.sliceText_to (by constructor <;> omega)]
 rw [List.drop_zero,show ((max 0 (((rot u c j).length:Int) + -1)) - 0).toNat=u.length by omega]
 obtain ⟨a⟩ :=u
 congr 1
 show ((a ++ #[97 + (c + j) % 26]).toList.take a.size).toArray=a
 rw [Array.toList_append,show a.size=a.toList.length by simp,List.take_left]
theorem ZGl (u:Str) (c j:Nat):atI (rot u c j).cps.toList (-1)=some (97 + (c + j) % 26):=by
 have e:(rot u c j).cps.toList=u.cps.toList ++ [97 + (c + j) % 26]:=by
  show (u.cps ++ #[97 + (c + j) % 26]).toList=_
  rw [Array.toList_append]
 rw [e]
 unfold atI ixN
 rw [if_neg (by decide),if_pos (by rw [List.length_append,List.length_singleton]; omega)]
 show (u.cps.toList ++ [97 + (c + j) % 26])[_]?=_
 rw [List.length_append,List.length_singleton,show (-1 + ((u.cps.toList.length + 1:Nat):Int)).toNat=u.cps.toList.length by omega,List.getElem?_append_right (Nat.le_refl _)]
 simp
theorem Zw3 (x:Str):∀ ns:List Str,inV (.str x) (ns.map V.str)=decide (x ∈ ns)
 | []=>rfl
 | y :: ns=>by
  have ih:=Zw3 x ns
  unfold inV at ih ⊢
  rw [List.map_cons,List.any_cons,ih]
  have e:eqV (.str y) (.str x)=decide (y=x):=rfl
  rw [e]
  by_cases h:y=x
  ·simp [h]
  ·have h' : ¬ x=y:=fun z=>h z.symm
   simp [h,h']
section
variable {P:Program} {w:World} {K:PySem.W.Frag} {mg:Str→Option Value} {base:Heap} {t:Ad} {n:Nat}
theorem ZCw {p:Addr} {x:Str} {ns:List Str} {H:Hp} {Q:VK} (h:H p=some (.lst (ns.map V.str))∨H p=some (.tup (ns.map V.str))) (k:Q (.bl (decide (x ∈ ns))) H):rInG K (.str x) (.ref p) H Q:=by
 refine .inr ⟨p,ns.map V.str,rfl,h.imp SqL.of SqT.of,rfl,?_,?_⟩
 ·rw [List.all_eq_true]
  intro v hv
  obtain ⟨z,_,rfl⟩ :=List.mem_map.mp hv
  rfl
 ·rw [Zw3]
  exact k
theorem ZHV {x:Int} {H:Hp} {Q:VK} (h:∀ e,e < 26→Q (.str ⟨#[97 + e]⟩) H):rIx K (.str "abcdefghijklmnopqrstuvwxyz") (.int (x % 26)) H Q:=by
 obtain ⟨e,he,he26⟩ : ∃ e:Nat,x % 26=(e:Int)∧e < 26:=⟨(x % 26).toNat,by omega,by omega⟩
 rw [he]
 exact ZAC (by decide) (ZlI (ZD2 e he26)) (h e he26)
end
def jn (z:List Nat):List (List Nat)→List Nat
 | []=>[]
 | [p]=>p
 | p :: q :: r=>p ++ z ++ jn z (q :: r)
theorem list_append (x y:Str):(x ++ y).cps.toList=x.cps.toList ++ y.cps.toList:=by
 show (x.cps ++ y.cps).toList=_
 rw [Array.toList_append]
theorem Zjr (z:Str):∀ ps:List Str,(Str.join z ps).cps.toList=jn z.cps.toList (ps.map fun p=>p.cps.toList)
 | []=>rfl
 | [p]=>rfl
 | p :: q :: r=>by
  show (p ++ z ++ Str.join z (q :: r)).cps.toList=_
  rw [list_append,list_append,Zjr z (q :: r)]
  rfl
def rp (c:Nat) (z l:List Nat):List Nat:=l.flatMap fun d=>if d=c then z else [d]
theorem ZmX (c:Nat) (z a b:List Nat):rp c z (a ++ b)=rp c z a ++ rp c z b:=by
 unfold rp; rw [List.flatMap_append]
theorem ZrC {c:Nat} {z:List Nat}:∀ {p:List Nat},c ∉ p→rp c z p=p
 | [],_=>rfl
 | d :: p,h=>by
  have h1 : ¬ d=c:=fun e=>h (by rw [e]; exact List.mem_cons_self)
  have h2:c ∉ p:=fun e=>h (List.mem_cons_of_mem _ e)
  show (if d=c then z else [d]) ++ rp c z p=d :: p
  rw [if_neg h1,ZrC h2]
  rfl
theorem ZKn (c:Nat) (z:List Nat):rp c z [c]=z:=by
 show (if c=c then z else [c]) ++ []=z
 rw [if_pos rfl,List.append_nil]
theorem ZKl (c:Nat) (z:List Nat):∀ ps:List (List Nat),(∀ p ∈ ps,c ∉ p)→rp c z (jn [c] ps)=jn z ps
 | [],_=>rfl
 | [p],h=>ZrC (h p List.mem_cons_self)
 | p :: q :: r,h=>by
  show rp c z (p ++ [c] ++ jn [c] (q :: r))=p ++ z ++ jn z (q :: r)
  rw [ZmX,ZmX,ZrC (h p List.mem_cons_self),ZKn,ZKl c z (q :: r) fun x hx=>h x (List.mem_cons_of_mem _ hx)]
theorem ZCs (x:Str) (c:Nat):∀ p ∈ (Txt.split x ⟨#[c]⟩).map fun p=>p.cps.toList,c ∉ p:=by
 intro p hp
 obtain ⟨q,hq,rfl⟩ :=List.mem_map.mp hp
 exact StrLaws.split_free x c q hq
theorem ZGv (x:Str) (c:Nat):jn [c] ((Txt.split x ⟨#[c]⟩).map fun p=>p.cps.toList)=x.cps.toList:=by
 have e:=Zjr ⟨#[c]⟩ (Txt.split x ⟨#[c]⟩)
 rw [StrLaws.join_split] at e
 exact e.symm
theorem Zga (x z:Str) (c:Nat):(Txt.replace x ⟨#[c]⟩ z).cps.toList=rp c z.cps.toList x.cps.toList:=by
 rw [StrLaws.replace_one,Zjr,← ZKl c _ _ (ZCs x c),ZGv]
theorem ZHv {c:Nat} {z:List Nat} {n:Nat} (hz:z.length≤n) (h1:1≤n):∀ l:List Nat,(rp c z l).length≤l.length * n
 | []=>Nat.zero_le _
 | d :: l=>by
  have ih:=ZHv (c:=c) hz h1 l
  show ((if d=c then z else [d]) ++ rp c z l).length≤(l.length + 1) * n
  rw [List.length_append,Nat.succ_mul]
  by_cases e:d=c
  ·rw [if_pos e]; omega
  ·rw [if_neg e]; simp only [List.length_singleton]; omega
theorem ZKm {c:Nat} {z l:List Nat} {d:Nat} (h:d ∈ rp c z l):d ∈ l∨d ∈ z:=by
 unfold rp at h
 obtain ⟨e,he,hd⟩ :=List.mem_flatMap.mp h
 by_cases q:e=c
 ·rw [if_pos q] at hd; exact .inr hd
 ·rw [if_neg q] at hd; rw [List.mem_singleton.mp hd]; exact .inl he
def wl:List Nat→List Nat→List (List Nat)
 | [],cur=>if cur=[] then [] else [cur]
 | c :: cs,cur=>if c=32 then (if cur=[] then wl cs [] else cur :: wl cs []) else wl cs (cur ++ [c])
open StrLaws Builtin.Str in
def SwIs (x:Str) (cur:Nat) (st:SwSt):Prop:=
 st.fst=none∧(∀ p ∈ st.snd.fst.toList,p.2≤x.length)∧
 match st.snd.snd with
 | some b=>b < cur∧wsum st.snd.fst.toList≤b∧(st.snd.fst.toList.map fun p:Nat × Nat=>(strSub x p.1 p.2).cps.toList) ++ wl (x.cps.toList.drop cur) ((x.cps.toList.drop b).take (cur - b))=wl x.cps.toList []
 | none=>wsum st.snd.fst.toList≤cur∧(st.snd.fst.toList.map fun p:Nat × Nat=>(strSub x p.1 p.2).cps.toList) ++ wl (x.cps.toList.drop cur) []=wl x.cps.toList []
theorem ZFC {l:List Nat} {k c:Nat} (h:l[k]?=some c):l.drop k=c :: l.drop (k + 1):=by
 obtain ⟨hk,e⟩ :=List.getElem?_eq_some_iff.mp h
 rw [List.drop_eq_getElem_cons hk,e]
theorem ZCb {l:List Nat} {b k c:Nat} (hb:b≤k) (h:l[k]?=some c):(l.drop b).take (k + 1 - b)=(l.drop b).take (k - b) ++ [c]:=by
 have e:k + 1 - b=(k - b) + 1:=by omega
 rw [e,List.take_add_one,List.getElem?_drop,show b + (k - b)=k by omega,h]
 rfl
open StrLaws Builtin.Str in
theorem Zvr (x:Str) (hsp:∀ c ∈ x.cps.toList,Unicode.isSpace c=decide (c=32)):∀ (m cur:Nat) (st:SwSt),cur + m≤x.length→SwIs x cur st→SwIs x (cur + m) (forIn (List.range' cur m) st (swBody x (x.length + 1))).run
 | 0,cur,st,_,h=>h
 | m + 1,cur,(r,words,sta),hm,h=>by
  rw [List.range'_succ,List.forIn_cons]
  have e:cur + (m + 1)=(cur + 1) + m:=by omega
  rw [e]
  obtain ⟨h1,h2,h3⟩ :=h
  have hcs:cur < x.cps.size:=by show cur < x.length; omega
  have hcl:x.cps.toList[cur]?=some x.cps[cur]:=by rw [Array.getElem?_toList]; simp [hcs]
  have hc0:x.cps.getD cur 0=x.cps[cur]:=by simp [Array.getD,hcs]
  have hs:Unicode.isSpace (x.cps.getD cur 0)=decide (x.cps[cur]=32):=by rw [hc0]; exact hsp _ (List.mem_of_getElem? hcl)
  have hd:=ZFC hcl
  have hsz : ¬ ((words.size == x.length + 1)=true):=by
   have a:=len_le_wsum words.toList
   have b:words.toList.length=words.size:=by simp
   have c:wsum words.toList≤cur:=by
    cases sta with
    | none=>exact h3.1
    | some b=>exact Nat.le_trans h3.2.1 (Nat.le_of_lt h3.1)
   rw [beq_iff_eq]; omega
  unfold swBody
  simp only [hsz,if_false]
  rw [hs]
  cases sta with
  | none=>
   obtain ⟨g1,g2⟩ :=h3
   rw [hd] at g2
   by_cases q:x.cps[cur]=32
   ·rw [decide_eq_true q]
    refine Zvr x hsp m (cur + 1) _ (by omega) ⟨rfl,h2,Nat.le_succ_of_le g1,?_⟩
    rw [show wl (x.cps[cur] :: x.cps.toList.drop (cur + 1)) []=wl (x.cps.toList.drop (cur + 1)) [] by show (if x.cps[cur]=32 then _ else _)=_; rw [if_pos q]; rfl] at g2
    exact g2
   ·rw [decide_eq_false q]
    refine Zvr x hsp m (cur + 1) _ (by omega) ⟨rfl,h2,Nat.lt_succ_self _,g1,?_⟩
    rw [show wl (x.cps[cur] :: x.cps.toList.drop (cur + 1)) []=wl (x.cps.toList.drop (cur + 1)) [x.cps[cur]] by show (if x.cps[cur]=32 then _ else _)=_; rw [if_neg q]; rfl] at g2
    rw [ZCb (Nat.le_refl cur) hcl,Nat.sub_self,List.take_zero]
    exact g2
  | some b=>
   obtain ⟨g0,g1,g2⟩ :=h3
   have g0:b < cur:=g0
   have g1:wsum words.toList≤b:=g1
   rw [hd] at g2
   have hne:(x.cps.toList.drop b).take (cur - b) ≠ []:=by
    intro z
    have:=congrArg List.length z
    rw [List.length_take,List.length_drop,Array.length_toList] at this
    simp only [List.length_nil] at this
    omega
   by_cases q:x.cps[cur]=32
   ·rw [decide_eq_true q]
    refine Zvr x hsp m (cur + 1) _ (by omega) ⟨rfl,?_,?_,?_⟩
    ·intro p hp
     rw [Array.toList_push,List.mem_append,List.mem_singleton] at hp
     rcases hp with hp | rfl
     ·exact h2 p hp
     ·show cur≤x.length; omega
    ·show wsum (words.push (b,cur)).toList≤cur + 1
     rw [Array.toList_push,wsum_snoc]
     show wsum words.toList + (cur - b + 1)≤cur + 1
     omega
    ·show ((words.push (b,cur)).toList.map fun p:Nat × Nat=>(strSub x p.1 p.2).cps.toList) ++ wl (x.cps.toList.drop (cur + 1)) []=_
     rw [show wl (x.cps[cur] :: x.cps.toList.drop (cur + 1)) ((x.cps.toList.drop b).take (cur - b))=((x.cps.toList.drop b).take (cur - b)) :: wl (x.cps.toList.drop (cur + 1)) [] by show (if x.cps[cur]=32 then (if _=[] then _ else _) else _)=_; rw [if_pos q,if_neg hne]] at g2
     rw [Array.toList_push,List.map_append,List.append_assoc,← g2]
     congr 1
     show [(strSub x b cur).cps.toList] ++ _=_
     rw [strSub_toList]
     rfl
   ·rw [decide_eq_false q]
    refine Zvr x hsp m (cur + 1) _ (by omega) ⟨rfl,h2,Nat.lt_succ_of_lt g0,g1,?_⟩
    rw [show wl (x.cps[cur] :: x.cps.toList.drop (cur + 1)) ((x.cps.toList.drop b).take (cur - b))=wl (x.cps.toList.drop (cur + 1)) ((x.cps.toList.drop b).take (cur - b) ++ [x.cps[cur]]) by show (if x.cps[cur]=32 then _ else _)=_; rw [if_neg q]] at g2
    rw [ZCb (Nat.le_of_lt g0) hcl]
    exact g2
open StrLaws Builtin.Str in
theorem ZA7 (x:Str) (hsp:∀ c ∈ x.cps.toList,Unicode.isSpace c=decide (c=32)):(Txt.words x).map (fun p=>p.cps.toList)=wl x.cps.toList []:=by
 have key:(wordsOf x).map (fun p=>p.cps.toList)=wl x.cps.toList []:=by
  unfold wordsOf
  rw [sw_eq]
  have k:=Zvr x hsp x.length 0 ((none,#[],none):SwSt) (by omega) ⟨rfl,fun p hp=>by simp at hp,Nat.le_refl 0,rfl⟩
  rw [Nat.zero_add] at k
  generalize (forIn (List.range' 0 x.length) ((none,#[],none):SwSt) (swBody x (x.length + 1))).run=st at k
  obtain ⟨r,words,sta⟩ :=st
  obtain ⟨h1,h2,h3⟩ :=k
  have h1':r=none:=h1
  subst h1'
  have hdr:x.cps.toList.drop x.length=[]:=List.drop_of_length_le (by rw [Array.length_toList]; exact Nat.le_refl _)
  unfold swEnd
  cases sta with
  | none=>
   obtain ⟨g1,g2⟩ :=h3
   rw [hdr] at g2
   rw [List.map_map]
   rw [← g2]
   show _=_ ++ []
   rw [List.append_nil]
   rfl
  | some b=>
   obtain ⟨g0,g1,g2⟩ :=h3
   have g0:b < x.length:=g0
   rw [hdr] at g2
   have hne:(x.cps.toList.drop b).take (x.length - b) ≠ []:=by
    intro z
    have:=congrArg List.length z
    rw [List.length_take,List.length_drop,Array.length_toList] at this
    simp only [List.length_nil] at this
    have e:x.cps.size=x.length:=rfl
    omega
   show ((words.push (b,x.length)).toList.map _).map _=_
   rw [Array.toList_push,List.map_append,List.map_append,List.map_map,← g2]
   congr 1
   show [(strSub x b x.length).cps.toList]=if _=[] then [] else _
   rw [if_neg hne,strSub_toList]
 unfold Txt.words
 split
 ·rename_i hw
  have e:spaceWords x (x.length + 1)=[(0,x.length)]:=eq_of_beq hw
  unfold wordsOf at key
  rw [e] at key
  rw [← key]
  show [x.cps.toList]=[(strSub x 0 x.length).cps.toList]
  rw [sub_whole]
 ·exact key
theorem ZyW:∀ {a b:List Str},a.map (fun p=>p.cps.toList)=b.map (fun p=>p.cps.toList)→a=b
 | [],[],_=>rfl
 | [],_ :: _,h=>by cases h
 | _ :: _,[],h=>by cases h
 | x :: a,y :: b,h=>by
  have h1:x.cps.toList=y.cps.toList:=(List.cons.inj h).1
  have h2:=ZyW (List.cons.inj h).2
  have:x=y:=by
   cases x; cases y
   simp only [Str.mk.injEq]
   exact Array.toList_inj.mp h1
  rw [this,h2]
structure Lv where
 nots:Nat
 ands:List Fm
 eithers:List Fm
 ors:List Fm
 lack:Bool
def Lv.new:Lv:=⟨0,[],[],[],true⟩
def Lv.size (L:Lv):Nat:=L.nots + L.ands.length + L.eithers.length + L.ors.length
def negs:Nat→Fm→Fm
 | 0,f=>f
 | n + 1,f=>.neg (negs n f)
def ZcX (w:W3):List Fm→Fm
 | [f]=>f
 | fs=>.join w fs
theorem Zqd {w:W3} {fs:List Fm} (h:fs.length ≠ 1):ZcX w fs=.join w fs:=by
 match fs,h with
 | [],_=>rfl
 | [f],h=>exact absurd rfl h
 | _ :: _ :: _,_=>rfl
def Lv.part (L:Lv) (f:Fm):Lv:=⟨0,L.ands ++ [negs L.nots f],L.eithers,L.ors,false⟩
def Lv.join (L:Lv):W3→Lv
 | .a=>⟨L.nots,L.ands,L.eithers,L.ors,true⟩
 | .e=>⟨L.nots,[],L.eithers ++ [ZcX .a L.ands],L.ors,true⟩
 | .o=>⟨L.nots,[],[],L.ors ++ [ZcX .e (L.eithers ++ [ZcX .a L.ands])],true⟩
def Lv.whole (L:Lv):Fm:=ZcX .o (L.join .o).ors
def kw3:W3→Str
 | .a=>"and"
 | .e=>"either"
 | .o=>"or"
def idxS (z:Str):List Str→Option Nat
 | []=>none
 | n :: r=>if n=z then some 0 else (idxS z r).map (· + 1)
theorem Zuu {z:Str}:∀ {ns:List Str} {j:Nat},idxS z ns=some j→ns[j]?=some z∧∀ m,m < j→ns[m]? ≠ some z
 | [],_,h=>by cases h
 | n :: r,j,h=>by
  unfold idxS at h
  by_cases e:n=z
  ·rw [if_pos e] at h
   cases h
   subst e
   exact ⟨rfl,fun m hm=>absurd hm (Nat.not_lt_zero _)⟩
  ·rw [if_neg e] at h
   obtain ⟨k,hk,rfl⟩ :=Option.map_eq_some_iff.mp h
   obtain ⟨h1,h2⟩ :=Zuu hk
   refine ⟨by simpa using h1,fun m hm=>?_⟩
   cases m with
   | zero=>simpa using e
   | succ m=>simpa using h2 m (by omega)
theorem ZyL {z:Str}:∀ {ns:List Str},idxS z ns=none→z ∉ ns
 | [],_=>by simp
 | n :: r,h=>by
  unfold idxS at h
  by_cases e:n=z
  ·rw [if_pos e] at h; cases h
  ·rw [if_neg e] at h
   have:=ZyL (Option.map_eq_none_iff.mp h)
   simp only [List.mem_cons,not_or]
   exact ⟨fun y=>e y.symm,this⟩
def ZhD (ns:List Str) (z:Str):Option Fm:=if z = "yes" then some (.sure true) else if z = "no" then some (.sure false) else (idxS z ns).map Fm.lamp
def ZCy (z:Str):Option W3:=if z = "and" then some .a else if z = "either" then some .e else if z = "or" then some .o else none
theorem ZBx {z:Str} {w:W3} (h:ZCy z=some w):z=kw3 w:=by
 unfold ZCy at h
 by_cases h1:z = "and"
 ·rw [if_pos h1] at h; cases h; exact h1
 ·rw [if_neg h1] at h
  by_cases h2:z = "either"
  ·rw [if_pos h2] at h; cases h; exact h2
  ·rw [if_neg h2] at h
   by_cases h3:z = "or"
   ·rw [if_pos h3] at h; cases h; exact h3
   ·rw [if_neg h3] at h; cases h
def Lv.word (ns:List Str) (L:Lv) (z:Str):Option Lv:=
 if L.lack=true then (if z = "not" then some ⟨L.nots + 1,L.ands,L.eithers,L.ors,L.lack⟩ else (ZhD ns z).map L.part) else (ZCy z).map L.join
def ZcF (ns:List Str):List Lv→Str→Option (List Lv)
 | [],_=>none
 | L :: R,z=>if z = "("∧L.lack=true then some (Lv.new :: L :: R) else match R with
  | []=>(L.word ns z).map ([·])
  | M :: R'=>if z = ")"∧L.lack=false then some (M.part L.whole :: R') else (L.word ns z).map (· :: M :: R')
def runW (ns:List Str):List Lv→List Str→Option (List Lv)
 | S,[]=>some S
 | S,z :: r=>(ZcF ns S z).bind fun S'=>runW ns S' r
theorem ZdH (ns:List Str):∀ (a b:List Str) (S:List Lv),runW ns S (a ++ b)=(runW ns S a).bind fun S'=>runW ns S' b
 | [],b,S=>rfl
 | z :: a,b,S=>by
  show (ZcF ns S z).bind _=((ZcF ns S z).bind _).bind _
  cases ZcF ns S z with
  | none=>rfl
  | some S'=>exact ZdH ns a b S'
def endF:Lv→Option Fm:=fun L=>if L.lack=true then none else some L.whole
def Zdn (ns:List Str) (ws:List Str):Option Fm:=(runW ns [Lv.new] ws).bind fun S=>S.getLast?.bind endF
theorem ZE8 {ns:List Str} {S S':List Lv} {z:Str} {n:Nat} (h:ZcF ns S z=some S') (hs:∀ L ∈ S,L.size≤n):∀ L ∈ S',L.size≤n + 1:=by
 have hp:∀ (L:Lv) (f:Fm),L.size≤n→(L.part f).size≤n + 1:=fun L f hl=>by
  unfold Lv.size Lv.part at *
  simp only [List.length_append,List.length_singleton] at *
  omega
 have hw:∀ (L L':Lv),L.size≤n→L.word ns z=some L'→L'.size≤n + 1:=fun L L' hl e=>by
  unfold Lv.word at e
  by_cases h1:L.lack=true
  ·rw [if_pos h1] at e
   by_cases h2:z = "not"
   ·rw [if_pos h2] at e
    cases e
    unfold Lv.size at *
    dsimp only at *
    omega
   ·rw [if_neg h2] at e
    obtain ⟨f,_,rfl⟩ :=Option.map_eq_some_iff.mp e
    exact hp L f hl
  ·rw [if_neg h1] at e
   obtain ⟨v,_,rfl⟩ :=Option.map_eq_some_iff.mp e
   cases v <;> (unfold Lv.size Lv.join at *; simp only [List.length_append,List.length_singleton,List.length_nil] at *; omega)
 cases S with
 | nil=>cases h
 | cons L R=>
  have hL:=hs L List.mem_cons_self
  have hR:∀ M ∈ R,M.size≤n + 1:=fun M hM=>Nat.le_succ_of_le (hs M (List.mem_cons_of_mem _ hM))
  simp only [ZcF] at h
  by_cases h1:z = "("∧L.lack=true
  ·rw [if_pos h1] at h
   cases h
   intro M hM
   rcases List.mem_cons.mp hM with rfl | hM
   ·exact Nat.zero_le _
   rcases List.mem_cons.mp hM with rfl | hM
   ·omega
   ·exact hR M hM
  ·rw [if_neg h1] at h
   cases R with
   | nil=>
    obtain ⟨L',e,rfl⟩ :=Option.map_eq_some_iff.mp h
    intro M hM
    rw [List.mem_singleton.mp hM]
    exact hw L L' hL e
   | cons N R'=>
    dsimp only at h
    by_cases h2:z = ")"∧L.lack=false
    ·rw [if_pos h2] at h
     cases h
     intro M hM
     rcases List.mem_cons.mp hM with rfl | hM
     ·exact hp N _ (hs N (List.mem_cons_of_mem _ List.mem_cons_self))
     ·exact hR M (List.mem_cons_of_mem _ hM)
    ·rw [if_neg h2] at h
     obtain ⟨L',e,rfl⟩ :=Option.map_eq_some_iff.mp h
     intro M hM
     rcases List.mem_cons.mp hM with rfl | hM
     ·exact hw L _ hL e
     ·exact hR M hM
theorem ZIL {ns:List Str} {S S':List Lv} {z:Str} (h:ZcF ns S z=some S'):S' ≠ []:=by
 cases S with
 | nil=>cases h
 | cons L R=>
  simp only [ZcF] at h
  by_cases h1:z = "("∧L.lack=true
  ·rw [if_pos h1] at h; cases h; simp
  ·rw [if_neg h1] at h
   cases R with
   | nil=>obtain ⟨L',_,rfl⟩ :=Option.map_eq_some_iff.mp h; simp
   | cons N R'=>
    dsimp only at h
    by_cases h2:z = ")"∧L.lack=false
    ·rw [if_pos h2] at h; cases h; simp
    ·rw [if_neg h2] at h
     obtain ⟨L',_,rfl⟩ :=Option.map_eq_some_iff.mp h; simp
section
variable {P:Program} {w:World} {K:PySem.W.Frag} {mg:Str→Option Value} {base:Heap} {t:Ad}
def isL (c:Nat):Bool:=decide (97≤c) && decide (c≤122)
def isM (c:Nat):Bool:=c == 40 || c == 41 || c == 44
def al (c:Nat):Bool:=isL c || isM c || c == 32
theorem ZJD:∀ c,c < 128→(!(Builtin.Str.occurrences "abcdefghijklmnopqrstuvwxyz" ⟨#[c]⟩ 0 (Str.length "abcdefghijklmnopqrstuvwxyz") 1).isEmpty)=isL c:=by decide +kernel
theorem ZJE:∀ c,c < 128→(!(Builtin.Str.occurrences "()," ⟨#[c]⟩ 0 (Str.length "(),") 1).isEmpty)=isM c:=by decide +kernel
theorem ZK2:∀ c,c < 128→decide ((⟨#[c]⟩ : Str) = " ")=(c == 32):=by decide +kernel
theorem ZFs:∀ c,c < 128→al c=true→Unicode.isSpace c=decide (c=32):=by decide +kernel
theorem ZKQ {c:Nat} (h:al c=true):c < 128:=by
 unfold al isL isM at h
 simp only [Bool.or_eq_true,Bool.and_eq_true,decide_eq_true_eq,beq_iff_eq] at h
 omega
def padC (x:Str) (c:Nat):Str:=Txt.replace x ⟨#[c]⟩ ⟨#[32,c,32]⟩
def pad (x:Str):Str:=padC (padC (padC x 40) 41) 44
theorem Znm (x:Str) (c:Nat):(padC x c).length≤x.length * 3:=by
 show (padC x c).cps.size≤x.cps.size * 3
 rw [← Array.length_toList,← Array.length_toList]
 unfold padC
 rw [Zga]
 exact ZHv (Nat.le_refl 3) (by decide) _
theorem ZAS {x:Str} {c:Nat} (h:∀ d ∈ x.cps.toList,al d=true) (hc:al c=true):∀ d ∈ (padC x c).cps.toList,al d=true:=by
 intro d hd
 unfold padC at hd
 rw [Zga] at hd
 rcases ZKm hd with z | z
 ·exact h d z
 ·have z:d ∈ [32,c,32]:=z
  simp only [List.mem_cons,List.not_mem_nil,or_false] at z
  rcases z with rfl | rfl | rfl
  ·rfl
  ·exact hc
  ·rfl
theorem ZHk {x:Str} (h:∀ d ∈ x.cps.toList,al d=true):∀ d ∈ (pad x).cps.toList,al d=true:=ZAS (ZAS (ZAS h rfl) rfl) rfl
theorem ZEx (x:Str):(pad x).length≤x.length * 27:=by
 have a:=Znm x 40
 have b:=Znm (padC x 40) 41
 have c:=Znm (padC (padC x 40) 41) 44
 unfold pad
 omega
theorem ZDx {σ:St} {H:Hp} {Q:VK} {c k:Nat} (e:σ[k]?=some (some (.str ⟨#[c]⟩))) (h:Q (.str ⟨#[32,c,32]⟩) H):tFs (tJc (tC (V.str " ")) (tJc (tFmt (tVar k)) (tJc (tC (V.str " ")) tJn))) σ H Q:=
 ⟨" ",rfl,Zcd (Nat.le_of_ble_eq_true rfl),_,e,⟨#[c]⟩,rfl,Zcd (Nat.le_of_ble_eq_true rfl),⟨#[c]⟩,rfl,Zcd (Nat.le_of_ble_eq_true rfl)," ",rfl,Zcd (Nat.le_of_ble_eq_true rfl),Zcd (Nat.le_of_ble_eq_true rfl),h⟩
theorem Zz3 (x:Str):(Txt.words x).length≤x.length + 1:=by
 have:=StrLaws.words_weight x
 omega
def okW (z:Str):Bool:=z.cps.toList.all al
def ZIK:Sp:=fun vs H Q _=>∃ z:Str,vs=[.str z]∧Asc z∧z.length≤3600∧(okW z=false→Q .non H)∧(okW z=true→∀ H' p,Same H H'→H p=none→H' p=some (.lst ((Txt.words (pad z)).map V.str))→Q (.ref p) H')
theorem ZF8 (T:Txt K mg t):FnS P w K mg base 1 "words" ["text"] (ZIK):=by
 refine ⟨_,_,T.Zz9.ok ZtF (fun vs H Q E h=>?_) (fun cdv A outer s H vs Q E hr h=>?_),T.ZC2,T.Zz9.kp,T.ZD9⟩
 ·obtain ⟨z,rfl,ha,hz,q1,q2⟩ :=h
  rfl
 obtain ⟨z,rfl,ha,hz,q1,q2⟩ :=h
 refine ⟨_,(Zac (Zlm PassesOwn.never rfl (ZmP (pv 0)) (sg 1 ZtF.nd)
   (Zaf (Za7 (PW.pt (Zfh (Zal ZqL (pv 1) (ZEC rfl T.g_LETTERS) (by with_unfolding_all rfl)) (Zfh (Zal ZqL (pv 1) (ZEC rfl T.g_MARKS) (by with_unfolding_all rfl)) (Zey (Zal (Zzv hr.units) (pv 1) (ZEC rfl T.g_BLANK) (Zax _))))))
   (Zaf (Zay ZED))
   Zaz)))
   (ZKb (ssp 2 ZtF.nd (pv 0))
   (ZEK (ZIv (i:=2) (j:=3) PassesOwn.never rfl ZtF.nd (ZEC rfl T.g_MARKS) (ZCK (ZxJ Zak (ZxJ (ZEA (pv 3)) (ZxJ Zak ZIu)))))
   (Zaf (Zay (ZHl PySem.F.plainAttrs_str PySem.F.slot_str_split PySem.F.type_str_split ZFZ (pv 2))))))),?_⟩
 walk_at "rd0"
 refine seqX (fun i σ H'=>H'=H∧(∀ j c,j < i→z.cps[j]?=some c→al c=true)∧∃ v,σ=[some (.str z),v,none,none]) ⟨rfl,fun j c hj=>absurd hj (Nat.not_lt_zero _),_,rfl⟩ ?_ ?_
 ·rintro i c σ H' hx ⟨rfl,hj,v,rfl⟩
  have hmem:c ∈ z.cps.toList:=List.mem_of_getElem? (by rw [Array.getElem?_toList]; exact hx)
  have c128:=ha c hmem
  have nx:al c=true→∀ j d,j < i + 1→z.cps[j]?=some d→al d=true:=fun h j d hj' hd=>by
   by_cases e:j=i
   ·subst e; rw [hx] at hd; cases hd; exact h
   ·exact hj j d (by omega) hd
  walk_at "rd"
  refine .inl ⟨_,_,rfl,rfl,?_⟩
  rw [ZJD c c128]
  dsimp only
  walk_at "rd"
  cases h1:isL c with
  | true=>
   refine Zcc rfl ?_
   refine Zcc rfl ?_
   walk_at "rd"
   exact ⟨rfl,nx (by unfold al; rw [h1]; rfl),_,rfl⟩
  | false=>
   refine ZdP rfl ?_
   walk_at "rd"
   refine .inl ⟨_,_,rfl,rfl,?_⟩
   rw [ZJE c c128]
   dsimp only
   walk_at "rd"
   cases h2:isM c with
   | true=>
    refine Zcc rfl ?_
    refine Zcc rfl ?_
    walk_at "rd"
    exact ⟨rfl,nx (by unfold al; rw [h2,Bool.or_true]; rfl),_,rfl⟩
   | false=>
    refine ZdP rfl ?_
    walk_at "rd"
    rw [ZK2 c c128]
    cases h3:c == 32 with
    | true=>
     refine Zcc rfl ?_
     walk_at "rd"
     exact ⟨rfl,nx (by unfold al; rw [h3,Bool.or_true]),_,rfl⟩
    | false=>
     refine ZdP rfl ?_
     walk_at "rd"
     refine q1 ?_
     unfold okW
     rw [List.all_eq_false]
     refine ⟨c,hmem,?_⟩
     unfold al
     rw [h1,h2,h3]
     exact Bool.false_ne_true
 ·rintro σ H' ⟨rfl,hj,v,rfl⟩
  have hall:∀ d ∈ z.cps.toList,al d=true:=fun c hc=>by
   obtain ⟨j,hj',e⟩ :=List.mem_iff_getElem.mp hc
   have hj2:j < z.cps.size:=by simpa using hj'
   exact hj j c hj2 (by rw [← Array.getElem?_toList,List.getElem?_eq_getElem hj',e])
  have hok:okW z=true:=List.all_eq_true.mpr hall
  have n1:=Znm z 40
  have n2:=Znm (padC z 40) 41
  have n3:=Znm (padC (padC z 40) 41) 44
  walk_at "rd"
  refine ⟨_,rfl,by decide +kernel,?_⟩
  show tRep 2 3 _ [40,41,44] _ _ _
  refine ZDN z rfl (ZDx rfl ⟨_,rfl,rfl,?_,?_⟩)
  ·show z.length + (z.length + 1) * 3≤_; omega
  refine ZDN (padC z 40) rfl (ZDx rfl ⟨_,rfl,rfl,?_,?_⟩)
  ·show (padC z 40).length + ((padC z 40).length + 1) * 3≤_; omega
  refine ZDN (padC (padC z 40) 41) rfl (ZDx rfl ⟨_,rfl,rfl,?_,?_⟩)
  ·show (padC (padC z 40) 41).length + ((padC (padC z 40) 41).length + 1) * 3≤_; omega
  refine ZJy ?_
  walk_at "rd"
  have n4:=Zz3 (pad z)
  have n5:=ZEx z
  refine ⟨tyS,pad z,rfl,by omega,.inl ⟨rfl,Zcu (by rw [List.length_map]; omega) fun p H1 s1 n1 e1=>?_⟩⟩
  exact q2 hok H1 p s1 n1 e1
end
def FmE (t:Ad) (H:Hp) (p:Addr) (f:Fm):Prop:=∃ n,FmAt t H n p f
def FmsE (t:Ad) (H:Hp) (l:Addr) (fs:List Fm):Prop:=∃ ps,H l=some (.lst (ps.map V.ref))∧Paired (FmE t H) ps fs
def ExtL (t:Ad) (H H':Hp):Prop:=∀ x u,H x=some u→(∀ xs,u ≠ .lst xs)→(∀ dx fs,u ≠ .ins t.Zaw dx fs)→H' x=some u
section
variable {K:PySem.W.Frag} {σ:St} {H:Hp}
theorem Zuw {p C dx:Addr} {fs:List (Str × V)} {f:Str} {y:V} {R:Hp→Prop} (h:H p=some (.ins C dx fs)) (c:Cls K C) (n:Zar K C f) (z:fs.length < 1000) (k:∀ H',But p H H'→H' p=some (.ins C dx (putF f y fs))→R H') :
  ∃ a C dx fs,(V.ref p)=.ref a∧H a=some (.ins C dx fs)∧Cls K C∧Zar K C f∧fs.length < 1000∧R (upd H a (.ins C dx (putF f y fs))):=⟨p,C,dx,fs,rfl,h,c,n,z,k _ ZAn Za3⟩
end
def Off2 (p l:Addr) (H H':Hp):Prop:=∀ b u,b ≠ p→b ≠ l→H b=some u→H' b=some u
section
variable {P:Program} {w:World} {K:PySem.W.Frag} {mg:Str→Option Value} {base:Heap} {t:Ad} {H H' H'':Hp}
theorem ExtL.trans (a:ExtL t H H') (b:ExtL t H' H''):ExtL t H H'':=fun x u e h1 h2=>b x u (a x u e h1 h2) h1 h2
theorem ExtL.of (s:Same H H'):ExtL t H H':=fun x u e _ _=>s x u e
theorem ExtL.lst {l:Addr} {xs:List V} (b:But l H H') (e:H l=some (.lst xs)):ExtL t H H':=fun x u z h1 _=>b x u (fun y=>by rw [y,e] at z; cases z; exact h1 _ rfl) z
theorem ExtL.lev {p dx:Addr} {fs:List (Str × V)} (b:But p H H') (e:H p=some (.ins t.Zaw dx fs)):ExtL t H H':=fun x u z _ h2=>b x u (fun y=>by rw [y,e] at z; cases z; exact h2 _ _ rfl) z
theorem ZI4 (T:Txt K mg t) (v:W3):cw t v ≠ t.Zaw:=by
 cases v
 ·exact T.Zvv
 ·exact T.Zoy
 ·exact T.ZwB
theorem FmAt.extL (T:Txt K mg t) (s:ExtL t H H'):∀ {n:Nat} {p:Addr} {f:Fm},FmAt t H n p f→FmAt t H' n p f
 | 0,_,_,h=>h
 | n + 1,p,f,h=>by
  cases f with
  | lamp k=>obtain ⟨dx,e⟩ :=h; exact ⟨dx,s _ _ e (fun _ z=>nomatch z) fun _ _ z=>T.Zta (HO.ins.inj z).1⟩
  | sure b=>obtain ⟨dx,e⟩ :=h; exact ⟨dx,s _ _ e (fun _ z=>nomatch z) fun _ _ z=>T.Ztb (HO.ins.inj z).1⟩
  | neg g=>obtain ⟨dx,q,e,h⟩ :=h; exact ⟨dx,q,s _ _ e (fun _ z=>nomatch z) (fun _ _ z=>T.ZvA (HO.ins.inj z).1),FmAt.extL T s h⟩
  | join w gs=>obtain ⟨dx,tp,ps,e,e2,h⟩ :=h; exact ⟨dx,tp,ps,s _ _ e (fun _ z=>nomatch z) (fun _ _ z=>ZI4 T w (HO.ins.inj z).1),s _ _ e2 (fun _ z=>nomatch z) (fun _ _ z=>nomatch z),ZaH (fun a b h=>FmAt.extL T s h) h⟩
theorem FmE.extL (T:Txt K mg t) (s:ExtL t H H') {p:Addr} {f:Fm} (h:FmE t H p f):FmE t H' p f:=let ⟨n,h⟩ :=h; ⟨n,h.extL T s⟩
theorem FmE.same (s:Same H H') {p:Addr} {f:Fm} (h:FmE t H p f):FmE t H' p f:=let ⟨n,h⟩ :=h; ⟨n,h.mono (Ext.of s)⟩
theorem FmE.neg {q p dx:Addr} {f:Fm} (e:H q=some (.ins t.C_Not dx [(("part" : Str),.ref p)])) (h:FmE t H p f):FmE t H q (.neg f):=let ⟨n,h⟩ :=h; ⟨n + 1,dx,p,e,h⟩
theorem ZJb:∀ {ps:List Addr} {fs:List Fm},Paired (FmE t H) ps fs→∃ n,Paired (FmAt t H n) ps fs
 | _,_,.nil=>⟨0,.nil⟩
 | _,_,.cons h r=>by
  obtain ⟨n,h⟩ :=h
  obtain ⟨m,r⟩ :=ZJb r
  exact ⟨max n m,.cons (h.le (Nat.le_max_left _ _)) (ZaH (fun _ _ z=>z.le (Nat.le_max_right _ _)) r)⟩
theorem FmE.join {x dx tp:Addr} {ps:List Addr} {fs:List Fm} {v:W3} (e:H x=some (.ins (cw t v) dx [(("parts" : Str),.ref tp)])) (e2:H tp=some (.tup (ps.map V.ref))) (h:Paired (FmE t H) ps fs):FmE t H x (.join v fs):=
 let ⟨n,h⟩ :=ZJb h; ⟨n + 1,dx,tp,ps,e,e2,h⟩
theorem FmsE.snoc {l:Addr} {ps:List Addr} {fs:List Fm} {q:Addr} {f:Fm} (e:H l=some (.lst (ps.map V.ref ++ [.ref q]))) (h:Paired (FmE t H) ps fs) (hq:FmE t H q f):FmsE t H l (fs ++ [f]):=
 ⟨ps ++ [q],by rw [List.map_append]; exact e,ZdV h (.cons hq .nil)⟩
def Zff (n:Nat) (a e o:Addr) (b:Bool):List (Str × V):=[(("nots" : Str),.int (n:Int)),(("ands" : Str),.ref a),(("eithers" : Str),.ref e),(("ors" : Str),.ref o),(("lacking" : Str),.bl b)]
structure LvAt (t:Ad) (H:Hp) (p dx a e o:Addr) (L:Lv):Prop where
 ob:H p=some (.ins t.Zaw dx (Zff L.nots a e o L.lack))
 la:FmsE t H a L.ands
 le:FmsE t H e L.eithers
 lo:FmsE t H o L.ors
 ae:a ≠ e
 ao:a ≠ o
 eo:e ≠ o
theorem FmsE.keep (T:Txt K mg t) (s:ExtL t H H') {l:Addr} {fs:List Fm} (h:FmsE t H l fs) (k:∀ xs,H l=some (.lst xs)→H' l=some (.lst xs)):FmsE t H' l fs:=by
 obtain ⟨ps,e,p⟩ :=h
 exact ⟨ps,k _ e,ZaH (fun _ _ z=>FmE.extL T s z) p⟩
theorem LvAt.keep (T:Txt K mg t) {p dx a e o:Addr} {L:Lv} (V:LvAt t H p dx a e o L) (s:ExtL t H H') (k:∀ x u,x=p∨x=a∨x=e∨x=o→H x=some u→H' x=some u):LvAt t H' p dx a e o L:=
 ⟨k _ _ (.inl rfl) V.ob,V.la.keep T s fun _ z=>k _ _ (.inr (.inl rfl)) z,V.le.keep T s fun _ z=>k _ _ (.inr (.inr (.inl rfl))) z,V.lo.keep T s fun _ z=>k _ _ (.inr (.inr (.inr rfl))) z,V.ae,V.ao,V.eo⟩
theorem LvAt.same (T:Txt K mg t) {p dx a e o:Addr} {L:Lv} (V:LvAt t H p dx a e o L) (s:Same H H'):LvAt t H' p dx a e o L:=V.keep T (ExtL.of s) fun x u _ z=>s x u z
def ZtG (t:Ad) (v:W3):Sp:=fun vs H Q _=>∃ (l:Addr) (fs:List Fm),vs=[.ref l]∧FmsE t H l fs∧∀ q H',Same H H'→FmE t H' q (ZcX v fs)→Q (.ref q) H'
theorem ZEm (T:Txt K mg t):FnS P w K mg base 3 "and_of" ["parts"] ((ZtG t .a)):=by
 refine ⟨_,_,T.ZwC.ok ZES (fun vs H Q E h=>?_) (fun cdv A outer s H vs Q E hr h=>?_),T.ZBd,T.ZwC.kp,T.ZBN⟩
 ·obtain ⟨l,fs,rfl,hF,q⟩ :=h
  rfl
 obtain ⟨l,fs,rfl,hF,q⟩ :=h
 obtain ⟨ps,hl,hp⟩ :=hF
 have M_And:=ZJT (P:=P) (w:=w) (base:=base) T
 have hz:=Zcg hp
 refine ⟨_,(Zaf (Zay (ZqM (Zal (ZaU hr.units) (ZaM ZaW rfl T.B.len Zdr (Zaa (pv 0) Zad)) Zae (Zax _)) (ZaZ ZaA (pv 0) Zae (fun _ _=>rfl)) (ZAX M_And hr (Zaa (pv 0) Zad))))),?_⟩
 walk_at "rd0"
 rw [List.length_map,hz]
 refine Zcj (fun h=>?_) (fun h=>?_)
 ·match ps,fs,hp,hz with
  | [p0],[f0],.cons h0 .nil,_=>
   walk_at "rd"
   refine Zgj (j:=0) (v:=.ref p0) hl rfl ?_
   exact q p0 H (Same.refl _) h0
  | [],[],_,_=>exact absurd h (by decide)
  | _ :: _ :: _,_ :: _ :: _,_,_=>simp only [List.length_cons] at h; omega
 ·walk_at "rd"
  refine ZAB hl fun x dx tp H1 s1 n1 e1 e2=>?_
  refine q x H1 s1 ?_
  rw [Zqd (by omega)]
  exact FmE.join (v:=.a) e1 e2 (ZaH (fun _ _ z=>FmE.same s1 z) hp)
theorem Zzt (T:Txt K mg t):FnS P w K mg base 3 "either_of" ["parts"] ((ZtG t .e)):=by
 refine ⟨_,_,T.ZoH.ok ZzH (fun vs H Q E h=>?_) (fun cdv A outer s H vs Q E hr h=>?_),T.Zt2,T.ZoH.kp,T.ZuM⟩
 ·obtain ⟨l,fs,rfl,hF,q⟩ :=h
  rfl
 obtain ⟨l,fs,rfl,hF,q⟩ :=h
 obtain ⟨ps,hl,hp⟩ :=hF
 have ZFq:=ZEl (P:=P) (w:=w) (base:=base) T
 have hz:=Zcg hp
 refine ⟨_,(Zaf (Zay (ZqM (Zal (ZaU hr.units) (ZaM ZaW rfl T.B.len Zdr (Zaa (pv 0) Zad)) Zae (Zax _)) (ZaZ ZaA (pv 0) Zae (fun _ _=>rfl)) (ZAX ZFq hr (Zaa (pv 0) Zad))))),?_⟩
 walk_at "rd0"
 rw [List.length_map,hz]
 refine Zcj (fun h=>?_) (fun h=>?_)
 ·match ps,fs,hp,hz with
  | [p0],[f0],.cons h0 .nil,_=>
   walk_at "rd"
   refine Zgj (j:=0) (v:=.ref p0) hl rfl ?_
   exact q p0 H (Same.refl _) h0
  | [],[],_,_=>exact absurd h (by decide)
  | _ :: _ :: _,_ :: _ :: _,_,_=>simp only [List.length_cons] at h; omega
 ·walk_at "rd"
  refine ZAB hl fun x dx tp H1 s1 n1 e1 e2=>?_
  refine q x H1 s1 ?_
  rw [Zqd (by omega)]
  exact FmE.join (v:=.e) e1 e2 (ZaH (fun _ _ z=>FmE.same s1 z) hp)
theorem ZF7 (T:Txt K mg t):FnS P w K mg base 3 "or_of" ["parts"] ((ZtG t .o)):=by
 refine ⟨_,_,T.Zz8.ok ZGm (fun vs H Q E h=>?_) (fun cdv A outer s H vs Q E hr h=>?_),T.ZC1,T.Zz8.kp,T.ZD8⟩
 ·obtain ⟨l,fs,rfl,hF,q⟩ :=h
  rfl
 obtain ⟨l,fs,rfl,hF,q⟩ :=h
 obtain ⟨ps,hl,hp⟩ :=hF
 have M_Or:=ZK6 (P:=P) (w:=w) (base:=base) T
 have hz:=Zcg hp
 refine ⟨_,(Zaf (Zay (ZqM (Zal (ZaU hr.units) (ZaM ZaW rfl T.B.len Zdr (Zaa (pv 0) Zad)) Zae (Zax _)) (ZaZ ZaA (pv 0) Zae (fun _ _=>rfl)) (ZAX M_Or hr (Zaa (pv 0) Zad))))),?_⟩
 walk_at "rd0"
 rw [List.length_map,hz]
 refine Zcj (fun h=>?_) (fun h=>?_)
 ·match ps,fs,hp,hz with
  | [p0],[f0],.cons h0 .nil,_=>
   walk_at "rd"
   refine Zgj (j:=0) (v:=.ref p0) hl rfl ?_
   exact q p0 H (Same.refl _) h0
  | [],[],_,_=>exact absurd h (by decide)
  | _ :: _ :: _,_ :: _ :: _,_,_=>simp only [List.length_cons] at h; omega
 ·walk_at "rd"
  refine ZAB hl fun x dx tp H1 s1 n1 e1 e2=>?_
  refine q x H1 s1 ?_
  rw [Zqd (by omega)]
  exact FmE.join (v:=.o) e1 e2 (ZaH (fun _ _ z=>FmE.same s1 z) hp)
theorem ZKY {p:Addr} {x:Str} {ns:List Str} {Q:VK} (h:SqT K H p (ns.map V.str)) (k:Q (.bl (decide (x ∈ ns))) H):rInG K (.str x) (.ref p) H Q:=by
 refine .inr ⟨p,ns.map V.str,rfl,.inr h,rfl,?_,?_⟩
 ·rw [List.all_eq_true]
  intro v hv
  obtain ⟨z,_,rfl⟩ :=List.mem_map.mp hv
  rfl
 ·rw [Zw3]
  exact k
def ZvH (z:Str):Prop:=(reprText z).length≤900000
def ZGs (t:Ad):Sp:=fun vs H Q E=>∃ (z:Str) (nl:Addr) (ns:List Str),vs=[.str z,.ref nl]∧H nl=some (.lst (ns.map V.str))∧ns.length≤1000∧ZvH z∧(∀ f,ZhD ns z=some f→∀ q H',Same H H'→FmE t H' q f→Q (.ref q) H')∧(ZhD ns z=none→∀ H',Same H H'→E (.ref t.Zag) none H')
theorem ZEq (T:Txt K mg t):FnS1 P w K mg base 3 "single" ["word","names"] ((ZGs t)):=by
 refine ⟨_,_,T.ZwD.ok1 ZEU (fun vs H Q E h=>?_) (fun cdv A outer s H vs Q E hr h=>?_),T.ZBe,T.ZwD.kp,T.ZBO⟩
 ·obtain ⟨z,nl,ns,rfl,hn,h1000,hpl,q1,q2⟩ :=h
  rfl
 obtain ⟨z,nl,ns,rfl,hn,h1000,hpl,q1,q2⟩ :=h
 have ZGA:=ZIk (P:=P) (w:=w) (base:=base) T
 have ZI0:=ZIj (P:=P) (w:=w) (base:=base) T
 unfold ZhD at q1 q2
 refine ⟨_,(Zac (PS.nox (Za7 (Zal (ZaU hr.units) (pv 0) Zak (Zax _))
   (Zaf (Zay (ZAX ZGA hr (Zaa Zny Zad))))
   Zaz))
   (Zac (PS.nox (Za7 (Zal (ZaU hr.units) (pv 0) Zak (Zax _))
   (Zaf (Zay (ZAX ZGA hr (Zaa Zny Zad))))
   Zaz))
   (Zac (PS.nox (Za7 (Zal Zu6 (pv 0) (pv 1) (by with_unfolding_all rfl))
   (Zaf (Zay (ZAX ZI0 hr (Zaa (ZkQ PySem.F.plainAttrs_list PySem.F.slot_list_index PySem.F.type_list_index ZF0 (pv 1) (Zaa (pv 0) Zad)) Zad))))
   Zaz))
   (Zaf (ZtD rfl ZFU T.Zez.own rfl T.Zew (PA.nox (Zaa (ZqN (ZkR (ZEB (pv 0)) (ZkR Zak ZBV))) Zad))))))),?_⟩
 walk_at "rd0"
 refine Zcj (fun h1=>?_) (fun h1=>?_)
 ·rw [if_pos h1] at q1
  walk_at "rd"
  refine Zw1 fun x dx H1 s1 n1 e1=>?_
  exact q1 _ rfl x H1 s1 ⟨1,dx,e1⟩
 rw [if_neg h1] at q1 q2
 walk_at "rd"
 refine Zcj (fun h2=>?_) (fun h2=>?_)
 ·rw [if_pos h2] at q1
  walk_at "rd"
  refine Zw1 fun x dx H1 s1 n1 e1=>?_
  exact q1 _ rfl x H1 s1 ⟨1,dx,e1⟩
 rw [if_neg h2] at q1 q2
 walk_at "rd"
 refine ZCw (.inl hn) ?_
 walk_at "rd"
 cases hi:idxS z ns with
 | some j=>
  rw [hi] at q1
  obtain ⟨hj,hno⟩ :=Zuu hi
  have hjl:=(List.getElem?_eq_some_iff.mp hj).1
  refine ZdP (decide_eq_true (List.mem_of_getElem? hj)) ?_
  walk_at "rd"
  refine ⟨tyL hn,?_⟩
  walk_at "rd"
  refine ZHY hn hj hno (by omega) ?_
  walk_at "rd"
  refine Zw1 fun x dx H1 s1 n1 e1=>?_
  exact q1 _ rfl x H1 s1 ⟨1,dx,e1⟩
 | none=>
  rw [hi] at q2
  refine Zcc (decide_eq_false (ZyL hi)) ?_
  walk_at "rd"
  (try dsimp only)
  refine Zw2 ?_
  walk_at "rd"
  have hpl':(reprText z).length≤900000:=hpl
  have e0:Str.empty.length=0:=rfl
  have e:=Zan Str.empty (reprText z)
  have e1:=Zan (Str.empty ++ reprText z) " has no place there"
  have e2:Str.length " has no place there" = 19:=rfl
  refine ⟨_,rfl,Zcd (by omega),_,rfl,Zcd (by omega),?_⟩
  walk_at "rd"
  refine ⟨_,rfl,Zcd (by omega),Zcd (by omega),?_⟩
  walk_at "rd"
  exact ⟨Nat.le_of_ble_eq_true rfl,q2 rfl H (Same.refl _)⟩
def ZE1 (t:Ad):Sp:=fun vs H Q _=>∃ (p dx:Addr),vs=[.ref p]∧H p=some (.ins t.Zaw dx [])∧∀ a e o H',But p H H'→H a=none→H e=none→H o=none→LvAt t H' p dx a e o Lv.new→Q .non H'
theorem ZF5 (T:Txt K mg t):MkS P w K mg base 2 "Level" t.Zaw ["self"] (ZE1 t):=by
 refine ⟨T.ZD6,_,_,T.ZDV,T.ZrN.ok ZxT (fun vs H Q E h=>?_) (fun cdv A outer s H vs Q E hr h=>?_),T.Zr1⟩
 ·obtain ⟨p,dx,rfl,_⟩ :=h
  rfl
 obtain ⟨p,dx,rfl,hp0,q⟩ :=h
 refine ⟨_,(Zac (ZhA (pv 0) Zae rfl)
   (Zac (ZhA (pv 0) (ZaN Zad) rfl)
   (Zac (ZhA (pv 0) (ZaN Zad) rfl)
   (Zac (ZhA (pv 0) (ZaN Zad) rfl)
   (Zaf (ZhA (pv 0) Zny rfl)))))),?_⟩
 walk_at "rd0"
 refine Zuw hp0 T.Zbd T.ZbZ (by decide) fun H1 b1 e1=>?_
 walk_at "rd"
 refine Zcu (by simp) fun a H2 s2 n2 e2=>?_
 walk_at "rd"
 refine Zuw (s2 _ _ e1) T.Zbd T.Zcl (Nat.le_of_ble_eq_true rfl) fun H3 b3 e3=>?_
 walk_at "rd"
 refine Zcu (by simp) fun e H4 s4 n4 e4=>?_
 walk_at "rd"
 refine Zuw (s4 _ _ e3) T.Zbd T.Zbm (Nat.le_of_ble_eq_true rfl) fun H5 b5 e5=>?_
 walk_at "rd"
 refine Zcu (by simp) fun o H6 s6 n6 e6=>?_
 walk_at "rd"
 refine Zuw (s6 _ _ e5) T.Zbd T.ZdE (Nat.le_of_ble_eq_true rfl) fun H7 b7 e7=>?_
 walk_at "rd"
 refine Zuw e7 T.Zbd T.ZaD (Nat.le_of_ble_eq_true rfl) fun H8 b8 e8=>?_
 have pa:a ≠ p:=(Zao e1 n2).symm
 have pe:e ≠ p:=(Zao e3 n4).symm
 have po:o ≠ p:=(Zao e5 n6).symm
 have a3:=b3 _ _ pa e2
 have a5:=b5 _ _ pa (s4 _ _ a3)
 have ee5:=b5 _ _ pe e4
 have k13:∀ x u,x ≠ p→H x=some u→H3 x=some u:=fun x u hx z=>b3 _ _ hx (s2 _ _ (b1 _ _ hx z))
 have k15:∀ x u,x ≠ p→H x=some u→H5 x=some u:=fun x u hx z=>b5 _ _ hx (s4 _ _ (k13 _ _ hx z))
 refine q a e o H8 (fun x u hx z=>b8 _ _ hx (b7 _ _ hx (s6 _ _ (k15 _ _ hx z)))) ?_ ?_ ?_ ⟨e8,⟨[],b8 _ _ pa (b7 _ _ pa (s6 _ _ a5)),.nil⟩,⟨[],b8 _ _ pe (b7 _ _ pe (s6 _ _ ee5)),.nil⟩,⟨[],b8 _ _ po (b7 _ _ po e6),.nil⟩,Zao a3 n4,Zao a5 n6,Zao ee5 n6⟩
 ·cases z:H a with
  | none=>rfl
  | some u=>rw [b1 _ _ pa z] at n2; cases n2
 ·cases z:H e with
  | none=>rfl
  | some u=>rw [k13 _ _ pe z] at n4; cases n4
 ·cases z:H o with
  | none=>rfl
  | some u=>rw [k15 _ _ po z] at n6; cases n6
theorem ZDM {Q:VK} (h:∀ (p dx a e o:Addr) (H':Hp),Same H H'→H p=none→H a=none→H e=none→H o=none→LvAt t H' p dx a e o Lv.new→Q (.ref p) H'):MkG t.Zaw (ZE1 t) [] H Q:=by
 intro x dx hx hdx ne
 have s2:=Zvd hx hdx (.ins t.Zaw dx []) (.own x)
 refine ⟨x,dx,rfl,Za3,fun a e o H' b ha he ho V=>⟨rfl,?_⟩⟩
 exact h x dx a e o H' (fun y u z=>b y u (Zao z hx) (s2 y u z)) hx (s2.free ha) (s2.free he) (s2.free ho) V
theorem ZB3 (n m:Nat) (a e o:Addr) (b:Bool):putF "nots" (.int (m:Int)) (Zff n a e o b)=Zff m a e o b:=rfl
theorem ZGh (n:Nat) (a a' e o:Addr) (b:Bool):putF "ands" (.ref a') (Zff n a e o b)=Zff n a' e o b:=rfl
theorem ZAZ (n:Nat) (a e e' o:Addr) (b:Bool):putF "eithers" (.ref e') (Zff n a e o b)=Zff n a e' o b:=rfl
theorem Zva (n:Nat) (a e o:Addr) (b b':Bool):putF "lacking" (.bl b') (Zff n a e o b)=Zff n a e o b':=rfl
theorem ZBG (n:Nat) (a e o:Addr) (b:Bool):(Zff n a e o b).lookup ("nots" : Str)=some (.int (n:Int)):=rfl
theorem ZBF (n:Nat) (a e o:Addr) (b:Bool):(Zff n a e o b).lookup ("ands" : Str)=some (.ref a):=rfl
theorem ZuD (n:Nat) (a e o:Addr) (b:Bool):(Zff n a e o b).lookup ("eithers" : Str)=some (.ref e):=rfl
theorem ZD3 (n:Nat) (a e o:Addr) (b:Bool):(Zff n a e o b).lookup ("ors" : Str)=some (.ref o):=rfl
theorem Zfu (n:Nat) (a e o:Addr) (b:Bool):(Zff n a e o b).lookup ("lacking" : Str)=some (.bl b):=rfl
theorem Zqq (n:Nat) (a e o:Addr) (b:Bool):(Zff n a e o b).lookup ("take_part" : Str)=none:=rfl
theorem Zqp (n:Nat) (a e o:Addr) (b:Bool):(Zff n a e o b).lookup ("take_join" : Str)=none:=rfl
theorem Zxc (n:Nat) (a e o:Addr) (b:Bool):(Zff n a e o b).lookup ("take_word" : Str)=none:=rfl
theorem ZyX (n:Nat) (a e o:Addr) (b:Bool):(Zff n a e o b).lookup ("whole" : Str)=none:=rfl
def isLv (t:Ad) (C:Addr):Prop:=C=t.Zaw
def ZKy (t:Ad):Sp:=fun vs H Q _=>∃ (p dx a e o q:Addr) (L:Lv) (f:Fm),vs=[.ref p,.ref q]∧LvAt t H p dx a e o L∧FmE t H q f∧L.size < 900000∧∀ H',Off2 p a H H'→LvAt t H' p dx a e o (L.part f)→Q .non H'
theorem ZnC (T:Txt K mg t):∀ C,isLv t C→MeS P w K mg base 3 C "take_part" ["self","part"] (spAt (ZKy t) C):=by
 rintro C rfl
 refine ⟨T.Zbd,_,_,T.Zi7.ok Zfd (fun vs H Q E h=>?_) (fun cdv A outer s H vs Q E hr h=>?_),T.Zjc,T.Zjp⟩
 ·obtain ⟨⟨p,dx,a,e,o,q,L,f,rfl,_⟩,_⟩ :=h
  rfl
 obtain ⟨⟨p,dx,a,e,o,q,L,f,rfl,Y,hf,hz,k⟩,_⟩ :=h
 have M_Not:=ZJU (P:=P) (w:=w) (base:=base) T
 have hz':L.nots < 900000∧L.ands.length < 900000:=by unfold Lv.size at hz; omega
 refine ⟨_,(Zac (Zlm PassesOwn.never rfl (ZqQ rfl T.B.range (Zaa (Zfg (pv 0) rfl) Zad)) (sg 2 Zfd.nd)
   (Zaf (ss 1 Zfd.nd (ZAX M_Not hr (Zaa (pv 1) Zad)))))
   (Zac (ZhA (pv 0) Zae rfl)
   (Zac (ZcP (ZkQ PySem.F.plainAttrs_list PySem.F.slot_list_append PySem.F.type_list_append Zb9 (Zfg (pv 0) rfl) (Zaa (pv 1) Zad)))
   (Zaf (ZhA (pv 0) Zny rfl))))),?_⟩
 walk_at "rd0"
 refine ⟨p,_,_,_,_,rfl,Y.ob,T.Zbd,T.ZbZ,ZBG _ _ _ _ _,?_⟩
 walk_at "rd"
 refine ⟨_,rfl,by omega,by omega,?_⟩
 rw [Int.toNat_natCast]
 refine ZBH (n:=L.nots) (fun i σ H'=>Same H H'∧∃ q' v2,FmE t H' q' (negs i f)∧σ=[some (.ref p),some (.ref q'),v2]) ⟨Same.refl _,q,_,hf,rfl⟩ ?_ ?_
 ·rintro i σ H1 hi ⟨s1,q',v2,hq,rfl⟩
  walk_at "rd"
  refine Zw1 fun x dx' H2 s2 n2 e2=>?_
  walk_at "rd"
  exact ⟨s1.trans s2,x,_,FmE.neg e2 (hq.same s2),rfl⟩
 rintro σ H1 ⟨s1,q',v2,hq,rfl⟩
 have V1:=Y.same T s1
 obtain ⟨ps,ea,pa⟩ :=V1.la
 have npa:a ≠ p:=ZhI ea V1.ob (by intro z; cases z)
 have zl:=Zcg pa
 walk_at "rd"
 refine Zuw V1.ob T.Zbd T.ZbZ (Nat.le_of_ble_eq_true rfl) fun H2 b2 e2=>?_
 rw [show V.int 0=V.int ((0:Nat):Int) from rfl,ZB3] at e2
 (try dsimp only)
 have ea2:=b2 _ _ npa ea
 walk_at "rd"
 refine ⟨p,_,_,_,_,rfl,e2,T.Zbd,T.Zcl,ZBF _ _ _ _ _,?_⟩
 walk_at "rd"
 refine ⟨tyL ea2,?_⟩
 walk_at "rd"
 refine ZfG ea2 (by rw [List.length_map]; omega) fun H3 b3 e3=>?_
 have e23:=b3 _ _ npa.symm e2
 walk_at "rd"
 refine Zuw e23 T.Zbd T.ZaD (Nat.le_of_ble_eq_true rfl) fun H4 b4 e4=>?_
 rw [Zva] at e4
 have x4:ExtL t H1 H4:=(ExtL.lev b2 V1.ob).trans ((ExtL.lst b3 ea2).trans (ExtL.lev b4 e23))
 have kp:∀ x u,x ≠ p→x ≠ a→H1 x=some u→H4 x=some u:=fun x u h1 h2 z=>b4 _ _ h1 (b3 _ _ h2 (b2 _ _ h1 z))
 refine k H4 (fun x u h1 h2 z=>kp _ _ h1 h2 (s1 _ _ z)) ⟨e4,FmsE.snoc (b4 _ _ npa e3) (ZaH (fun _ _ z=>FmE.extL T x4 z) pa) (hq.extL T x4),V1.le.keep T x4 fun xs z=>kp _ _ (ZhI z V1.ob (by intro y; cases y)) Y.ae.symm z,V1.lo.keep T x4 fun xs z=>kp _ _ (ZhI z V1.ob (by intro y; cases y)) Y.ao.symm z,Y.ae,Y.ao,Y.eo⟩
def Off4 (p a e o:Addr) (H H':Hp):Prop:=∀ b u,b ≠ p→b ≠ a→b ≠ e→b ≠ o→H b=some u→H' b=some u
theorem ExtL.off4 {p dx a e o:Addr} {L:Lv} (Y:LvAt t H p dx a e o L) (k:Off4 p a e o H H'):ExtL t H H':=fun x u z h1 h2=>by
 obtain ⟨pa,ea,_⟩ :=Y.la
 obtain ⟨pe,ee,_⟩ :=Y.le
 obtain ⟨po,eo,_⟩ :=Y.lo
 exact k x u (fun y=>by rw [y,Y.ob] at z; cases z; exact h2 _ _ rfl) (fun y=>by rw [y,ea] at z; cases z; exact h1 _ rfl) (fun y=>by rw [y,ee] at z; cases z; exact h1 _ rfl) (fun y=>by rw [y,eo] at z; cases z; exact h1 _ rfl) z
def ZIG (t:Ad):Sp:=fun vs H Q _=>∃ (p dx a e o:Addr) (L:Lv) (v:W3),vs=[.ref p,.str (kw3 v)]∧LvAt t H p dx a e o L∧L.size < 900000∧∀ a' e' H',(a'=a∨H a'=none)→(e'=e∨H e'=none)→Off4 p a e o H H'→LvAt t H' p dx a' e' o (L.join v)→Q .non H'
theorem ZDQ (T:Txt K mg t) {p dx a e o:Addr} {M:Lv} {R:Hp→Prop} (Y:LvAt t H p dx a e o M) (kk:∀ H'',But p H H''→LvAt t H'' p dx a e o ⟨M.nots,M.ands,M.eithers,M.ors,true⟩ →R H''):∃ a C dx fs,(V.ref p)=.ref a∧H a=some (.ins C dx fs)∧Cls K C∧Zar K C "lacking"∧fs.length < 1000∧R (upd H a (.ins C dx (putF "lacking" (.bl true) fs))):=by
 refine Zuw Y.ob T.Zbd T.ZaD (Nat.le_of_ble_eq_true rfl) fun H'' b e1=>?_
 rw [Zva] at e1
 have x:=ExtL.lev b Y.ob
 exact kk H'' b ⟨e1,Y.la.keep T x fun _ z=>b _ _ (ZhI z Y.ob (by intro y; cases y)) z,Y.le.keep T x fun _ z=>b _ _ (ZhI z Y.ob (by intro y; cases y)) z,Y.lo.keep T x fun _ z=>b _ _ (ZhI z Y.ob (by intro y; cases y)) z,Y.ae,Y.ao,Y.eo⟩
theorem ZnB (T:Txt K mg t):∀ C,isLv t C→MeS P w K mg base 5 C "take_join" ["self","word"] (spAt (ZIG t) C):=by
 rintro C rfl
 refine ⟨T.Zbd,_,_,T.Zi6.ok Zq6 (fun vs H Q E h=>?_) (fun cdv A outer s H vs Q E hr h=>?_),T.Zjb,T.Zjo⟩
 ·obtain ⟨⟨p,dx,a,e,o,L,v,rfl,_⟩,_⟩ :=h
  rfl
 obtain ⟨⟨p,dx,a,e,o,L,v,rfl,Y,hz,k⟩,_⟩ :=h
 have ZFo:=ZEm (P:=P) (w:=w) (base:=base) T
 have ZAd:=Zzt (P:=P) (w:=w) (base:=base) T
 have hz':L.ands.length < 900000∧L.eithers.length < 900000∧L.ors.length < 900000:=by unfold Lv.size at hz; omega
 refine ⟨_,(Zac (Za7 (Zal (Zzv hr.units) (pv 1) Zak (Zax _))
   (Zac (ZcP (ZkQ PySem.F.plainAttrs_list PySem.F.slot_list_append PySem.F.type_list_append Zb9 (Zfg (pv 0) rfl) (Zaa (Zce ZFo hr (Zaa (Zfg (pv 0) rfl) Zad)) Zad)))
   (Zaf (ZhA (pv 0) (ZaN Zad) rfl)))
   Zaz)
   (Zac (Za7 (Zal (ZaU hr.units) (pv 1) Zak (Zax _))
   (Zac (ZcP (ZkQ PySem.F.plainAttrs_list PySem.F.slot_list_append PySem.F.type_list_append Zb9 (Zfg (pv 0) rfl) (Zaa (Zce ZAd hr (Zaa (Zfg (pv 0) rfl) Zad)) Zad)))
   (Zaf (ZhA (pv 0) (ZaN Zad) rfl)))
   Zaz)
   (Zaf (ZhA (pv 0) Zny rfl)))),?_⟩
 walk_at "rs"
 refine Zhg (fun σ H'=>(v=.a→H=H')∧(v ≠ .a→∃ a',H a'=none∧Off2 p e H H'∧LvAt t H' p dx a' e o ⟨L.nots,[],L.eithers ++ [ZcX .a L.ands],L.ors,L.lack⟩)∧σ=[some (.ref p),some (.str (kw3 v))]) ?_ ?_
 rotate_left
 ·intro Kn hK
  have eithers:(v ≠ .a)→tSeq (ZIN (tBM K "list" ZxO (tFld K (tVar 0) "eithers") (Zvs (tFn (ZtG t .a) (Zvs (tFld K (tVar 0) "ands") tNil)) tNil))) (sFld K (tVar 0) (tLst tNil) "ands") { nx:=Kn,rt:=Q } [some (.ref p),some (.str (kw3 v))] H:=fun hv=>by
   obtain ⟨pe,ee,qe⟩ :=id Y.le
   have ze:=Zcg qe
   have npe:e ≠ p:=ZhI ee Y.ob (by intro z; cases z)
   walk_at "rd"
   refine ⟨p,_,_,_,_,rfl,Y.ob,T.Zbd,T.Zbm,ZuD _ _ _ _ _,?_⟩
   walk_at "rd"
   refine ⟨tyL ee,?_⟩
   walk_at "rd"
   refine ⟨p,_,_,_,_,rfl,Y.ob,T.Zbd,T.Zcl,ZBF _ _ _ _ _,?_⟩
   walk_at "rd"
   refine ⟨a,_,rfl,Y.la,fun q H1 s1 hq=>?_⟩
   have Y1:=Y.same T s1
   have ee1:=s1 _ _ ee
   walk_at "rd"
   refine ZfG ee1 (by rw [List.length_map]; omega) fun H2 b2 e2=>?_
   have ob2:=b2 _ _ npe.symm Y1.ob
   walk_at "rd"
   refine Zcu (by simp) fun a' H3 s3 n3 e3=>?_
   walk_at "rd"
   refine Zuw (s3 _ _ ob2) T.Zbd T.Zcl (Nat.le_of_ble_eq_true rfl) fun H4 b4 e4=>?_
   rw [ZGh] at e4
   have x24:ExtL t H2 H4:=(ExtL.of s3).trans (ExtL.lev b4 (s3 _ _ ob2))
   have x14:ExtL t H1 H4:=(ExtL.lst b2 ee1).trans x24
   have nap:a' ≠ p:=(Zao ob2 n3).symm
   have kp:∀ x u,x ≠ p→x ≠ e→H x=some u→H4 x=some u:=fun x u h1 h2 z=>b4 _ _ h1 (s3 _ _ (b2 _ _ h2 (s1 _ _ z)))
   obtain ⟨po,eo,qo⟩ :=id Y.lo
   have nop:o ≠ p:=ZhI eo Y.ob (by intro z; cases z)
   have na:H a'=none:=by
    cases z:H a' with
    | none=>rfl
    | some u=>
     by_cases y:a'=e
     ·subst y; rw [e2] at n3; cases n3
     ·rw [b2 _ _ y (s1 _ _ z)] at n3; cases n3
   refine hK _ _ ⟨fun z=>absurd z hv,fun _=>⟨a',na,fun x u h1 h3 z=>kp x u h1 h3 z,⟨e4,⟨[],b4 _ _ nap e3,.nil⟩,FmsE.snoc (b4 _ _ npe (s3 _ _ e2)) (ZaH (fun _ _ z=>FmE.extL T x14 (FmE.same s1 z)) qe) (hq.extL T x14),Y.lo.keep T ((ExtL.of s1).trans x14) fun xs z=>kp _ _ nop Y.eo.symm z,?_,?_,Y.eo⟩⟩,rfl⟩
   ·exact fun y=>by subst y; rw [e2] at n3; cases n3
   ·exact fun y=>by subst y; rw [b2 _ _ Y.eo.symm (s1 _ _ eo)] at n3; cases n3
  walk_at "rs"
  cases v with
  | a=>
   refine Zcc rfl ?_
   walk_at "rs"
   exact hK _ _ ⟨fun _=>rfl,fun z=>absurd rfl z,rfl⟩
  | e=>exact ZdP (by decide) (eithers (by decide))
  | o=>exact ZdP (by decide) (eithers (by decide))
 rintro σ H1 ⟨ha,hn,rfl⟩
 walk_at "rs"
 cases v with
 | a=>
  obtain rfl:=ha rfl
  refine ZiZ ?_
  walk_at "rs"
  refine Zcc rfl ?_
  walk_at "rs"
  refine ZDQ T Y fun H2 b2 Y2=>?_
  exact k a e H2 (.inl rfl) (.inl rfl) (fun x u h1 _ _ _ z=>b2 _ _ h1 z) Y2
 | e=>
  obtain ⟨a',na,o1,Y1⟩ :=hn (by decide)
  refine ZiZ ?_
  walk_at "rs"
  refine Zcc rfl ?_
  walk_at "rs"
  refine ZDQ T Y1 fun H2 b2 Y2=>?_
  exact k a' e H2 (.inr na) (.inl rfl) (fun x u h1 h2 h3 h4 z=>b2 _ _ h1 (o1 _ _ h1 h3 z)) Y2
 | o=>
  obtain ⟨a',na,o1,Y1⟩ :=hn (by decide)
  refine ZiZ ?_
  walk_at "rs"
  refine ZdP rfl ?_
  obtain ⟨po,eo,qo⟩ :=id Y1.lo
  have zo:=Zcg qo
  have nop:o ≠ p:=ZhI eo Y1.ob (by intro z; cases z)
  obtain ⟨pa1,ea1,_⟩ :=id Y1.la
  obtain ⟨pe1,ee1,_⟩ :=id Y1.le
  walk_at "rd"
  refine ⟨p,_,_,_,_,rfl,Y1.ob,T.Zbd,T.ZdE,ZD3 _ _ _ _ _,?_⟩
  walk_at "rd"
  refine ⟨tyL eo,?_⟩
  walk_at "rd"
  refine ⟨p,_,_,_,_,rfl,Y1.ob,T.Zbd,T.Zbm,ZuD _ _ _ _ _,?_⟩
  walk_at "rd"
  refine ⟨e,_,rfl,Y1.le,fun q H2 s2 hq=>?_⟩
  have Y2:=Y1.same T s2
  have eo2:=s2 _ _ eo
  walk_at "rd"
  refine ZfG eo2 (by rw [List.length_map]; dsimp only at zo; omega) fun H3 b3 e3=>?_
  have ob3:=b3 _ _ nop.symm Y2.ob
  walk_at "rd"
  refine Zcu (by simp) fun e' H4 s4 n4 e4=>?_
  walk_at "rs"
  refine Zuw (s4 _ _ ob3) T.Zbd T.Zbm (Nat.le_of_ble_eq_true rfl) fun H5 b5 e5=>?_
  rw [ZAZ] at e5
  have x35:ExtL t H3 H5:=(ExtL.of s4).trans (ExtL.lev b5 (s4 _ _ ob3))
  have x25:ExtL t H2 H5:=(ExtL.lst b3 eo2).trans x35
  have nep:e' ≠ p:=(Zao ob3 n4).symm
  have kp:∀ x u,x ≠ p→x ≠ o→H1 x=some u→H5 x=some u:=fun x u h1 h2 z=>b5 _ _ h1 (s4 _ _ (b3 _ _ h2 (s2 _ _ z)))
  have nap:a' ≠ p:=ZhI ea1 Y1.ob (by intro z; cases z)
  have nf:∀ x u,x ≠ o→H1 x=some u→e' ≠ x:=fun x u h2 z y=>by subst y; rw [b3 _ _ h2 (s2 _ _ z)] at n4; cases n4
  have neo:e' ≠ o:=fun y=>by subst y; rw [e3] at n4; cases n4
  have ne1:H1 e'=none:=by
   cases z:H1 e' with
   | none=>rfl
   | some u=>exact absurd rfl (nf e' u neo z)
  have ne0:H e'=none:=by
   cases z:H e' with
   | none=>rfl
   | some u=>rw [o1 e' u nep (fun y=>by rw [y,ee1] at ne1; cases ne1) z] at ne1; cases ne1
  have Y5:LvAt t H5 p dx a' e' o ⟨L.nots,[],[],L.ors ++ [ZcX .e (L.eithers ++ [ZcX .a L.ands])],L.lack⟩ :=⟨e5,Y1.la.keep T ((ExtL.of s2).trans x25) fun xs z=>kp _ _ nap Y1.ao z,⟨[],b5 _ _ nep e4,.nil⟩,FmsE.snoc (b5 _ _ nop (s4 _ _ e3)) (ZaH (fun _ _ z=>FmE.extL T x25 (FmE.same s2 z)) qo) (hq.extL T x25),(nf a' _ Y1.ao ea1).symm,Y1.ao,neo⟩
  walk_at "rs"
  refine ZDQ T Y5 fun H6 b6 Y6=>?_
  exact k a' e' H6 (.inr na) (.inr ne0) (fun x u h1 h2 h3 h4 z=>b6 _ _ h1 (kp _ _ h1 h4 (o1 _ _ h1 h3 z))) Y6
def ZGu (t:Ad):Sp:=fun vs H Q _=>∃ (p dx a e o:Addr) (L:Lv),vs=[.ref p]∧LvAt t H p dx a e o L∧L.size < 900000∧∀ q H',Off4 p a e o H H'→FmE t H' q L.whole→Q (.ref q) H'
theorem ZCj (T:Txt K mg t):∀ C,isLv t C→MeS P w K mg base 6 C "whole" ["self"] (spAt (ZGu t) C):=by
 rintro C rfl
 refine ⟨T.Zbd,_,_,T.Zpl.ok Zv5 (fun vs H Q E h=>?_) (fun cdv A outer s H vs Q E hr h=>?_),T.Zpy,T.Zp7⟩
 ·obtain ⟨⟨p,dx,a,e,o,L,rfl,_⟩,_⟩ :=h
  rfl
 obtain ⟨⟨p,dx,a,e,o,L,rfl,Y,hz,k⟩,_⟩ :=h
 have ZHH:=ZF7 (P:=P) (w:=w) (base:=base) T
 have D_take_join:=ZnB (P:=P) (w:=w) (base:=base) T
 refine ⟨_,(Zac (ZcP (ZAW D_take_join hr (pv 0) (Zaa Zak Zad)))
   (Zaf (Zay (Zce ZHH hr (Zaa (Zfg (pv 0) rfl) Zad))))),?_⟩
 walk_at "rd0"
 refine ⟨p,_,_,_,rfl,Y.ob,rfl,Zqp _ _ _ _ _,?_⟩
 walk_at "rd"
 refine ⟨Y.ob,p,dx,a,e,o,L,.o,rfl,Y,hz,fun a' e' H1 ha he o1 Y1=>?_⟩
 walk_at "rd"
 refine ⟨p,_,_,_,_,rfl,Y1.ob,T.Zbd,T.ZdE,ZD3 _ _ _ _ _,?_⟩
 walk_at "rd"
 refine ⟨o,_,rfl,Y1.lo,fun q H2 s2 hq=>?_⟩
 exact k q H2 (fun x u h1 h2 h3 h4 z=>s2 _ _ (o1 _ _ h1 h2 h3 h4 z)) hq
def ZE6 (t:Ad):Sp:=fun vs H Q E=>∃ (p dx a e o nl:Addr) (L:Lv) (z:Str) (ns:List Str),vs=[.ref p,.str z,.ref nl]∧LvAt t H p dx a e o L∧L.size < 900000∧H nl=some (.lst (ns.map V.str))∧ns.length≤1000∧ZvH z∧
 (L.word ns z=none→∀ H',Same H H'→E (.ref t.Zag) none H')∧
 (∀ L',L.word ns z=some L'→∀ a' e' H',(a'=a∨H a'=none)→(e'=e∨H e'=none)→Off4 p a e o H H'→LvAt t H' p dx a' e' o L'→Q .non H')
theorem ZvD (T:Txt K mg t):∀ C,isLv t C→MeS1 P w K mg base 7 C "take_word" ["self","word","names"] (spAt (ZE6 t) C):=by
 rintro C rfl
 refine ⟨T.Zbd,_,_,T.Zi8.ok1 Zq7 (fun vs H Q E h=>?_) (fun cdv A outer s H vs Q E hr h=>?_),T.Zjd,T.Zjq⟩
 ·obtain ⟨⟨p,dx,a,e,o,nl,L,z,ns,rfl,_⟩,_⟩ :=h
  rfl
 obtain ⟨⟨p,dx,a,e,o,nl,L,z,ns,rfl,Y,hz,hn,h1000,hpl,k1,k2⟩,_⟩ :=h
 have ZFp:=ZEq (P:=P) (w:=w) (base:=base) T
 have D_take_part:=ZnC (P:=P) (w:=w) (base:=base) T
 have D_take_join:=ZnB (P:=P) (w:=w) (base:=base) T
 unfold Lv.word at k1 k2
 refine ⟨_,(Zaf (Za7 (PT.nox (PW.pt (Zfh (ZdW (Zfg (pv 0) rfl) (fun _=>rfl)) (Zey (Zal (ZaU hr.units) (pv 1) Zak (Zax _))))))
   (PSs.nox (Zaf (ZhA (pv 0) (Zav Zau (Zfg (pv 0) rfl) Zae) rfl)))
   (Zaf (Za7 (PT.nox (ZdW (Zfg (pv 0) rfl) (fun _=>rfl)))
   (Zaf (ZcP (ZAW D_take_part hr (pv 0) (Zaa (ZHm ZIr ZFp hr (Zaa (pv 1) (Zaa (pv 2) Zad))) Zad))))
   (Zaf (Za7 (PT.nox (Zal Zu6 (pv 1) (ZEC rfl T.g_JOINS) (by with_unfolding_all rfl)))
   (PSs.nox (Zaf (ZcP (ZAW D_take_join hr (pv 0) (Zaa (pv 1) Zad)))))
   (Zaf (ZtD rfl ZFU T.Zez.own rfl T.Zew (PA.nox (Zaa (ZqN (ZkR (ZEB (pv 1)) (ZkR Zak ZBV))) Zad)))))))))),?_⟩
 walk_at "rd0"
 refine ⟨p,_,_,_,_,rfl,Y.ob,T.Zbd,T.ZaD,Zfu _ _ _ _ _,?_⟩
 walk_at "rd"
 cases hl:L.lack with
 | true=>
  rw [hl,if_pos rfl] at k1 k2
  refine ZdP rfl ?_
  walk_at "rd"
  refine Zcj (fun h1=>?_) (fun h1=>?_)
  ·rw [if_pos h1] at k2
   walk_at "rd"
   refine ⟨p,_,_,_,_,rfl,Y.ob,T.Zbd,T.ZbZ,ZBG _ _ _ _ _,?_⟩
   walk_at "rd"
   refine Zuw Y.ob T.Zbd T.ZbZ (Nat.le_of_ble_eq_true rfl) fun H1 b1 e1=>?_
   rw [show (L.nots:Int) + 1=((L.nots + 1:Nat):Int) by omega,ZB3] at e1
   have x:=ExtL.lev b1 Y.ob
   rw [hl] at e1
   exact k2 _ rfl a e H1 (.inl rfl) (.inl rfl) (fun y u h1 _ _ _ z=>b1 _ _ h1 z) ⟨e1,Y.la.keep T x fun _ z=>b1 _ _ (ZhI z Y.ob (by intro y; cases y)) z,Y.le.keep T x fun _ z=>b1 _ _ (ZhI z Y.ob (by intro y; cases y)) z,Y.lo.keep T x fun _ z=>b1 _ _ (ZhI z Y.ob (by intro y; cases y)) z,Y.ae,Y.ao,Y.eo⟩
  ·rw [if_neg h1] at k1 k2
   walk_at "rd"
   refine ⟨p,_,_,_,_,rfl,Y.ob,T.Zbd,T.ZaD,Zfu _ _ _ _ _,?_⟩
   walk_at "rd"
   rw [hl]
   refine ZdP rfl ?_
   walk_at "rd"
   refine ⟨p,_,_,_,rfl,Y.ob,rfl,Zqq _ _ _ _ _,?_⟩
   walk_at "rd"
   refine ⟨z,nl,ns,rfl,hn,h1000,hpl,fun f hf q H1 s1 hq=>?_,fun hf H1 s1=>k1 (by rw [hf]; rfl) H1 s1⟩
   have Y1:=Y.same T s1
   walk_at "rd"
   refine ⟨Y1.ob,p,dx,a,e,o,q,L,f,rfl,Y1,hq,hz,fun H2 o2 Y2=>?_⟩
   walk_at "rd"
   exact k2 _ (by rw [hf]; rfl) a e H2 (.inl rfl) (.inl rfl) (fun y u h1 h2 _ _ z=>o2 _ _ h1 h2 (s1 _ _ z)) Y2
 | false=>
  rw [hl,if_neg (by decide)] at k1 k2
  refine Zcc rfl ?_
  refine Zcc rfl ?_
  walk_at "rd"
  refine ⟨p,_,_,_,_,rfl,Y.ob,T.Zbd,T.ZaD,Zfu _ _ _ _ _,?_⟩
  walk_at "rd"
  rw [hl]
  refine Zcc rfl ?_
  walk_at "rd"
  refine ZKY (T.q_JOINS H) ?_
  walk_at "rd"
  cases hj:ZCy z with
  | some v=>
   have ez:=ZBx hj
   subst ez
   refine ZdP (by cases v <;> decide) ?_
   walk_at "rd"
   refine ⟨p,_,_,_,rfl,Y.ob,rfl,Zqp _ _ _ _ _,?_⟩
   walk_at "rd"
   refine ⟨Y.ob,p,dx,a,e,o,L,v,rfl,Y,hz,fun a' e' H1 ha he o1 Y1=>?_⟩
   walk_at "rd"
   exact k2 _ (by rw [hj]; rfl) a' e' H1 ha he o1 Y1
  | none=>
   have nz:z ∉ (["and","either","or"]:List Str):=fun hm=>by
    unfold ZCy at hj
    simp only [List.mem_cons,List.not_mem_nil,or_false] at hm
    rcases hm with rfl | rfl | rfl
    ·rw [if_pos rfl] at hj; cases hj
    ·exact absurd hj (by decide)
    ·exact absurd hj (by decide)
   refine Zcc (decide_eq_false nz) ?_
   (try dsimp only)
   refine Zw2 ?_
   walk_at "rd"
   have hpl':(reprText z).length≤900000:=hpl
   have e0:Str.empty.length=0:=rfl
   have e:=Zan Str.empty (reprText z)
   have e1:=Zan (Str.empty ++ reprText z) " stands behind a part"
   have e2:Str.length " stands behind a part" = 21:=rfl
   refine ⟨_,rfl,Zcd (by omega),_,rfl,Zcd (by omega),?_⟩
   walk_at "rd"
   refine ⟨_,rfl,Zcd (by omega),Zcd (by omega),?_⟩
   walk_at "rd"
   exact ⟨Nat.le_of_ble_eq_true rfl,k1 (by rw [hj]; rfl) H (Same.refl _)⟩
end
end LW
set_option maxRecDepth 100000
set_option maxHeartbeats 4000000
open PySem L2
namespace LW
open PySem L2 EM
abbrev A5:=Addr × Addr × Addr × Addr × Addr
def cells:List A5→List Addr
 | []=>[]
 | x :: r=>x.1 :: x.2.2.1 :: x.2.2.2.1 :: x.2.2.2.2 :: cells r
def refs (ads:List A5):List V:=(ads.map (·.1)).reverse.map V.ref
theorem Zq3 (x:A5) (r:List A5):refs (x :: r)=refs r ++ [.ref x.1]:=by unfold refs; simp
theorem ZxP (r:List A5):(refs r).length=r.length:=by unfold refs; simp
theorem ZC0 {α:Type} (xs:List α) (y:α):atI (xs ++ [y]) (-1)=some y:=by
 unfold atI ixN
 rw [if_neg (by decide),List.length_append,List.length_singleton,if_pos (by omega)]
 have e:((-1:Int) + ((xs.length + 1:Nat):Int)).toNat=xs.length:=by omega
 show (xs ++ [y])[((-1:Int) + ((xs.length + 1:Nat):Int)).toNat]?=some y
 rw [e,List.getElem?_append_right (Nat.le_refl _),Nat.sub_self]
 rfl
def Zte (t:Ad) (H:Hp):List A5→List Lv→Prop
 | [],[]=>True
 | x :: r,L :: S=>LvAt t H x.1 x.2.1 x.2.2.1 x.2.2.2.1 x.2.2.2.2 L∧Zte t H r S
 | _,_=>False
section
variable {P:Program} {w:World} {K:PySem.W.Frag} {mg:Str→Option Value} {base:Heap} {t:Ad} {H H' H'' H0:Hp}
theorem Zte.keep (T:Txt K mg t) (s:ExtL t H H'):∀ {ads:List A5} {S:List Lv},Zte t H ads S→(∀ x u,x ∈ cells ads→H x=some u→H' x=some u)→Zte t H' ads S
 | [],[],_,_=>trivial
 | x :: r,L :: S,h,k=>by
  refine ⟨h.1.keep T s fun y u hy z=>k y u ?_ z,h.2.keep T s fun y u hy z=>k y u ?_ z⟩
  ·unfold cells
   rcases hy with rfl | rfl | rfl | rfl <;> simp
  ·unfold cells
   simp [hy]
 | [],_ :: _,h,_=>h.elim
 | _ :: _,[],h,_=>h.elim
theorem Zte.len:∀ {ads:List A5} {S:List Lv},Zte t H ads S→ads.length=S.length
 | [],[],_=>rfl
 | _ :: _,_ :: _,h=>congrArg (· + 1) h.2.len
 | [],_ :: _,h=>h.elim
 | _ :: _,[],h=>h.elim
theorem Zte.there:∀ {ads:List A5} {S:List Lv},Zte t H ads S→∀ x ∈ cells ads,∃ u,H x=some u
 | [],[],_,x,hx=>by cases hx
 | y :: r,L :: S,h,x,hx=>by
  obtain ⟨pa,ea,_⟩ :=h.1.la
  obtain ⟨pe,ee,_⟩ :=h.1.le
  obtain ⟨po,eo,_⟩ :=h.1.lo
  unfold cells at hx
  simp only [List.mem_cons] at hx
  rcases hx with rfl | rfl | rfl | rfl | hx
  ·exact ⟨_,h.1.ob⟩
  ·exact ⟨_,ea⟩
  ·exact ⟨_,ee⟩
  ·exact ⟨_,eo⟩
  ·exact h.2.there x hx
 | [],_ :: _,h,_,_=>h.elim
 | _ :: _,[],h,_,_=>h.elim
theorem Zte.bottom:∀ {ads:List A5} {S:List Lv},Zte t H ads S→ads ≠ []→∃ (b:A5) (L0:Lv),(refs ads)[0]?=some (.ref b.1)∧S.getLast?=some L0∧LvAt t H b.1 b.2.1 b.2.2.1 b.2.2.2.1 b.2.2.2.2 L0∧∀ x ∈ [b.1,b.2.2.1,b.2.2.2.1,b.2.2.2.2],x ∈ cells ads
 | [],_,_,n=>absurd rfl n
 | [y],[L],h,_=>⟨y,L,rfl,rfl,h.1,fun x hx=>by simpa [cells] using hx⟩
 | y :: z :: r,L :: M :: S,h,_=>by
  obtain ⟨b,L0,h1,h2,h3,h4⟩ :=Zte.bottom h.2 (by simp)
  refine ⟨b,L0,?_,?_,h3,fun x hx=>?_⟩
  ·rw [Zq3,List.getElem?_append_left (by rw [ZxP]; simp)]
   exact h1
  ·rw [List.getLast?_cons_cons]
   exact h2
  ·have:=h4 x hx
   unfold cells
   simp [this]
 | [_],[],h,_=>h.elim
 | [_],_ :: _ :: _,h,_=>h.2.elim
 | _ :: _ :: _,[],h,_=>h.elim
 | _ :: _ :: _,[_],h,_=>h.2.elim
structure SK (t:Ad) (H0 H:Hp) (lv:Addr) (ads:List A5) (S:List Lv):Prop where
 ls:H lv=some (.lst (refs ads))
 st:Zte t H ads S
 nd:(lv :: cells ads).Nodup
 fr:∀ x ∈ lv :: cells ads,H0 x=none
 sm:Same H0 H
theorem SK.kp {lv:Addr} {ads:List A5} {S:List Lv} (Z:SK t H0 H lv ads S) {x:Addr} (hx:x ∈ lv :: cells ads) {y:Addr} {u:HO} (e:H0 y=some u):y ≠ x:=Zao e (Z.fr x hx)
theorem SK.top (T:Txt K mg t) {lv p dx a e o a' e':Addr} {r:List A5} {L L':Lv} {S:List Lv} (Z:SK t H0 H lv ((p,dx,a,e,o) :: r) (L :: S)) (ha:a'=a∨H a'=none) (he:e'=e∨H e'=none) (k:Off4 p a e o H H') (Y:LvAt t H' p dx a' e' o L'):SK t H0 H' lv ((p,dx,a',e',o) :: r) (L' :: S):=by
 have hY:LvAt t H p dx a e o L:=Z.st.1
 have nd:=Z.nd
 have fr:=Z.fr
 unfold cells at nd fr
 simp only [List.nodup_cons,List.mem_cons,not_or] at nd
 obtain ⟨⟨n1,n2,n3,n4,n5⟩,⟨m1,m2,m3,m4⟩,⟨l1,l2,l3⟩,⟨k1,k2⟩,j1,jr⟩ :=nd
 have hr:∀ x u,x ∈ cells r→H x=some u→H' x=some u:=fun x u hx z=>k x u (fun y=>m4 (y ▸ hx)) (fun y=>l3 (y ▸ hx)) (fun y=>k2 (y ▸ hx)) (fun y=>j1 (y ▸ hx)) z
 have thr:=Z.st.there
 have nw:∀ x,(x=a∨H x=none)∨(x=e∨H x=none)→x ≠ lv∧x ∉ cells r:=fun x hx=>by
  have free:H x=none→x ≠ lv∧x ∉ cells r:=fun z=>⟨(Zao Z.ls z).symm,fun hm=>by
   obtain ⟨u,hu⟩ :=thr x (by unfold cells; simp [hm])
   rw [z] at hu
   cases hu⟩
  rcases hx with (rfl | z) | (rfl | z)
  ·exact ⟨fun y=>n2 y.symm,l3⟩
  ·exact free z
  ·exact ⟨fun y=>n3 y.symm,k2⟩
  ·exact free z
 obtain ⟨pa,ea,_⟩ :=Y.la
 obtain ⟨pe,ee,_⟩ :=Y.le
 obtain ⟨po,eo,_⟩ :=Y.lo
 have qa:=nw a' (.inl ha)
 have qe:=nw e' (.inr he)
 have npa:p ≠ a':=ZhI Y.ob ea (by intro z; cases z)
 have npe:p ≠ e':=ZhI Y.ob ee (by intro z; cases z)
 refine ⟨k _ _ n1 n2 n3 n4 Z.ls,⟨Y,Z.st.2.keep T (ExtL.off4 hY k) hr⟩,?_,fun x hx=>?_,fun x u z=>?_⟩
 ·unfold cells
  simp only [List.nodup_cons,List.mem_cons,not_or]
  exact ⟨⟨n1,qa.1.symm,qe.1.symm,n4,n5⟩,⟨npa,npe,m3,m4⟩,⟨Y.ae,Y.ao,qa.2⟩,⟨Y.eo,qe.2⟩,j1,jr⟩
 ·have old:∀ y,y ∈ lv :: cells ((p,dx,a,e,o) :: r)→H0 y=none:=Z.fr
  have mem:∀ y,(y=p∨y=a∨y=e∨y=o)→y ∈ lv :: cells ((p,dx,a,e,o) :: r):=fun y hy=>by unfold cells; simp; exact .inr (by rcases hy with h | h | h | h <;> simp [h])
  unfold cells at hx
  simp only [List.mem_cons] at hx
  rcases hx with rfl | rfl | rfl | rfl | rfl | hx
  ·exact old _ List.mem_cons_self
  ·exact old _ (mem _ (.inl rfl))
  ·rcases ha with rfl | z
   ·exact old _ (mem _ (.inr (.inl rfl)))
   ·exact Z.sm.free z
  ·rcases he with rfl | z
   ·exact old _ (mem _ (.inr (.inr (.inl rfl))))
   ·exact Z.sm.free z
  ·exact old _ (mem _ (.inr (.inr (.inr rfl))))
  ·exact old _ (by unfold cells; simp [hx])
 ·have mem:∀ y,(y=p∨y=a∨y=e∨y=o)→y ∈ lv :: cells ((p,dx,a,e,o) :: r):=fun y hy=>by unfold cells; simp; exact .inr (by rcases hy with h | h | h | h <;> simp [h])
  exact k x u (Z.kp (mem _ (.inl rfl)) z) (Z.kp (mem _ (.inr (.inl rfl))) z) (Z.kp (mem _ (.inr (.inr (.inl rfl)))) z) (Z.kp (mem _ (.inr (.inr (.inr rfl)))) z) (Z.sm x u z)
theorem SK.push (T:Txt K mg t) {lv p dx a e o:Addr} {ads:List A5} {S:List Lv} (Z:SK t H0 H lv ads S) (s:Same H H') (np:H p=none) (na:H a=none) (ne:H e=none) (no:H o=none) (Y:LvAt t H' p dx a e o Lv.new) (b:But lv H' H'') (el:H'' lv=some (.lst (refs ads ++ [.ref p]))):SK t H0 H'' lv ((p,dx,a,e,o) :: ads) (Lv.new :: S):=by
 have hl':=s _ _ Z.ls
 have thr:=Z.st.there
 have fre:∀ x,H x=none→x ≠ lv∧x ∉ cells ads:=fun x z=>⟨(Zao Z.ls z).symm,fun hm=>by
  obtain ⟨u,hu⟩ :=thr x hm
  rw [z] at hu
  cases hu⟩
 have nlv:∀ x,x ∈ cells ads→x ≠ lv:=fun x hx y=>by
  have:=(List.nodup_cons.mp Z.nd).1
  rw [y] at hx
  exact this hx
 have ex:ExtL t H H'':=(ExtL.of s).trans (ExtL.lst b hl')
 obtain ⟨pa,ea,_⟩ :=id Y.la
 obtain ⟨pe,ee,_⟩ :=id Y.le
 obtain ⟨po,eo,_⟩ :=id Y.lo
 have Y2:LvAt t H'' p dx a e o Lv.new:=Y.keep T (ExtL.lst b hl') fun x u hx z=>b x u (by
  rcases hx with rfl | rfl | rfl | rfl
  ·exact (fre _ np).1
  ·exact (fre _ na).1
  ·exact (fre _ ne).1
  ·exact (fre _ no).1) z
 refine ⟨by rw [Zq3]; exact el,⟨Y2,Z.st.keep T ex fun x u hx z=>b x u (nlv x hx) (s _ _ z)⟩,?_,fun x hx=>?_,fun x u z=>b x u (Z.kp List.mem_cons_self z) (s _ _ (Z.sm x u z))⟩
 ·have nd:=List.nodup_cons.mp Z.nd
  unfold cells
  simp only [List.nodup_cons,List.mem_cons,not_or]
  exact ⟨⟨(fre _ np).1.symm,(fre _ na).1.symm,(fre _ ne).1.symm,(fre _ no).1.symm,nd.1⟩,⟨ZhI Y.ob ea (by intro z; cases z),ZhI Y.ob ee (by intro z; cases z),ZhI Y.ob eo (by intro z; cases z),(fre _ np).2⟩,⟨Y.ae,Y.ao,(fre _ na).2⟩,⟨Y.eo,(fre _ ne).2⟩,(fre _ no).2,nd.2⟩
 ·unfold cells at hx
  simp only [List.mem_cons] at hx
  rcases hx with rfl | rfl | rfl | rfl | rfl | hx
  ·exact Z.fr _ List.mem_cons_self
  ·exact Z.sm.free np
  ·exact Z.sm.free na
  ·exact Z.sm.free ne
  ·exact Z.sm.free no
  ·exact Z.fr _ (List.mem_cons_of_mem _ hx)
theorem SK.pop (T:Txt K mg t) {lv p dx a e o:Addr} {r:List A5} {L:Lv} {S:List Lv} (Z:SK t H0 H lv ((p,dx,a,e,o) :: r) (L :: S)) (b:But lv H H') (el:H' lv=some (.lst (refs r))):SK t H0 H' lv r S∧LvAt t H' p dx a e o L:=by
 have ex:ExtL t H H':=ExtL.lst b Z.ls
 have nd:=List.nodup_cons.mp Z.nd
 have nlv:∀ x,x ∈ cells ((p,dx,a,e,o) :: r)→x ≠ lv:=fun x hx y=>nd.1 (y ▸ hx)
 have sub:∀ x,x ∈ cells r→x ∈ cells ((p,dx,a,e,o) :: r):=fun x hx=>by unfold cells; simp [hx]
 have nd2:=nd.2
 unfold cells at nd2
 simp only [List.nodup_cons] at nd2
 refine ⟨⟨el,Z.st.2.keep T ex fun x u hx z=>b x u (nlv x (sub x hx)) z,List.nodup_cons.mpr ⟨fun z=>nd.1 (sub _ z),nd2.2.2.2.2⟩,fun x hx=>?_,fun x u z=>b x u (Z.kp List.mem_cons_self z) (Z.sm x u z)⟩,?_⟩
 ·rcases List.mem_cons.mp hx with rfl | hx
  ·exact Z.fr _ List.mem_cons_self
  ·exact Z.fr _ (List.mem_cons_of_mem _ (sub x hx))
 ·exact (show LvAt t H p dx a e o L from Z.st.1).keep T ex fun x u hx z=>b x u (nlv x (by unfold cells; rcases hx with rfl | rfl | rfl | rfl <;> simp)) z
theorem SK.off (T:Txt K mg t) {lv p dx a e o:Addr} {r:List A5} {L:Lv} {S:List Lv} (Z:SK t H0 H lv r S) (Y:LvAt t H p dx a e o L) (hx:∀ x ∈ [p,a,e,o],x ∉ lv :: cells r∧H0 x=none) (k:Off4 p a e o H H'):SK t H0 H' lv r S:=by
 have st:∀ x u,x ∈ lv :: cells r→H x=some u→H' x=some u:=fun x u hm z=>k x u (fun y=>(hx p (by simp)).1 (y ▸ hm)) (fun y=>(hx a (by simp)).1 (y ▸ hm)) (fun y=>(hx e (by simp)).1 (y ▸ hm)) (fun y=>(hx o (by simp)).1 (y ▸ hm)) z
 exact ⟨st _ _ List.mem_cons_self Z.ls,Z.st.keep T (ExtL.off4 Y k) fun x u hm z=>st x u (List.mem_cons_of_mem _ hm) z,Z.nd,Z.fr,fun x u z=>k x u (Zao z (hx p (by simp)).2) (Zao z (hx a (by simp)).2) (Zao z (hx e (by simp)).2) (Zao z (hx o (by simp)).2) (Z.sm x u z)⟩
theorem SK.out {lv p dx a e o:Addr} {r:List A5} {L:Lv} {S:List Lv} (Z:SK t H0 H lv ((p,dx,a,e,o) :: r) (L :: S)):∀ x ∈ [p,a,e,o],x ∉ lv :: cells r∧H0 x=none:=fun x hx=>by
 have nd:=Z.nd
 unfold cells at nd
 simp only [List.nodup_cons,List.mem_cons,not_or] at nd
 obtain ⟨⟨n1,n2,n3,n4,n5⟩,⟨m1,m2,m3,m4⟩,⟨l1,l2,l3⟩,⟨k1,k2⟩,j1,jr⟩ :=nd
 have f:∀ y,y ∈ [p,a,e,o]→H0 y=none:=fun y hy=>Z.fr y (by unfold cells; simp only [List.mem_cons,List.not_mem_nil,or_false] at hy; simp; exact .inr (by rcases hy with h | h | h | h <;> simp [h]))
 refine ⟨?_,f x hx⟩
 simp only [List.mem_cons,List.not_mem_nil,or_false] at hx
 simp only [List.mem_cons,not_or]
 rcases hx with rfl | rfl | rfl | rfl
 ·exact ⟨fun y=>n1 y.symm,m4⟩
 ·exact ⟨fun y=>n2 y.symm,l3⟩
 ·exact ⟨fun y=>n3 y.symm,k2⟩
 ·exact ⟨fun y=>n4 y.symm,j1⟩
theorem ZCP {ns:List Str} {L:Lv} {R:List Lv} {z:Str} (h1 : ¬ (z = "("∧L.lack=true)) (h2 : ¬ (z = ")"∧L.lack=false∧R ≠ [])):ZcF ns (L :: R) z=(L.word ns z).map (· :: R):=by
 cases R with
 | nil=>simp only [ZcF]; rw [if_neg h1]
 | cons M R'=>
  simp only [ZcF]
  rw [if_neg h1,if_neg fun y=>h2 ⟨y.1,y.2,by simp⟩]
def ZKu (t:Ad):Sp:=fun vs H Q E=>∃ (fo nl:Addr) (ws ns:List Str),vs=[.ref fo,.ref nl]∧H fo=some (.lst (ws.map V.str))∧H nl=some (.lst (ns.map V.str))∧ns.length≤1000∧ws.length≤800000∧(∀ z ∈ ws,ZvH z)∧
 (Zdn ns ws=none→∀ H',Same H H'→E (.ref t.Zag) none H')∧(∀ f,Zdn ns ws=some f→∀ q H',Same H H'→FmE t H' q f→Q (.ref q) H')
theorem ZxE (T:Txt K mg t):FnS1 P w K mg base 8 "formula_in" ["found","names"] ((ZKu t)):=by
 refine ⟨_,_,T.Zlw.ok1 ZgS (fun vs H Q E h=>?_) (fun cdv A outer s H vs Q E hr h=>?_),T.Zr6,T.Zlw.kp,T.ZsT⟩
 ·obtain ⟨fo,nl,ws,ns,rfl,hf,hn,h1000,hz,hpl,k1,k2⟩ :=h
  rfl
 obtain ⟨fo,nl,ws,ns,rfl,hf,hn,h1000,hz,hpl,k1,k2⟩ :=h
 have ZCV:=ZF5 (P:=P) (w:=w) (base:=base) T
 have D_take_part:=ZnC (P:=P) (w:=w) (base:=base) T
 have D_take_word:=ZvD (P:=P) (w:=w) (base:=base) T
 have D_whole:=ZCj (P:=P) (w:=w) (base:=base) T
 refine ⟨_,(Zac (PS.nox (ss 2 ZgS.nd (ZaN (Zaa (ZHn ZCV hr) Zad))))
   (Zac (Zlm PassesOwn.leaving rfl (ZmP (pv 0)) (sg 3 ZgS.nd)
   (Zac (PS.nox (ss 4 ZgS.nd (ZaZ ZaA (pv 2) (ZzA Zs9 Zae) (fun _ _=>rfl))))
   (Zaf (Za7 (PT.nox (PW.pt (Zfh (Zal (ZaU hr.units) (pv 3) Zak (Zax _)) (Zey (ZdW (Zfg (pv 4) rfl) (fun _=>rfl))))))
   (PSs.nox (Zaf (ZcP (ZkQ PySem.F.plainAttrs_list PySem.F.slot_list_append PySem.F.type_list_append Zb9 (pv 2) (Zaa (ZHn ZCV hr) Zad)))))
   (Zaf (Za7 (PT.nox (PW.pt (Zfh (Zal (ZaU hr.units) (pv 3) Zak (Zax _)) (Zfh (ZB2 (ZdW (Zfg (pv 4) rfl) (fun _=>rfl))) (Zey (Zal Zu5 (ZaM ZaW rfl T.B.len Zdr (Zaa (pv 2) Zad)) Zae (Zax _)))))))
   (PSs.nox (Zac (ZcP (ZHl PySem.F.plainAttrs_list PySem.F.slot_list_pop PySem.F.type_list_pop ZJO (pv 2)))
   (Zaf (ZcP (ZAW D_take_part hr (ZaZ ZaA (pv 2) (ZzA Zs9 Zae) (fun _ _=>rfl)) (Zaa (Zzz D_whole hr (pv 4)) Zad))))))
   (Zaf (ZcP (ZJ5 ZIr D_take_word hr (pv 4) (Zaa (pv 3) (Zaa (pv 1) Zad)))))))))))
   (Zac (Za7 (PT.nox (ZdW (Zfg (ZaZ ZaA (pv 2) Zae (fun _ _=>rfl)) rfl) (fun _=>rfl)))
   (Zaf (ZtD rfl ZFU T.Zez.own rfl T.Zew (PA.nox (Zaa Zak Zad))))
   (PSs.nox Zaz))
   (PSs.nox (Zaf (Zay (Zzz D_whole hr (ZaZ ZaA (pv 2) Zae (fun _ _=>rfl))))))))),?_⟩
 walk_at "rd0"
 refine ZDM fun p dx a e o H1 s1 np na ne no Y1=>?_
 walk_at "rd"
 refine Zcu (Nat.le_of_ble_eq_true rfl) fun lv H2 s2 n2 e2=>?_
 have Z0:SK t H H2 lv [(p,dx,a,e,o)] [Lv.new]:=by
  obtain ⟨pa,ea,_⟩ :=id Y1.la
  obtain ⟨pe,ee,_⟩ :=id Y1.le
  obtain ⟨po,eo,_⟩ :=id Y1.lo
  refine ⟨e2,⟨Y1.same T s2,trivial⟩,?_,fun x hx=>?_,s1.trans s2⟩
  ·simp only [cells,List.nodup_cons,List.mem_cons,List.not_mem_nil,or_false,not_or,not_false_eq_true,List.nodup_nil,and_true]
   exact ⟨⟨(Zao Y1.ob n2).symm,(Zao ea n2).symm,(Zao ee n2).symm,(Zao eo n2).symm⟩,⟨ZhI Y1.ob ea (by intro z; cases z),ZhI Y1.ob ee (by intro z; cases z),ZhI Y1.ob eo (by intro z; cases z)⟩,⟨Y1.ae,Y1.ao⟩,Y1.eo⟩
  ·simp only [cells,List.mem_cons,List.not_mem_nil,or_false] at hx
   rcases hx with rfl | rfl | rfl | rfl | rfl
   ·exact s1.free n2
   ·exact np
   ·exact na
   ·exact ne
   ·exact no
 clear Y1 s1 s2 n2 e2 np na ne no
 walk_at "rd"
 refine seqL (xs:=ws.map V.str) (fun i σ H'=>∃ ads S v3 v4,SK t H H' lv ads S∧runW ns [Lv.new] (ws.take i)=some S∧(∀ L ∈ S,L.size≤i)∧S ≠ []∧ads.length≤i + 1∧σ=[some (.ref fo),some (.ref nl),some (.ref lv),v3,v4]) ⟨_,_,_,_,Z0,rfl,(fun L hL=>by rw [List.mem_singleton.mp hL]; exact Nat.le_refl 0),by simp,Nat.le_refl _,rfl⟩ (fun i σ H' _ hp=>by obtain ⟨ads,S,v3,v4,Z,_⟩ :=hp; exact SqL.of (Z.sm _ _ hf)) ?_ ?_
 ·rintro i x σ H3 hx ⟨ads,S,v3,v4,Z,hrun,hsz,hne,hal,rfl⟩
  rw [List.getElem?_map] at hx
  obtain ⟨z,hzi,rfl⟩ :=Option.map_eq_some_iff.mp hx
  have hil:=(List.getElem?_eq_some_iff.mp hzi).1
  have rn:runW ns [Lv.new] (ws.take (i + 1))=(ZcF ns S z):=by
   rw [Zeg hzi,ZdH,hrun]
   show runW ns S [z]=_
   unfold runW
   cases ZcF ns S z <;> rfl
  have rno:ZcF ns S z=none→Zdn ns ws=none:=fun h=>by
   unfold Zdn
   have:runW ns [Lv.new] ws=none:=by
    rw [← List.take_append_drop (i + 1) ws,ZdH,rn,h]
    rfl
   rw [this]
   rfl
  have zpl:=hpl z (List.mem_of_getElem? hzi)
  match ads,S,Z,hne with
  | [],[],_,hne=>exact absurd rfl hne
  | [],_ :: _,Z,_=>exact Z.st.elim
  | _ :: _,[],Z,_=>exact Z.st.elim
  | (p,dx,a,e,o) :: r,L :: R,Z,_=>
   have Y:LvAt t H3 p dx a e o L:=Z.st.1
   have hls:=Z.ls
   rw [Zq3] at hls
   have rl:=Z.st.2.len
   have hL:=hsz L List.mem_cons_self
   have fin:∀ (H':Hp) (v3 v4:Option V) (ads':List A5) (S':List Lv),SK t H H' lv ads' S'→ZcF ns (L :: R) z=some S'→ads'.length≤i + 2→∃ ads S w3 w4,SK t H H' lv ads S∧runW ns [Lv.new] (ws.take (i + 1))=some S∧(∀ L ∈ S,L.size≤i + 1)∧S ≠ []∧ads.length≤i + 1 + 1∧[some (.ref fo),some (.ref nl),some (.ref lv),v3,v4]=[some (.ref fo),some (.ref nl),some (.ref lv),w3,w4]:=fun H' v3 v4 ads' S' Z' h hl'=>⟨ads',S',v3,v4,Z',by rw [rn,h],ZE8 h hsz,ZIL h,hl',rfl⟩
   have wrd:∀ (Q':VK),(∀ L' a' e' H',L.word ns z=some L'→SK t H H' lv ((p,dx,a',e',o) :: r) (L' :: R)→Q' .non H')→(L.word ns z=none→ZcF ns (L :: R) z=none)→ZE6 t [.ref p,.str z,.ref nl] H3 Q' E:=fun Q' h1 h2=>
    ⟨p,dx,a,e,o,nl,L,z,ns,rfl,Y,by omega,Z.sm _ _ hn,h1000,zpl,fun hw H' s'=>k1 (rno (h2 hw)) H' (Z.sm.trans s'),fun L' hw a' e' H' ha he k Y'=>h1 L' a' e' H' hw (Z.top T ha he k Y')⟩
   walk_at "rd"
   refine ZDK hls (ZC0 _ _) ?_
   walk_at "rd"
   have lp:((p,dx,a,e,o) :: r:List A5).length≤i + 1:=hal
   rw [List.length_cons] at lp
   refine (fun (key : ¬ (z = "("∧L.lack=true)→?G)=>?main) ?key
   case main=>
    refine Zcj (fun h1=>?_) (fun h1=>?_)
    ·walk_at "rd"
     refine ⟨p,_,_,_,_,rfl,Y.ob,T.Zbd,T.ZaD,Zfu _ _ _ _ _,?_⟩
     walk_at "rd"
     cases hl:L.lack with
     | true=>
      refine ZdP rfl ?_
      walk_at "rd"
      refine ⟨tyL Z.ls,?_⟩
      walk_at "rd"
      refine ZDM fun p' dx' a' e' o' H4 s4 np na ne no Y4=>?_
      walk_at "rd"
      refine ZfG (s4 _ _ Z.ls) (by rw [ZxP]; simp only [List.length_cons]; omega) fun H5 b5 e5=>?_
      walk_at "rd"
      exact fin H5 _ _ _ _ (Z.push T s4 np na ne no Y4 b5 e5) (by simp only [ZcF]; rw [if_pos ⟨h1,hl⟩]) (by simp only [List.length_cons]; omega)
     | false=>
      refine Zcc rfl ?_
      exact key fun y=>by rw [hl] at y; exact absurd y.2 (by decide)
    ·refine Zcc rfl ?_
     exact key fun y=>h1 y.1
   intro hno
   refine (fun (key : ¬ (z = ")"∧L.lack=false∧R ≠ [])→?W)=>?main2) ?key2
   case main2=>
    walk_at "rd"
    refine Zcj (fun h2=>?_) (fun h2=>?_)
    ·walk_at "rd"
     refine ⟨p,_,_,_,_,rfl,Y.ob,T.Zbd,T.ZaD,Zfu _ _ _ _ _,?_⟩
     walk_at "rd"
     cases hl:L.lack with
     | true=>
      refine Zcc rfl ?_
      refine Zcc rfl ?_
      exact key fun y=>by rw [hl] at y; exact absurd y.2.1 (by decide)
     | false=>
      refine ZdP rfl ?_
      walk_at "rd"
      rw [List.length_append,ZxP,List.length_singleton]
      refine Zcj (fun h3=>?_) (fun h3=>?_)
      ·match r,R,Z,rl with
       | [],_,_,_=>exact absurd h3 (by decide)
       | _ :: _,[],_,rl=>cases rl
       | (p2,dx2,a2,e2,o2) :: r',M :: R',Z,_=>
        walk_at "rd"
        refine ⟨tyL hls,?_⟩
        walk_at "rd"
        refine ZK3 hls fun H4 b4 e4=>?_
        obtain ⟨Z4,Y4⟩ :=Z.pop T b4 e4
        have ls4:=Z4.ls
        rw [Zq3] at ls4
        have Y2:LvAt t H4 p2 dx2 a2 e2 o2 M:=Z4.st.1
        have hM:=hsz M (List.mem_cons_of_mem _ List.mem_cons_self)
        walk_at "rd"
        refine ZDK ls4 (ZC0 _ _) ?_
        walk_at "rd"
        refine ⟨p2,_,_,_,rfl,Y2.ob,rfl,Zqq _ _ _ _ _,?_⟩
        walk_at "rd"
        refine ⟨p,_,_,_,rfl,Y4.ob,rfl,ZyX _ _ _ _ _,?_⟩
        walk_at "rd"
        refine ⟨Y4.ob,p,dx,a,e,o,L,rfl,Y4,by omega,fun q H5 k5 hq=>?_⟩
        have Z5:=Z4.off T Y4 Z.out k5
        have Y25:LvAt t H5 p2 dx2 a2 e2 o2 M:=Z5.st.1
        walk_at "rd"
        refine ⟨Y25.ob,p2,dx2,a2,e2,o2,q,M,L.whole,rfl,Y25,hq,by omega,fun H6 o6 Y6=>?_⟩
        walk_at "rd"
        refine fin H6 _ _ _ _ (Z5.top T (.inl rfl) (.inl rfl) (fun x u h1 h2 _ _ zz=>o6 _ _ h1 h2 zz) Y6) ?_ (by simp only [List.length_cons] at lp ⊢; omega)
        simp only [ZcF]
        rw [if_neg hno,if_pos ⟨h2,hl⟩]
      ·exact key fun y=>by
        cases r with
        | nil=>exact y.2.2 (List.length_eq_zero_iff.mp rl.symm)
        | cons x r'=>simp only [List.length_cons] at h3; omega
    ·refine Zcc rfl ?_
     exact key fun y=>h2 y.1
   intro hn2
   have sw:=ZCP (ns:=ns) hno hn2
   walk_at "rd"
   refine ⟨p,_,_,_,rfl,Y.ob,rfl,Zxc _ _ _ _ _,?_⟩
   walk_at "rd"
   refine ⟨Y.ob,wrd _ (fun L' a' e' H' hw Z'=>?_) fun hw=>by rw [sw,hw]; rfl⟩
   walk_at "rd"
   exact fin H' _ _ _ _ Z' (by rw [sw,hw]; rfl) (by simp only [List.length_cons]; omega)
 ·rintro σ H3 ⟨ads,S,v3,v4,Z,hrun,hsz,hne,hal,rfl⟩
  rw [List.length_map,List.take_length] at hrun
  rw [List.length_map] at hsz
  have hane:ads ≠ []:=fun z=>by
   have:=Z.st.len
   rw [z] at this
   exact hne (List.length_eq_zero_iff.mp this.symm)
  obtain ⟨b,L0,hb,hS,Y0,hmem⟩ :=Z.st.bottom hane
  have hls:=Z.ls
  have rd:Zdn ns ws=endF L0:=by
   unfold Zdn
   rw [hrun]
   show S.getLast?.bind endF=_
   rw [hS]
   rfl
  have hL0:=hsz L0 (List.mem_of_getLast? hS)
  rw [rd] at k1 k2
  unfold endF at k1 k2
  walk_at "rd"
  refine Zgj (j:=0) hls hb ?_
  walk_at "rd"
  refine ⟨b.1,_,_,_,_,rfl,Y0.ob,T.Zbd,T.ZaD,Zfu _ _ _ _ _,?_⟩
  walk_at "rd"
  cases hl:L0.lack with
  | true=>
   rw [hl,if_pos rfl] at k1
   refine ZdP rfl ?_
   (try dsimp only)
   refine Zw2 ?_
   walk_at "rd"
   exact ⟨Nat.le_of_ble_eq_true rfl,k1 rfl H3 Z.sm⟩
  | false=>
   rw [hl,if_neg (by decide)] at k2
   refine Zcc rfl ?_
   walk_at "rd"
   refine Zgj (j:=0) hls hb ?_
   walk_at "rd"
   refine ⟨b.1,_,_,_,rfl,Y0.ob,rfl,ZyX _ _ _ _ _,?_⟩
   walk_at "rd"
   refine ⟨Y0.ob,b.1,_,_,_,_,L0,rfl,Y0,by omega,fun q H4 k4 hq=>?_⟩
   have kp:∀ y,y ∈ [b.1,b.2.2.1,b.2.2.2.1,b.2.2.2.2]→∀ {x u},H x=some u→x ≠ y:=fun y hy {x u} zz=>Z.kp (List.mem_cons_of_mem _ (hmem y hy)) zz
   exact k2 _ rfl q H4 (fun x u zz=>k4 x u (kp _ (by simp) zz) (kp _ (by simp) zz) (kp _ (by simp) zz) (kp _ (by simp) zz) (Z.sm x u zz)) hq
def ZHy (t:Ad):Sp:=fun vs H Q E=>∃ (z:Str) (nl:Addr) (ns:List Str),vs=[.str z,.ref nl]∧Asc z∧z.length≤3600∧H nl=some (.lst (ns.map V.str))∧ns.length≤1000∧(okW z=true→∀ y ∈ Txt.words (pad z),ZvH y)∧
 (okW z=false→∀ H',Same H H'→E (.ref t.Zag) none H')∧(okW z=true→Zdn ns (Txt.words (pad z))=none→∀ H',Same H H'→E (.ref t.Zag) none H')∧
 (okW z=true→∀ f,Zdn ns (Txt.words (pad z))=some f→∀ q H',Same H H'→FmE t H' q f→Q (.ref q) H')
theorem ZEp (T:Txt K mg t):FnS1 P w K mg base 9 "read" ["text","names"] ((ZHy t)):=by
 refine ⟨_,_,T.ZCU.ok1 ZET (fun vs H Q E h=>?_) (fun cdv A outer s H vs Q E hr h=>?_),T.ZGC,T.ZCU.kp,T.ZHe⟩
 ·obtain ⟨z,nl,ns,rfl,ha,hz,hn,h1000,hpl,k0,k1,k2⟩ :=h
  rfl
 obtain ⟨z,nl,ns,rfl,ha,hz,hn,h1000,hpl,k0,k1,k2⟩ :=h
 have ZHJ:=ZF8 (P:=P) (w:=w) (base:=base) T
 have Zym:=ZxE (P:=P) (w:=w) (base:=base) T
 have n4:=Zz3 (pad z)
 have n5:=ZEx z
 refine ⟨_,(Zac (PS.nox (ss 2 ZET.nd (Zce ZHJ hr (Zaa (pv 0) Zad))))
   (Zac (Za7 (PT.nox (Zal ZJZ (pv 2) ZED (Zax _)))
   (Zaf (ZtD rfl ZFU T.Zez.own rfl T.Zew (PA.nox (Zaa Zak Zad))))
   (PSs.nox Zaz))
   (Zaf (Zay (ZHm ZIr Zym hr (Zaa (pv 2) (Zaa (pv 1) Zad))))))),?_⟩
 walk_at "rd0"
 refine ⟨z,rfl,ha,hz,fun hok=>?_,fun hok H1 p s1 n1 e1=>?_⟩
 ·walk_at "rd"
  refine ⟨rfl,?_⟩
  walk_at "rd"
  refine ZdP rfl ?_
  (try dsimp only)
  refine Zw2 ?_
  walk_at "rd"
  exact ⟨Nat.le_of_ble_eq_true rfl,k0 hok H (Same.refl _)⟩
 ·walk_at "rd"
  refine ⟨rfl,?_⟩
  walk_at "rd"
  refine Zcc (by simp) ?_
  walk_at "rd"
  exact ⟨p,nl,_,ns,rfl,e1,s1 _ _ hn,h1000,by omega,hpl hok,fun h H2 s2=>k1 hok h H2 (s1.trans s2),fun f h q H2 s2 hq=>k2 hok f h q H2 (s1.trans s2) hq⟩
end
def rp2 (c d:Nat) (z:List Nat):List Nat→List Nat
 | []=>[]
 | [a]=>[a]
 | a :: b :: r=>if a=c∧b=d then z ++ rp2 c d z r else a :: rp2 c d z (b :: r)
theorem ZA0 {c d:Nat} {z:List Nat}:∀ (n:Nat) (l:List Nat),n≤l.length→(∀ k,k < n→¬ (l[k]?=some c∧l[k + 1]?=some d))→rp2 c d z l=l.take n ++ rp2 c d z (l.drop n)
 | 0,l,_,_=>rfl
 | n + 1,[],h,_=>by simp at h
 | n + 1,[a],h,hn=>by
  have:n=0:=by simp at h; omega
  subst this
  rfl
 | n + 1,a :: b :: r,h,hn=>by
  have h0 : ¬ (a=c∧b=d):=fun y=>hn 0 (by omega) ⟨by simp [y.1],by simp [y.2]⟩
  show (if a=c∧b=d then z ++ rp2 c d z r else a :: rp2 c d z (b :: r))=_
  rw [if_neg h0,ZA0 n (b :: r) (by simpa using h) fun k hk y=>hn (k + 1) (by omega) (by simpa using y)]
  rfl
theorem ZIz {c d:Nat} {z l:List Nat} (h:l[0]?=some c) (k:l[1]?=some d):rp2 c d z l=z ++ rp2 c d z (l.drop 2):=by
 match l,h,k with
 | a :: b :: r,h,k=>
  simp at h k
  show (if a=c∧b=d then z ++ rp2 c d z r else a :: rp2 c d z (b :: r))=_
  rw [if_pos ⟨h,k⟩]
  rfl
theorem at2 {x:Str} {c d k:Nat}:StrLaws.At x ⟨#[c,d]⟩ x.length k ↔ x.cps.toList[k]?=some c∧x.cps.toList[k + 1]?=some d:=by
 have ln:x.length=x.cps.toList.length:=by rw [Array.length_toList]; rfl
 unfold StrLaws.At Builtin.Str.subAt
 constructor
 ·rintro ⟨h1,h2⟩
  have h1':k + 2≤x.length:=h1
  have e:=eq_of_beq h2
  have e':=congrArg Array.toList e
  have ex:(x.cps.extract k (k + 2)).toList=(x.cps.toList.drop k).take 2:=by simp
  have e2:(x.cps.toList.drop k).take 2=[c,d]:=ex.symm.trans e'
  have g0:((x.cps.toList.drop k).take 2)[0]?=some c:=by rw [e2]; rfl
  have g1:((x.cps.toList.drop k).take 2)[1]?=some d:=by rw [e2]; rfl
  rw [List.getElem?_take_of_lt (by decide),List.getElem?_drop] at g0 g1
  exact ⟨by simpa using g0,g1⟩
 ·rintro ⟨h1,h2⟩
  have hl:k + 1 < x.cps.toList.length:=(List.getElem?_eq_some_iff.mp h2).1
  refine ⟨by show k + 2≤_; omega,?_⟩
  have ex:(x.cps.extract k (k + 2)).toList=(x.cps.toList.drop k).take 2:=by simp
  have e2:(x.cps.toList.drop k).take 2=[c,d]:=by
   rw [List.drop_eq_getElem_cons (by omega),List.drop_eq_getElem_cons hl]
   rw [List.getElem?_eq_getElem (by omega)] at h1
   rw [List.getElem?_eq_getElem hl] at h2
   rw [Option.some.inj h1,Option.some.inj h2]
   rfl
  have:x.cps.extract k (k + 2) = #[c,d]:=Array.toList_inj.mp (ex.trans e2)
  exact beq_iff_eq.mpr this
def segs (l:List Nat):Nat→List Nat→List (List Nat)
 | a,[]=>[l.drop a]
 | a,c :: r=>(l.drop a).take (c - a) :: segs l (c + 2) r
theorem ZIB (l:List Nat) (a:Nat) (cs:List Nat):segs l a cs ≠ []:=by cases cs <;> simp [segs]
theorem ZH6 {z p:List Nat} {r:List (List Nat)} (h:r ≠ []):jn z (p :: r)=p ++ z ++ jn z r:=by
 cases r with
 | nil=>exact absurd rfl h
 | cons q r=>rfl
theorem ZB5 {x:Str} {c d:Nat} {z:List Nat}:∀ (cs:List Nat) (a f:Nat),StrLaws.ChainG x ⟨#[c,d]⟩ x.length a cs f→(∀ k,f≤k→¬ StrLaws.At x ⟨#[c,d]⟩ x.length k)→a≤x.length→rp2 c d z (x.cps.toList.drop a)=jn z (segs x.cps.toList a cs)
 | [],a,f,h,hn,ha=>by
  have e:f=a:=h
  subst e
  have:=ZA0 (c:=c) (d:=d) (z:=z) (x.cps.toList.drop f).length (x.cps.toList.drop f) (Nat.le_refl _) fun k _ y=>hn (f + k) (by omega) (at2.mpr (by rw [List.getElem?_drop,List.getElem?_drop] at y; exact y))
  rw [this,List.take_length,List.drop_length]
  show _ ++ []=_
  rw [List.append_nil]
  rfl
 | c1 :: r,a,f,h,hn,ha=>by
  obtain ⟨h1,h2,h3,h4⟩ :=h
  have hle:c1 + 2≤x.length:=h2.1
  have ln:x.length=x.cps.toList.length:=by rw [Array.length_toList]; rfl
  have g:=ZA0 (c:=c) (d:=d) (z:=z) (c1 - a) (x.cps.toList.drop a) (by rw [List.length_drop]; omega) fun k hk y=>h3 (a + k) (by omega) (by omega) (at2.mpr (by rw [List.getElem?_drop,List.getElem?_drop] at y; exact y))
  have e:(x.cps.toList.drop a).drop (c1 - a)=x.cps.toList.drop c1:=by rw [List.drop_drop]; congr 1; omega
  obtain ⟨m1,m2⟩ :=at2.mp h2
  rw [g,e,ZIz (by rw [List.getElem?_drop]; exact m1) (by rw [List.getElem?_drop]; exact m2),List.drop_drop,ZB5 r (c1 + 2) f h4 hn hle]
  show _=jn z ((x.cps.toList.drop a).take (c1 - a) :: segs x.cps.toList (c1 + 2) r)
  rw [ZH6 (ZIB _ _ _),List.append_assoc]
theorem Zwu (x:Str):∀ (cs:List Nat) (a:Nat),(((a :: cs.map (· + 2)).zip (cs ++ [x.length])).map fun p=>(Builtin.Str.strSub x p.1 p.2).cps.toList)=segs x.cps.toList a cs
 | [],a=>by
  have ln:x.length=x.cps.toList.length:=by rw [Array.length_toList]; rfl
  show [(Builtin.Str.strSub x a x.length).cps.toList]=[x.cps.toList.drop a]
  rw [StrLaws.strSub_toList,List.take_of_length_le (by rw [List.length_drop]; omega)]
 | c :: r,a=>by
  show (Builtin.Str.strSub x a c).cps.toList :: _=(x.cps.toList.drop a).take (c - a) :: segs x.cps.toList (c + 2) r
  rw [StrLaws.strSub_toList]
  exact congrArg _ (Zwu x r (c + 2))
theorem ZkT (x z:Str) (c d:Nat):(Txt.replace x ⟨#[c,d]⟩ z).cps.toList=rp2 c d z.cps.toList x.cps.toList:=by
 obtain ⟨f,h1,h2⟩ :=StrLaws.occ_tight x ⟨#[c,d]⟩ (by show 1≤2; decide)
 have key:=ZB5 (z:=z.cps.toList) _ 0 f h1 h2 (Nat.zero_le _)
 rw [List.drop_zero] at key
 have h10:((⟨#[c,d]⟩ : Str).length == 0)=false:=rfl
 unfold Txt.replace
 rw [h10,Bool.false_and,Bool.or_false]
 cases he:(Builtin.Str.occurrences x ⟨#[c,d]⟩ 0 x.length (x.length + 1)).isEmpty
 ·rw [if_neg Bool.false_ne_true,StrLaws.glued_eq_join,Zjr,key]
  congr 1
  unfold Builtin.Str.partsBetween
  rw [List.map_map]
  exact Zwu x _ 0
 ·rw [if_pos rfl,key,List.isEmpty_iff.mp he]
  rfl
def Wd (p:List Nat):Prop:=p=[40]∨p=[41]∨(p ≠ []∧∀ c ∈ p,97≤c∧c≤122)
def glue:List (List Nat)→List Nat
 | []=>[]
 | [p]=>p
 | p :: q :: r=>p ++ (if p=[40]∨q=[41] then [] else [32]) ++ glue (q :: r)
def gl1:List (List Nat)→List Nat
 | []=>[]
 | [p]=>p
 | p :: q :: r=>p ++ (if p=[40] then [] else [32]) ++ gl1 (q :: r)
theorem Znp {c d:Nat} {z:List Nat}:∀ {p r:List Nat},c ∉ p→rp2 c d z (p ++ r)=p ++ rp2 c d z r
 | [],r,_=>rfl
 | [a],[],_=>by
  show rp2 c d z [a]=[a] ++ rp2 c d z []
  rfl
 | [a],b :: r,h=>by
  have h0 : ¬ (a=c∧b=d):=fun y=>h (by rw [y.1]; simp)
  show (if a=c∧b=d then z ++ rp2 c d z r else a :: rp2 c d z (b :: r))=_
  rw [if_neg h0]
  rfl
 | a :: b :: p,r,h=>by
  have h0 : ¬ (a=c∧b=d):=fun y=>h (by rw [y.1]; simp)
  have ih:=Znp (d:=d) (z:=z) (p:=b :: p) (r:=r) fun y=>h (List.mem_cons_of_mem _ y)
  show (if a=c∧b=d then z ++ rp2 c d z (p ++ r) else a :: rp2 c d z (b :: p ++ r))=_
  rw [if_neg h0,ih]
  rfl
theorem ZEQ:∀ ws:List (List Nat),(∀ p ∈ ws,Wd p)→rp2 40 32 [40] (jn [32] ws)=gl1 ws
 | [],_=>rfl
 | [p],h=>by
  show rp2 40 32 [40] p=p
  rcases h p (by simp) with rfl | rfl | hp
  ·rfl
  ·rfl
  ·have:(40:Nat) ∉ p:=fun y=>by have:=hp.2 40 y; omega
   have:=Znp (d:=32) (z:=[40]) (r:=[]) this
   rw [List.append_nil] at this
   rw [this]
   exact List.append_nil _
 | p :: q :: r,h=>by
  have ih:=ZEQ (q :: r) fun y hy=>h y (List.mem_cons_of_mem _ hy)
  show rp2 40 32 [40] (p ++ [32] ++ jn [32] (q :: r))=p ++ (if p=[40] then [] else [32]) ++ gl1 (q :: r)
  by_cases e:p=[40]
  ·subst e
   rw [if_pos rfl,List.append_nil,← ih]
   show (if (40:Nat)=40∧(32:Nat)=32 then [40] ++ rp2 40 32 [40] (jn [32] (q :: r)) else _)=_
   rw [if_pos ⟨rfl,rfl⟩]
  ·have hn:(40:Nat) ∉ p ++ [32]:=fun y=>by
    rcases List.mem_append.mp y with y | y
    ·rcases h p (by simp) with rfl | rfl | hp
     ·exact e rfl
     ·simp at y
     ·have:=hp.2 40 y; omega
    ·simp at y
   rw [if_neg e,Znp hn,ih]
theorem ZBq {p:List Nat} {r:List (List Nat)} (hp:Wd p):∃ l,gl1 (p :: r)=p ++ l:=by
 cases r with
 | nil=>exact ⟨[],(List.append_nil _).symm⟩
 | cons q r=>exact ⟨_,List.append_assoc _ _ _⟩
theorem ZER:∀ ws:List (List Nat),(∀ p ∈ ws,Wd p)→rp2 32 41 [41] (gl1 ws)=glue ws
 | [],_=>rfl
 | [p],h=>by
  show rp2 32 41 [41] p=p
  have:(32:Nat) ∉ p:=fun y=>by
   rcases h p (by simp) with rfl | rfl | hp
   ·simp at y
   ·simp at y
   ·have:=hp.2 32 y; omega
  have:=Znp (d:=41) (z:=[41]) (r:=[]) this
  rw [List.append_nil] at this
  rw [this]
  exact List.append_nil _
 | p :: q :: r,h=>by
  have ih:=ZER (q :: r) fun y hy=>h y (List.mem_cons_of_mem _ hy)
  have hq:=h q (by simp)
  have hp32:(32:Nat) ∉ p:=fun y=>by
   rcases h p (by simp) with rfl | rfl | hp
   ·simp at y
   ·simp at y
   ·have:=hp.2 32 y; omega
  show rp2 32 41 [41] (p ++ (if p=[40] then [] else [32]) ++ gl1 (q :: r))=p ++ (if p=[40]∨q=[41] then [] else [32]) ++ glue (q :: r)
  rw [List.append_assoc,Znp hp32,List.append_assoc]
  congr 1
  by_cases e:p=[40]
  ·rw [if_pos e,if_pos (.inl e),← ih]
   rfl
  ·rw [if_neg e]
   by_cases e2:q=[41]
   ·rw [if_pos (.inr e2)]
    subst e2
    obtain ⟨l,hl⟩ :=ZBq (r:=r) hq
    rw [hl] at ih ⊢
    show rp2 32 41 [41] (32 :: 41 :: l)=_
    rw [show rp2 32 41 [41] (32 :: 41 :: l)=[41] ++ rp2 32 41 [41] l from by show (if (32:Nat)=32∧(41:Nat)=41 then _ else _)=_; rw [if_pos ⟨rfl,rfl⟩],← ih,Znp (p:=[41]) (by decide)]
    rfl
   ·rw [if_neg (by rintro (h' | h') <;> contradiction),← ih]
    obtain ⟨l,hl⟩ :=ZBq (r:=r) hq
    rw [hl]
    have hd:∃ b q',q=b :: q'∧b ≠ 41:=by
     rcases hq with rfl | rfl | hq
     ·exact ⟨40,[],rfl,by decide⟩
     ·exact absurd rfl e2
     ·cases q with
      | nil=>exact absurd rfl hq.1
      | cons b q'=>exact ⟨b,q',rfl,fun y=>by have:=hq.2 b (by simp); omega⟩
    obtain ⟨b,q',rfl,hb⟩ :=hd
    show (if (32:Nat)=32∧b=41 then _ else 32 :: rp2 32 41 [41] (b :: (q' ++ l)))=_
    rw [if_neg fun y=>hb y.2]
    rfl
theorem ZAt (x:Str) (ws:List (List Nat)) (hx:x.cps.toList=jn [32] ws) (h:∀ p ∈ ws,Wd p):(Txt.replace (Txt.replace x ⟨#[40,32]⟩ ⟨#[40]⟩) ⟨#[32,41]⟩ ⟨#[41]⟩).cps.toList=glue ws:=by
 rw [ZkT,ZkT,hx]
 show rp2 32 41 [41] (rp2 40 32 [40] (jn [32] ws))=_
 rw [ZEQ ws h,ZER ws h]
def Zvu:W3→Str
 | .a=>" and "
 | .e=>" either "
 | .o=>" or "
def ZeA:W3→Nat
 | .a=>1
 | .e=>2
 | .o=>3
def Zp4:Fm→Nat
 | .join w _=>ZeA w
 | _=>0
def brk (b:Bool) (z:Str):Str:=if b=true then Str.empty ++ "(" ++ z ++ ")" else z
mutual
def Zd2 (ns:List Str):Fm→Str
 | .lamp k=>ns.getD k Str.empty
 | .sure b=>if b=true then "yes" else "no"
 | .neg f=>Str.empty ++ "not " ++ brk (decide (1≤(Zp4 f))) (Zd2 ns f)
 | .join w fs=>Txt.join (Zvu w) (Zcp ns (ZeA w) fs)
def Zcp (ns:List Str) (r:Nat):List Fm→List Str
 | []=>[]
 | f :: fs=>brk (decide (r≤(Zp4 f))) (Zd2 ns f) :: Zcp ns r fs
end
def Zv1 (ns:List Str) (r:Nat) (f:Fm):Str:=brk (decide (r≤(Zp4 f))) (Zd2 ns f)
theorem Zq9 (ns:List Str) (r:Nat):∀ fs:List Fm,Zcp ns r fs=fs.map (Zv1 ns r)
 | []=>by simp [Zcp]
 | f :: fs=>by simp [Zcp,Zq9 ns r fs,Zv1]
theorem Zww (ns:List Str) (w:W3) (fs:List Fm):Zd2 ns (Fm.join w fs)=Txt.join (Zvu w) (fs.map (Zv1 ns (ZeA w))):=by
 simp [Zd2,Zq9]
mutual
def fWt:Fm→Nat
 | .lamp _=>1
 | .sure _=>1
 | .neg f=>1 + fWt f
 | .join _ fs=>1 + fWtL fs
def fWtL:List Fm→Nat
 | []=>0
 | f :: fs=>1 + fWt f + fWtL fs
end
theorem ZKM {fs:List Fm} {f:Fm} (h:f ∈ fs):fWt f < fWtL fs:=by
 induction fs with
 | nil=>cases h
 | cons g gs ih=>
  rw [fWtL]
  rcases List.mem_cons.mp h with rfl | h
  ·omega
  ·have:=ih h
   omega
theorem ZHE:∀ fs:List Fm,fs.length≤fWtL fs
 | []=>Nat.zero_le _
 | f :: fs=>by rw [List.length_cons,fWtL]; have:=ZHE fs; omega
theorem ZAm (b:Bool) (z:Str):(brk b z).length≤z.length + 2:=by
 unfold brk
 split
 ·rw [Zan,Zan,Zan]
  have:Str.length Str.empty=0:=rfl
  have:Str.length "(" = 1:=by decide +kernel
  have:Str.length ")" = 1:=by decide +kernel
  omega
 ·omega
theorem Zz2 (w:W3):(Zvu w).length≤8:=by cases w <;> decide +kernel
theorem ZFF {ns:List Str} {B:Nat} (h:∀ z ∈ ns,z.length≤B) (k:Nat):(ns.getD k Str.empty).length≤B:=by
 rw [List.getD_eq_getElem?_getD]
 cases e:ns[k]? with
 | none=>exact Nat.zero_le _
 | some z=>exact h z (List.mem_of_getElem? e)
mutual
theorem Zra {ns:List Str} (h:∀ z ∈ ns,z.length≤20):∀ f:Fm,(Zd2 ns f).length≤20 * fWt f
 | .lamp k=>by simp only [Zd2,fWt]; exact ZFF h k
 | .sure b=>by cases b <;> simp only [Zd2,fWt] <;> decide +kernel
 | .neg f=>by
  have a:=Zra h f
  have b:=ZAm (decide (1≤(Zp4 f))) (Zd2 ns f)
  have c:Str.length "not " = 4:=by decide +kernel
  have d:Str.length Str.empty=0:=rfl
  simp only [Zd2,fWt]
  rw [Zan,Zan]
  omega
 | .join w fs=>by
  have a:=ZrF h (ZeA w) fs
  have b:=Zz2 w
  simp only [Zd2,fWt]
  have c:(Txt.join (Zvu w) (Zcp ns (ZeA w) fs)).length≤((Zcp ns (ZeA w) fs).map (·.length)).sum + (Zcp ns (ZeA w) fs).length * (Zvu w).length:=by
   show (Builtin.Str.glued _ _).length≤_
   rw [StrLaws.glued_eq_join]
   exact StrLaws.join_length_le _ _
  have d:(Zcp ns (ZeA w) fs).length * (Zvu w).length≤(Zcp ns (ZeA w) fs).length * 8:=Nat.mul_le_mul_left _ b
  omega
theorem ZrF {ns:List Str} (h:∀ z ∈ ns,z.length≤20) (r:Nat):∀ fs:List Fm,((Zcp ns r fs).map (·.length)).sum + (Zcp ns r fs).length * 8≤20 * fWtL fs
 | []=>by simp [Zcp]
 | f :: fs=>by
  have a:=Zra h f
  have b:=ZAm (decide (r≤(Zp4 f))) (Zd2 ns f)
  have c:=ZrF h r fs
  simp only [Zcp,fWtL,List.map_cons,List.sum_cons,List.length_cons]
  omega
end
theorem ZyR {ns:List Str} (h:∀ z ∈ ns,z.length≤20) (w:W3) (fs:List Fm) (hw:fWtL fs≤1000):JoinOk (Zvu w) (fs.map (Zv1 ns (ZeA w)))=true:=by
 rw [← Zq9]
 unfold JoinOk Builtin.Str.tooLong
 rw [StrLaws.joinTotal]
 have a:=ZrF h (ZeA w) fs
 have b:=Zz2 w
 have d:(Zcp ns (ZeA w) fs).length * (Zvu w).length≤(Zcp ns (ZeA w) fs).length * 8:=Nat.mul_le_mul_left _ b
 rw [decide_eq_false (Nat.not_lt.mpr (Zcd (by omega)))]
 rfl
section
variable {P:Program} {w:World} {K:PySem.W.Frag} {mg:Str→Option Value} {base:Heap} {t:Ad} {n:Nat}
def ZIH (t:Ad):Sp:=fun vs H Q _=>∃ (p:Addr) (f:Fm) (n:Nat),vs=[.ref p]∧FmAt t H (n + 1) p f∧Q (.int (Zp4 f:Int)) H
theorem ZnA (T:Txt K mg t):∀ C,isFm t C→MeS P w K mg base 1 C "looseness" ["self"] (spAt (ZIH t) C):=by
 rintro C (rfl | rfl | rfl | rfl | rfl | rfl)
 ·refine ⟨T.Zwn,_,_,T.Zc0.ok ZdZ (fun vs H Q E h=>?_) (fun cdv A outer s H vs Q E hr h=>?_),T.Zc1,T.Zld⟩
  ·obtain ⟨⟨p,f,n,rfl,_⟩,_⟩ :=h
   rfl
  ·obtain ⟨⟨p,f,n,rfl,hf,q⟩,a,dx,fs,r,e,ea⟩ :=h
   cases e
   obtain ⟨k,rfl,rfl⟩ :=hf.lamp T ea
   refine ⟨_,(Zaf (Zay Zae)),?_⟩
   walk_at "rd0"
   exact q
 ·refine ⟨T.Zwo,_,_,T.Zc0.ok ZdZ (fun vs H Q E h=>?_) (fun cdv A outer s H vs Q E hr h=>?_),T.Zc1,T.Zle⟩
  ·obtain ⟨⟨p,f,n,rfl,_⟩,_⟩ :=h
   rfl
  ·obtain ⟨⟨p,f,n,rfl,hf,q⟩,a,dx,fs,r,e,ea⟩ :=h
   cases e
   obtain ⟨b,rfl,rfl⟩ :=hf.sure T ea
   refine ⟨_,(Zaf (Zay Zae)),?_⟩
   walk_at "rd0"
   exact q
 ·refine ⟨T.c_Not,_,_,T.Zc0.ok ZdZ (fun vs H Q E h=>?_) (fun cdv A outer s H vs Q E hr h=>?_),T.Zc1,T.Zmn⟩
  ·obtain ⟨⟨p,f,n,rfl,_⟩,_⟩ :=h
   rfl
  ·obtain ⟨⟨p,f,n,rfl,hf,q⟩,a,dx,fs,r,e,ea⟩ :=h
   cases e
   obtain ⟨g,p2,rfl,rfl,hg⟩ :=hf.neg T ea
   refine ⟨_,(Zaf (Zay Zae)),?_⟩
   walk_at "rd0"
   exact q
 ·refine ⟨T.c_And,_,_,T.Zls.ok Ztj (fun vs H Q E h=>?_) (fun cdv A outer s H vs Q E hr h=>?_),T.ZlJ,T.Zml⟩
  ·obtain ⟨⟨p,f,n,rfl,_⟩,_⟩ :=h
   rfl
  ·obtain ⟨⟨p,f,n,rfl,hf,q⟩,a,dx,fs,r,e,ea⟩ :=h
   cases e
   obtain ⟨gs,tp,ps,rfl,rfl,htp,hg⟩ :=hf.join (w:=.a) T ea
   refine ⟨_,(Zaf (Zay Zae)),?_⟩
   walk_at "rd0"
   exact q
 ·refine ⟨T.Zm9,_,_,T.ZhK.ok Zpe (fun vs H Q E h=>?_) (fun cdv A outer s H vs Q E hr h=>?_),T.ZhQ,T.Zia⟩
  ·obtain ⟨⟨p,f,n,rfl,_⟩,_⟩ :=h
   rfl
  ·obtain ⟨⟨p,f,n,rfl,hf,q⟩,a,dx,fs,r,e,ea⟩ :=h
   cases e
   obtain ⟨gs,tp,ps,rfl,rfl,htp,hg⟩ :=hf.join (w:=.e) T ea
   refine ⟨_,(Zaf (Zay Zae)),?_⟩
   walk_at "rd0"
   exact q
 ·refine ⟨T.c_Or,_,_,T.ZnE.ok Zve (fun vs H Q E h=>?_) (fun cdv A outer s H vs Q E hr h=>?_),T.ZnO,T.Zoe⟩
  ·obtain ⟨⟨p,f,n,rfl,_⟩,_⟩ :=h
   rfl
  ·obtain ⟨⟨p,f,n,rfl,hf,q⟩,a,dx,fs,r,e,ea⟩ :=h
   cases e
   obtain ⟨gs,tp,ps,rfl,rfl,htp,hg⟩ :=hf.join (w:=.o) T ea
   refine ⟨_,(Zaf (Zay Zae)),?_⟩
   walk_at "rd0"
   exact q
def isJn (t:Ad) (C:Addr):Prop:=∃ w,C=cw t w
def ZE0 (t:Ad):Sp:=fun vs H Q _=>∃ (p dx:Addr) (fs:List (Str × V)) (w:W3),vs=[.ref p]∧H p=some (.ins (cw t w) dx fs)∧Q (.str (Zvu w)) H
theorem Zyh (T:Txt K mg t):∀ C,isJn t C→MeS P w K mg base 1 C "between" ["self"] (spAt (ZE0 t) C):=by
 rintro C ⟨v,rfl⟩
 cases v
 ·refine ⟨T.c_And,_,_,T.Zpj.ok Zv3 (fun vs H Q E h=>?_) (fun cdv A outer s H vs Q E hr h=>?_),T.Zpx,T.Zp5⟩
  ·obtain ⟨⟨p,dx,fs,w,rfl,_⟩,_⟩ :=h
   rfl
  ·obtain ⟨⟨p,dx,fs,w,rfl,hp,q⟩,a,dx',fs',r,e,ea⟩ :=h
   cases e
   rw [ea] at hp
   have e1:cw t .a=cw t w:=(HO.ins.inj (Option.some.inj hp)).1
   obtain rfl:=ZBk T e1
   refine ⟨_,(Zaf (Zay Zak)),?_⟩
   walk_at "rd0"
   exact q
 ·refine ⟨T.Zm9,_,_,T.Zk1.ok ZrD (fun vs H Q E h=>?_) (fun cdv A outer s H vs Q E hr h=>?_),T.Zk4,T.Zlc⟩
  ·obtain ⟨⟨p,dx,fs,w,rfl,_⟩,_⟩ :=h
   rfl
  ·obtain ⟨⟨p,dx,fs,w,rfl,hp,q⟩,a,dx',fs',r,e,ea⟩ :=h
   cases e
   rw [ea] at hp
   have e1:cw t .e=cw t w:=(HO.ins.inj (Option.some.inj hp)).1
   obtain rfl:=ZBk T e1
   refine ⟨_,(Zaf (Zay Zak)),?_⟩
   walk_at "rd0"
   exact q
 ·refine ⟨T.c_Or,_,_,T.ZrO.ok ZxU (fun vs H Q E h=>?_) (fun cdv A outer s H vs Q E hr h=>?_),T.Zr2,T.ZsE⟩
  ·obtain ⟨⟨p,dx,fs,w,rfl,_⟩,_⟩ :=h
   rfl
  ·obtain ⟨⟨p,dx,fs,w,rfl,hp,q⟩,a,dx',fs',r,e,ea⟩ :=h
   cases e
   rw [ea] at hp
   have e1:cw t .o=cw t w:=(HO.ins.inj (Option.some.inj hp)).1
   obtain rfl:=ZBk T e1
   refine ⟨_,(Zaf (Zay Zak)),?_⟩
   walk_at "rd0"
   exact q
def ZLc (t:Ad):Sp:=fun vs H Q _=>∃ (p:Addr) (f:Fm) (n r:Nat) (z:Str),vs=[.ref p,.str z,.int (r:Int)]∧FmAt t H (n + 1) p f∧z.length≤900000∧Q (.str (brk (decide (r≤Zp4 f)) z)) H
theorem ZsU (T:Txt K mg t):FnS P w K mg base 2 "bracketed" ["part","text","bound"] ((ZLc t)):=by
 refine ⟨_,_,T.ZoG.ok ZzG (fun vs H Q E h=>?_) (fun cdv A outer s H vs Q E hr h=>?_),T.Zt1,T.ZoG.kp,T.ZuL⟩
 ·obtain ⟨p,f,n,r,z,rfl,hf,hz,q⟩ :=h
  rfl
 obtain ⟨p,f,n,r,z,rfl,hf,hz,q⟩ :=h
 have D_looseness:=ZnA (P:=P) (w:=w) (base:=base) T
 obtain ⟨C,dx',fs',e',hC,hl⟩ :=hf.ins "looseness" (by decide +kernel) (by decide +kernel) (by decide +kernel) (by decide +kernel)
 have l0:Str.length Str.empty=0:=rfl
 have l1:Str.length "(" = 1:=by decide +kernel
 have l2:Str.length ")" = 1:=by decide +kernel
 refine ⟨_,(Zaf (Zay (ZqM (Zal ZEt (Zzz D_looseness hr (pv 0)) (pv 2) (Zax _)) (ZqN (ZkR Zak (ZkR (ZEA (pv 1)) (ZkR Zak ZBV)))) (pv 1)))),?_⟩
 walk_at "rd0"
 refine ⟨p,C,dx',fs',rfl,e',hC,hl,?_⟩
 walk_at "rd"
 refine ⟨e',p,f,n,rfl,hf,?_⟩
 walk_at "rd"
 refine Zcj (fun h=>?_) (fun h=>?_)
 ·rw [decide_eq_true (by omega)] at q
  walk_at "rd"
  refine ⟨_,rfl,Zcd (by rw [Zan]; omega),?_⟩
  walk_at "rd"
  refine ⟨_,rfl,Zcd (by omega),_,rfl,Zcd (by rw [Zan,Zan]; omega),?_⟩
  walk_at "rd"
  refine ⟨_,rfl,Zcd (by rw [Zan,Zan,Zan]; omega),?_⟩
  refine i_jn (by rw [Zan,Zan,Zan]; omega) ?_
  exact q
 ·rw [decide_eq_false (by omega)] at q
  walk_at "rd"
  exact q
def Zm0 (t:Ad) (n:Nat):Sp:=fun vs H Q _=>∃ (p nl:Addr) (f:Fm) (ns:List Str),vs=[.ref p,.ref nl]∧FmAt t H n p f∧H nl=some (.lst (ns.map V.str))∧(∀ z ∈ ns,z.length≤20)∧f.low ns.length=true∧fWt f≤1000∧∀ H',Same H H'→Q (.str (Zd2 ns f)) H'
theorem ZxC (T:Txt K mg t):MeS P w K mg base (n + 3) t.ZaB "shown" ["self","names"] (spAt (Zm0 t (n + 1)) t.ZaB):=by
 refine ⟨T.Zwn,_,_,T.ZrM.ok ZxS (fun vs H Q E h=>?_) (fun cdv A outer s H vs Q E hr h=>?_),T.ZlK,T.Zmm⟩
 ·obtain ⟨⟨p,nl,f,ns,rfl,_⟩,_⟩ :=h
  rfl
 ·obtain ⟨⟨p,nl,f,ns,rfl,hf,hn,h20,hlow,hwt,q⟩,a,dx,fs,r,e,ea⟩ :=h
  cases e
  obtain ⟨k,rfl,rfl⟩ :=hf.lamp T ea
  simp only [Fm.low,decide_eq_true_iff] at hlow
  refine ⟨_,(Zaf (Zay (ZaZ ZaA (pv 1) (Zfg (pv 0) rfl) (fun _ _=>rfl)))),?_⟩
  walk_at "rd0"
  refine ⟨p,_,_,_,_,rfl,ea,T.Zwn,T.Zhq,lk1 _ _,?_⟩
  walk_at "rd"
  refine Zgj (v:=.str (ns.getD k Str.empty)) hn (by rw [List.getElem?_map,List.getD_eq_getElem?_getD,List.getElem?_eq_getElem hlow]; rfl) ?_
  have:=q H (Same.refl _)
  simpa only [Zd2] using this
theorem ZxD (T:Txt K mg t):MeS P w K mg base (n + 3) t.ZaC "shown" ["self","names"] (spAt (Zm0 t (n + 1)) t.ZaC):=by
 refine ⟨T.Zwo,_,_,T.ZrP.ok ZxV (fun vs H Q E h=>?_) (fun cdv A outer s H vs Q E hr h=>?_),T.ZlL,T.Zmo⟩
 ·obtain ⟨⟨p,nl,f,ns,rfl,_⟩,_⟩ :=h
  rfl
 ·obtain ⟨⟨p,nl,f,ns,rfl,hf,hn,h20,hlow,hwt,q⟩,a,dx,fs,r,e,ea⟩ :=h
  cases e
  obtain ⟨b,rfl,rfl⟩ :=hf.sure T ea
  have q':=q H (Same.refl _)
  simp only [Zd2] at q'
  refine ⟨_,(Zaf (Zay (ZqM (ZdW (Zfg (pv 0) rfl) (fun _=>rfl)) Zak Zak))),?_⟩
  walk_at "rd0"
  refine ⟨p,_,_,_,_,rfl,ea,T.Zwo,T.ZdF,lk1 _ _,?_⟩
  walk_at "rd"
  refine ZKX (fun h=>?_) (fun h=>?_)
  ·rw [if_pos h] at q'
   walk_at "rd"
   exact q'
  ·rw [if_neg (by rw [h]; decide)] at q'
   walk_at "rd"
   exact q'
theorem Zzs (T:Txt K mg t) (D_shown:∀ C,isFm t C→MeS P w K mg base (n + 2) C "shown" ["self","names"] (spAt (Zm0 t n) C)):MeS P w K mg base (n + 3) t.C_Not "shown" ["self","names"] (spAt (Zm0 t (n + 1)) t.C_Not):=by
 refine ⟨T.c_Not,_,_,T.ZtJ.ok Zs7 (fun vs H Q E h=>?_) (fun cdv A outer s H vs Q E hr h=>?_),T.ZoT,T.Zo5⟩
 ·obtain ⟨⟨p,nl,f,ns,rfl,_⟩,_⟩ :=h
  rfl
 ·obtain ⟨⟨p,nl,f,ns,rfl,hf,hn,h20,hlow,hwt,q⟩,a,dx,fs,r,e,ea⟩ :=h
  cases e
  obtain ⟨g,p',rfl,rfl,hg⟩ :=hf.neg T ea
  simp only [Fm.low] at hlow
  simp only [fWt] at hwt
  have ZoI:=ZsU (P:=P) (w:=w) (base:=base) T
  obtain ⟨C,dx',fs',e',hC,hl⟩ :=hg.ins "shown" (by decide +kernel) (by decide +kernel) (by decide +kernel) (by decide +kernel)
  have hsl:=Zra h20 g
  have hbl:=ZAm (decide (1≤Zp4 g)) (Zd2 ns g)
  have l0:Str.length Str.empty=0:=rfl
  have l1:Str.length "not " = 4:=by decide +kernel
  refine ⟨_,(Zac (ss 2 Zs7.nd (Zce ZoI hr (Zaa (Zfg (pv 0) rfl) (Zaa (ZAW D_shown hr (Zfg (pv 0) rfl) (Zaa (pv 1) Zad)) (Zaa Zae Zad)))))
   (Zaf (Zay (ZqN (ZkR Zak (ZkR (ZEA (pv 2)) ZBV)))))),?_⟩
  walk_at "rd0"
  refine ⟨p,_,_,_,_,rfl,ea,T.c_Not,T.ZeD,lk1 _ _,?_⟩
  walk_at "rd"
  refine ⟨p,_,_,_,_,rfl,ea,T.c_Not,T.ZeD,lk1 _ _,?_⟩
  walk_at "rd"
  refine ⟨p',C,dx',fs',rfl,e',hC,hl,?_⟩
  walk_at "rd"
  refine ⟨e',p',nl,g,ns,rfl,hg,hn,h20,hlow,by omega,fun H1 s1=>?_⟩
  walk_at "rd"
  cases n with
  | zero=>exact hg.elim
  | succ n=>
   refine ⟨p',g,n,1,_,rfl,FmAt.mono (Ext.of s1) hg,by omega,?_⟩
   walk_at "rd"
   refine ⟨_,rfl,Zcd (by rw [Zan]; omega),?_⟩
   walk_at "rd"
   refine ⟨_,rfl,Zcd (by omega),_,rfl,Zcd (by rw [Zan,Zan]; omega),?_⟩
   refine i_jn (by rw [Zan,Zan]; omega) ?_
   have:=q H1 s1
   simpa only [Zd2] using this
theorem Zhy {v:W3} (T:Txt K mg t) (cl:Cls K (cw t v)) (na:Zar K (cw t v) "parts") (me:Meth K (cw t v) "shown" t.ZaE) (D_shown:∀ C,isFm t C→MeS P w K mg base (n + 2) C "shown" ["self","names"] (spAt (Zm0 t n) C)):MeS P w K mg base (n + 3) (cw t v) "shown" ["self","names"] (spAt (Zm0 t (n + 1)) (cw t v)):=by
 refine ⟨cl,_,_,T.ZnD.ok ZhC (fun vs H Q E h=>?_) (fun cdv A outer s H vs Q E hr h=>?_),T.Zd1,me⟩
 ·obtain ⟨⟨p,nl,f,ns,rfl,_⟩,_⟩ :=h
  rfl
 ·obtain ⟨⟨p,nl,f,ns,rfl,hf,hn,h20,hlow,hwt,q⟩,a,dx,fs,r,e,ea⟩ :=h
  cases e
  obtain ⟨gs,tp,ps,rfl,rfl,htp,hg⟩ :=hf.join T ea
  rw [ZBI,List.all_eq_true] at hlow
  simp only [fWt] at hwt
  have ZoI:=ZsU (P:=P) (w:=w) (base:=base) T
  have D_looseness:=ZnA (P:=P) (w:=w) (base:=base) T
  have D_between:=Zyh (P:=P) (w:=w) (base:=base) T
  obtain ⟨C0,dx0,fs0,e0,hC0,hl0⟩ :=hf.ins "looseness" (by decide +kernel) (by decide +kernel) (by decide +kernel) (by decide +kernel)
  refine ⟨_,(Zac (ss 2 ZhC.nd (ZaN Zad))
   (Zac (Zlm PassesOwn.never rfl (ZmP (Zfg (pv 0) rfl)) (sg 3 ZhC.nd)
   (Zaf (ZcP (ZkQ PySem.F.plainAttrs_list PySem.F.slot_list_append PySem.F.type_list_append Zb9 (pv 2) (Zaa (Zce ZoI hr (Zaa (pv 3) (Zaa (ZAW D_shown hr (pv 3) (Zaa (pv 1) Zad)) (Zaa (Zzz D_looseness hr (pv 0)) Zad)))) Zad)))))
   (Zaf (Zay (ZkQ PySem.F.plainAttrs_str PySem.F.slot_str_join PySem.F.type_str_join ZEd (Zzz D_between hr (pv 0)) (Zaa (pv 2) Zad)))))),?_⟩
  walk_at "rd0"
  refine Zcu (by simp) fun tl H1 s1 n1 e1=>?_
  walk_at "rd"
  refine ⟨p,_,_,_,_,rfl,s1 _ _ ea,cl,na,lk1 _ _,?_⟩
  refine seqT (xs:=ps.map V.ref) (fun i σ H'=>Same H H'∧H' tl=some (.lst (((gs.take i).map (Zv1 ns (ZeA v))).map V.str))∧∃ v3,σ=[some (.ref p),some (.ref nl),some (.ref tl),v3]) ⟨s1,e1,_,rfl⟩ (fun i σ H' _ hp=>by obtain ⟨s2,_⟩ :=hp; exact SqT.of (s2 _ _ htp)) ?_ ?_
  ·rintro i x σ H2 hx ⟨s2,e2,v3,rfl⟩
   obtain ⟨p',rfl,hx'⟩ :=Zup hx
   obtain ⟨g,hgi,hf'⟩ :=Zfw hg hx'
   have hgm:=List.mem_of_getElem? hgi
   have hgw:=ZKM hgm
   have hsl:=Zra h20 g
   have hf2:=FmAt.mono (Ext.of s2) hf'
   obtain ⟨C,dx',fs',e',hC,hl⟩ :=hf2.ins "shown" (by decide +kernel) (by decide +kernel) (by decide +kernel) (by decide +kernel)
   walk_at "rd"
   refine ⟨tyL e2,?_⟩
   walk_at "rd"
   refine ⟨p',C,dx',fs',rfl,e',hC,hl,?_⟩
   walk_at "rd"
   refine ⟨e',p',nl,g,ns,rfl,hf2,s2 _ _ hn,h20,hlow g hgm,by omega,fun H3 s3=>?_⟩
   walk_at "rd"
   refine ⟨p,C0,dx0,fs0,rfl,s3 _ _ (s2 _ _ e0),hC0,hl0,?_⟩
   walk_at "rd"
   have hfj:=FmAt.mono (Ext.of (s2.trans s3)) hf
   refine ⟨s3 _ _ (s2 _ _ e0),p,_,n,rfl,hfj,?_⟩
   walk_at "rd"
   cases n with
   | zero=>exact hf'.elim
   | succ n=>
    refine ⟨p',g,n,ZeA v,_,rfl,FmAt.mono (Ext.of s3) hf2,by omega,?_⟩
    walk_at "rd"
    refine ZfG (s3 _ _ e2) (by rw [List.length_map,List.length_map,List.length_take]; have:=ZHE gs; omega) fun H4 b4 e4=>?_
    walk_at "rd"
    refine ⟨b4.same n1 (s2.trans s3),?_,_,rfl⟩
    rw [Zeg hgi,List.map_append,List.map_append]
    exact e4
  ·rintro σ H2 ⟨s2,e2,v3,rfl⟩
   rw [List.length_map,Zcg hg,List.take_length] at e2
   walk_at "rd"
   refine ⟨p,_,dx,_,rfl,s2 _ _ ea,⟨v,rfl⟩,lk0 _ (by decide +kernel),?_⟩
   walk_at "rd"
   refine ⟨s2 _ _ ea,p,dx,_,v,rfl,s2 _ _ ea,?_⟩
   walk_at "rd"
   refine ⟨tyS,?_⟩
   walk_at "rd"
   refine ⟨_,tl,_,rfl,rfl,SqL.of e2,ZyR h20 v gs (by omega),?_⟩
   have:=q H2 s2
   rw [Zww] at this
   exact this
theorem Znl {k:Nat} {C f:Addr} {fd:FuncData} {m:Str} {ps:List Str} {sp:Sp} (no:∀ vs H Q E,¬ sp vs H Q E) (c:Cls K C) (b:Za0 K fd ps []) (h:Meth K C m f):MeS P w K mg base k C m ps sp:=
 ⟨c,f,fd,⟨fun vs H Q E h=>absurd h (no vs H Q E),fun A outer s H args us vs Q E _ _ _ _ h=>absurd h (no vs H Q E)⟩,b,h⟩
theorem Zwj (T:Txt K mg t):∀ n:Nat,∀ C,isFm t C→MeS P w K mg base (n + 2) C "shown" ["self","names"] (spAt (Zm0 t n) C)
 | 0=>by
  have no:∀ C vs H Q E,¬ spAt (Zm0 t 0) C vs H Q E:=fun C vs H Q E h=>by
   obtain ⟨⟨p,nl,f,ns,_,h,_⟩,_⟩ :=h
   exact h
  rintro C (rfl | rfl | rfl | rfl | rfl | rfl)
  ·exact Znl (no _) T.Zwn T.ZlK T.Zmm
  ·exact Znl (no _) T.Zwo T.ZlL T.Zmo
  ·exact Znl (no _) T.c_Not T.ZoT T.Zo5
  ·exact Znl (no _) T.c_And T.Zd1 T.Zo3
  ·exact Znl (no _) T.Zm9 T.Zd1 T.ZiX
  ·exact Znl (no _) T.c_Or T.Zd1 T.Zrs
 | n + 1=>by
  have ih:=Zwj T n
  rintro C (rfl | rfl | rfl | rfl | rfl | rfl)
  ·exact ZxC T
  ·exact ZxD T
  ·exact Zzs T ih
  ·exact Zhy (v:=.a) T T.c_And T.Zex T.Zo3 ih
  ·exact Zhy (v:=.e) T T.Zm9 T.Zcw T.ZiX ih
  ·exact Zhy (v:=.o) T T.c_Or T.Zfv T.Zrs ih
end
inductive Tr where
 | lamp (k:Nat)
 | sure (b:Bool)
 | neg (t:Tr)
 | wrap (t:Tr)
 | join (w:W3) (ts:List Tr)
mutual
def fmT (π:Nat→Nat):Tr→Fm
 | .lamp k=>.lamp (π k)
 | .sure b=>.sure b
 | .neg t=>.neg (fmT π t)
 | .wrap t=>fmT π t
 | .join w ts=>.join w (fmTL π ts)
def fmTL (π:Nat→Nat):List Tr→List Fm
 | []=>[]
 | t :: ts=>fmT π t :: fmTL π ts
end
def rkG (b:Bool):Tr→Nat
 | .wrap t=>if b=true then 0 else rkG b t
 | .join w _=>ZeA w
 | _=>0
def brW (b:Bool) (ws:List Str):List Str:=if b=true then "(" :: (ws ++ ([")"]:List Str)) else ws
def jnW (k:Str):List (List Str)→List Str
 | []=>[]
 | [p]=>p
 | p :: q :: r=>p ++ k :: jnW k (q :: r)
mutual
def wdG (b:Bool) (ns:List Str):Tr→List Str
 | .lamp k=>[ns.getD k Str.empty]
 | .sure c=>[if c=true then "yes" else "no"]
 | .neg t=>"not" :: brW (decide (1≤rkG b t)) (wdG b ns t)
 | .wrap t=>brW b (wdG b ns t)
 | .join w ts=>jnW (kw3 w) (wdGL b ns (ZeA w) ts)
def wdGL (b:Bool) (ns:List Str) (r:Nat):List Tr→List (List Str)
 | []=>[]
 | t :: ts=>brW (decide (r≤rkG b t)) (wdG b ns t) :: wdGL b ns r ts
end
mutual
def okT (m:Nat):Tr→Bool
 | .lamp k=>decide (k < m)
 | .sure _=>true
 | .neg t=>okT m t
 | .wrap t=>okT m t
 | .join _ ts=>decide (2≤ts.length) && okTL m ts
def okTL (m:Nat):List Tr→Bool
 | []=>true
 | t :: ts=>okT m t && okTL m ts
end
theorem ZBp (π:Nat→Nat):∀ ts:List Tr,(fmTL π ts).length=ts.length
 | []=>rfl
 | _ :: ts=>congrArg (· + 1) (ZBp π ts)
def ZI3 (v:W3) (L:Lv):Prop:=L.nots=0∧L.lack=true∧(v ≠ .a→L.ands=[])∧(v=.o→L.eithers=[])
def cl0:W3→Lv→List Fm
 | .a,L=>L.ands
 | .e,L=>L.eithers
 | .o,L=>L.ors
def cl:W3→Lv→List Fm
 | .a,L=>L.ands
 | .e,L=>L.eithers ++ [ZcX .a L.ands]
 | .o,L=>L.ors ++ [ZcX .e (L.eithers ++ [ZcX .a L.ands])]
def up3 (v:W3) (L L':Lv):Prop:=(v=.a→L'.eithers=L.eithers)∧(v ≠ .o→L'.ors=L.ors)
def D0 (ns:List Str) (ws:List Str) (f:Fm):Prop:=∀ (L:Lv) (R:List Lv),L.lack=true→runW ns (L :: R) ws=some (L.part f :: R)
def Pw (ns:List Str) (v:W3) (ws:List Str) (fs:List Fm):Prop:=∀ (L:Lv) (R:List Lv),ZI3 v L→∃ L',runW ns (L :: R) ws=some (L' :: R)∧L'.lack=false∧L'.nots=0∧cl v L'=cl0 v L ++ fs∧up3 v L L'
def Ww (ns:List Str) (ws:List Str) (f:Fm):Prop:=∀ R:List Lv,∃ L',runW ns (Lv.new :: R) ws=some (L' :: R)∧L'.lack=false∧L'.whole=f
theorem D0.a {ns ws:List Str} {f:Fm} (h:D0 ns ws f):Pw ns .a ws [f]:=fun L R c=>⟨L.part f,h L R c.2.1,rfl,rfl,by show L.ands ++ [negs L.nots f]=_; rw [c.1]; rfl,fun _=>rfl,fun _=>rfl⟩
theorem Pw.ae {ns ws:List Str} {fs:List Fm} {f:Fm} (h:Pw ns .a ws fs) (e:ZcX .a fs=f):Pw ns .e ws [f]:=fun L R c=>by
 obtain ⟨L',h1,h2,h3,h4,h5⟩ :=h L R ⟨c.1,c.2.1,fun z=>absurd rfl z,fun z=>nomatch z⟩
 have ha:L'.ands=fs:=by
  have:L'.ands=L.ands ++ fs:=h4
  rw [this,c.2.2.1 (by decide)]
  rfl
 refine ⟨L',h1,h2,h3,?_,(fun z=>nomatch z),fun z=>h5.2 (by decide)⟩
 show L'.eithers ++ [ZcX .a L'.ands]=L.eithers ++ [f]
 rw [h5.1 rfl,ha,e]
theorem Pw.eo {ns ws:List Str} {fs:List Fm} {f:Fm} (h:Pw ns .e ws fs) (e:ZcX .e fs=f):Pw ns .o ws [f]:=fun L R c=>by
 obtain ⟨L',h1,h2,h3,h4,h5⟩ :=h L R ⟨c.1,c.2.1,fun _=>c.2.2.1 (by decide),fun z=>nomatch z⟩
 have he:L'.eithers ++ [ZcX .a L'.ands]=fs:=by
  have:L'.eithers ++ [ZcX .a L'.ands]=L.eithers ++ fs:=h4
  rw [this,c.2.2.2 rfl]
  rfl
 refine ⟨L',h1,h2,h3,?_,(fun z=>nomatch z),fun z=>absurd rfl z⟩
 show L'.ors ++ [ZcX .e (L'.eithers ++ [ZcX .a L'.ands])]=L.ors ++ [f]
 rw [h5.2 (by decide),he,e]
theorem Pw.w {ns ws:List Str} {fs:List Fm} {f:Fm} (h:Pw ns .o ws fs) (e:ZcX .o fs=f):Ww ns ws f:=fun R=>by
 obtain ⟨L',h1,h2,h3,h4,h5⟩ :=h Lv.new R ⟨rfl,rfl,fun _=>rfl,fun _=>rfl⟩
 refine ⟨L',h1,h2,?_⟩
 have:L'.ors ++ [ZcX .e (L'.eithers ++ [ZcX .a L'.ands])]=fs:=h4
 show ZcX .o (L'.ors ++ [ZcX .e (L'.eithers ++ [ZcX .a L'.ands])])=f
 rw [this,e]
theorem ZIa (v:W3):ZCy (kw3 v)=some v:=by cases v <;> decide
theorem ZJM (v:W3):kw3 v ≠ "("∧kw3 v ≠ ")":=by cases v <;> decide
theorem ZE7 {ns:List Str} {L:Lv} {R:List Lv} (v:W3) (h:L.lack=false):ZcF ns (L :: R) (kw3 v)=some (L.join v :: R):=by
 have hw:L.word ns (kw3 v)=some (L.join v):=by
  unfold Lv.word
  rw [if_neg (by rw [h]; decide),ZIa]
  rfl
 have h1 : ¬ (kw3 v = "("∧L.lack=true):=fun y=>(ZJM v).1 y.1
 cases R with
 | nil=>simp only [ZcF]; rw [if_neg h1,hw]; rfl
 | cons M R=>simp only [ZcF]; rw [if_neg h1,if_neg fun y=>(ZJM v).2 y.1,hw]; rfl
theorem ZmY {ns:List Str} {S S':List Lv} {z:Str} {r:List Str} (h:ZcF ns S z=some S'):runW ns S (z :: r)=runW ns S' r:=by
 show (ZcF ns S z).bind _=_
 rw [h]
 rfl
theorem Pw.join {ns:List Str} {v:W3}:∀ {txs:List (List Str)} {fs:List Fm},txs ≠ []→Paired (fun tx f=>Pw ns v tx [f]) txs fs→Pw ns v (jnW (kw3 v) txs) fs
 | [],_,n,_=>absurd rfl n
 | [tx],_,_,.cons h .nil=>h
 | tx :: ty :: r,f :: fs,_,.cons h t=>fun L R c=>by
  obtain ⟨L1,a1,a2,a3,a4,a5⟩ :=h L R c
  have ih:=Pw.join (txs:=ty :: r) (by simp) t
  have c1:ZI3 v (L1.join v):=by
   refine ⟨?_,?_,fun hv=>?_,fun hv=>?_⟩
   ·cases v <;> exact a3
   ·cases v <;> rfl
   ·cases v
    ·exact absurd rfl hv
    ·rfl
    ·rfl
   ·subst hv; rfl
  have e0:cl0 v (L1.join v)=cl v L1:=by cases v <;> rfl
  obtain ⟨L2,b1,b2,b3,b4,b5⟩ :=ih (L1.join v) R c1
  refine ⟨L2,?_,b2,b3,?_,?_,?_⟩
  ·show runW ns (L :: R) (tx ++ kw3 v :: jnW (kw3 v) (ty :: r))=_
   rw [ZdH,a1]
   show runW ns (L1 :: R) (kw3 v :: jnW (kw3 v) (ty :: r))=_
   rw [ZmY (ZE7 v a2)]
   exact b1
  ·rw [b4,e0,a4,List.append_assoc]
   rfl
  ·intro hv
   subst hv
   exact (b5.1 rfl).trans (a5.1 rfl)
  ·intro hv
   refine (b5.2 hv).trans ?_
   have:(L1.join v).ors=L1.ors:=by
    cases v
    ·rfl
    ·rfl
    ·exact absurd rfl hv
   rw [this]
   exact a5.2 hv
theorem D0.br {ns ws:List Str} {f:Fm} (h:Ww ns ws f):D0 ns ("(" :: (ws ++ ([")"]:List Str))) f:=fun L R hl=>by
 obtain ⟨L',h1,h2,h3⟩ :=h (L :: R)
 have s1:ZcF ns (L :: R) "(" = some (Lv.new :: L :: R):=by simp only [ZcF]; rw [if_pos ⟨trivial,hl⟩]
 rw [ZmY s1,ZdH,h1]
 show runW ns (L' :: L :: R) [")"]=_
 have s2:ZcF ns (L' :: L :: R) ")" = some (L.part L'.whole :: R):=by
  simp only [ZcF]
  rw [if_neg (by rintro ⟨y,_⟩; exact absurd y (by decide)),if_pos ⟨trivial,h2⟩]
 rw [ZmY s2,h3]
 rfl
theorem D0.one {ns:List Str} {z:Str} {f:Fm} (h:ZhD ns z=some f) (h1:z ≠ "(") (h2:z ≠ ")") (h3:z ≠ "not"):D0 ns [z] f:=fun L R hl=>by
 have hw:L.word ns z=some (L.part f):=by
  unfold Lv.word
  rw [if_pos hl,if_neg h3,h]
  rfl
 have s1:ZcF ns (L :: R) z=some (L.part f :: R):=by
  cases R with
  | nil=>simp only [ZcF]; rw [if_neg fun y=>h1 y.1,hw]; rfl
  | cons M R=>simp only [ZcF]; rw [if_neg fun y=>h1 y.1,if_neg fun y=>h2 y.1,hw]; rfl
 rw [ZmY s1]
 rfl
theorem ZEe (n:Nat) (f:Fm):negs n (.neg f)=negs (n + 1) f:=by
 induction n with
 | zero=>rfl
 | succ n ih=>show Fm.neg (negs n (.neg f))=_; rw [ih]; rfl
theorem D0.not {ns ws:List Str} {f:Fm} (h:D0 ns ws f):D0 ns ("not" :: ws) (.neg f):=fun L R hl=>by
 have hw:L.word ns "not" = some ⟨L.nots + 1,L.ands,L.eithers,L.ors,L.lack⟩ :=by
  unfold Lv.word
  rw [if_pos hl,if_pos rfl]
 have s1:ZcF ns (L :: R) "not" = some (⟨L.nots + 1,L.ands,L.eithers,L.ors,L.lack⟩ :: R):=by
  cases R with
  | nil=>simp only [ZcF]; rw [if_neg (by rintro ⟨y,_⟩; exact absurd y (by decide)),hw]; rfl
  | cons M R=>simp only [ZcF]; rw [if_neg (by rintro ⟨y,_⟩; exact absurd y (by decide)),if_neg (by rintro ⟨y,_⟩; exact absurd y (by decide)),hw]; rfl
 rw [ZmY s1,h ⟨L.nots + 1,L.ands,L.eithers,L.ors,L.lack⟩ R hl]
 unfold Lv.part
 rw [ZEe]
structure GoodT (ns' ns:List Str) (π:Nat→Nat) (t:Tr):Prop where
 z:rkG true t=0→D0 ns' (wdG true ns t) (fmT π t)
 e:rkG true t≤1→Pw ns' .e (wdG true ns t) [fmT π t]
 o:rkG true t≤2→Pw ns' .o (wdG true ns t) [fmT π t]
 w:Ww ns' (wdG true ns t) (fmT π t)
theorem GoodT.of0 {ns' ns:List Str} {π:Nat→Nat} {t:Tr} (h:D0 ns' (wdG true ns t) (fmT π t)):GoodT ns' ns π t:=⟨fun _=>h,fun _=>h.a.ae rfl,fun _=>(h.a.ae rfl).eo rfl,((h.a.ae rfl).eo rfl).w rfl⟩
theorem GoodT.br0 {ns' ns:List Str} {π:Nat→Nat} {t:Tr} (g:GoodT ns' ns π t) {r:Nat} (h:r≤1):D0 ns' (brW (decide (r≤rkG true t)) (wdG true ns t)) (fmT π t):=by
 by_cases e:r≤rkG true t
 ·rw [decide_eq_true e]; exact D0.br g.w
 ·rw [decide_eq_false e]; exact g.z (by omega)
theorem GoodT.br1 {ns' ns:List Str} {π:Nat→Nat} {t:Tr} (g:GoodT ns' ns π t):Pw ns' .e (brW (decide (2≤rkG true t)) (wdG true ns t)) [fmT π t]:=by
 by_cases e:2≤rkG true t
 ·rw [decide_eq_true e]; exact (D0.br g.w).a.ae rfl
 ·rw [decide_eq_false e]; exact g.e (by omega)
theorem GoodT.br2 {ns' ns:List Str} {π:Nat→Nat} {t:Tr} (g:GoodT ns' ns π t):Pw ns' .o (brW (decide (3≤rkG true t)) (wdG true ns t)) [fmT π t]:=by
 by_cases e:3≤rkG true t
 ·rw [decide_eq_true e]; exact ((D0.br g.w).a.ae rfl).eo rfl
 ·rw [decide_eq_false e]; exact g.o (by omega)
structure NmsOk (ns' ns:List Str) (π:Nat→Nat) (m:Nat):Prop where
 at':∀ k,k < m→idxS (ns.getD k Str.empty) ns'=some (π k)
 no:∀ k,k < m→ns.getD k Str.empty ∉ (["yes","no","not","(",")"]:List Str)
mutual
theorem Zts {ns' ns:List Str} {π:Nat→Nat} {m:Nat} (N:NmsOk ns' ns π m):∀ t:Tr,okT m t=true→GoodT ns' ns π t
 | .lamp k,h=>by
  have hk:k < m:=by simpa [okT] using h
  have no:=N.no k hk
  simp only [List.mem_cons,List.not_mem_nil,or_false,not_or] at no
  refine .of0 ?_
  show D0 ns' [ns.getD k Str.empty] (.lamp (π k))
  refine D0.one ?_ no.2.2.2.1 no.2.2.2.2 no.2.2.1
  unfold ZhD
  rw [if_neg no.1,if_neg no.2.1,N.at' k hk]
  rfl
 | .sure b,_=>by
  refine .of0 ?_
  cases b
  ·exact D0.one (z:="no") (by unfold ZhD; rw [if_neg (by decide),if_pos rfl]; rfl) (by decide) (by decide) (by decide)
  ·exact D0.one (z:="yes") (by unfold ZhD; rw [if_pos rfl]; rfl) (by decide) (by decide) (by decide)
 | .neg t,h=>.of0 (D0.not ((Zts N t (by simpa [okT] using h)).br0 (Nat.le_refl 1)))
 | .wrap t,h=>.of0 (D0.br (Zts N t (by simpa [okT] using h)).w)
 | .join v ts,h=>by
  simp only [okT,Bool.and_eq_true,decide_eq_true_iff] at h
  have gl:=ZyI N ts h.2
  have ne:∀ r,wdGL true ns r ts ≠ []:=fun r=>by
   cases ts with
   | nil=>simp at h
   | cons _ _=>simp [wdGL]
  have jl:∀ v,ZcX v (fmTL π ts)=.join v (fmTL π ts):=fun v=>Zqd (by rw [ZBp]; omega)
  cases v with
  | a=>
   have p:=Pw.join (v:=.a) (ne 1) (gl.1)
   exact ⟨(fun z:(1:Nat)=0=>nomatch z),fun _=>p.ae (jl .a),fun _=>(p.ae (jl .a)).eo rfl,((p.ae (jl .a)).eo rfl).w rfl⟩
  | e=>
   have p:=Pw.join (v:=.e) (ne 2) (gl.2.1)
   exact ⟨(fun z:(2:Nat)=0=>nomatch z),(fun z:(2:Nat)≤1=>absurd z (by decide)),fun _=>p.eo (jl .e),(p.eo (jl .e)).w rfl⟩
  | o=>
   have p:=Pw.join (v:=.o) (ne 3) (gl.2.2)
   exact ⟨(fun z:(3:Nat)=0=>nomatch z),(fun z:(3:Nat)≤1=>absurd z (by decide)),(fun z:(3:Nat)≤2=>absurd z (by decide)),p.w (jl .o)⟩
theorem ZyI {ns' ns:List Str} {π:Nat→Nat} {m:Nat} (N:NmsOk ns' ns π m):∀ ts:List Tr,okTL m ts=true→Paired (fun tx f=>Pw ns' .a tx [f]) (wdGL true ns 1 ts) (fmTL π ts)∧Paired (fun tx f=>Pw ns' .e tx [f]) (wdGL true ns 2 ts) (fmTL π ts)∧Paired (fun tx f=>Pw ns' .o tx [f]) (wdGL true ns 3 ts) (fmTL π ts)
 | [],_=>⟨.nil,.nil,.nil⟩
 | t :: ts,h=>by
  simp only [okTL,Bool.and_eq_true] at h
  have g:=Zts N t h.1
  have r:=ZyI N ts h.2
  exact ⟨.cons (g.br0 (Nat.le_refl 1)).a r.1,.cons g.br1 r.2.1,.cons g.br2 r.2.2⟩
end
theorem ZEO {ns' ns:List Str} {π:Nat→Nat} {m:Nat} (N:NmsOk ns' ns π m) {t:Tr} (h:okT m t=true):Zdn ns' (wdG true ns t)=some (fmT π t):=by
 obtain ⟨L',h1,h2,h3⟩ :=(Zts N t h).w []
 unfold Zdn
 rw [h1]
 show (some L').bind endF=_
 show endF L'=_
 unfold endF
 rw [if_neg (by rw [h2]; decide),h3]
def ZyU:Tr→Str
 | .lamp _=>"lamp"
 | .sure _=>"sure"
 | .neg _=>"not"
 | .wrap _=>"wrap"
 | .join v _=>kw3 v
def anyA:Addr→Prop:=fun _=>True
def TwAt (S:Addr→Prop) (H:Hp):Nat→Addr→Tr→Prop
 | 0,_,_=>False
 | n + 1,p,t=>match t with
  | .lamp k=>H p=some (.tup [.str "lamp",.int (k:Int)])
  | .sure b=>H p=some (.tup [.str "sure",.bl b])
  | .neg g=>∃ l q,H p=some (.tup [.str "not",.ref l])∧S l∧H l=some (.lst [.ref q])∧TwAt S H n q g
  | .wrap g=>∃ l q,H p=some (.tup [.str "wrap",.ref l])∧S l∧H l=some (.lst [.ref q])∧TwAt S H n q g
  | .join v gs=>∃ l ps,H p=some (.tup [.str (kw3 v),.ref l])∧S l∧H l=some (.lst (ps.map V.ref))∧Paired (TwAt S H n) ps gs
theorem TwAt.imp {S S':Addr→Prop} {H H':Hp} (ht:∀ p xs,H p=some (.tup xs)→H' p=some (.tup xs)) (hl:∀ l xs,S l→H l=some (.lst xs)→S' l∧H' l=some (.lst xs)):∀ {n:Nat} {p:Addr} {f:Tr},TwAt S H n p f→TwAt S' H' n p f
 | 0,_,_,h=>h
 | n + 1,p,f,h=>by
  cases f with
  | lamp k=>exact ht _ _ h
  | sure b=>exact ht _ _ h
  | neg g=>obtain ⟨l,q,e,sl,e2,h⟩ :=h; exact ⟨l,q,ht _ _ e,(hl _ _ sl e2).1,(hl _ _ sl e2).2,TwAt.imp ht hl h⟩
  | wrap g=>obtain ⟨l,q,e,sl,e2,h⟩ :=h; exact ⟨l,q,ht _ _ e,(hl _ _ sl e2).1,(hl _ _ sl e2).2,TwAt.imp ht hl h⟩
  | join w gs=>obtain ⟨l,ps,e,sl,e2,h⟩ :=h; exact ⟨l,ps,ht _ _ e,(hl _ _ sl e2).1,(hl _ _ sl e2).2,ZaH (fun a b h=>TwAt.imp ht hl h) h⟩
theorem TwAt.same {S:Addr→Prop} {H H':Hp} (s:Same H H') {n:Nat} {p:Addr} {f:Tr} (h:TwAt S H n p f):TwAt S H' n p f:=h.imp (fun _ _ e=>s _ _ e) fun _ _ z e=>⟨z,s _ _ e⟩
theorem TwAt.any {S:Addr→Prop} {H:Hp} {n:Nat} {p:Addr} {f:Tr} (h:TwAt S H n p f):TwAt anyA H n p f:=h.imp (fun _ _ e=>e) fun _ _ _ e=>⟨trivial,e⟩
theorem TwAt.le {S:Addr→Prop} {H:Hp}:∀ {n m:Nat} {p:Addr} {f:Tr},n≤m→TwAt S H n p f→TwAt S H m p f
 | 0,_,_,_,_,h=>h.elim
 | n + 1,0,_,_,hm,_=>absurd hm (by omega)
 | n + 1,m + 1,p,f,hm,h=>by
  have hm':n≤m:=by omega
  cases f with
  | lamp k=>exact h
  | sure b=>exact h
  | neg g=>obtain ⟨l,q,e,sl,e2,h⟩ :=h; exact ⟨l,q,e,sl,e2,TwAt.le hm' h⟩
  | wrap g=>obtain ⟨l,q,e,sl,e2,h⟩ :=h; exact ⟨l,q,e,sl,e2,TwAt.le hm' h⟩
  | join w gs=>obtain ⟨l,ps,e,sl,e2,h⟩ :=h; exact ⟨l,ps,e,sl,e2,ZaH (fun a b h=>TwAt.le hm' h) h⟩
theorem TwAt.kind {S:Addr→Prop} {H:Hp} {n:Nat} {p:Addr} {f:Tr} (h:TwAt S H n p f):∃ v,H p=some (.tup [.str (ZyU f),v]):=by
 cases n with
 | zero=>exact h.elim
 | succ n=>
  cases f with
  | lamp k=>exact ⟨_,h⟩
  | sure b=>exact ⟨_,h⟩
  | neg g=>obtain ⟨l,q,e,_⟩ :=h; exact ⟨_,e⟩
  | wrap g=>obtain ⟨l,q,e,_⟩ :=h; exact ⟨_,e⟩
  | join w gs=>obtain ⟨l,ps,e,_⟩ :=h; exact ⟨_,e⟩
mutual
def nT:Tr→Nat
 | .lamp _=>1
 | .sure _=>1
 | .neg t=>1 + nT t
 | .wrap t=>1 + nT t
 | .join _ ts=>1 + nTL ts
def nTL:List Tr→Nat
 | []=>0
 | t :: ts=>nT t + nTL ts
end
theorem ZjC:∀ a b:List Tr,nTL (a ++ b)=nTL a + nTL b
 | [],b=>by simp [nTL]
 | t :: a,b=>by
  show nT t + nTL (a ++ b)=nT t + nTL a + nTL b
  rw [ZjC a b]
  omega
theorem ZuP (t:Tr):nTL [t]=nT t:=by simp [nTL]
theorem Ztz (m:Nat):∀ ts:List Tr,okTL m ts=ts.all (okT m)
 | []=>rfl
 | t :: ts=>by
  show (okT m t && okTL m ts)=(okT m t && ts.all (okT m))
  rw [Ztz m ts]
def rkK:Tr→Nat
 | .join v _=>ZeA v
 | _=>0
theorem ZEZ {α:Type} {l:List α} (h:l ≠ []):∃ a x,l=a ++ [x]:=⟨l.dropLast,l.getLast h,(List.dropLast_concat_getLast h).symm⟩
theorem ZHS {cs:List Int} {i:Nat} {x:V} (h:(cs.map V.int)[i]?=some x):∃ c,x=.int c∧cs[i]?=some c:=by
 rw [List.getElem?_map] at h
 obtain ⟨c,hc,rfl⟩ :=Option.map_eq_some_iff.mp h
 exact ⟨c,rfl,hc⟩
def w3of (i:Nat):W3:=if i=0 then .a else if i=1 then .e else .o
theorem ZHD {i:Nat} (h:i < 3):([.str "and",.str "either",.str "or"]:List V)[i]?=some (.str (kw3 (w3of i))):=by
 rcases (show i=0∨i=1∨i=2 by omega) with rfl | rfl | rfl <;> rfl
section
variable {P:Program} {w:World} {K:PySem.W.Frag} {mg:Str→Option Value} {base:Heap} {t:Ad} {n:Nat}
theorem ZDG {td ty tx:TE} {σ:St} {H:Hp} {Q:VK} (h:td σ H fun x H1=>∃ a,x=.ref a∧IsD H1 a∧ty σ H1 fun y H2=>tx σ H2 fun z H3=>∃ o,DGet H3 a y o∧Q (o.getD z) H3):ZHA td ty tx σ H Q:=h
theorem ZGN {trs:List (TE × TE)} {σ:St} {H:Hp} {Q:VK} (h:∀ p,H p=none→Zwy trs σ (upd H p (.dK [])) fun ps H2=>H2 p=some (.dK [])∧∃ kvs:List (Key × V),ps=kvs.map (fun kv=>(kV kv.1,kv.2))∧kvs.length≤15∧Q (.ref p) (upd H2 p (.dK (ZmI [] kvs)))):ZKC trs σ H Q:=h
seal PE PA PS PSs
def ZE3:Sp:=fun vs H Q _=>∃ (p:Addr) (b:Bool) (S:Addr→Prop) (n:Nat) (tr:Tr),vs=[.ref p,.bl b]∧TwAt S H n p tr∧∀ H',Same H H'→Q (.int (rkG b tr:Int)) H'
theorem ZAQ (T:Txt K mg t):FnS P w K mg base 1 "_law_rank" ["_law_tree_here","_law_wraps"] (ZE3):=by
 refine ⟨_,_,T.ZoE.ok Zs8 (fun vs H Q E h=>?_) (fun cdv A outer s H vs Q E hr h=>?_),T.ZtZ,T.ZoE.kp,T.ZuJ⟩
 ·obtain ⟨p,b,S,n,tr,rfl,hT,q⟩ :=h
  rfl
 obtain ⟨p,b,S,n,tr,rfl,hT,q⟩ :=h
 refine ⟨_,(Zac (ZB0 PassesOwn.never (PW.pt (Zfh (Zal (ZaU hr.units) (ZaZ ZaA (pv 0) Zae (fun _ _=>rfl)) Zak (Zax _)) (Zey (ZB2 (ZdW (pv 1) (fun _=>rfl))))))
   (Zaf (ss 0 Zs8.nd (ZaZ ZaA (ZaZ ZaA (pv 0) Zae (fun _ _=>rfl)) Zae (fun _ _=>rfl)))))
   (Zaf (Zay (ZtA (Nat.lt_of_le_of_lt (Nat.add_le_add_left (by decide) _) hr.units) (ZxG (Zc9 Zak Zae (Zc9 Zak Zae (Zc9 Zak Zae ZxM))) rfl rfl (List.cons_ne_nil _ _) (Nat.le_of_ble_eq_true rfl)) (ZaZ ZaA (pv 0) Zae (fun _ _=>rfl)) Zae ⟨rfl,rfl,rfl,rfl⟩)))),?_⟩
 walk_at "rs0"
 refine Zhg (fun σ H'=>H=H'∧∃ p' t' v,H p'=some (.tup [.str (ZyU t'),v])∧rkK t'=rkG b tr∧σ=[some (.ref p'),some (.bl b)]) ?_ ?_
 rotate_left
 ·intro Kn hK
  refine ⟨fun mm σ H'=>H=H'∧∃ p' t',TwAt S H mm p' t'∧rkG b t'=rkG b tr∧σ=[some (.ref p'),some (.bl b)],⟨n,rfl,p,tr,hT,rfl,rfl⟩,?_⟩
  rintro mm σ H' ⟨rfl,p',t',h',e',rfl⟩
  obtain ⟨v,ek⟩ :=h'.kind
  walk_at "rd"
  refine ZgF ek (v:=.str (ZyU t')) rfl ?_
  walk_at "rd"
  have out:(∀ g,t'=.wrap g→b=true)→Kn [some (.ref p'),some (.bl b)] H:=fun hw=>by
   refine hK _ _ ⟨rfl,p',t',v,ek,?_,rfl⟩
   rw [← e']
   cases t' with
   | wrap g=>rw [hw g rfl]; rfl
   | _=>rfl
  cases t' with
  | wrap g=>
   refine ZdP rfl ?_
   walk_at "rd"
   cases b with
   | true=>
    refine Zcc rfl ?_
    exact out fun _ _=>rfl
   | false=>
    refine ZdP rfl ?_
    cases mm with
    | zero=>exact h'.elim
    | succ mm=>
     obtain ⟨l,q',e1,sl,e2,hq⟩ :=h'
     refine ⟨_,fun σ' H'' z=>z,?_⟩
     walk_at "rd"
     refine ZgF e1 (v:=.ref l) rfl ?_
     walk_at "rd"
     refine Zgj (j:=0) e2 (v:=.ref q') rfl ?_
     walk_at "rd"
     exact ⟨mm,Nat.lt_succ_self _,rfl,q',g,hq,e',rfl⟩
  | lamp k=>exact Zcc rfl (Zcc rfl (out fun g z=>nomatch z))
  | sure k=>exact Zcc rfl (Zcc rfl (out fun g z=>nomatch z))
  | neg k=>exact Zcc rfl (Zcc rfl (out fun g z=>nomatch z))
  | join u gs=>exact Zcc (by cases u <;> rfl) (Zcc rfl (out fun g z=>nomatch z))
 rintro σ H' ⟨rfl,p',t',v,ek,er,rfl⟩
 walk_at "rd"
 refine ZDG ?_
 refine ZGN fun d hd=>?_
 simp only [Zwy]
 walk_at "rd"
 refine ⟨Za3,[(Sum.inr "and",.int 1),(Sum.inr "either",.int 2),(Sum.inr "or",.int 3)],rfl,by decide,d,rfl,.inl ⟨_,.inl Za3⟩,?_⟩
 walk_at "rd"
 have ek':(upd (upd H d (.dK [])) d (.dK (ZmI [] [(Sum.inr "and",V.int 1),(Sum.inr "either",.int 2),(Sum.inr "or",.int 3)]))) p'=some (.tup [.str (ZyU t'),v]):=by
  have hbd:p' ≠ d:=Zao ek hd
  rw [ZbM hbd,ZbM hbd]
  exact ek
 refine ZgF ek' (v:=.str (ZyU t')) rfl ?_
 walk_at "rd"
 refine ⟨_,DGet.k (k:=Sum.inr (ZyU t')) Za3,?_⟩
 have e:(valV (ZmI [] [(Sum.inr "and",V.int 1),(Sum.inr "either",.int 2),(Sum.inr "or",.int 3)]) (Sum.inr (ZyU t'):Key)).getD (.int 0)=.int (rkK t':Int):=by
  cases t' with
  | lamp k=>rfl
  | sure b=>rfl
  | neg g=>rfl
  | wrap g=>rfl
  | join w gs=>cases w <;> rfl
 rw [e,er]
 refine q _ fun b u hb=>?_
 have hbd:b ≠ d:=Zao hb hd
 rw [ZbM hbd,ZbM hbd]
 exact hb
unseal PE PA PS PSs
def EnAt (S:Addr→Prop) (H:Hp) (n:Nat) (x:Addr) (tr:Tr):Prop:=∃ (p:Addr) (o k:Int),H x=some (.tup [.ref p,.int o,.int k])∧TwAt S H n p tr
theorem EnAt.imp {S S':Addr→Prop} {H H':Hp} (ht:∀ p xs,H p=some (.tup xs)→H' p=some (.tup xs)) (hl:∀ l xs,S l→H l=some (.lst xs)→S' l∧H' l=some (.lst xs)) {n m:Nat} (hm:n≤m) {x:Addr} {f:Tr} (h:EnAt S H n x f):EnAt S' H' m x f:=by
 obtain ⟨p,o,k,h1,h2⟩ :=h
 exact ⟨p,o,k,ht _ _ h1,(h2.imp ht hl).le hm⟩
def ZGq:Sp:=fun vs H Q _=>∃ (x:Addr) (i:Int) (S:Addr→Prop) (n:Nat) (tr:Tr),vs=[.ref x,.int i]∧EnAt S H n x tr∧∀ (M:Int) H',Same H H'→Q (.int M) H'
theorem ZEn (T:Txt K mg t):FnS P w K mg base 2 "_law_opened" ["_law_entry","_law_bind"] (ZGq):=by
 refine ⟨_,_,T.ZjR.ok Zv6 (fun vs H Q E h=>?_) (fun cdv A outer s H vs Q E hr h=>?_),T.Zpz,T.ZjR.kp,T.Zqt⟩
 ·obtain ⟨x,i,S,n,tr,rfl,hE,q⟩ :=h
  rfl
 obtain ⟨x,i,S,n,tr,rfl,hE,q⟩ :=h
 have Zem:=ZAQ (P:=P) (w:=w) (base:=base) T
 obtain ⟨p,o,k,h1,h2⟩ :=hE
 refine ⟨_,(Zaf (Zay (Zav Zau (ZaZ ZaA (pv 0) Zae (fun _ _=>rfl)) (ZdG ZlM rfl T.B.int Zyx (Zaa (Zu8 ZEt (Zce Zem hr (Zaa (ZaZ ZaA (pv 0) Zae (fun _ _=>rfl)) (Zaa Zny Zad))) (pv 1) (Zax _)) Zad))))),?_⟩
 walk_at "rd0"
 refine ZgF h1 (v:=.int o) rfl ?_
 walk_at "rd"
 refine ZgF h1 (v:=.ref p) rfl ?_
 walk_at "rd"
 refine ⟨p,true,S,n,tr,rfl,h2,fun H1 s1=>?_⟩
 walk_at "rd"
 exact q _ H1 s1
def ZHx:Sp:=fun vs H Q _=>∃ (pl:Addr) (kd mo ms nt:Int) (es:List Addr) (ts:List Tr) (n m:Nat),vs=[.ref pl,.int kd,.int mo,.int ms,.int nt]∧H pl=some (.lst (es.map V.ref))∧Paired (EnAt (· ≠ pl) H n) es ts∧4≤kd∧kd≤8∧0 < es.length∧(4 < kd→kd < 8→1 < es.length)∧es.length≤100∧(∀ tr ∈ ts,okT m tr=true)∧
 ∀ (a:Addr) (es':List Addr) (ts':List Tr) H',Same H H'→(a=pl∨H a=none)→H' a=some (.lst (es'.map V.ref))→Paired (EnAt (· ≠ a) H' (n + 1)) es' ts'→(∀ tr ∈ ts',okT m tr=true)→nTL ts'≤nTL ts + 1→es'.length≤es.length→Q (.ref a) H'
theorem ZIn (T:Txt K mg t):FnS P w K mg base 3 "_law_over" ["_law_pile","_law_kind","_law_more","_law_most","_law_nots"] (ZHx):=by
 refine ⟨_,_,T.ZoD.ok Zco (fun vs H Q E h=>?_) (fun cdv A outer s H vs Q E hr h=>?_),T.ZtY,T.ZoD.kp,T.ZuI⟩
 ·obtain ⟨pl,kd,mo,ms,nt,es,ts,n,m,rfl,hp,hE,k4,k8,h0,h1,h100,hok,q⟩ :=h
  rfl
 obtain ⟨pl,kd,mo,ms,nt,es,ts,n,m,rfl,hp,hE,k4,k8,h0,h1,h100,hok,q⟩ :=h
 have Zem:=ZAQ (P:=P) (w:=w) (base:=base) T
 have ZwE:=ZEn (P:=P) (w:=w) (base:=base) T
 have hgl:=Zcg hE
 have hlen:(es.map V.ref).length=es.length:=List.length_map _
 obtain ⟨es0,el,rfl⟩ :=ZEZ (l:=es) (fun e=>by rw [e] at h0; exact absurd h0 (by decide))
 obtain ⟨ts0,tl,rfl⟩ :=ZEZ (l:=ts) (fun e=>by rw [e] at hgl; simp at hgl)
 obtain ⟨E0,pt,po,pk,ht1,ht2⟩ :=ZAT hE
 have hp':=hp
 rw [List.map_append,List.map_cons,List.map_nil] at hp'
 have hl0:(es0 ++ [el]).length=es0.length + 1:=by simp
 have keep:∀ H',Same H H'→Q (.ref pl) H':=fun H' s=>q pl _ _ H' s (.inl rfl) (s _ _ hp) (ZaH (fun _ _ h=>h.imp (fun _ _ e=>s _ _ e) (fun _ _ z e=>⟨z,s _ _ e⟩) (Nat.le_succ _)) hE) hok (Nat.le_succ _) (Nat.le_refl _)
 have cut:∀ c,nTL (ts0 ++ [tl])=nTL ((ts0 ++ [tl]).take c) + nTL ((ts0 ++ [tl]).drop c):=fun c=>by rw [← ZjC,List.take_append_drop]
 have cl:(ts0 ++ [tl]).take ts0.length=ts0∧(ts0 ++ [tl]).drop ts0.length=[tl]:=⟨List.take_left,List.drop_left⟩
 have z0:es0.length=ts0.length:=Zcg E0
 have tl1:=hok tl (by simp)
 refine ⟨_,(Zac (Za7 (PW.pt (ZCM (Zal (ZaU hr.units) (pv 1) Zae (Zax _)) (Zwv (Zal (ZaU hr.units) (pv 1) Zae (Zax _)))))
   (Zac (ss 5 Zco.nd (ZaZ ZaA (pv 0) (ZzA Zs9 Zae) (fun _ _=>rfl)))
   (Zac (Za7 (Zal (ZaU hr.units) (pv 1) Zae (Zax _))
   (Zaf (ss 6 Zco.nd (Zef (Zaa (Zef (Zaa Zak (Zaa (ZaN (Zaa (ZaZ ZaA (pv 5) Zae (fun _ _=>rfl)) Zad)) Zad))) (Zaa (Zav Zau (ZaZ ZaA (pv 5) Zae (fun _ _=>rfl)) Zae) (Zaa Zae Zad))))))
   (Zaf (Za7 (Zal Zu5 (Zce Zem hr (Zaa (ZaZ ZaA (pv 5) Zae (fun _ _=>rfl)) (Zaa Zny Zad))) Zae (Zax _))
   (Zaf (ss 6 Zco.nd (Zef (Zaa (Zef (Zaa Zak (Zaa (ZaN (Zaa (ZaZ ZaA (pv 5) Zae (fun _ _=>rfl)) Zad)) Zad))) (Zaa (Zav Zau (ZaZ ZaA (pv 5) Zae (fun _ _=>rfl)) Zae) (Zaa Zae Zad))))))
   (Zaf (ss 6 Zco.nd (Zef (Zaa (Zef (Zaa Zak (Zaa (ZaN (Zaa (ZaZ ZaA (pv 5) Zae (fun _ _=>rfl)) Zad)) Zad))) (Zaa (ZaZ ZaA (pv 5) Zae (fun _ _=>rfl)) (Zaa (Zav Zau (ZaZ ZaA (pv 5) Zae (fun _ _=>rfl)) Zae) Zad)))))))))
   (Zaf (ss 7 Zco.nd (Zav Zu7 (ZaM ZaW rfl T.B.len Zdr (Zaa (pv 0) Zad)) Zae)))))
   (Zac (ss 7 Zco.nd (Zav Zu7 (ZaM ZaW rfl T.B.len Zdr (Zaa (pv 0) Zad)) (ZaM (ZDb rfl) rfl T.B.min ZI1 (Zaa (ZaM ZaW rfl T.B.len Zdr (Zaa (pv 0) Zad)) (Zaa (Zav Zau Zae (Zav Zbt (pv 2) Zae)) Zad)))))
   (Zac (ss 8 Zco.nd (ZaM (ZC9 rfl) rfl T.B.max ZGD (Zaa (ZAV (sc:=Zab ZbP) (N:=["_law_pile","_law_kind","_law_more","_law_most","_law_nots","_law_top","_law_made","_law_left","_law_opened_here"]) (ns:=["_law_kind"]) (ix:=[1]) rfl rfl (by decide +kernel) rfl (ZmP (Zbc Zdq (pv 0) (ZbJ (pv 7)) Zcf)) (fun _ _ _ _=>ZAY) (fun _ _ _ _=>(Zce ZwE hr (Zaa (pv 0) (Zaa (Zav Zu7 (pv 1) Zae) Zad))))) Zad)))
   (Zaf (ss 6 Zco.nd (Zef (Zaa (Zef (Zaa (ZaZ ZaA (ZaN (Zaa Zak (Zaa Zak (Zaa Zak Zad)))) (Zav Zu7 (pv 1) Zae) (fun _ _=>rfl)) (Zaa (ZAV (sc:=Zab ZbP) (N:=["_law_pile","_law_kind","_law_more","_law_most","_law_nots","_law_top","_law_made","_law_left","_law_opened_here"]) (ns:=[]) (ix:=[]) rfl rfl (by decide +kernel) rfl (ZmP (Zbc Zdq (pv 0) (ZbJ (pv 7)) Zcf)) (fun _ _ _ _=>ZAY) (fun _ _ _ _=>(ZaZ (ZDP (K:=K) rfl) (pv 0) Zae (fun _ _=>rfl)))) Zad))) (Zaa (pv 8) (Zaa Zae Zad)))))))))
   (Zac (Za7 (PW.pt (ZCM (Zal Zu5 (ZaZ ZaA (pv 6) Zae (fun _ _=>rfl)) (pv 3) (Zax _)) (Zwv (Zal Zu5 (ZaZ ZaA (pv 6) Zae (fun _ _=>rfl)) (pv 4) (Zax _)))))
   (Zaf (Zay (pv 0)))
   Zaz)
   (Zaf (Zay (Zav Zau (Zbc Zdq (pv 0) Zcf (ZbJ (pv 7))) (ZaN (Zaa (pv 6) Zad))))))),?_⟩
 walk_at "rs0"
 refine Zhg (fun σ H'=>∃ (y r:Addr) (o k:Int) (tr:Tr) (c:Nat) (v5 v8:Option V),Same H H'∧H' y=some (.tup [.ref r,.int o,.int k])∧TwAt (fun l=>H' l ≠ none) H' (n + 1) r tr∧okT m tr=true∧c≤es0.length∧nTL ((ts0 ++ [tl]).take c) + nT tr≤nTL (ts0 ++ [tl]) + 1∧σ=[some (.ref pl),some (.int kd),some (.int mo),some (.int ms),some (.int nt),v5,some (.ref y),some (.int (c:Int)),v8]) ?_ ?_
 rotate_left
 ·intro Kn hK
  refine (fun (key:(kd=4∨kd=8)→?G)=>?main) ?key
  case main=>
   walk_at "rs"
   refine Zcj (fun h1'=>?_) (fun h1'=>?_)
   ·refine ZdP rfl ?_
    exact key (.inl h1')
   ·walk_at "rs"
    refine Zcj (fun h2'=>?_) (fun h2'=>?_)
    ·exact key (.inr h2')
    ·have hj:=h1 (by omega) (by omega)
     obtain ⟨c,hc,hc2⟩ : ∃ c:Nat,((es0.length + 1:Nat):Int) - min ((es0.length + 1:Nat):Int) (2 + mo % 3)=(c:Int)∧c + 2≤es0.length + 1:=⟨(((es0.length + 1:Nat):Int) - min ((es0.length + 1:Nat):Int) (2 + mo % 3)).toNat,by omega,by omega⟩
     obtain ⟨j,hj',hj3⟩ : ∃ j:Nat,kd - 5=(j:Int)∧j < 3:=⟨(kd - 5).toNat,by omega,by omega⟩
     have hlen2:(List.map V.ref es0 ++ [V.ref el]).length=es0.length + 1:=by simp
     walk_at "rd"
     rw [hlen2,hc]
     refine .inl (j_sl (SqL.of hp) (ZwU (by rw [hlen]; omega)) fun a2 H3 s3 n3 e3=>?_)
     rw [← List.map_drop] at e3
     have E3:Paired (EnAt (fun l=>H3 l ≠ none) H3 n) ((es0 ++ [el]).drop c) ((ts0 ++ [tl]).drop c):=Zpc c (ZaH (fun _ _ h=>h.imp (fun _ _ e=>s3 _ _ e) (fun l xs _ e=>⟨by show H3 l ≠ none; rw [s3 _ _ e]; simp,s3 _ _ e⟩) (Nat.le_refl _)) hE)
     have ld:((es0 ++ [el]).drop c).length=es0.length + 1 - c:=by rw [List.length_drop,hl0]
     refine .inl ⟨a2,_,rfl,SqL.of e3,?_⟩
     refine ZAr (fun i ys=>∃ zs:List Int,ys=zs.map V.int∧zs.length=i) (ZA6 (SqL.of e3)) (by rw [List.length_map]; omega) ⟨[],rfl,rfl⟩ ?_ ?_
     ·rintro i x ys acc H' hx s1 hacc ea ⟨zs,rfl,hz⟩ _ R kk
      obtain ⟨xa,rfl,hxa⟩ :=Zup hx
      obtain ⟨tr,htr,hen⟩ :=Zfw E3 hxa
      simp only [subS,List.map_cons,List.map_nil]
      walk_at "rd"
      refine kk _ H' (Same.refl _) (fun z=>nomatch z) fun z R2 k2=>?_
      walk_at "rd"
      refine ⟨xa,_,_,n,tr,rfl,hen.imp (fun _ _ e=>s1 _ _ e) (fun l xs z e=>⟨z,s1 _ _ e⟩) (Nat.le_refl _),fun M H4 s4=>?_⟩
      exact k2 _ H4 s4 ⟨zs ++ [M],by rw [List.map_append]; rfl,by rw [List.length_append,List.length_singleton,hz]⟩
     rintro acc ys H4 n4 s4 e4 ⟨zs,rfl,hz⟩
     rw [List.length_map,ld] at hz
     walk_at "rd"
     refine ⟨acc,zs,rfl,SqL.of e4,by omega,fun M=>?_⟩
     walk_at "rd"
     refine Zcu (by simp) fun wl H5 s5 n5 e5=>?_
     walk_at "rd"
     rw [hj']
     refine Zgj e5 (ZHD hj3) ?_
     walk_at "rd"
     refine .inl (j_sl (SqL.of (s5 _ _ (s4 _ _ (s3 _ _ hp)))) (ZwU (by rw [hlen]; omega)) fun a3 H6 s6 n6 e6=>?_)
     rw [← List.map_drop] at e6
     have s36:=s4.trans (s5.trans s6)
     have E6:Paired (EnAt (fun l=>H6 l ≠ none) H6 n) ((es0 ++ [el]).drop c) ((ts0 ++ [tl]).drop c):=ZaH (fun _ _ h=>h.imp (fun _ _ e=>s36 _ _ e) (fun l xs _ e=>⟨by show H6 l ≠ none; rw [s36 _ _ e]; simp,s36 _ _ e⟩) (Nat.le_refl _)) E3
     refine .inl ⟨a3,_,rfl,SqL.of e6,?_⟩
     refine ZAr (fun i ys=>∃ ps:List Addr,ys=ps.map V.ref∧Paired (TwAt (fun l=>H6 l ≠ none) H6 n) ps (((ts0 ++ [tl]).drop c).take i)) (ZA6 (SqL.of e6)) (by rw [List.length_map]; omega) ⟨[],rfl,.nil⟩ ?_ ?_
     ·rintro i x ys acc H' hx s1 hacc ea ⟨ps,rfl,hps⟩ _ R kk
      obtain ⟨xa,rfl,hxa⟩ :=Zup hx
      obtain ⟨tr,htr,xp,xo,xk,hx1,hx2⟩ :=Zfw E6 hxa
      simp only [subS,List.map_nil]
      walk_at "rd"
      refine kk _ H' (Same.refl _) (fun z=>nomatch z) fun z R2 k2=>?_
      walk_at "rd"
      refine ZgF (s1 _ _ hx1) (v:=.ref xp) rfl ?_
      refine k2 _ H' (Same.refl _) ⟨ps ++ [xp],by rw [List.map_append]; rfl,?_⟩
      rw [Zeg htr]
      exact ZdV hps (.cons hx2 .nil)
     rintro acc2 ys2 H7 n7 s7 e7 ⟨ps,rfl,hps⟩
     rw [List.length_map,ld,List.take_of_length_le (by rw [List.length_drop,List.length_append,List.length_singleton]; omega)] at hps
     walk_at "rd"
     refine Zi0 (by simp) fun r H8 s8 n8 e8=>?_
     walk_at "rd"
     refine Zi0 (by simp) fun y H9 s9 n9 e9=>?_
     walk_at "rs"
     have s79:=s7.trans (s8.trans s9)
     have dl:((ts0 ++ [tl]).drop c).length=es0.length + 1 - c:=by rw [List.length_drop,List.length_append,List.length_singleton]; omega
     refine hK _ _ ⟨y,r,M,0,.join (w3of j) ((ts0 ++ [tl]).drop c),c,_,_,s3.trans (s36.trans s79),e9,⟨acc2,ps,s9 _ _ e8,by show H9 acc2 ≠ none; rw [s9 _ _ (s8 _ _ e7)]; simp,s9 _ _ (s8 _ _ e7),ZaH (fun _ _ h=>h.imp (fun _ _ e=>s79 _ _ e) fun l xs _ e=>⟨by show H9 l ≠ none; rw [s79 _ _ e]; simp,s79 _ _ e⟩) hps⟩,?_,by omega,?_,rfl⟩
     ·simp only [okT,Bool.and_eq_true,decide_eq_true_iff]
      refine ⟨by omega,?_⟩
      rw [Ztz,List.all_eq_true]
      exact fun g hg=>hok g (List.mem_of_mem_drop hg)
     ·have:=cut c
      show _ + (1 + nTL ((ts0 ++ [tl]).drop c))≤_
      omega
  intro hkd
  have done:∀ (H':Hp) (y r:Addr) (o k:Int) (tr:Tr) (v8:Option V),Same H H'→H' y=some (.tup [.ref r,.int o,.int k])→TwAt (fun l=>H' l ≠ none) H' (n + 1) r tr→okT m tr=true→nT tr=1 + nT tl→∃ (y' r:Addr) (o k:Int) (tr:Tr) (c:Nat) (v5 v8':Option V),Same H H'∧H' y'=some (.tup [.ref r,.int o,.int k])∧TwAt (fun l=>H' l ≠ none) H' (n + 1) r tr∧okT m tr=true∧c≤es0.length∧nTL ((ts0 ++ [tl]).take c) + nT tr≤nTL (ts0 ++ [tl]) + 1∧[some (.ref pl),some (.int kd),some (.int mo),some (.int ms),some (.int nt),some (.ref el),some (.ref y),some (.int (es0.length:Int)),v8]=[some (.ref pl),some (.int kd),some (.int mo),some (.int ms),some (.int nt),v5,some (.ref y'),some (.int (c:Int)),v8']:=fun H' y r o k tr v8 s e h1 h2 h3=>by
   refine ⟨y,r,o,k,tr,es0.length,_,_,s,e,h1,h2,Nat.le_refl _,?_,rfl⟩
   rw [z0,cl.1,ZjC,ZuP,h3]
   omega
  have ls:((es0.length + 1:Nat):Int) - 1=(es0.length:Int):=by omega
  have tw:∀ H',Same H H'→TwAt (fun l=>H' l ≠ none) H' n pt tl:=fun H' s=>ht2.imp (fun _ _ e=>s _ _ e) fun l xs _ e=>⟨by show H' l ≠ none; rw [s _ _ e]; simp,s _ _ e⟩
  walk_at "rd"
  refine ZDK hp' (ZC0 _ _) ?_
  walk_at "rs"
  refine Zhg (fun σ H'=>∃ (y r:Addr) (o k:Int) (tr:Tr),Same H H'∧H' y=some (.tup [.ref r,.int o,.int k])∧TwAt (fun l=>H' l ≠ none) H' (n + 1) r tr∧okT m tr=true∧nT tr=1 + nT tl∧σ=[some (.ref pl),some (.int kd),some (.int mo),some (.int ms),some (.int nt),some (.ref el),some (.ref y),none,none]) ?_ ?_
  rotate_left
  ·intro Kn2 hK2
   walk_at "rs"
   refine Zcj (fun h3=>?_) (fun h3=>?_)
   ·walk_at "rs"
    refine ZgF ht1 (v:=.ref pt) rfl ?_
    walk_at "rs"
    refine Zcu (by simp) fun l1 H1 s1 n1 e1=>?_
    walk_at "rs"
    refine Zi0 (by simp) fun r H2 s2 n2 e2=>?_
    walk_at "rs"
    refine ZgF ((s1.trans s2) _ _ ht1) (v:=.int po) rfl ?_
    walk_at "rs"
    refine Zi0 (by simp) fun y H3 s3 n3 e3=>?_
    walk_at "rs"
    have s13:=s1.trans (s2.trans s3)
    exact hK2 _ _ ⟨y,r,_,_,.wrap tl,s13,e3,⟨l1,pt,s3 _ _ e2,by show H3 l1 ≠ none; rw [s3 _ _ (s2 _ _ e1)]; simp,s3 _ _ (s2 _ _ e1),tw _ s13⟩,by simpa [okT] using tl1,rfl,rfl⟩
   ·walk_at "rs"
    refine ZgF ht1 (v:=.ref pt) rfl ?_
    walk_at "rs"
    refine ⟨pt,true,_,n,tl,rfl,ht2,fun H0 s0=>?_⟩
    have ht0:=s0 _ _ ht1
    walk_at "rs"
    refine Zcj (fun h4=>?_) (fun h4=>?_)
    ·walk_at "rs"
     refine ZgF ht0 (v:=.ref pt) rfl ?_
     walk_at "rs"
     refine Zcu (by simp) fun l1 H1 s1 n1 e1=>?_
     walk_at "rs"
     refine Zi0 (by simp) fun r H2 s2 n2 e2=>?_
     walk_at "rs"
     refine ZgF ((s1.trans s2) _ _ ht0) (v:=.int po) rfl ?_
     walk_at "rs"
     refine Zi0 (by simp) fun y H3 s3 n3 e3=>?_
     walk_at "rs"
     have s13:=s0.trans (s1.trans (s2.trans s3))
     exact hK2 _ _ ⟨y,r,_,_,.neg tl,s13,e3,⟨l1,pt,s3 _ _ e2,by show H3 l1 ≠ none; rw [s3 _ _ (s2 _ _ e1)]; simp,s3 _ _ (s2 _ _ e1),tw _ s13⟩,by simpa [okT] using tl1,rfl,rfl⟩
    ·walk_at "rs"
     refine ZgF ht0 (v:=.ref pt) rfl ?_
     walk_at "rs"
     refine Zcu (by simp) fun l1 H1 s1 n1 e1=>?_
     walk_at "rs"
     refine Zi0 (by simp) fun r H2 s2 n2 e2=>?_
     walk_at "rs"
     refine ZgF ((s1.trans s2) _ _ ht0) (v:=.int po) rfl ?_
     walk_at "rs"
     refine ZgF ((s1.trans s2) _ _ ht0) (v:=.int pk) rfl ?_
     walk_at "rs"
     refine Zi0 (by simp) fun y H3 s3 n3 e3=>?_
     walk_at "rs"
     have s13:=s0.trans (s1.trans (s2.trans s3))
     exact hK2 _ _ ⟨y,r,_,_,.neg tl,s13,e3,⟨l1,pt,s3 _ _ e2,by show H3 l1 ≠ none; rw [s3 _ _ (s2 _ _ e1)]; simp,s3 _ _ (s2 _ _ e1),tw _ s13⟩,by simpa [okT] using tl1,rfl,rfl⟩
  rintro σ H' ⟨y,r,o,k,tr,s1,e1,h1',h2',h3',rfl⟩
  have hp1:=s1 _ _ hp
  walk_at "rs"
  have hlen2:(List.map V.ref es0 ++ [V.ref el]).length=es0.length + 1:=by simp
  first
   | rw [hlen,hl0,ls]
   | rw [hlen2,ls]
  exact hK _ _ (done _ y r o k tr none s1 e1 h1' h2' h3')
 rintro σ H1 ⟨y,r,o,k,tr,c,v5,v8,s1,e1,h2,h3,hc,hw,rfl⟩
 have hp1:=s1 _ _ hp
 refine (fun (key : ?G2)=>?main2) ?key2
 case main2=>
  walk_at "rs"
  refine ZiZ ?_
  walk_at "rs"
  refine ZgF e1 (v:=.int o) rfl ?_
  walk_at "rs"
  refine Zcj (fun h4=>?_) (fun h4=>?_)
  ·refine ZdP rfl ?_
   walk_at "rs"
   exact keep _ s1
  ·walk_at "rs"
   refine ZgF e1 (v:=.int k) rfl ?_
   walk_at "rs"
   refine Zcj (fun h5=>?_) (fun h5=>?_)
   ·walk_at "rs"
    exact keep _ s1
   ·walk_at "rs"
    exact key
 walk_at "rd"
 refine .inl (j_sl (SqL.of hp1) (ZGF (by rw [hlen]; omega)) fun a1 H2 s2 n2 e2=>?_)
 rw [← List.map_take] at e2
 walk_at "rd"
 refine Zcu (by simp) fun a3 H3 s3 n3 e3=>?_
 refine Zlp (s3 _ _ e2) e3 (by rw [List.length_map,List.length_take]; simp; omega) fun a4 H4 s4 n4 e4=>?_
 have s14:=s2.trans (s3.trans s4)
 have s04:=s1.trans s14
 have n10:H1 a4=none:=(s2.trans s3).free n4
 refine q a4 ((es0 ++ [el]).take c ++ [y]) ((ts0 ++ [tl]).take c ++ [tr]) H4 s04 (.inr (s1.free n10)) (by rw [e4,List.map_append]; rfl) ?_ ?_ ?_ ?_
 ·refine ZdV (Zpd c (ZaH (fun _ _ h=>h.imp (fun _ _ e=>s04 _ _ e) (fun l xs _ e=>⟨Zao (s1 _ _ e) n10,s04 _ _ e⟩) (Nat.le_succ _)) hE)) (.cons ⟨r,o,k,s14 _ _ e1,h2.imp (fun _ _ e=>s14 _ _ e) fun l xs z e=>⟨Zao e n10,s14 _ _ e⟩⟩ .nil)
 ·intro g hg
  rcases List.mem_append.mp hg with h | h
  ·exact hok g (List.mem_of_mem_take h)
  ·rw [List.mem_singleton.mp h]; exact h3
 ·rw [ZjC,ZuP]
  exact hw
 ·rw [List.length_append,List.length_take,List.length_singleton,hl0]
  omega
end
section
variable {P:Program} {w:World} {K:PySem.W.Frag} {mg:Str→Option Value} {base:Heap} {t:Ad} {n:Nat}
structure PW6 (H0 H:Hp) (mp:Addr) (n m:Nat) (es:List Addr) (ts:List Tr):Prop where
 sm:Same H0 H
 nm:H0 mp=none
 fm:H mp=some (.lst (es.map V.ref))
 ff:Paired (EnAt (· ≠ mp) H (n + 1)) es ts
 ok:∀ tr ∈ ts,okT m tr=true
 wt:nTL ts≤n
 ln:es.length≤n
theorem ZKI {S:Addr→Prop} {H:Hp} {n:Nat} {x:Addr} {tr:Tr} (h:EnAt S H n x tr):∃ (p:Addr) (o k:Int),H x=some (.tup [.ref p,.int o,.int k])∧TwAt anyA H n p tr:=by
 obtain ⟨p,o,k,h1,h2⟩ :=h
 exact ⟨p,o,k,h1,h2.any⟩
theorem ZHh {ts:List Tr} {tr:Tr} (h:tr ∈ ts):nT tr≤nTL ts:=by
 induction ts with
 | nil=>cases h
 | cons x r ih=>
  show _≤nT x + nTL r
  rcases List.mem_cons.mp h with rfl | h
  ·omega
  ·have:=ih h; omega
def ZIJ:Sp:=fun vs H Q _=>∃ (l:Addr) (cs:List Int) (m:Nat) (la ms nt:Int),vs=[.ref l,.int (m:Int),.int la,.int ms,.int nt]∧H l=some (.lst (cs.map V.int))∧cs.length≤60∧1≤m∧m≤6∧
 ∀ p tr H',Same H H'→TwAt anyA H' 63 p tr→okT m tr=true→nT tr≤61→Q (.ref p) H'
theorem ZIo (T:Txt K mg t):FnS P w K mg base 4 "_law_tree" ["_law_cells","_law_many","_law_last","_law_most","_law_nots"] (ZIJ):=by
 refine ⟨_,_,T.ZoF.ok ZeF (fun vs H Q E h=>?_) (fun cdv A outer s H vs Q E hr h=>?_),T.Zt0,T.ZoF.kp,T.ZuK⟩
 ·obtain ⟨l,cs,m,la,ms,nt,rfl,hl,hz,h1,hm,q⟩ :=h
  rfl
 obtain ⟨l,cs,m,la,ms,nt,rfl,hl,hz,h1,hm,q⟩ :=h
 have ZAb:=ZIn (P:=P) (w:=w) (base:=base) T
 have md:∀ z:Int,∃ k:Nat,z % (m:Int)=(k:Int)∧k < m:=fun z=>by
  have v1:=Int.emod_nonneg z (show (m:Int) ≠ 0 by omega)
  have v2:=Int.emod_lt_of_pos z (show (0:Int) < (m:Int) by omega)
  exact ⟨(z % (m:Int)).toNat,by omega,by omega⟩
 refine ⟨_,(Zac (ss 5 ZeF.nd (ZaN Zad))
   (Zac (Zlm PassesOwn.never rfl (ZmP (pv 0)) (sg 6 ZeF.nd)
   (Zac (ss 7 ZeF.nd (Zav Zbt (pv 6) Zae))
   (Zac (ss 8 ZeF.nd (Zav ZfS (pv 6) Zae))
   (Zaf (Za7 (PW.pt (Zfh (Zal Zu5 (pv 7) Zae (Zax _)) (Zey (Zal Zu5 (ZaM ZaW rfl T.B.len Zdr (Zaa (pv 5) Zad)) (ZdG ZlM rfl T.B.int Zyx (Zaa (ZGa ZCI ZCI Zae (pv 7) Zae) Zad)) (Zax _)))))
   (Zaf (ss 5 ZeF.nd (Zce ZAb hr (Zaa (pv 5) (Zaa (pv 7) (Zaa (pv 8) (Zaa (Zav Zu7 (pv 3) Zae) (Zaa (pv 4) Zad))))))))
   (Zaf (Za7 (Zal (ZaU hr.units) (pv 7) Zae (Zax _))
   (Zaf (ZcP (ZkQ PySem.F.plainAttrs_list PySem.F.slot_list_append PySem.F.type_list_append Zb9 (pv 5) (Zaa (Zef (Zaa (Zef (Zaa Zak (Zaa (Zu8 (ZaU hr.units) (Zav Zbt (pv 8) Zae) Zae (Zax _)) Zad))) (Zaa Zae (Zaa Zae Zad)))) Zad))))
   (Zaf (ZcP (ZkQ PySem.F.plainAttrs_list PySem.F.slot_list_append PySem.F.type_list_append Zb9 (pv 5) (Zaa (Zef (Zaa (Zef (Zaa Zak (Zaa (Zav Zbt (pv 8) (pv 1)) Zad))) (Zaa Zae (Zaa Zae Zad)))) Zad)))))))))))
   (Zac (Za7 (Zal (ZaU hr.units) (ZaM ZaW rfl T.B.len Zdr (Zaa (pv 5) Zad)) Zae (Zax _))
   (Zaf (Zay (Zef (Zaa Zak (Zaa (Zav Zbt (pv 2) (pv 1)) Zad)))))
   Zaz)
   (Zac (Za7 (Zal (ZaU hr.units) (ZaM ZaW rfl T.B.len Zdr (Zaa (pv 5) Zad)) Zae (Zax _))
   (Zaf (Zay (ZaZ ZaA (ZaZ ZaA (pv 5) Zae (fun _ _=>rfl)) Zae (fun _ _=>rfl))))
   Zaz)
   (Zaf (Zay (Zef (Zaa (ZaZ ZaA (ZaN (Zaa Zak (Zaa Zak (Zaa Zak Zad)))) (Zav Zbt (pv 2) Zae) (fun _ _=>rfl)) (Zaa (ZAV (sc:=Zab Zca) (N:=["_law_cells","_law_many","_law_last","_law_most","_law_nots","_law_pile","_law_cell","_law_kind","_law_more"]) (ns:=[]) (ix:=[]) rfl rfl (by decide +kernel) rfl (ZmP (pv 5)) (fun _ _ _ _=>ZAY) (fun _ _ _ _=>(ZaZ (ZDP (K:=K) rfl) (pv 0) Zae (fun _ _=>rfl)))) Zad))))))))),?_⟩
 walk_at "rd0"
 refine Zcu (by simp) fun mp0 H0 s0 n0 e0=>?_
 walk_at "rd"
 refine seqL (xs:=cs.map V.int) (fun i σ H'=>∃ mp es ts v6 v7 v8,σ=[some (.ref l),some (.int (m:Int)),some (.int la),some (.int ms),some (.int nt),some (.ref mp),v6,v7,v8]∧PW6 H H' mp i m es ts)
  ⟨mp0,[],[],_,_,_,rfl,s0,n0,e0,.nil,(fun f hf=>by cases hf),Nat.le_refl _,Nat.le_refl _⟩ (fun i σ H' _ hp=>by obtain ⟨mp,es,ts,v6,v7,v8,_,L⟩ :=hp; exact SqL.of (L.sm _ _ hl)) ?_ ?_
 ·rintro i x σ H1 hx ⟨mp,es,ts,v6,v7,v8,rfl,L⟩
  obtain ⟨c,rfl,hci⟩ :=ZHS hx
  have hil:i < cs.length:=(List.getElem?_eq_some_iff.mp hci).1
  have hlen:(es.map V.ref).length=es.length:=List.length_map _
  have hmp:=L.fm
  have hw:=L.wt
  have hln:=L.ln
  have hc0:=Int.emod_nonneg c (show (9:Int) ≠ 0 by decide)
  have hc1:=Int.emod_lt_of_pos c (show (0:Int) < 9 by decide)
  have leaf:∀ (r y:Addr) (f:Tr) (H2 H3:Hp),Same H1 H2→H2 y=some (.tup [.ref r,.int 0,.int 0])→TwAt (fun l=>l ≠ mp) H2 1 r f→okT m f=true→nT f=1→But mp H2 H3→H3 mp=some (.lst (es.map V.ref ++ [.ref y]))→PW6 H H3 mp (i + 1) m (es ++ [y]) (ts ++ [f]):=fun r y f H2 H3 s2 ey f2 ok nf b3 e3=>by
   have tk:∀ p xs,H2 p=some (.tup xs)→H3 p=some (.tup xs):=fun p xs ep=>b3 _ _ (ZhI ep (s2 _ _ L.fm) (by intro z; cases z)) ep
   refine ⟨b3.same L.nm (L.sm.trans s2),L.nm,by rw [e3,List.map_append]; rfl,ZdV (ZaH (fun _ _ h=>h.imp (fun p xs e=>tk _ _ (s2 _ _ e)) (fun l xs sl e=>⟨sl,b3 _ _ sl (s2 _ _ e)⟩) (by omega)) L.ff) (.cons ⟨r,0,0,tk _ _ ey,(f2.imp tk fun l xs sl e=>⟨sl,b3 _ _ sl e⟩).le (by omega)⟩ .nil),fun g hg=>?_,by rw [ZjC,ZuP,nf]; omega,by rw [List.length_append,List.length_singleton]; omega⟩
   rcases List.mem_append.mp hg with h | h
   ·exact L.ok g h
   ·rw [List.mem_singleton.mp h]; exact ok
  obtain ⟨k,hk,hkm⟩ :=md (c / 9)
  by_cases hA:3 < c % 9∧0 < es.length∧(4 < c % 9→c % 9 < 8→1 < es.length)
  ·obtain ⟨hA1,hA2,hA3⟩ :=hA
   have go:ZHx [.ref mp,.int (c % 9),.int (c / 9),.int (ms - 1),.int nt] H1 (fun x H'=>∃ mp' es' ts' v6 v7 v8,[some (.ref l),some (.int (m:Int)),some (.int la),some (.int ms),some (.int nt),some x,some (.int c),some (.int (c % 9)),some (.int (c / 9))]=[some (.ref l),some (.int (m:Int)),some (.int la),some (.int ms),some (.int nt),some (.ref mp'),v6,v7,v8]∧PW6 H H' mp' (i + 1) m es' ts') (fun _ _ _=>False):=by
    refine ⟨mp,_,_,_,_,es,ts,i + 1,m,rfl,hmp,L.ff,by omega,by omega,hA2,hA3,by omega,L.ok,fun a es' ts' H' s' ha ea E' ok' w' l'=>⟨a,es',ts',_,_,_,rfl,?_⟩⟩
    refine ⟨L.sm.trans s',?_,ea,E',ok',by omega,by omega⟩
    rcases ha with rfl | z
    ·exact L.nm
    ·exact L.sm.free z
   by_cases hB:4 < c % 9∧c % 9 < 8
   ·walk_at "tst"
    exact go
   ·by_cases hC:4 < c % 9
    ·walk_at "tst"
     (try (refine ZdP (decide_eq_true (by first | (rw [if_neg (by decide),hlen]; omega) | (rw [show decide (c % 9 < 8)=false from decide_eq_false (by omega),if_neg (by decide),hlen]; omega) | (rw [show decide (c % 9 < 8)=true from decide_eq_true (by omega),if_pos rfl,hlen]; omega))) ?_))
     walk_at "tst"
     exact go
    ·walk_at "tst"
     (try (refine ZdP (decide_eq_true (by first | (rw [if_neg (by decide),hlen]; omega) | (rw [show decide (c % 9 < 8)=false from decide_eq_false (by omega),if_neg (by decide),hlen]; omega) | (rw [show decide (c % 9 < 8)=true from decide_eq_true (by omega),if_pos rfl,hlen]; omega))) ?_))
     walk_at "tst"
     exact go
  ·by_cases h3:c % 9=3
   ·walk_at "tst"
    refine ⟨tyL hmp,?_⟩
    walk_at "rd"
    refine Zi0 (by simp) fun r H2 s2 n2 e2=>?_
    walk_at "rd"
    refine Zi0 (by simp) fun y H3 s3 n3 e3=>?_
    walk_at "rd"
    refine ZfG ((s2.trans s3) _ _ hmp) (by rw [hlen]; omega) fun H4 b4 e4=>?_
    walk_at "rd"
    exact ⟨mp,_,_,_,_,_,rfl,leaf r y (.sure (decide (c / 9 % 2=0))) H3 H4 (s2.trans s3) e3 (s3 _ _ e2) rfl rfl b4 e4⟩
   ·have lampG:∀ (H2:Hp) (r:Addr),Same H1 H2→H2 r=some (.tup [.str "lamp",.int (k:Int)])→True:=fun _ _ _ _=>trivial
    rcases (show c % 9 < 3∨(3 < c % 9∧es.length=0∧c % 9≤4)∨(4 < c % 9∧c % 9 < 8∧es.length≤1)∨(c % 9=8∧es.length=0) by omega) with hc | hc | hc | hc
    all_goals
     walk_at "tst"
     (try (refine Zcc (decide_eq_false (by first | (rw [if_neg (by decide),hlen]; omega) | (rw [show decide (c % 9 < 8)=false from decide_eq_false (by omega),if_neg (by decide),hlen]; omega) | (rw [show decide (c % 9 < 8)=true from decide_eq_true (by omega),if_pos rfl,hlen]; omega))) ?_))
     walk_at "tst"
     refine ⟨tyL hmp,?_⟩
     walk_at "rd"
     rw [hk]
     refine Zi0 (by simp) fun r H2 s2 n2 e2=>?_
     walk_at "rd"
     refine Zi0 (by simp) fun y H3 s3 n3 e3=>?_
     walk_at "rd"
     refine ZfG ((s2.trans s3) _ _ hmp) (by rw [hlen]; omega) fun H4 b4 e4=>?_
     walk_at "rd"
     exact ⟨mp,_,_,_,_,_,rfl,leaf r y (.lamp k) H3 H4 (s2.trans s3) e3 (s3 _ _ e2) (decide_eq_true hkm) rfl b4 e4⟩
 ·rintro σ H1 ⟨mp,es,ts,v6,v7,v8,rfl,L⟩
  rw [List.length_map] at L
  have hmp:=L.fm
  have hw:=L.wt
  have hln:=L.ln
  have hgl:=Zcg L.ff
  have hlen:(es.map V.ref).length=es.length:=List.length_map _
  walk_at "rd"
  refine Zcj (fun hA=>?_) (fun hA=>?_)
  ·walk_at "rd"
   obtain ⟨k,hk,hkm⟩ :=md la
   rw [hk]
   refine Zi0 (by simp) fun y H4 s4 ny e4=>?_
   exact q y (.lamp k) H4 (L.sm.trans s4) e4 (decide_eq_true hkm) (by show 1≤61; decide)
  ·walk_at "rd"
   refine Zcj (fun hB=>?_) (fun hB=>?_)
   ·walk_at "rd"
    obtain ⟨x,hx⟩ : ∃ x,es[0]?=some x:=⟨es[0]'(by omega),List.getElem?_eq_getElem (by omega)⟩
    obtain ⟨tr,htr,hen⟩ :=Zfw L.ff hx
    obtain ⟨p,o,k,h1',h2'⟩ :=ZKI hen
    have hm':=List.mem_of_getElem? htr
    have:=ZHh hm'
    refine Zgj (j:=0) hmp (v:=.ref x) (by rw [List.getElem?_map,hx]; rfl) ?_
    walk_at "rd"
    refine ZgF h1' (v:=.ref p) rfl ?_
    exact q p tr H1 L.sm (h2'.le (by omega)) (L.ok tr hm') (by omega)
   ·walk_at "rd"
    refine Zcu (by simp) fun wl H4 s4 n4 e4=>?_
    walk_at "rd"
    obtain ⟨j,hj,hj3⟩ : ∃ j:Nat,la % 3=(j:Int)∧j < 3:=⟨(la % 3).toNat,by omega,by omega⟩
    rw [hj]
    refine Zgj e4 (ZHD hj3) ?_
    walk_at "rd"
    have E4:Paired (EnAt anyA H4 (cs.length + 1)) es ts:=ZaH (fun _ _ h=>h.imp (fun _ _ e=>s4 _ _ e) (fun _ _ _ e=>⟨trivial,s4 _ _ e⟩) (Nat.le_refl _)) L.ff
    have hmp4:=s4 _ _ hmp
    refine .inl ⟨mp,_,rfl,SqL.of hmp4,?_⟩
    refine ZAr (fun i ys=>∃ ps:List Addr,ys=ps.map V.ref∧Paired (TwAt anyA H4 (cs.length + 1)) ps (ts.take i)) (ZA6 (SqL.of hmp4)) (by rw [List.length_map]; omega) ⟨[],rfl,.nil⟩ ?_ ?_
    ·rintro i x ys acc H' hx s1 hacc ea ⟨ps,rfl,hps⟩ _ R kk
     obtain ⟨xa,rfl,hxa⟩ :=Zup hx
     obtain ⟨tr,htr,xp,xo,xk,hx1,hx2⟩ :=Zfw E4 hxa
     simp only [subS,List.map_nil]
     walk_at "rd"
     refine kk _ H' (Same.refl _) (fun z=>nomatch z) fun z R2 k2=>?_
     walk_at "rd"
     refine ZgF (s1 _ _ hx1) (v:=.ref xp) rfl ?_
     refine k2 _ H' (Same.refl _) ⟨ps ++ [xp],by rw [List.map_append]; rfl,?_⟩
     rw [Zeg htr]
     exact ZdV hps (.cons hx2 .nil)
    rintro acc ys H5 n5 s5 e5 ⟨ps,rfl,hps⟩
    rw [List.length_map,hgl,List.take_length] at hps
    walk_at "rd"
    refine Zi0 (by simp) fun y H6 s6 ny e6=>?_
    have s46:=s5.trans s6
    refine q y (.join (w3of j) ts) H6 (L.sm.trans (s4.trans s46)) (TwAt.le (n:=cs.length + 2) (by omega) ⟨acc,ps,e6,trivial,s6 _ _ e5,ZaH (fun _ _ h=>h.imp (fun _ _ e=>s46 _ _ e) fun _ _ _ e=>⟨trivial,s46 _ _ e⟩) hps⟩) ?_ ?_
    ·simp only [okT,Bool.and_eq_true,decide_eq_true_iff]
     refine ⟨by rw [hlen] at hA hB; omega,?_⟩
     rw [Ztz,List.all_eq_true]
     exact L.ok
    ·show 1 + nTL ts≤61
     omega
end
end LW
set_option maxRecDepth 100000
set_option maxHeartbeats 4000000
open PySem L2
namespace LW
open PySem L2 EM
theorem ZwO (b:Bool) (ws:List Str):(brW b ws).length≤ws.length + 2:=by
 unfold brW
 by_cases h:b=true
 ·rw [if_pos h,List.length_cons,List.length_append]; exact Nat.le_refl _
 ·rw [if_neg h]; omega
theorem ZDS (k:Str):∀ txs:List (List Str),(jnW k txs).length≤(txs.map (·.length)).sum + (txs.length - 1)
 | []=>Nat.le_refl _
 | [p]=>by simp [jnW]
 | p :: q :: r=>by
  have:=ZDS k (q :: r)
  show (p ++ k :: jnW k (q :: r)).length≤_
  simp only [List.length_append,List.length_cons,List.map_cons,List.sum_cons] at *
  omega
mutual
theorem ZwA (b:Bool) (ns:List Str):∀ t:Tr,(wdG b ns t).length + 3≤4 * nT t
 | .lamp k=>Nat.le_refl _
 | .sure c=>Nat.le_refl _
 | .neg t=>by
  have:=ZwA b ns t
  have h2:=ZwO (decide (1≤rkG b t)) (wdG b ns t)
  show (brW _ _).length + 1 + 3≤4 * (1 + nT t)
  omega
 | .wrap t=>by
  have:=ZwA b ns t
  have h2:=ZwO b (wdG b ns t)
  show (brW _ _).length + 3≤4 * (1 + nT t)
  omega
 | .join v ts=>by
  have h1:=ZDS (kw3 v) (wdGL b ns (ZeA v) ts)
  have h2:=ZFl b ns (ZeA v) ts
  show (jnW _ _).length + 3≤4 * (1 + nTL ts)
  omega
theorem ZFl (b:Bool) (ns:List Str) (r:Nat):∀ ts:List Tr,((wdGL b ns r ts).map (·.length)).sum + ((wdGL b ns r ts).length - 1)≤4 * nTL ts∧((wdGL b ns r ts).map (·.length)).sum + (wdGL b ns r ts).length≤4 * nTL ts
 | []=>⟨Nat.zero_le _,Nat.zero_le _⟩
 | t :: ts=>by
  have h0:=ZwA b ns t
  have h1:=(ZFl b ns r ts).2
  have h2:=ZwO (decide (r≤rkG b t)) (wdG b ns t)
  have e:((wdGL b ns r (t :: ts)).map (·.length)).sum=(brW (decide (r≤rkG b t)) (wdG b ns t)).length + ((wdGL b ns r ts).map (·.length)).sum:=by simp [wdGL]
  have e2:(wdGL b ns r (t :: ts)).length=(wdGL b ns r ts).length + 1:=by simp [wdGL]
  have e3:nTL (t :: ts)=nT t + nTL ts:=by simp [nTL]
  rw [e,e2,e3]
  omega
end
mutual
theorem ZKK (b:Bool) (ns:List Str) (m:Nat):∀ t:Tr,okT m t=true→wdG b ns t ≠ []
 | .lamp k,_=>by simp [wdG]
 | .sure c,_=>by simp [wdG]
 | .neg t,_=>by simp [wdG]
 | .wrap t,h=>by
  have:=ZKK b ns m t (by simpa [okT] using h)
  show brW b (wdG b ns t) ≠ []
  unfold brW
  by_cases hb:b=true
  ·rw [if_pos hb]; simp
  ·rw [if_neg hb]; exact this
 | .join v ts,h=>by
  simp only [okT,Bool.and_eq_true,decide_eq_true_iff] at h
  show jnW (kw3 v) (wdGL b ns (ZeA v) ts) ≠ []
  match ts,h with
  | t :: u :: r,h=>
   show brW _ _ ++ _ :: _ ≠ []
   simp
end
def ZhJ (z:Str) (F inner:List Str):List Str:=(if 0 < F.length∧z ≠ "not" then F ++ [z] else F) ++ inner
def Zfe (b:Bool) (ns:List Str) (z:Str) (bd:Nat) (g:Tr):List Str:=brW (decide (z = "wrap"∧b=true) || decide (bd≤rkG b g)) (wdG b ns g)
theorem ZyG (z:Str) (hz:z ≠ "not"):∀ (txs:List (List Str)) (F:List Str),(∀ p ∈ txs,p ≠ [])→F ≠ []→txs.foldl (ZhJ z) F=txs.foldl (fun F p=>F ++ z :: p) F
 | [],F,_,_=>rfl
 | p :: r,F,h,hF=>by
  have e:ZhJ z F p=F ++ z :: p:=by
   unfold ZhJ
   rw [if_pos ⟨List.length_pos_iff.mpr hF,hz⟩,List.append_assoc]
   rfl
  show r.foldl (ZhJ z) (ZhJ z F p)=r.foldl _ (F ++ z :: p)
  rw [e]
  exact ZyG z hz r _ (fun q hq=>h q (List.mem_cons_of_mem _ hq)) (by simp)
theorem ZDu (z:Str):∀ (txs:List (List Str)) (p:List Str),txs.foldl (fun F p=>F ++ z :: p) p=jnW z (p :: txs)
 | [],p=>rfl
 | q :: r,p=>by
  have ih:=ZDu z r
  show r.foldl _ (p ++ z :: q)=p ++ z :: jnW z (q :: r)
  rw [ih (p ++ z :: q)]
  cases r with
  | nil=>rfl
  | cons x r=>show (p ++ z :: q) ++ z :: jnW z (x :: r)=p ++ z :: (q ++ z :: jnW z (x :: r)); simp
theorem ZFD (z:Str) (hz:z ≠ "not") {txs:List (List Str)} (h:∀ p ∈ txs,p ≠ []):txs.foldl (ZhJ z) []=jnW z txs:=by
 cases txs with
 | nil=>rfl
 | cons p r=>
  have e:ZhJ z [] p=p:=by unfold ZhJ; rw [if_neg (by simp)]; rfl
  show r.foldl (ZhJ z) (ZhJ z [] p)=_
  rw [e,ZyG z hz r p (fun q hq=>h q (List.mem_cons_of_mem _ hq)) (h p List.mem_cons_self),ZDu]
theorem ZCg (b:Bool) (ns:List Str) (r:Nat):∀ ts:List Tr,wdGL b ns r ts=ts.map fun t=>brW (decide (r≤rkG b t)) (wdG b ns t)
 | []=>by simp [wdGL]
 | t :: ts=>by simp [wdGL,ZCg b ns r ts]
theorem ZKj (b:Bool):∀ t:Tr,rkG b t≤3
 | .lamp _=>Nat.zero_le _
 | .sure _=>Nat.zero_le _
 | .neg _=>Nat.zero_le _
 | .wrap t=>by
  show (if b=true then 0 else rkG b t)≤3
  have:=ZKj b t
  by_cases h:b=true
  ·rw [if_pos h]; omega
  ·rw [if_neg h]; exact this
 | .join v _=>by show ZeA v≤3; cases v <;> decide
theorem ZD1:∀ ts:List Tr,ts.length≤nTL ts
 | []=>Nat.zero_le _
 | t :: ts=>by
  have:=ZD1 ts
  have h2:1≤nT t:=by cases t <;> simp only [nT] <;> omega
  show ts.length + 1≤nT t + nTL ts
  omega
seal PE PA PS PSs
section
variable {P:Program} {w:World} {K:PySem.W.Frag} {mg:Str→Option Value} {base:Heap} {t:Ad} {n:Nat}
def ZzV (n:Nat):Sp:=fun vs H Q _=>∃ (p nl:Addr) (b:Bool) (tr:Tr) (ns:List Str),vs=[.ref p,.ref nl,.bl b]∧TwAt anyA H n p tr∧H nl=some (.lst (ns.map V.str))∧okT ns.length tr=true∧nT tr≤63∧∀ l H',Same H H'→H l=none→H' l=some (.lst ((wdG b ns tr).map V.str))→Q (.ref l) H'
theorem Zrl (T:Txt K mg t):∀ n:Nat,FnS P w K mg base (n + 2) "_law_words_of" ["_law_tree_here","_law_names_here","_law_wraps"] (ZzV n)
 | 0=>by
  have no:∀ vs H Q E,¬ ZzV 0 vs H Q E:=fun vs H Q E h=>by
   obtain ⟨p,nl,b,tr,ns,_,h,_⟩ :=h
   exact h
  exact ⟨_,_,⟨fun vs H Q E h=>absurd h (no vs H Q E),fun A outer s H args us vs Q E _ _ _ _ h=>absurd h (no vs H Q E)⟩,T.Zg2,T.ZeI.kp,T.Zhl⟩
 | n + 1=>by
  have Zb8:=Zrl T n
  refine ⟨_,_,T.ZeI.ok Zap (fun vs H Q E h=>?_) (fun cdv A outer s H vs Q E hr h=>?_),T.Zg2,T.ZeI.kp,T.Zhl⟩
  ·obtain ⟨p,nl,b,tr,ns,rfl,_⟩ :=h
   rfl
  obtain ⟨p,nl,b,tr,ns,rfl,hT,hn,hok,hnT,q⟩ :=h
  have Zem:=ZAQ (P:=P) (w:=w) (base:=base) T
  obtain ⟨v,ek⟩ :=hT.kind
  have body:∀ (z:Str) (bd:Nat) (l:Addr) (ps:List Addr) (gs:List Tr),ZyU tr=z→z ≠ "lamp"→z ≠ "sure"→H p=some (.tup [.str z,.ref l])→H l=some (.lst (ps.map V.ref))→Paired (TwAt anyA H n) ps gs→(∀ g ∈ gs,okT ns.length g=true)→nTL gs≤62→(valV (ZmI [] [(Sum.inr "not",V.int 1),(Sum.inr "and",V.int 1),(Sum.inr "either",.int 2),(Sum.inr "or",.int 3)]) (Sum.inr z:Key)).getD (.int 4)=.int (bd:Int)→(gs.map (Zfe b ns z bd)).foldl (ZhJ z) (if z = "not" then ["not"] else [])=wdG b ns tr→∃ tb,PSs (cxOf CX0 P w K mg base ["_law_tree_here","_law_names_here","_law_wraps","_law_kind","_law_bind","_law_found","_law_part","_law_inner"] "_law_words_of" (Zab ZaO) t.ZbI cdv A outer s H E).nox (Zah ZaO) tb∧tb { nx:=fun _ H'=>Q V.non H',rt:=Q } (L2.start ["_law_tree_here","_law_names_here","_law_wraps","_law_kind","_law_bind","_law_found","_law_part","_law_inner"] [.ref p,.ref nl,.bl b]) H:=by
   intro z bd l ps gs ez nz1 nz2 e1 e2 hps hgs hng hbd hfold
   have hgl:=Zcg hps
   have hgn:=ZD1 gs
   refine ⟨_,(Zac (ss 3 Zap.nd (ZaZ ZaA (pv 0) Zae (fun _ _=>rfl)))
   (Zac (Za7 (Zal (ZaU hr.units) (pv 3) Zak (Zax _))
   (Zaf (Zay (ZaN (Zaa (ZaZ ZaA (pv 1) (ZaZ ZaA (pv 0) Zae (fun _ _=>rfl)) (fun _ _=>rfl)) Zad))))
   Zaz)
   (Zac (Za7 (Zal (ZaU hr.units) (pv 3) Zak (Zax _))
   (Zaf (Zay (ZaN (Zaa (ZaZ ZaA (ZaN (Zaa Zak (Zaa Zak Zad))) (ZdG ZlM rfl T.B.int Zyx (Zaa (ZaZ ZaA (pv 0) Zae (fun _ _=>rfl)) Zad)) (fun _ _=>rfl)) Zad))))
   Zaz)
   (Zac (ss 4 Zap.nd (ZtA (Nat.lt_of_le_of_lt (Nat.add_le_add_left (by decide) _) hr.units) (ZxG (Zc9 Zak Zae (Zc9 Zak Zae (Zc9 Zak Zae (Zc9 Zak Zae ZxM)))) rfl rfl (List.cons_ne_nil _ _) (Nat.le_of_ble_eq_true rfl)) (pv 3) Zae ⟨rfl,rfl,rfl,rfl⟩))
   (Zac (ss 5 Zap.nd (ZaN Zad))
   (Zac (Za7 (Zal (ZaU hr.units) (pv 3) Zak (Zax _))
   (Zaf (ZcP (ZkQ PySem.F.plainAttrs_list PySem.F.slot_list_append PySem.F.type_list_append Zb9 (pv 5) (Zaa Zak Zad))))
   Zaz)
   (Zac (Zlm PassesOwn.never rfl (ZmP (ZaZ ZaA (pv 0) Zae (fun _ _=>rfl))) (sg 6 Zap.nd)
   (Zac (ss 7 Zap.nd (Zce Zb8 hr (Zaa (pv 6) (Zaa (pv 1) (Zaa (pv 2) Zad)))))
   (Zac (Za7 (PW.pt (ZCM (PW.pt (Zfh (Zal (ZaU hr.units) (pv 3) Zak (Zax _)) (Zey (ZdW (pv 2) (fun _=>rfl))))) (Zwv (Zal ZEt (Zce Zem hr (Zaa (pv 6) (Zaa (pv 2) Zad))) (pv 4) (Zax _)))))
   (Zaf (ss 7 Zap.nd (Zav Zau (Zav Zau (ZaN (Zaa Zak Zad)) (pv 7)) (ZaN (Zaa Zak Zad)))))
   Zaz)
   (Zac (Za7 (PW.pt (Zfh (Zal Zu5 (ZaM ZaW rfl T.B.len Zdr (Zaa (pv 5) Zad)) Zae (Zax _)) (Zey (Zal (Zzv hr.units) (pv 3) Zak (Zax _)))))
   (Zaf (ZcP (ZkQ PySem.F.plainAttrs_list PySem.F.slot_list_append PySem.F.type_list_append Zb9 (pv 5) (Zaa (pv 3) Zad))))
   Zaz)
   (Zaf (ss 5 Zap.nd (Zav Zau (pv 5) (pv 7))))))))
   (Zaf (Zay (pv 5)))))))))),?_⟩
   walk_at "rd0"
   refine ZgF e1 (v:=.str z) rfl ?_
   walk_at "rd"
   refine Zcc (decide_eq_false nz1) ?_
   walk_at "rd"
   refine Zcc (decide_eq_false nz2) ?_
   walk_at "rd"
   refine ZDG ?_
   refine ZGN fun d hd=>?_
   simp only [Zwy]
   walk_at "rd"
   refine ⟨Za3,[(Sum.inr "not",.int 1),(Sum.inr "and",.int 1),(Sum.inr "either",.int 2),(Sum.inr "or",.int 3)],rfl,by decide,d,rfl,.inl ⟨_,.inl Za3⟩,?_⟩
   walk_at "rd"
   refine ⟨_,DGet.k (k:=Sum.inr z) Za3,?_⟩
   rw [hbd]
   have sd:Same H (upd (upd H d (.dK [])) d (.dK (ZmI [] [(Sum.inr "not",V.int 1),(Sum.inr "and",V.int 1),(Sum.inr "either",.int 2),(Sum.inr "or",.int 3)]))):=fun x u hb=>by
    have hbd:x ≠ d:=Zao hb hd
    rw [ZbM hbd,ZbM hbd]
    exact hb
   generalize upd (upd H d (.dK [])) d (.dK (ZmI [] [(Sum.inr "not",V.int 1),(Sum.inr "and",V.int 1),(Sum.inr "either",.int 2),(Sum.inr "or",.int 3)]))=H1 at sd ⊢
   walk_at "rd"
   refine Zcu (by simp) fun f0 H2 s2 n2 e3=>?_
   have nf0:H f0=none:=sd.free n2
   walk_at "rs"
   refine Zhg (fun σ H'=>Same H H'∧H' f0=some (.lst ((if z = "not" then (["not"]:List Str) else []).map V.str))∧σ=[some (.ref p),some (.ref nl),some (.bl b),some (.str z),some (.int (bd:Int)),some (.ref f0),none,none]) ?_ ?_
   rotate_left
   ·intro Kn hK
    walk_at "rs"
    refine Zcj (fun hz=>?_) (fun hz=>?_)
    ·walk_at "rs"
     refine ⟨tyL e3,?_⟩
     walk_at "rs"
     refine ZfG e3 (by simp) fun H3 b3 e4=>?_
     walk_at "rs"
     exact hK _ _ ⟨b3.same nf0 (sd.trans s2),by rw [if_pos hz]; exact e4,rfl⟩
    ·walk_at "rs"
     exact hK _ _ ⟨sd.trans s2,by rw [if_neg hz]; exact e3,rfl⟩
   rintro σ H3 ⟨s3,ef,rfl⟩
   walk_at "rs"
   refine ZiZ ?_
   walk_at "rs"
   refine ZgF (s3 _ _ e1) (v:=.ref l) rfl ?_
   walk_at "rs"
   refine seqL (xs:=ps.map V.ref) (fun i σ H'=>∃ fl v6 v7,Same H H'∧H fl=none∧H' fl=some (.lst ((((gs.take i).map (Zfe b ns z bd)).foldl (ZhJ z) (if z = "not" then ["not"] else [])).map V.str))∧(((gs.take i).map (Zfe b ns z bd)).foldl (ZhJ z) (if z = "not" then ["not"] else [])).length≤1 + 300 * i∧σ=[some (.ref p),some (.ref nl),some (.bl b),some (.str z),some (.int (bd:Int)),some (.ref fl),v6,v7]) ⟨f0,_,_,s3,nf0,ef,by show (if z = "not" then (["not"]:List Str) else []).length≤_; by_cases hz:z = "not" <;> simp [hz],rfl⟩ (fun i σ H' _ hp=>by obtain ⟨fl,v6,v7,s',_⟩ :=hp; exact SqL.of (s' _ _ e2)) ?_ ?_
   ·rintro i x σ H4 hx ⟨fl,v6,v7,s4,nfl,efl,hF,rfl⟩
    obtain ⟨pa,rfl,hpa⟩ :=Zup hx
    obtain ⟨g,hg,hga⟩ :=Zfw hps hpa
    have hil:i < gs.length:=(List.getElem?_eq_some_iff.mp hg).1
    have gm:=List.mem_of_getElem? hg
    have gn:=ZHh gm
    have hwl:=ZwA b ns g
    generalize hFF:((gs.take i).map (Zfe b ns z bd)).foldl (ZhJ z) (if z = "not" then ["not"] else [])=F at efl hF
    have nx:((gs.take (i + 1)).map (Zfe b ns z bd)).foldl (ZhJ z) (if z = "not" then ["not"] else [])=ZhJ z F (Zfe b ns z bd g):=by rw [Zeg hg,List.map_append,List.foldl_append,hFF]; rfl
    walk_at "rd"
    refine ⟨pa,nl,b,g,ns,rfl,hga.same s4,s4 _ _ hn,hgs g gm,by omega,fun il H5 s5 n5 e5=>?_⟩
    have s45:=s4.trans s5
    walk_at "rs"
    refine Zhg (fun σ H'=>∃ il',Same H H'∧Same H4 H'∧H4 il'=none∧H' il'=some (.lst ((Zfe b ns z bd g).map V.str))∧σ=[some (.ref p),some (.ref nl),some (.bl b),some (.str z),some (.int (bd:Int)),some (.ref fl),some (.ref pa),some (.ref il')]) ?_ ?_
    rotate_left
    ·intro Kn hK
     have yes:(decide (z = "wrap"∧b=true) || decide (bd≤rkG b g))=true→∀ KK,KK.nx=Kn→∀ H6,Same H5 H6→tAsg (tOp ZxN (tOp ZxN (tLst (Zvs (tC (V.str "(")) tNil)) (tVar 7)) (tLst (Zvs (tC (V.str ")")) tNil))) (ZyH 7) KK [some (.ref p),some (.ref nl),some (.bl b),some (.str z),some (.int (bd:Int)),some (.ref fl),some (.ref pa),some (.ref il)] H6:=fun hc KK hKK H6 s6=>by
      walk_at "rs"
      refine Zcu (by simp) fun o1 H7 s7 n7 e7=>?_
      walk_at "rs"
      refine Zlp e7 (s7 _ _ (s6 _ _ e5)) (by rw [List.length_map]; simp; omega) fun o2 H8 s8 n8 e8=>?_
      walk_at "rs"
      refine Zcu (by simp) fun o3 H9 s9 n9 e9=>?_
      refine Zlp (s9 _ _ e8) e9 (by simp only [List.length_append,List.length_map,List.length_singleton,List.length_cons,List.length_nil]; omega) fun o4 H10 s10 n10 e10=>?_
      walk_at "rs"
      rw [hKK]
      have sA:=s6.trans (s7.trans (s8.trans (s9.trans s10)))
      refine hK _ _ ⟨o4,s45.trans sA,s5.trans sA,(s5.trans (s6.trans (s7.trans (s8.trans s9)))).free n10,?_,rfl⟩
      unfold Zfe brW
      rw [hc,if_pos rfl,e10]
      simp
     have no:(decide (z = "wrap"∧b=true) || decide (bd≤rkG b g))=false→∀ H6,Same H5 H6→Kn [some (.ref p),some (.ref nl),some (.bl b),some (.str z),some (.int (bd:Int)),some (.ref fl),some (.ref pa),some (.ref il)] H6:=fun hc H6 s6=>by
      refine hK _ _ ⟨il,s45.trans s6,s5.trans s6,n5,?_,rfl⟩
      unfold Zfe brW
      rw [hc,if_neg (by decide)]
      exact s6 _ _ e5
     have rnk:∀ (Q':VK),(¬ (z = "wrap"∧b=true))→(∀ H6,Same H5 H6→Q' (.int (rkG b g:Int)) H6)→ZE3 [.ref pa,.bl b] H5 Q' (fun _ _ _=>False):=fun Q' _ kk=>⟨pa,b,anyA,n,g,rfl,hga.same s45,kk⟩
     walk_at "rs"
     by_cases hw:z = "wrap"
     ·refine ZdP (decide_eq_true hw) ?_
      walk_at "rs"
      by_cases hb:b=true
      ·refine ZdP hb ?_
       refine ZdP rfl ?_
       exact yes (by rw [decide_eq_true ⟨hw,hb⟩]; rfl) _ rfl H5 (fun _ _ h=>h)
      ·refine Zcc (by cases b <;> first | rfl | exact absurd rfl hb) ?_
       walk_at "rs"
       refine rnk _ (fun y=>hb y.2) fun H6 s6=>?_
       walk_at "rs"
       refine Zcj (fun hr=>?_) (fun hr=>?_)
       ·exact yes (by rw [decide_eq_true (show bd≤rkG b g by omega),Bool.or_true]) _ rfl H6 s6
       ·walk_at "rs"
        exact no (by rw [decide_eq_false (show ¬ bd≤rkG b g by omega),Bool.or_false]; exact decide_eq_false fun y=>hb y.2) H6 s6
     ·refine Zcc (decide_eq_false hw) ?_
      walk_at "rs"
      refine Zcc rfl ?_
      walk_at "rs"
      refine rnk _ (fun y=>hw y.1) fun H6 s6=>?_
      walk_at "rs"
      refine Zcj (fun hr=>?_) (fun hr=>?_)
      ·exact yes (by rw [decide_eq_true (show bd≤rkG b g by omega),Bool.or_true]) _ rfl H6 s6
      ·walk_at "rs"
       exact no (by rw [decide_eq_false (show ¬ bd≤rkG b g by omega),Bool.or_false]; exact decide_eq_false fun y=>hw y.1) H6 s6
    rintro σ H6 ⟨il',s6,s46,n6,e6,rfl⟩
    walk_at "rs"
    refine Zhg (fun σ H'=>Same H H'∧H' il'=some (.lst ((Zfe b ns z bd g).map V.str))∧H' fl=some (.lst ((if 0 < F.length∧z ≠ "not" then F ++ [z] else F).map V.str))∧σ=[some (.ref p),some (.ref nl),some (.bl b),some (.str z),some (.int (bd:Int)),some (.ref fl),some (.ref pa),some (.ref il')]) ?_ ?_
    rotate_left
    ·intro Kn hK
     have efl6:=s46 _ _ efl
     walk_at "rs"
     have hFm:(F.map V.str).length=F.length:=List.length_map ..
     refine Zcj (fun h0=>?_) (fun h0=>?_)
     ·walk_at "rs"
      rw [show (!decide (z = "not"))=decide (z ≠ "not") from (decide_not ..).symm]
      refine Zcj (fun hz=>?_) (fun hz=>?_)
      ·walk_at "rs"
       refine ⟨tyL efl6,?_⟩
       walk_at "rs"
       refine ZfG efl6 (by simp; omega) fun H7 b7 e7=>?_
       walk_at "rs"
       exact hK _ _ ⟨b7.same nfl s6,b7 _ _ (Zao efl n6).symm e6,by rw [if_pos ⟨by omega,hz⟩,e7]; simp,rfl⟩
      ·walk_at "rs"
       exact hK _ _ ⟨s6,e6,by rw [if_neg (fun y=>hz y.2)]; exact efl6,rfl⟩
     ·walk_at "rs"
      exact hK _ _ ⟨s6,e6,by rw [if_neg (fun y=>h0 (by omega))]; exact efl6,rfl⟩
    rintro σ H7 ⟨s7,e7,e8,rfl⟩
    walk_at "rs"
    have hin:(Zfe b ns z bd g).length≤254:=by
     have:=ZwO (decide (z = "wrap"∧b=true) || decide (bd≤rkG b g)) (wdG b ns g)
     unfold Zfe
     omega
    have hst:(if 0 < F.length∧z ≠ "not" then F ++ [z] else F).length≤F.length + 1:=by
     by_cases hc:0 < F.length∧z ≠ "not"
     ·rw [if_pos hc,List.length_append]; exact Nat.le_refl _
     ·rw [if_neg hc]; omega
    refine Zlp e8 e7 (by rw [List.length_map,List.length_map]; omega) fun o H8 s8 n8 e9=>?_
    walk_at "rs"
    refine ⟨o,_,_,s7.trans s8,s7.free n8,by rw [nx,e9]; simp [ZhJ],?_,rfl⟩
    rw [nx]
    unfold ZhJ
    rw [List.length_append]
    omega
   ·rintro σ H4 ⟨fl,v6,v7,s4,nfl,efl,hF,rfl⟩
    rw [List.length_map,hgl,List.take_length,hfold] at efl
    walk_at "rd"
    exact q fl H4 s4 nfl efl
  cases tr with
  | lamp k=>
   have hp:H p=some (.tup [.str "lamp",.int (k:Int)]):=hT
   have hk:k < ns.length:=by simpa [okT] using hok
   refine ⟨_,(Zac (ss 3 Zap.nd (ZaZ ZaA (pv 0) Zae (fun _ _=>rfl)))
   (Zac (Za7 (Zal (ZaU hr.units) (pv 3) Zak (Zax _))
   (Zaf (Zay (ZaN (Zaa (ZaZ ZaA (pv 1) (ZaZ ZaA (pv 0) Zae (fun _ _=>rfl)) (fun _ _=>rfl)) Zad))))
   Zaz)
   (Zac (Za7 (Zal (ZaU hr.units) (pv 3) Zak (Zax _))
   (Zaf (Zay (ZaN (Zaa (ZaZ ZaA (ZaN (Zaa Zak (Zaa Zak Zad))) (ZdG ZlM rfl T.B.int Zyx (Zaa (ZaZ ZaA (pv 0) Zae (fun _ _=>rfl)) Zad)) (fun _ _=>rfl)) Zad))))
   Zaz)
   (Zac (ss 4 Zap.nd (ZtA (Nat.lt_of_le_of_lt (Nat.add_le_add_left (by decide) _) hr.units) (ZxG (Zc9 Zak Zae (Zc9 Zak Zae (Zc9 Zak Zae (Zc9 Zak Zae ZxM)))) rfl rfl (List.cons_ne_nil _ _) (Nat.le_of_ble_eq_true rfl)) (pv 3) Zae ⟨rfl,rfl,rfl,rfl⟩))
   (Zac (ss 5 Zap.nd (ZaN Zad))
   (Zac (Za7 (Zal (ZaU hr.units) (pv 3) Zak (Zax _))
   (Zaf (ZcP (ZkQ PySem.F.plainAttrs_list PySem.F.slot_list_append PySem.F.type_list_append Zb9 (pv 5) (Zaa Zak Zad))))
   Zaz)
   (Zac (Zlm PassesOwn.never rfl (ZmP (ZaZ ZaA (pv 0) Zae (fun _ _=>rfl))) (sg 6 Zap.nd)
   (Zac (ss 7 Zap.nd (Zce Zb8 hr (Zaa (pv 6) (Zaa (pv 1) (Zaa (pv 2) Zad)))))
   (Zac (Za7 (PW.pt (ZCM (PW.pt (Zfh (Zal (ZaU hr.units) (pv 3) Zak (Zax _)) (Zey (ZdW (pv 2) (fun _=>rfl))))) (Zwv (Zal ZEt (Zce Zem hr (Zaa (pv 6) (Zaa (pv 2) Zad))) (pv 4) (Zax _)))))
   (Zaf (ss 7 Zap.nd (Zav Zau (Zav Zau (ZaN (Zaa Zak Zad)) (pv 7)) (ZaN (Zaa Zak Zad)))))
   Zaz)
   (Zac (Za7 (PW.pt (Zfh (Zal Zu5 (ZaM ZaW rfl T.B.len Zdr (Zaa (pv 5) Zad)) Zae (Zax _)) (Zey (Zal (Zzv hr.units) (pv 3) Zak (Zax _)))))
   (Zaf (ZcP (ZkQ PySem.F.plainAttrs_list PySem.F.slot_list_append PySem.F.type_list_append Zb9 (pv 5) (Zaa (pv 3) Zad))))
   Zaz)
   (Zaf (ss 5 Zap.nd (Zav Zau (pv 5) (pv 7))))))))
   (Zaf (Zay (pv 5)))))))))),?_⟩
   walk_at "rd0"
   refine ZgF hp (v:=.str "lamp") rfl ?_
   walk_at "rd"
   refine ZdP rfl ?_
   walk_at "rd"
   refine ZgF hp (v:=.int (k:Int)) rfl ?_
   walk_at "rd"
   refine Zgj (v:=.str (ns.getD k Str.empty)) hn (by rw [List.getElem?_map,List.getD_eq_getElem?_getD,List.getElem?_eq_getElem hk]; rfl) ?_
   walk_at "rd"
   refine Zcu (by simp) fun l H1 s1 n1 e1=>?_
   exact q l H1 s1 n1 e1
  | sure c=>
   have hp:H p=some (.tup [.str "sure",.bl c]):=hT
   refine ⟨_,(Zac (ss 3 Zap.nd (ZaZ ZaA (pv 0) Zae (fun _ _=>rfl)))
   (Zac (Za7 (Zal (ZaU hr.units) (pv 3) Zak (Zax _))
   (Zaf (Zay (ZaN (Zaa (ZaZ ZaA (pv 1) (ZaZ ZaA (pv 0) Zae (fun _ _=>rfl)) (fun _ _=>rfl)) Zad))))
   Zaz)
   (Zac (Za7 (Zal (ZaU hr.units) (pv 3) Zak (Zax _))
   (Zaf (Zay (ZaN (Zaa (ZaZ ZaA (ZaN (Zaa Zak (Zaa Zak Zad))) (ZdG ZlM rfl T.B.int Zyx (Zaa (ZaZ ZaA (pv 0) Zae (fun _ _=>rfl)) Zad)) (fun _ _=>rfl)) Zad))))
   Zaz)
   (Zac (ss 4 Zap.nd (ZtA (Nat.lt_of_le_of_lt (Nat.add_le_add_left (by decide) _) hr.units) (ZxG (Zc9 Zak Zae (Zc9 Zak Zae (Zc9 Zak Zae (Zc9 Zak Zae ZxM)))) rfl rfl (List.cons_ne_nil _ _) (Nat.le_of_ble_eq_true rfl)) (pv 3) Zae ⟨rfl,rfl,rfl,rfl⟩))
   (Zac (ss 5 Zap.nd (ZaN Zad))
   (Zac (Za7 (Zal (ZaU hr.units) (pv 3) Zak (Zax _))
   (Zaf (ZcP (ZkQ PySem.F.plainAttrs_list PySem.F.slot_list_append PySem.F.type_list_append Zb9 (pv 5) (Zaa Zak Zad))))
   Zaz)
   (Zac (Zlm PassesOwn.never rfl (ZmP (ZaZ ZaA (pv 0) Zae (fun _ _=>rfl))) (sg 6 Zap.nd)
   (Zac (ss 7 Zap.nd (Zce Zb8 hr (Zaa (pv 6) (Zaa (pv 1) (Zaa (pv 2) Zad)))))
   (Zac (Za7 (PW.pt (ZCM (PW.pt (Zfh (Zal (ZaU hr.units) (pv 3) Zak (Zax _)) (Zey (ZdW (pv 2) (fun _=>rfl))))) (Zwv (Zal ZEt (Zce Zem hr (Zaa (pv 6) (Zaa (pv 2) Zad))) (pv 4) (Zax _)))))
   (Zaf (ss 7 Zap.nd (Zav Zau (Zav Zau (ZaN (Zaa Zak Zad)) (pv 7)) (ZaN (Zaa Zak Zad)))))
   Zaz)
   (Zac (Za7 (PW.pt (Zfh (Zal Zu5 (ZaM ZaW rfl T.B.len Zdr (Zaa (pv 5) Zad)) Zae (Zax _)) (Zey (Zal (Zzv hr.units) (pv 3) Zak (Zax _)))))
   (Zaf (ZcP (ZkQ PySem.F.plainAttrs_list PySem.F.slot_list_append PySem.F.type_list_append Zb9 (pv 5) (Zaa (pv 3) Zad))))
   Zaz)
   (Zaf (ss 5 Zap.nd (Zav Zau (pv 5) (pv 7))))))))
   (Zaf (Zay (pv 5)))))))))),?_⟩
   walk_at "rd0"
   refine ZgF hp (v:=.str "sure") rfl ?_
   walk_at "rd"
   refine Zcc rfl ?_
   walk_at "rd"
   refine ZdP rfl ?_
   walk_at "rd"
   refine Zcu (by simp) fun l0 H1 s1 n1 e1=>?_
   walk_at "rd"
   refine ZgF (s1 _ _ hp) (v:=.bl c) rfl ?_
   walk_at "rd"
   cases c with
   | true=>
    refine Zgj (j:=1) (v:=.str "yes") e1 rfl ?_
    walk_at "rd"
    refine Zcu (by simp) fun l H2 s2 n2 e2=>?_
    exact q l H2 (s1.trans s2) (s1.free n2) e2
   | false=>
    refine Zgj (j:=0) (v:=.str "no") e1 rfl ?_
    walk_at "rd"
    refine Zcu (by simp) fun l H2 s2 n2 e2=>?_
    exact q l H2 (s1.trans s2) (s1.free n2) e2
  | neg g=>
   obtain ⟨l,q',e1,_,e2,hq⟩ :=hT
   have hn1:nT (.neg g)=1 + nT g:=rfl
   refine body "not" 1 l [q'] [g] rfl (by decide) (by decide) e1 e2 (.cons hq .nil) (fun x hx=>by rw [List.mem_singleton.mp hx]; simpa [okT] using hok) (by rw [ZuP]; omega) rfl ?_
   show ZhJ "not" (["not"]:List Str) (Zfe b ns "not" 1 g)=("not" : Str) :: brW (decide (1≤rkG b g)) (wdG b ns g)
   unfold ZhJ Zfe
   rw [if_neg (fun y=>y.2 rfl),show decide (("not" : Str) = "wrap"∧b=true)=false from decide_eq_false fun y=>absurd y.1 (by decide),Bool.false_or]
   rfl
  | wrap g=>
   obtain ⟨l,q',e1,_,e2,hq⟩ :=hT
   have hn1:nT (.wrap g)=1 + nT g:=rfl
   refine body "wrap" 4 l [q'] [g] rfl (by decide) (by decide) e1 e2 (.cons hq .nil) (fun x hx=>by rw [List.mem_singleton.mp hx]; simpa [okT] using hok) (by rw [ZuP]; omega) rfl ?_
   show ZhJ "wrap" [] (Zfe b ns "wrap" 4 g)=brW b (wdG b ns g)
   unfold ZhJ Zfe
   have:=ZKj b g
   rw [if_neg (by simp),show decide (4≤rkG b g)=false from decide_eq_false (by omega),Bool.or_false,show decide (("wrap" : Str) = "wrap"∧b=true)=b by cases b <;> decide]
   rfl
  | join v gs=>
   obtain ⟨l,ps,e1,_,e2,hq⟩ :=hT
   have hn1:nT (.join v gs)=1 + nTL gs:=rfl
   simp only [okT,Bool.and_eq_true,decide_eq_true_iff] at hok
   have ok':∀ g ∈ gs,okT ns.length g=true:=by
    have:=hok.2
    rw [Ztz,List.all_eq_true] at this
    exact this
   refine body (kw3 v) (ZeA v) l ps gs rfl (by cases v <;> decide) (by cases v <;> decide) e1 e2 hq ok' (by omega) (by cases v <;> rfl) ?_
   have nn:kw3 v ≠ "not":=by cases v <;> decide
   have nw:kw3 v ≠ "wrap":=by cases v <;> decide
   rw [if_neg nn,ZFD _ nn]
   ·show _=jnW (kw3 v) (wdGL b ns (ZeA v) gs)
    rw [ZCg]
    congr 1
    refine List.map_congr_left fun g hg=>?_
    unfold Zfe
    rw [show decide (kw3 v = "wrap"∧b=true)=false from decide_eq_false fun y=>nw y.1,Bool.false_or]
   ·intro x hx
    obtain ⟨g,hg,rfl⟩ :=List.mem_map.mp hx
    have:=ZKK b ns ns.length g (ok' g hg)
    unfold Zfe brW
    by_cases hc:(decide (kw3 v = "wrap"∧b=true) || decide (ZeA v≤rkG b g))=true
    ·rw [if_pos hc]; simp
    ·rw [if_neg hc]; exact this
end
unseal PE PA PS PSs
def cl1 (z:Str):List Nat:=z.cps.toList
def Nc (ws:List (List Nat)):Prop:=ws ≠ []∧ws.head? ≠ some [41]∧ws.getLast? ≠ some [40]
theorem Znb:∀ {a b:List (List Nat)},a ≠ []→b ≠ []→glue (a ++ b)=glue a ++ (if a.getLast?=some [40]∨b.head?=some [41] then [] else [32]) ++ glue b
 | [],b,ha,_=>absurd rfl ha
 | [p],[],_,hb=>absurd rfl hb
 | [p],q :: r,_,_=>by
  show p ++ (if p=[40]∨q=[41] then [] else [32]) ++ glue (q :: r)=p ++ _ ++ glue (q :: r)
  simp
 | p :: q :: r,b,_,hb=>by
  have ih:=Znb (a:=q :: r) (b:=b) (by simp) hb
  have e:(p :: q :: r).getLast?=(q :: r).getLast?:=by simp [List.getLast?_cons]
  show p ++ (if p=[40]∨q=[41] then [] else [32]) ++ glue (q :: r ++ b)=(p ++ (if p=[40]∨q=[41] then [] else [32]) ++ glue (q :: r)) ++ _ ++ glue b
  rw [ih,e]
  simp only [List.append_assoc]
theorem ZHU {ws:List (List Nat)} (h:Nc ws):glue ([40] :: (ws ++ [[41]]))=[40] ++ glue ws ++ [41]:=by
 have a:glue (ws ++ [[41]])=glue ws ++ [41]:=by
  rw [Znb h.1 (by simp),if_pos (.inr rfl),List.append_nil]
  rfl
 have b:=Znb (a:=[[40]]) (b:=ws ++ [[41]]) (by simp) (by simp)
 rw [if_pos (.inl rfl),List.append_nil,a] at b
 exact b.trans (List.append_assoc ..).symm
theorem ZFI {a b:List (List Nat)} {k:List Nat} (ha:Nc a) (hb:Nc b) (k1:k ≠ [40]) (k2:k ≠ [41]):glue (a ++ k :: b)=glue a ++ ([32] ++ k ++ [32]) ++ glue b:=by
 have e2:=Znb (a:=[k]) (b:=b) (by simp) hb.1
 rw [if_neg (by rintro (h | h); exact k1 (by simpa using h); exact hb.2.1 h)] at e2
 rw [Znb ha.1 (by simp),if_neg (by rintro (h | h); exact ha.2.2 h; exact k2 (by simpa using h))]
 have:glue (k :: b)=k ++ [32] ++ glue b:=e2
 rw [this]
 simp only [List.append_assoc]
theorem ZFJ {b:List (List Nat)} {k:List Nat} (hb:Nc b) (k1:k ≠ [40]):glue (k :: b)=k ++ [32] ++ glue b:=by
 have e2:=Znb (a:=[k]) (b:=b) (by simp) hb.1
 rw [if_neg (by rintro (h | h); exact k1 (by simpa using h); exact hb.2.1 h)] at e2
 exact e2
theorem ZFL:∀ {a b:List (List Nat)},a ≠ []→(a ++ b).head?=a.head?
 | [],_,h=>absurd rfl h
 | _ :: _,_,_=>rfl
theorem Zxa:∀ {a b:List (List Nat)},b ≠ []→(a ++ b).getLast?=b.getLast?
 | [],_,_=>rfl
 | x :: a,b,h=>by
  have:=Zxa (a:=a) h
  rw [List.cons_append,List.getLast?_cons_of_ne_nil (by simp [h]),this]
theorem Nc.mid {a b:List (List Nat)} {k:List Nat} (ha:Nc a) (hb:Nc b):Nc (a ++ k :: b):=by
 refine ⟨by simp,?_,?_⟩
 ·rw [ZFL ha.1]; exact ha.2.1
 ·rw [Zxa (by simp),List.getLast?_cons_of_ne_nil hb.1]; exact hb.2.2
theorem Nc.pre {b:List (List Nat)} {k:List Nat} (hb:Nc b) (k2:k ≠ [41]):Nc (k :: b):=by
 refine ⟨by simp,?_,?_⟩
 ·simpa using k2
 ·rw [List.getLast?_cons_of_ne_nil hb.1]; exact hb.2.2
theorem Nc.one {k:List Nat} (k1:k ≠ [40]) (k2:k ≠ [41]):Nc [k]:=⟨by simp,by simpa using k2,by simpa using k1⟩
theorem Nc.br (ws:List (List Nat)):Nc ([40] :: (ws ++ [[41]])):=by
 refine ⟨by simp,by simp,?_⟩
 rw [List.getLast?_cons_of_ne_nil (by simp),Zxa (by simp)]
 simp
theorem ZB4 (π:Nat→Nat):∀ t:Tr,Zp4 (fmT π t)=rkG false t
 | .lamp _=>rfl
 | .sure _=>rfl
 | .neg _=>rfl
 | .wrap t=>ZB4 π t
 | .join _ _=>rfl
theorem ZFt (b:Bool) (ws:List Str):(brW b ws).map cl1=if b=true then [40] :: (ws.map cl1 ++ [[41]]) else ws.map cl1:=by
 unfold brW
 by_cases h:b=true
 ·rw [if_pos h,if_pos h,List.map_cons,List.map_append]; rfl
 ·rw [if_neg h,if_neg h]
theorem ZFu (b:Bool) (z:Str):cl1 (brk b z)=if b=true then [40] ++ cl1 z ++ [41] else cl1 z:=by
 unfold brk
 by_cases h:b=true
 ·rw [if_pos h,if_pos h]
  show ((Str.empty ++ "(") ++ z ++ ")" : Str).cps.toList=_
  rw [list_append,list_append,list_append]
  rfl
 ·rw [if_neg h,if_neg h]
theorem ZBw (v:W3):∀ txs:List (List Str),txs ≠ []→(∀ p ∈ txs,Nc (p.map cl1))→Nc ((jnW (kw3 v) txs).map cl1)∧glue ((jnW (kw3 v) txs).map cl1)=jn (cl1 (Zvu v)) (txs.map fun p=>glue (p.map cl1))
 | [],h,_=>absurd rfl h
 | [p],_,h=>⟨h p List.mem_cons_self,rfl⟩
 | p :: q :: r,_,h=>by
  obtain ⟨n1,e1⟩ :=ZBw v (q :: r) (by simp) fun x hx=>h x (List.mem_cons_of_mem _ hx)
  have n0:=h p List.mem_cons_self
  have em:(jnW (kw3 v) (p :: q :: r)).map cl1=p.map cl1 ++ cl1 (kw3 v) :: (jnW (kw3 v) (q :: r)).map cl1:=by
   show (p ++ kw3 v :: jnW (kw3 v) (q :: r)).map cl1=_
   rw [List.map_append,List.map_cons]
  rw [em]
  refine ⟨n0.mid n1,?_⟩
  rw [ZFI n0 n1 (by cases v <;> decide) (by cases v <;> decide),e1]
  have ew:cl1 (Zvu v)=[32] ++ cl1 (kw3 v) ++ [32]:=by cases v <;> decide
  rw [← ew]
  rfl
def NmL (z:Str):Prop:=z.cps.toList ≠ []∧∀ c ∈ z.cps.toList,97≤c∧c≤122
theorem NmL.no {z:Str} (h:NmL z):cl1 z ≠ [40]∧cl1 z ≠ [41]:=⟨fun e=>by have:=h.2 40 (by show 40 ∈ cl1 z; rw [e]; simp); omega,fun e=>by have:=h.2 41 (by show 41 ∈ cl1 z; rw [e]; simp); omega⟩
theorem ZC3 {ns' ns:List Str} {π:Nat→Nat} {t:Tr} (r:Nat) (g:Nc ((wdG false ns t).map cl1)∧cl1 (Zd2 ns' (fmT π t))=glue ((wdG false ns t).map cl1)):Nc ((brW (decide (r≤rkG false t)) (wdG false ns t)).map cl1)∧cl1 (Zv1 ns' r (fmT π t))=glue ((brW (decide (r≤rkG false t)) (wdG false ns t)).map cl1):=by
 unfold Zv1
 rw [ZFt,ZFu,ZB4]
 by_cases h:decide (r≤rkG false t)=true
 ·rw [if_pos h,if_pos h,g.2]
  exact ⟨Nc.br _,(ZHU g.1).symm⟩
 ·rw [if_neg h,if_neg h]
  exact g
mutual
theorem Zns {ns' ns:List Str} {π:Nat→Nat} {m:Nat} (hπ:∀ k,k < m→ns'.getD (π k) Str.empty=ns.getD k Str.empty) (hN:∀ k,k < m→NmL (ns.getD k Str.empty)):∀ t:Tr,okT m t=true→Nc ((wdG false ns t).map cl1)∧cl1 (Zd2 ns' (fmT π t))=glue ((wdG false ns t).map cl1)
 | .lamp k,h=>by
  have hk:k < m:=by simpa [okT] using h
  refine ⟨Nc.one (hN k hk).no.1 (hN k hk).no.2,?_⟩
  show cl1 (ns'.getD (π k) Str.empty)=cl1 (ns.getD k Str.empty)
  rw [hπ k hk]
 | .sure c,_=>by
  refine ⟨?_,rfl⟩
  cases c
  ·exact Nc.one (by decide) (by decide)
  ·exact Nc.one (by decide) (by decide)
 | .neg t,h=>by
  have g:=ZC3 1 (Zns hπ hN t (by simpa [okT] using h))
  have e:(wdG false ns (.neg t)).map cl1=cl1 "not" :: (brW (decide (1≤rkG false t)) (wdG false ns t)).map cl1:=rfl
  rw [e]
  refine ⟨g.1.pre (by decide),?_⟩
  rw [ZFJ g.1 (by decide),← g.2]
  show ((Str.empty ++ "not " ++ Zv1 ns' 1 (fmT π t)):Str).cps.toList=_
  rw [list_append,list_append]
  rfl
 | .wrap t,h=>by
  have g:=Zns hπ hN t (by simpa [okT] using h)
  exact g
 | .join v ts,h=>by
  simp only [okT,Bool.and_eq_true,decide_eq_true_iff] at h
  obtain ⟨a,b⟩ :=Zvh hπ hN (ZeA v) ts h.2
  have ne:wdGL false ns (ZeA v) ts ≠ []:=by
   cases ts with
   | nil=>exact absurd h.1 (by decide)
   | cons x r=>simp [wdGL]
  obtain ⟨n,e⟩ :=ZBw v (wdGL false ns (ZeA v) ts) ne a
  refine ⟨n,?_⟩
  show cl1 (Zd2 ns' (.join v (fmTL π ts)))=glue ((jnW (kw3 v) (wdGL false ns (ZeA v) ts)).map cl1)
  rw [e,Zww,← Zq9]
  show (Builtin.Str.glued _ _).cps.toList=_
  rw [StrLaws.glued_eq_join,Zjr]
  exact congrArg _ b
theorem Zvh {ns' ns:List Str} {π:Nat→Nat} {m:Nat} (hπ:∀ k,k < m→ns'.getD (π k) Str.empty=ns.getD k Str.empty) (hN:∀ k,k < m→NmL (ns.getD k Str.empty)) (r:Nat):∀ ts:List Tr,okTL m ts=true→(∀ p ∈ wdGL false ns r ts,Nc (p.map cl1))∧(Zcp ns' r (fmTL π ts)).map (fun p=>p.cps.toList)=(wdGL false ns r ts).map fun p=>glue (p.map cl1)
 | [],_=>⟨fun p hp=>(by simp [wdGL] at hp),by simp [Zcp,fmTL,wdGL]⟩
 | t :: ts,h=>by
  simp only [okTL,Bool.and_eq_true] at h
  have g:=ZC3 r (Zns hπ hN t h.1)
  obtain ⟨a,b⟩ :=Zvh hπ hN r ts h.2
  have e:wdGL false ns r (t :: ts)=brW (decide (r≤rkG false t)) (wdG false ns t) :: wdGL false ns r ts:=by simp [wdGL]
  have e2:Zcp ns' r (fmTL π (t :: ts))=Zv1 ns' r (fmT π t) :: Zcp ns' r (fmTL π ts):=by simp [Zcp,fmTL,Zv1]
  rw [e,e2]
  refine ⟨fun p hp=>?_,?_⟩
  ·rcases List.mem_cons.mp hp with rfl | hp
   ·exact g.1
   ·exact a p hp
  ·rw [List.map_cons,List.map_cons,b,← g.2]
   rfl
end
theorem Zx9 {x y:Str} (h:cl1 x=cl1 y):x=y:=by
 cases x; cases y
 exact congrArg Str.mk (Array.toList_inj.mp h)
def kwsX:List Str:=["yes","no","not","(",")","and","either","or"]
theorem ZAl {Pz:Str→Prop} (hk:∀ z ∈ kwsX,Pz z) {b:Bool} {ws:List Str} (h:∀ z ∈ ws,Pz z):∀ z ∈ brW b ws,Pz z:=by
 intro z hz
 unfold brW at hz
 by_cases e:b=true
 ·rw [if_pos e] at hz
  rcases List.mem_cons.mp hz with rfl | hz
  ·exact hk _ (by decide)
  ·rcases List.mem_append.mp hz with hz | hz
   ·exact h z hz
   ·rw [List.mem_singleton.mp hz]; exact hk _ (by decide)
 ·rw [if_neg e] at hz; exact h z hz
theorem ZDR {Pz:Str→Prop} {k:Str} (hk:Pz k):∀ {txs:List (List Str)},(∀ p ∈ txs,∀ z ∈ p,Pz z)→∀ z ∈ jnW k txs,Pz z
 | [],_,z,hz=>absurd hz (by simp [jnW])
 | [p],h,z,hz=>h p List.mem_cons_self z hz
 | p :: q :: r,h,z,hz=>by
  have hz:z ∈ p ++ k :: jnW k (q :: r):=hz
  rcases List.mem_append.mp hz with hz | hz
  ·exact h p List.mem_cons_self z hz
  ·rcases List.mem_cons.mp hz with rfl | hz
   ·exact hk
   ·exact ZDR hk (txs:=q :: r) (fun x hx=>h x (List.mem_cons_of_mem _ hx)) z hz
mutual
theorem Zz1 {Pz:Str→Prop} (hk:∀ z ∈ kwsX,Pz z) {b:Bool} {ns:List Str} {m:Nat} (hn:∀ k,k < m→Pz (ns.getD k Str.empty)):∀ t:Tr,okT m t=true→∀ z ∈ wdG b ns t,Pz z
 | .lamp k,h,z,hz=>by
  have hz:z ∈ [ns.getD k Str.empty]:=hz
  rw [List.mem_singleton.mp hz]
  exact hn k (by simpa [okT] using h)
 | .sure c,h,z,hz=>by
  have hz:z ∈ [(if c=true then "yes" else "no" : Str)]:=hz
  rw [List.mem_singleton.mp hz]
  cases c
  ·exact hk "no" (by decide)
  ·exact hk "yes" (by decide)
 | .neg t,h,z,hz=>by
  have hz:z ∈ ("not" : Str) :: brW (decide (1≤rkG b t)) (wdG b ns t):=hz
  rcases List.mem_cons.mp hz with rfl | hz
  ·exact hk _ (by decide)
  ·exact ZAl hk (Zz1 hk hn t (by simpa [okT] using h)) z hz
 | .wrap t,h,z,hz=>ZAl hk (Zz1 hk hn t (by simpa [okT] using h)) z hz
 | .join v ts,h,z,hz=>by
  simp only [okT,Bool.and_eq_true,decide_eq_true_iff] at h
  exact ZDR (hk _ (by cases v <;> decide)) (ZFk hk hn (ZeA v) ts h.2) z hz
theorem ZFk {Pz:Str→Prop} (hk:∀ z ∈ kwsX,Pz z) {b:Bool} {ns:List Str} {m:Nat} (hn:∀ k,k < m→Pz (ns.getD k Str.empty)) (r:Nat):∀ ts:List Tr,okTL m ts=true→∀ p ∈ wdGL b ns r ts,∀ z ∈ p,Pz z
 | [],_,p,hp=>absurd hp (by simp [wdGL])
 | t :: ts,h,p,hp=>by
  simp only [okTL,Bool.and_eq_true] at h
  have e:wdGL b ns r (t :: ts)=brW (decide (r≤rkG b t)) (wdG b ns t) :: wdGL b ns r ts:=by simp [wdGL]
  rw [e] at hp
  rcases List.mem_cons.mp hp with rfl | hp
  ·exact ZAl hk (Zz1 hk hn t h.1)
  ·exact ZFk hk hn r ts h.2 p hp
end
def WdS (z:Str):Prop:=Wd (cl1 z)∧z.length≤8
theorem Wd.let {z:Str} (h:NmL z):Wd (cl1 z):=.inr (.inr h)
theorem Zli:∀ z ∈ kwsX,WdS z:=by
 intro z hz
 unfold kwsX at hz
 simp only [List.mem_cons,List.not_mem_nil,or_false] at hz
 rcases hz with rfl | rfl | rfl | rfl | rfl | rfl | rfl | rfl
 ·exact ⟨.inr (.inr ⟨by decide,by decide⟩),by decide⟩
 ·exact ⟨.inr (.inr ⟨by decide,by decide⟩),by decide⟩
 ·exact ⟨.inr (.inr ⟨by decide,by decide⟩),by decide⟩
 ·exact ⟨.inl rfl,by decide⟩
 ·exact ⟨.inr (.inl rfl),by decide⟩
 ·exact ⟨.inr (.inr ⟨by decide,by decide⟩),by decide⟩
 ·exact ⟨.inr (.inr ⟨by decide,by decide⟩),by decide⟩
 ·exact ⟨.inr (.inr ⟨by decide,by decide⟩),by decide⟩
theorem ZA1 {c d:Nat} {z:List Nat} (hz:z.length≤2):∀ l:List Nat,(rp2 c d z l).length≤l.length
 | []=>Nat.le_refl _
 | [a]=>Nat.le_refl _
 | a :: b :: r=>by
  have i1:=ZA1 (c:=c) (d:=d) hz r
  have i2:=ZA1 (c:=c) (d:=d) hz (b :: r)
  show (if a=c∧b=d then z ++ rp2 c d z r else a :: rp2 c d z (b :: r)).length≤_
  by_cases h:a=c∧b=d
  ·rw [if_pos h,List.length_append]; simp only [List.length_cons]; omega
  ·rw [if_neg h]; simp only [List.length_cons] at *; omega
theorem ZHz {B:Nat}:∀ {zs:List Str},(∀ z ∈ zs,z.length≤B)→(zs.map (·.length)).sum≤B * zs.length
 | [],_=>Nat.zero_le _
 | z :: zs,h=>by
  have a:=h z List.mem_cons_self
  have b:=ZHz (zs:=zs) fun x hx=>h x (List.mem_cons_of_mem _ hx)
  rw [List.map_cons,List.sum_cons,List.length_cons,Nat.mul_succ]
  omega
seal PE PA PS PSs
section
variable {P:Program} {w:World} {K:PySem.W.Frag} {mg:Str→Option Value} {base:Heap} {t:Ad} {n:Nat}
def ZGr (n:Nat):Sp:=fun vs H Q _=>∃ (p nl:Addr) (tr:Tr) (ns:List Str),vs=[.ref p,.ref nl]∧TwAt anyA H n p tr∧H nl=some (.lst (ns.map V.str))∧okT ns.length tr=true∧nT tr≤63∧(∀ k,k < ns.length→NmL (ns.getD k Str.empty)∧(ns.getD k Str.empty).length≤8)∧∀ x H',Same H H'→cl1 x=glue ((wdG false ns tr).map cl1)→Q (.str x) H'
theorem ZHI (T:Txt K mg t):FnS P w K mg base (n + 3) "_law_plain" ["_law_tree_here","_law_names_here"] (ZGr n):=by
 have Zb8:=Zrl (P:=P) (w:=w) (base:=base) T n
 refine ⟨_,_,T.Zlv.ok Zq8 (fun vs H Q E h=>?_) (fun cdv A outer s H vs Q E hr h=>?_),T.Zr5,T.Zlv.kp,T.ZsS⟩
 ·obtain ⟨p,nl,tr,ns,rfl,_⟩ :=h
  rfl
 obtain ⟨p,nl,tr,ns,rfl,hT,hn,hok,hnT,hN,q⟩ :=h
 have hw:=Zz1 (Pz:=WdS) Zli (b:=false) (m:=ns.length) (ns:=ns) (fun k hk=>⟨Wd.let (hN k hk).1,(hN k hk).2⟩) tr hok
 refine ⟨_,(ZKb (ssp 2 Zq8.nd (ZkQ PySem.F.plainAttrs_str PySem.F.slot_str_join PySem.F.type_str_join ZEd Zak (Zaa (Zce Zb8 hr (Zaa (pv 0) (Zaa (pv 1) (Zaa Zny Zad)))) Zad)))
   (ZGf (ZIw (ZEF (ZEF (ZJ9 (pv 2))))))),?_⟩
 walk_at "rd0"
 refine ⟨tyS,?_⟩
 walk_at "rd"
 refine ⟨p,nl,false,tr,ns,rfl,hT,hn,hok,hnT,fun l H1 s1 n1 e1=>?_⟩
 walk_at "rd"
 have hsum:((wdG false ns tr).map (·.length)).sum≤8 * (wdG false ns tr).length:=ZHz fun z hz=>(hw z hz).2
 have hwl:=ZwA false ns tr
 refine ⟨" ",l,wdG false ns tr,rfl,rfl,SqL.of e1,?_,?_⟩
 ·unfold JoinOk Builtin.Str.tooLong
  rw [StrLaws.joinTotal]
  have:Str.length " " = 1:=rfl
  rw [this,decide_eq_false (Nat.not_lt.mpr (Zcd (by omega)))]
  rfl
 have hj:(Txt.join " " (wdG false ns tr)).cps.toList=jn [32] ((wdG false ns tr).map cl1):=by
  show (Builtin.Str.glued _ _).cps.toList=_
  rw [StrLaws.glued_eq_join,Zjr]
  rfl
 have hjl:(Txt.join " " (wdG false ns tr)).length≤8 * 250 + 250:=by
  show (Builtin.Str.glued _ _).length≤_
  rw [StrLaws.glued_eq_join]
  have:=StrLaws.join_length_le " " (wdG false ns tr)
  have e:Str.length " " = 1:=rfl
  rw [e] at this
  omega
 have hg:=ZAt _ _ hj fun p hp=>by
  obtain ⟨z,hz,rfl⟩ :=List.mem_map.mp hp
  exact (hw z hz).1
 walk_at "rd"
 have h1:(Txt.replace (Txt.join " " (wdG false ns tr)) ⟨#[40,32]⟩ ⟨#[40]⟩).length≤(Txt.join " " (wdG false ns tr)).length:=by
  show Array.size _≤Array.size _
  rw [← Array.length_toList,← Array.length_toList,ZkT]
  exact ZA1 (by decide) _
 refine ⟨_,rfl,by decide,?_,_,rfl,by decide,?_,?_⟩
 ·show _ + (_ + 1) * 1≤_
  omega
 ·show (Txt.replace (Txt.join " " (wdG false ns tr)) ⟨#[40,32]⟩ ⟨#[40]⟩).length + ((Txt.replace (Txt.join " " (wdG false ns tr)) ⟨#[40,32]⟩ ⟨#[40]⟩).length + 1) * 1≤_
  omega
 ·exact q _ H1 s1 hg
end
unseal PE PA PS PSs
def wJ (z:Str):Int:=if z = "and"∨z = "either"∨z = "or" then 1 else if z = "("∨z = ")"∨z = "not" then 0 else -1
def wB (z:Str):Int:=if z = "(" then 1 else if z = ")" then -1 else 0
def lkS:List Lv→Int
 | []=>0
 | L :: _=>if L.lack=true then 1 else 0
def Zxe:List Str:=["and","either","or","(",")","not"]
def NsOk (ns:List Str):Prop:=∀ z ∈ ns,z ∉ Zxe
def LowS (S:List Lv):Prop:=∀ L ∈ S.tail,L.lack=true
theorem ZBP {z:Str} (h:z ∉ Zxe):wJ z = -1∧wB z=0:=by
 unfold Zxe at h
 simp only [List.mem_cons,List.not_mem_nil,or_false,not_or] at h
 unfold wJ wB
 rw [if_neg (by simp [h]),if_neg (by simp [h]),if_neg h.2.2.2.1,if_neg h.2.2.2.2.1]
 exact ⟨rfl,rfl⟩
theorem ZH2 {z:Str} {ns:List Str} {j:Nat} (h:idxS z ns=some j):z ∈ ns:=List.mem_of_getElem? (Zuu h).1
theorem ZzI {ns:List Str} {z:Str} {f:Fm} (h:ZhD ns z=some f):z = "yes"∨z = "no"∨z ∈ ns:=by
 unfold ZhD at h
 by_cases h1:z = "yes"
 ·exact .inl h1
 by_cases h2:z = "no"
 ·exact .inr (.inl h2)
 rw [if_neg h1,if_neg h2] at h
 obtain ⟨j,hj,_⟩ :=Option.map_eq_some_iff.mp h
 exact .inr (.inr (ZH2 hj))
theorem ZCO {ns:List Str} (hN:NsOk ns) {z:Str} {f:Fm} (h:ZhD ns z=some f):z ∉ Zxe:=by
 rcases ZzI h with rfl | rfl | h
 ·decide
 ·decide
 ·exact hN z h
def ZmC (ns:List Str) (z:Str):Prop:=z ∈ Zxe∨z = "yes"∨z = "no"∨z ∈ ns
theorem ZIb (v:W3):kw3 v ∈ Zxe∧wJ (kw3 v)=1∧wB (kw3 v)=0∧kw3 v ≠ "("∧kw3 v ≠ ")":=by cases v <;> exact ⟨by decide,by decide,by decide,by decide,by decide⟩
theorem ZGx {ns:List Str} (hN:NsOk ns) {L L':Lv} {z:Str} (h:L.word ns z=some L'):(if L'.lack=true then (1:Int) else 0)=(if L.lack=true then 1 else 0) + wJ z∧wB z=0∧ZmC ns z∧(L.lack=true→z ≠ ")"∧wJ z ≠ 1)∧(L.lack=false→wJ z=1):=by
 unfold Lv.word at h
 by_cases h1:L.lack=true
 ·rw [if_pos h1] at h
  by_cases h2:z = "not"
  ·rw [if_pos h2] at h
   cases h
   subst h2
   exact ⟨by show (if L.lack=true then (1:Int) else 0)=_ + 0; rw [if_pos h1]; rfl,by decide,.inl (by decide),fun _=>⟨by decide,by decide⟩,fun y=>by rw [h1] at y; cases y⟩
  ·rw [if_neg h2] at h
   obtain ⟨f,hf,rfl⟩ :=Option.map_eq_some_iff.mp h
   have ho:=ZCO hN hf
   obtain ⟨a,b⟩ :=ZBP ho
   refine ⟨?_,b,.inr (ZzI hf),fun _=>⟨fun e=>ho (by rw [e]; decide),by rw [a]; decide⟩,fun y=>by rw [h1] at y; cases y⟩
   rw [a,if_pos h1]
   rfl
 ·rw [if_neg h1] at h
  obtain ⟨v,hv,rfl⟩ :=Option.map_eq_some_iff.mp h
  obtain rfl:=ZBx hv
  obtain ⟨a,b,c,_⟩ :=ZIb v
  refine ⟨?_,c,.inl a,fun y=>absurd y h1,fun _=>b⟩
  rw [b,if_neg h1]
  cases v <;> rfl
theorem ZkY {ns:List Str} (hN:NsOk ns) {S S':List Lv} {z:Str} (h:ZcF ns S z=some S') (hl:LowS S):lkS S'=lkS S + wJ z∧(S'.length:Int)=S.length + wB z∧LowS S'∧ZmC ns z∧(lkS S=1→z ≠ ")"∧wJ z ≠ 1)∧(lkS S=0→wJ z=1∨z = ")")∧S' ≠ []:=by
 cases S with
 | nil=>cases h
 | cons L R=>
  have l1:lkS (L :: R)=1→L.lack=true:=fun e=>by
   by_cases y:L.lack=true
   ·exact y
   ·have:lkS (L :: R)=0:=if_neg y
    omega
  have l0:lkS (L :: R)=0→L.lack=false:=fun e=>by
   cases y:L.lack with
   | false=>rfl
   | true=>
    have:lkS (L :: R)=1:=if_pos y
    omega
  simp only [ZcF] at h
  by_cases h1:z = "("∧L.lack=true
  ·rw [if_pos h1] at h
   cases h
   have e1:lkS (L :: R)=1:=if_pos h1.2
   obtain ⟨rfl,h1⟩ :=h1
   refine ⟨by rw [e1]; rfl,by simp [wB],fun M hM=>?_,.inl (by decide),fun _=>⟨by decide,by decide⟩,fun e=>by omega,by simp⟩
   have hM:M ∈ L :: R:=hM
   rcases List.mem_cons.mp hM with rfl | hM
   ·exact h1
   ·exact hl M hM
  rw [if_neg h1] at h
  have wd:∀ L' R',L.word ns z=some L'→R'=R→lkS (L' :: R')=lkS (L :: R) + wJ z∧((L' :: R').length:Int)=(L :: R).length + wB z∧LowS (L' :: R')∧ZmC ns z∧(lkS (L :: R)=1→z ≠ ")"∧wJ z ≠ 1)∧(lkS (L :: R)=0→wJ z=1∨z = ")")∧L' :: R' ≠ []:=by
   rintro L' R' e rfl
   obtain ⟨a,b,c,d,f⟩ :=ZGx hN e
   exact ⟨a,by rw [b]; simp,hl,c,fun y=>d (l1 y),fun y=>.inl (f (l0 y)),by simp⟩
  cases R with
  | nil=>
   obtain ⟨L',e,rfl⟩ :=Option.map_eq_some_iff.mp h
   exact wd L' [] e rfl
  | cons M R'=>
   dsimp only at h
   by_cases h2:z = ")"∧L.lack=false
   ·rw [if_pos h2] at h
    cases h
    obtain ⟨rfl,h2⟩ :=h2
    have e0:lkS (L :: M :: R')=0:=if_neg (by rw [h2]; decide)
    refine ⟨by rw [e0]; rfl,by rw [show wB ")" = -1 by decide]; simp only [List.length_cons]; omega,fun N hN'=>hl N (List.mem_cons_of_mem _ hN'),.inl (by decide),fun e=>by omega,fun _=>.inr rfl,by simp⟩
   ·rw [if_neg h2] at h
    obtain ⟨L',e,rfl⟩ :=Option.map_eq_some_iff.mp h
    exact wd L' (M :: R') e rfl
def sumJ (ws:List Str):Int:=(ws.map wJ).sum
def sumB (ws:List Str):Int:=(ws.map wB).sum
theorem Zvc {ns:List Str} (hN:NsOk ns):∀ {ws:List Str} {S S':List Lv},runW ns S ws=some S'→LowS S→S ≠ []→lkS S'=lkS S + sumJ ws∧(S'.length:Int)=S.length + sumB ws∧LowS S'∧(∀ z ∈ ws,ZmC ns z)∧S' ≠ []
 | [],S,S',h,hl,hn=>by
  cases h
  exact ⟨by simp [sumJ],by simp [sumB],hl,(fun z hz=>by cases hz),hn⟩
 | z :: r,S,S',h,hl,hn=>by
  have h:(ZcF ns S z).bind (fun S'=>runW ns S' r)=some S':=h
  obtain ⟨S1,e1,e2⟩ :=Option.bind_eq_some_iff.mp h
  obtain ⟨a,b,c,d,_,_,f⟩ :=ZkY hN e1 hl
  obtain ⟨a',b',c',d',f'⟩ :=Zvc hN e2 c f
  refine ⟨?_,?_,c',fun y hy=>?_,f'⟩
  ·rw [a',a]; simp only [sumJ,List.map_cons,List.sum_cons]; omega
  ·rw [b',b]; simp only [sumB,List.map_cons,List.sum_cons]; omega
  ·rcases List.mem_cons.mp hy with rfl | hy
   ·exact d
   ·exact d' y hy
theorem Zxd:LowS [Lv.new]:=fun L hL=>by cases hL
theorem Zfc {ns:List Str} (hN:NsOk ns) {ws:List Str} {f:Fm} (h:Zdn ns ws=some f):∃ S,runW ns [Lv.new] ws=some S∧lkS S=0∧sumJ ws = -1∧sumB ws=0∧∀ z ∈ ws,ZmC ns z:=by
 unfold Zdn at h
 obtain ⟨S,e1,e2⟩ :=Option.bind_eq_some_iff.mp h
 obtain ⟨L,e3,e4⟩ :=Option.bind_eq_some_iff.mp e2
 obtain ⟨a,b,c,d,_⟩ :=Zvc hN e1 Zxd (by simp)
 have hL:L.lack=false:=by
  unfold endF at e4
  cases y:L.lack with
  | false=>rfl
  | true=>rw [y,if_pos rfl] at e4; cases e4
 have a0:lkS [Lv.new]=1:=rfl
 cases S with
 | nil=>cases e3
 | cons M R=>
  cases R with
  | nil=>
   have e3:some M=some L:=e3
   cases e3
   have z0:lkS [L]=0:=if_neg (by rw [hL]; decide)
   simp only [List.length_singleton] at b
   exact ⟨_,e1,z0,by omega,by omega,d⟩
  | cons N R'=>
   have:L ∈ N :: R':=by
    rw [List.getLast?_cons_cons] at e3
    exact List.mem_of_getLast? e3
   have:=c L this
   rw [hL] at this
   cases this
theorem ZtH (a b:List Str):sumJ (a ++ b)=sumJ a + sumJ b:=by unfold sumJ; rw [List.map_append,List.sum_append]
theorem Znt (a b:List Str):sumB (a ++ b)=sumB a + sumB b:=by unfold sumB; rw [List.map_append,List.sum_append]
theorem Zvq (z:Str) (b:List Str):sumJ (z :: b)=wJ z + sumJ b:=rfl
theorem Zrh (z:Str) (b:List Str):sumB (z :: b)=wB z + sumB b:=rfl
theorem un_J {ns:List Str} (hN:NsOk ns) {ws:List Str} (h:sumJ ws ≠ -1):Zdn ns ws=none:=by
 cases e:Zdn ns ws with
 | none=>rfl
 | some f=>obtain ⟨_,_,_,a,_⟩ :=Zfc hN e; exact absurd a h
theorem un_B {ns:List Str} (hN:NsOk ns) {ws:List Str} (h:sumB ws ≠ 0):Zdn ns ws=none:=by
 cases e:Zdn ns ws with
 | none=>rfl
 | some f=>obtain ⟨_,_,_,_,a,_⟩ :=Zfc hN e; exact absurd a h
theorem un_K {ns:List Str} (hN:NsOk ns) {ws:List Str} {z:Str} (hz:z ∈ ws) (h : ¬ ZmC ns z):Zdn ns ws=none:=by
 cases e:Zdn ns ws with
 | none=>rfl
 | some f=>obtain ⟨_,_,_,_,_,a⟩ :=Zfc hN e; exact absurd (a z hz) h
theorem ZFV (S:List Lv):lkS S=0∨lkS S=1:=by
 cases S with
 | nil=>exact .inl rfl
 | cons L R=>
  by_cases y:L.lack=true
  ·exact .inr (if_pos y)
  ·exact .inl (if_neg y)
theorem ZKJ {ns:List Str} (hN:NsOk ns) {a b:List Str} {x:Str} (hx:wJ x = -1∨x = ")"):Zdn ns (a ++ x :: ("not" : Str) :: b)=none:=by
 cases e:Zdn ns (a ++ x :: ("not" : Str) :: b) with
 | none=>rfl
 | some f=>
  obtain ⟨S,h,_⟩ :=Zfc hN e
  rw [ZdH] at h
  obtain ⟨S1,e1,h⟩ :=Option.bind_eq_some_iff.mp h
  obtain ⟨_,_,c1,_,f1⟩ :=Zvc hN e1 Zxd (by simp)
  have h:(ZcF ns S1 x).bind (fun S'=>runW ns S' ("not" :: b))=some S:=h
  obtain ⟨S2,e2,h⟩ :=Option.bind_eq_some_iff.mp h
  obtain ⟨a2,_,c2,_,k2,_,f2⟩ :=ZkY hN e2 c1
  have h:(ZcF ns S2 "not").bind (fun S'=>runW ns S' b)=some S:=h
  obtain ⟨S3,e3,h⟩ :=Option.bind_eq_some_iff.mp h
  obtain ⟨_,_,_,_,_,k3,_⟩ :=ZkY hN e3 c2
  have z0:lkS S2=0:=by
   rcases ZFV S1 with y | y
   ·rcases hx with hx | rfl
    ·rcases ZFV S2 with y2 | y2 <;> omega
    ·rw [a2,y]; rfl
   ·rcases hx with hx | rfl
    ·omega
    ·exact absurd rfl (k2 y).1
  rcases k3 z0 with y | y
  ·exact absurd y (by decide)
  ·exact absurd y (by decide)
theorem ZIS {ns:List Str} (hN:NsOk ns) {a b:List Str} {j y:Str} {f:Fm} (hj:wJ j=1) (hg:Zdn ns (a ++ j :: y :: b)=some f):Zdn ns (a ++ y :: j :: b)=none:=by
 cases e:Zdn ns (a ++ y :: j :: b) with
 | none=>rfl
 | some f'=>
  obtain ⟨S,h,_⟩ :=Zfc hN hg
  obtain ⟨S',h',_⟩ :=Zfc hN e
  rw [ZdH] at h h'
  obtain ⟨S1,e1,h⟩ :=Option.bind_eq_some_iff.mp h
  obtain ⟨S1',e1',h'⟩ :=Option.bind_eq_some_iff.mp h'
  obtain rfl:S1=S1':=Option.some.inj (e1.symm.trans e1')
  obtain ⟨_,_,c1,_,f1⟩ :=Zvc hN e1 Zxd (by simp)
  have h:(ZcF ns S1 j).bind (fun S'=>runW ns S' (y :: b))=some S:=h
  obtain ⟨S2,e2,h⟩ :=Option.bind_eq_some_iff.mp h
  obtain ⟨a2,_,c2,_,k2,_,f2⟩ :=ZkY hN e2 c1
  have h:(ZcF ns S2 y).bind (fun S'=>runW ns S' b)=some S:=h
  obtain ⟨S3,e3,h⟩ :=Option.bind_eq_some_iff.mp h
  obtain ⟨_,_,_,_,k3,_,_⟩ :=ZkY hN e3 c2
  have h':(ZcF ns S1 y).bind (fun S'=>runW ns S' (j :: b))=some S':=h'
  obtain ⟨S4,e4,h'⟩ :=Option.bind_eq_some_iff.mp h'
  obtain ⟨_,_,_,_,_,k4,_⟩ :=ZkY hN e4 c1
  have z0:lkS S1=0:=by
   rcases ZFV S1 with y | y
   ·exact y
   ·exact absurd hj (k2 y).2
  have:=k3 (by omega)
  rcases k4 z0 with y | y
  ·exact absurd y this.2
  ·exact absurd y this.1
theorem ZDT {ns:List Str} (hN:NsOk ns) {a:List Str} {j:Str} {f:Fm} (hj:wJ j=1) (hg:Zdn ns (a ++ [j])=some f):False:=by
 obtain ⟨S,h,z,_⟩ :=Zfc hN hg
 rw [ZdH] at h
 obtain ⟨S1,e1,h⟩ :=Option.bind_eq_some_iff.mp h
 obtain ⟨_,_,c1,_,f1⟩ :=Zvc hN e1 Zxd (by simp)
 have h:(ZcF ns S1 j).bind (fun S'=>runW ns S' [])=some S:=h
 obtain ⟨S2,e2,h⟩ :=Option.bind_eq_some_iff.mp h
 obtain ⟨a2,_⟩ :=ZkY hN e2 c1
 cases h
 rcases ZFV S1 with y | y <;> omega
def padL (l:List Nat):List Nat:=l.flatMap fun c=>if isM c=true then [32,c,32] else [c]
theorem ZBR (a b:List Nat):padL (a ++ b)=padL a ++ padL b:=List.flatMap_append ..
theorem ZIq (c:Nat):rp 44 [32,44,32] (rp 41 [32,41,32] (rp 40 [32,40,32] [c]))=padL [c]:=by
 by_cases h1:c=40
 ·subst h1; rfl
 by_cases h2:c=41
 ·subst h2; rfl
 by_cases h3:c=44
 ·subst h3; rfl
 have e:isM c=false:=by unfold isM; simp [h1,h2,h3]
 rw [ZrC (c:=40) (by simp; omega),ZrC (c:=41) (by simp; omega),ZrC (c:=44) (by simp; omega)]
 unfold padL
 simp [e]
theorem ZEw:∀ l:List Nat,rp 44 [32,44,32] (rp 41 [32,41,32] (rp 40 [32,40,32] l))=padL l
 | []=>rfl
 | c :: l=>by
  have e:c :: l=[c] ++ l:=rfl
  rw [e,ZmX,ZmX,ZmX,ZIq,ZEw l,ZBR]
theorem ZF9 (x:Str):(pad x).cps.toList=padL x.cps.toList:=by
 unfold pad padC
 rw [Zga,Zga,Zga]
 exact ZEw _
def Ww1 (l:List Nat):List (List Nat):=wl (padL l) []
theorem ZGy {x:Str} (h:∀ d ∈ x.cps.toList,al d=true):(Txt.words (pad x)).map cl1=Ww1 x.cps.toList:=by
 have:=ZA7 (pad x) fun c hc=>ZFs c (ZKQ (ZHk h c hc)) (ZHk h c hc)
 rw [ZF9] at this
 exact this
theorem ZFr (r:List Nat):Ww1 (32 :: r)=Ww1 r:=rfl
theorem ZtL:∀ (g:Nat) (r:List Nat),Ww1 (List.replicate g 32 ++ r)=Ww1 r
 | 0,r=>rfl
 | g + 1,r=>by
  rw [List.replicate_succ,List.cons_append,ZFr]
  exact ZtL g r
theorem ZAe {c:Nat} (h:isM c=true) (r:List Nat):Ww1 (c :: r)=[c] :: Ww1 r:=by
 have hc:c ≠ 32:=fun e=>by subst e; exact absurd h (by decide)
 unfold Ww1
 have e:padL (c :: r)=32 :: c :: 32 :: padL r:=by
  show (if isM c=true then [32,c,32] else [c]) ++ padL r=_
  rw [if_pos h]; rfl
 rw [e]
 show (if c=32 then _ else wl (32 :: padL r) ([] ++ [c]))=_
 rw [if_neg hc]
 rfl
theorem ZFm:∀ (p rest cur:List Nat),32 ∉ p→wl (p ++ rest) cur=wl rest (cur ++ p)
 | [],rest,cur,_=>by rw [List.append_nil]; rfl
 | d :: p,rest,cur,h=>by
  have h1 : ¬ d=32:=fun e=>h (by rw [e]; exact List.mem_cons_self)
  have h2:32 ∉ p:=fun e=>h (List.mem_cons_of_mem _ e)
  show (if d=32 then _ else wl (p ++ rest) (cur ++ [d]))=_
  rw [if_neg h1,ZFm p rest _ h2,List.append_assoc]
  rfl
def opn (r:List Nat):Prop:=r=[]∨∃ c r',r=c :: r'∧(c=32∨isM c=true)
theorem Zzy:∀ {p:List Nat},(∀ c ∈ p,97≤c∧c≤122)→padL p=p
 | [],_=>rfl
 | c :: p,h=>by
  have hc:=h c List.mem_cons_self
  have e:isM c=false:=by
   unfold isM
   simp only [Bool.or_eq_false_iff,beq_eq_false_iff_ne]
   omega
  show (if isM c=true then [32,c,32] else [c]) ++ padL p=c :: p
  rw [if_neg (by rw [e]; decide),Zzy fun d hd=>h d (List.mem_cons_of_mem _ hd)]
  rfl
theorem ZHL {p:List Nat} (hp:p ≠ []) (h:∀ c ∈ p,97≤c∧c≤122) {r:List Nat} (hr:opn r):Ww1 (p ++ r)=p :: Ww1 r:=by
 unfold Ww1
 rw [ZBR,Zzy h,ZFm _ _ _ (fun e=>by have:=h 32 e; omega),List.nil_append]
 have k:∀ rest,wl (32 :: rest) p=p :: wl rest []:=fun rest=>by
  show (if (32:Nat)=32 then (if p=[] then _ else p :: wl rest []) else _)=_
  rw [if_pos rfl,if_neg hp]
 rcases hr with rfl | ⟨c,r',rfl,hc⟩
 ·show (if p=[] then [] else [p])=_
  rw [if_neg hp]
  rfl
 ·by_cases hm:isM c=true
  ·have e:padL (c :: r')=32 :: c :: 32 :: padL r':=by
    show (if isM c=true then [32,c,32] else [c]) ++ padL r'=_
    rw [if_pos hm]; rfl
   rw [e,k]
   rfl
  ·have e2:c=32:=hc.resolve_right hm
   subst e2
   have e:padL (32 :: r')=32 :: padL r':=rfl
   rw [e,k]
   rfl
def isMk (z:Str):Bool:=decide (cl1 z=[40]) || decide (cl1 z=[41]) || decide (cl1 z=[44])
def Wd3 (p:List Nat):Prop:=p=[40]∨p=[41]∨p=[44]∨(p ≠ []∧∀ c ∈ p,97≤c∧c≤122)
def WdX (z:Str):Prop:=Wd3 (cl1 z)∧z.length≤9
theorem WdS.x {z:Str} (h:WdS z):WdX z:=⟨by rcases h.1 with e | e | e; exact .inl e; exact .inr (.inl e); exact .inr (.inr (.inr e)),by have:=h.2; omega⟩
theorem ZBv {z:Str} (h:WdX z):(!(Builtin.Str.occurrences "()," z 0 (Str.length "(),") 1).isEmpty)=isMk z:=by
 rcases h.1 with e | e | e | e
 ·have:z = "(":=Zx9 e
  subst this
  decide +kernel
 ·have:z = ")":=Zx9 e
  subst this
  decide +kernel
 ·have:z = ",":=Zx9 e
  subst this
  decide +kernel
 ·have hm:isMk z=false:=by
   unfold isMk
   rw [Bool.or_eq_false_iff,Bool.or_eq_false_iff]
   refine ⟨⟨decide_eq_false fun y=>?_,decide_eq_false fun y=>?_⟩,decide_eq_false fun y=>?_⟩
   ·have:=e.2 40 (by rw [y]; simp); omega
   ·have:=e.2 41 (by rw [y]; simp); omega
   ·have:=e.2 44 (by rw [y]; simp); omega
  rw [hm]
  refine Bool.eq_false_iff.mpr fun y=>?_
  obtain ⟨i,hi,hs⟩ :=(StrLaws.found_iff "()," z).mp y
  unfold Builtin.Str.subAt at hs
  have e1:=congrArg Array.toList (eq_of_beq hs)
  obtain ⟨c,hc⟩ :=List.exists_mem_of_ne_nil _ e.1
  have hc2:c ∈ (Str.cps "(),").toList:=by
   have hc1:c ∈ z.cps.toList:=hc
   rw [← e1,Array.toList_extract] at hc1
   exact List.mem_of_mem_drop (List.mem_of_mem_take hc1)
  have hc3:c ∈ [40,41,44]:=hc2
  have:=e.2 c hc
  simp only [List.mem_cons,List.not_mem_nil,or_false] at hc3
  omega
theorem ZFH {ps:List Str} {i:Nat} {x:V} (h:(ps.map V.str)[i]?=some x):∃ p,x=V.str p∧ps[i]?=some p:=by
 rw [List.getElem?_map] at h
 cases e:ps[i]? with
 | none=>rw [e] at h; cases h
 | some p=>rw [e] at h; cases h; exact ⟨p,rfl,rfl⟩
theorem Zt3:∀ g:Nat,g≤2→cl1 (Txt.mul " " (g:Int))=List.replicate g 32:=by
 intro g hg
 match g,hg with
 | 0,_=>decide +kernel
 | 1,_=>decide +kernel
 | 2,_=>decide +kernel
seal PE PA PS PSs
section
variable {P:Program} {w:World} {K:PySem.W.Frag} {mg:Str→Option Value} {base:Heap} {t:Ad} {n:Nat}
def ZE5:Sp:=fun vs H Q _=>∃ (l:Addr) (ws:List Str) (c:Int),vs=[.ref l,.int c]∧H l=some (.lst (ws.map V.str))∧(∀ z ∈ ws,WdX z)∧ws.length≤260∧∀ x:Str,(∀ d ∈ x.cps.toList,al d=true)→x.length≤3000→Txt.words (pad x)=ws→Q (.str x) H
def fits (last:Str) (r:List Nat):Prop:=isMk last=true∨opn r
theorem ZHg:∀ g:Nat,g≤2→MulOk " " (g:Int):=by
 intro g hg
 match g,hg with
 | 0,_=>exact ⟨by decide,fun h _=>absurd (by decide) h,fun h _=>absurd (by decide) h⟩
 | 1,_=>exact ⟨by decide,fun _ _=>by decide,fun _ _=>by decide +kernel⟩
 | 2,_=>exact ⟨by decide,fun _ _=>by decide,fun _ _=>by decide +kernel⟩
theorem ZLe {p:List Nat} (h:Wd3 p):∀ d ∈ p,al d=true:=by
 intro d hd
 rcases h with rfl | rfl | rfl | h
 ·rw [List.mem_singleton.mp hd]; decide
 ·rw [List.mem_singleton.mp hd]; decide
 ·rw [List.mem_singleton.mp hd]; decide
 ·have:=h.2 d hd
  unfold al isL
  rw [decide_eq_true this.1,decide_eq_true this.2]
  rfl
theorem ZE9 {z:Str} (zw:WdX z) {r:List Nat} (h:fits z r):Ww1 (cl1 z ++ r)=cl1 z :: Ww1 r:=by
 rcases zw.1 with e | e | e | e
 ·rw [e]; exact ZAe (by decide) r
 ·rw [e]; exact ZAe (by decide) r
 ·rw [e]; exact ZAe (by decide) r
 ·refine ZHL e.1 e.2 (h.resolve_left fun y=>?_)
  unfold isMk at y
  rw [Bool.or_eq_true,Bool.or_eq_true,decide_eq_true_iff,decide_eq_true_iff,decide_eq_true_iff] at y
  rcases y with (y | y) | y
  ·have:=e.2 40 (by rw [y]; simp); omega
  ·have:=e.2 41 (by rw [y]; simp); omega
  ·have:=e.2 44 (by rw [y]; simp); omega
theorem ZDt {z last:Str} (zw:WdX z) {g:Nat} {r:List Nat} (h:g=0→isMk z=true∨isMk last=true):fits last (List.replicate g 32 ++ (cl1 z ++ r)):=by
 cases g with
 | succ g=>exact .inr (.inr ⟨32,_,rfl,.inl rfl⟩)
 | zero=>
  rcases h rfl with y | y
  ·unfold isMk at y
   rw [Bool.or_eq_true,Bool.or_eq_true,decide_eq_true_iff,decide_eq_true_iff,decide_eq_true_iff] at y
   rcases y with (y | y) | y
   ·exact .inr (.inr ⟨40,r,by rw [y]; rfl,.inr (by decide)⟩)
   ·exact .inr (.inr ⟨41,r,by rw [y]; rfl,.inr (by decide)⟩)
   ·exact .inr (.inr ⟨44,r,by rw [y]; rfl,.inr (by decide)⟩)
  ·exact .inl y
theorem ZEr (T:Txt K mg t):FnS P w K mg base 1 "_law_spaced" ["_law_some","_law_seed"] ZE5:=by
 refine ⟨_,_,T.ZjT.ok Zbk (fun vs H Q E h=>?_) (fun cdv A outer s H vs Q E hr h=>?_),T.ZpB,T.ZjT.kp,T.Zqv⟩
 ·obtain ⟨l,ws,c,rfl,_⟩ :=h
  rfl
 obtain ⟨l,ws,c,rfl,hl,hw,hwn,q⟩ :=h
 refine ⟨_,(Zac (ss 2 Zbk.nd Zak)
   (Zac (ss 3 Zbk.nd Zak)
   (Zac (ss 4 Zbk.nd (Zav Zbt (pv 1) Zae))
   (Zac (Zlm PassesOwn.never rfl (ZmP (pv 0)) (sg 5 Zbk.nd)
   (Zac (ss 4 Zbk.nd (Zav Zbt (Zav Zau (Zav ZAR (pv 4) Zae) Zae) Zae))
   (Zac (ss 6 Zbk.nd (ZaM (ZC8 rfl) rfl T.B.max ZGD (Zaa Zae (Zaa (Zav Zu7 (Zav Zbt (Zav ZfS (pv 4) Zae) Zae) Zae) Zad))))
   (Zac (Za7 (PW.pt (Zfh (Zal (ZaU hr.units) (pv 6) Zae (Zax _)) (Zfh (Zal ZqL (pv 5) Zak (by with_unfolding_all rfl)) (Zey (Zal ZqL (pv 3) Zak (by with_unfolding_all rfl))))))
   (Zaf (ss 6 Zbk.nd Zae))
   Zaz)
   (Zac (ss 2 Zbk.nd (Zav Zau (Zav Zau (pv 2) (Zav ZAR Zak (pv 6))) (pv 5)))
   (Zaf (ss 3 Zbk.nd (pv 5))))))))
   (Zaf (Zay (Zav Zau (pv 2) (Zav ZAR Zak (Zav Zbt (pv 1) Zae))))))))),?_⟩
 walk_at "rd0"
 refine seqL (xs:=ws.map V.str) (fun i σ H'=>H'=H∧∃ (x last:Str) (st:Int) (v6 v7:Option V),0≤st∧WdX last∧(∀ d ∈ x.cps.toList,al d=true)∧x.length≤11 * i∧(∀ r,fits last r→Ww1 (cl1 x ++ r)=(ws.take i).map cl1 ++ Ww1 r)∧σ=[some (.ref l),some (.int (c:Int)),some (.str x),some (.str last),some (.int st),v6,v7]) ⟨rfl,"","(",_,_,_,by omega,(Zli _ (by decide)).x,by decide,by decide,fun r _=>rfl,rfl⟩ (fun i σ H' _ hp=>by obtain ⟨rfl,_⟩ :=hp; exact SqL.of hl) ?_ ?_
 ·rintro i z σ H' hx ⟨rfl,x,last,st,v6,v7,hst,hlast,hal,hxl,hW,rfl⟩
  obtain ⟨z,rfl,hz⟩ :=ZFH hx
  have zw:=hw z (List.mem_of_getElem? hz)
  walk_at "rd"
  refine .inl (Zwr (.inr ⟨by decide,by decide⟩) ?_)
  walk_at "rs"
  have hst2:0≤(st * 48271 + 11) % 2147483647:=by omega
  generalize (st * 48271 + 11) % 2147483647=st2 at hst2 ⊢
  refine ZiZ ?_
  walk_at "rs"
  (try refine ZH0 ?_)
  obtain ⟨g,hg,hg2⟩ : ∃ g:Nat,max 0 (st2 / 512 % 5 - 2)=(g:Int)∧g≤2:=⟨(max 0 (st2 / 512 % 5 - 2)).toNat,by omega,by omega⟩
  rw [hg]
  walk_at "rs"
  refine Zhg (fun σ H1=>H1=H'∧∃ g':Nat,g'≤2∧(g'=0→isMk z=true∨isMk last=true)∧σ=[some (.ref l),some (.int (c:Int)),some (.str x),some (.str last),some (.int st2),some (.str z),some (.int (g':Int))]) ?_ ?_
  rotate_left
  ·intro Kn hK
   walk_at "rs"
   refine Zcj (fun h0=>?_) (fun h0=>?_)
   ·walk_at "rs"
    refine .inl ⟨_,_,rfl,rfl,?_⟩
    rw [ZBv zw]
    dsimp only
    walk_at "rs"
    cases hz1:isMk z with
    | true=>
     refine Zcc rfl ?_
     refine Zcc rfl ?_
     walk_at "rs"
     exact hK _ _ ⟨rfl,g,hg2,fun _=>.inl hz1,rfl⟩
    | false=>
     refine ZdP rfl ?_
     walk_at "rs"
     refine .inl ⟨_,_,rfl,rfl,?_⟩
     rw [ZBv hlast]
     dsimp only
     walk_at "rs"
     cases hz2:isMk last with
     | true=>
      refine Zcc rfl ?_
      walk_at "rs"
      exact hK _ _ ⟨rfl,g,hg2,fun _=>.inr hz2,rfl⟩
     | false=>
      refine ZdP rfl ?_
      walk_at "rs"
      exact hK _ _ ⟨rfl,1,by decide,fun e=>absurd e (by decide),rfl⟩
   ·walk_at "rs"
    exact hK _ _ ⟨rfl,g,hg2,fun e=>absurd (show (g:Int)=0 by omega) h0,rfl⟩
  rintro σ H1 ⟨rfl,g',hg',hgm,rfl⟩
  have eb:=Zt3 g' hg'
  have lb:(Txt.mul " " (g':Int)).length=g':=by
   show Array.size _=_
   rw [← Array.length_toList]
   have:=congrArg List.length eb
   rw [List.length_replicate] at this
   exact this
  have hil:i < ws.length:=(List.getElem?_eq_some_iff.mp hz).1
  have zl:=zw.2
  walk_at "rs"
  refine ZiZ ?_
  walk_at "rs"
  refine .inr ⟨" ",(g':Int),rfl,rfl,ZHg g' hg',?_⟩
  refine Zlf (Zcd (by rw [lb]; omega)) ?_
  walk_at "rs"
  refine Zlf (Zcd (by rw [Zan,lb]; omega)) ?_
  walk_at "rs"
  have e1:∀ r,cl1 (x ++ Txt.mul " " (g':Int) ++ z) ++ r=cl1 x ++ (List.replicate g' 32 ++ (cl1 z ++ r)):=fun r=>by
   have:cl1 (x ++ Txt.mul " " (g':Int) ++ z)=cl1 x ++ cl1 (Txt.mul " " (g':Int)) ++ cl1 z:=by
    show (x ++ Txt.mul " " (g':Int) ++ z).cps.toList=_
    rw [list_append,list_append]
    rfl
   rw [this,eb,List.append_assoc,List.append_assoc]
  refine ⟨rfl,_,z,st2,_,_,hst2,zw,?_,?_,?_,rfl⟩
  ·intro d hd
   have hd':d ∈ cl1 (x ++ Txt.mul " " (g':Int) ++ z) ++ []:=by rw [List.append_nil]; exact hd
   rw [e1,List.append_nil] at hd'
   rcases List.mem_append.mp hd' with hd | hd
   ·exact hal d hd
   ·rcases List.mem_append.mp hd with hd | hd
    ·rw [(List.mem_replicate.mp hd).2]; decide
    ·exact ZLe zw.1 d hd
  ·rw [Zan,Zan,lb]; omega
  ·intro r hr
   rw [e1,hW _ (ZDt zw hgm),ZtL,ZE9 zw hr,Zeg hz,List.map_append,List.append_assoc]
   rfl
 ·rintro σ H' ⟨rfl,x,last,st,v6,v7,hst,hlast,hal,hxl,hW,rfl⟩
  walk_at "rd"
  obtain ⟨g,hg,hg2⟩ : ∃ g:Nat,(c:Int) % 3=(g:Int)∧g≤2:=⟨(c % 3).toNat,by omega,by omega⟩
  rw [hg]
  have eb:=Zt3 g hg2
  have lb:(Txt.mul " " (g:Int)).length=g:=by
   show Array.size _=_
   rw [← Array.length_toList]
   have:=congrArg List.length eb
   rw [List.length_replicate] at this
   exact this
  have hxl:x.length≤11 * ws.length:=by rw [List.length_map] at hxl; exact hxl
  refine .inr ⟨" ",(g:Int),rfl,rfl,ZHg g hg2,?_⟩
  refine Zlf (Zcd (by rw [lb]; omega)) ?_
  have e1:cl1 (x ++ Txt.mul " " (g:Int))=cl1 x ++ (List.replicate g 32 ++ []):=by
   show (x ++ Txt.mul " " (g:Int)).cps.toList=_
   rw [list_append,List.append_nil,← eb]
   rfl
  have hal2:∀ d ∈ (x ++ Txt.mul " " (g:Int)).cps.toList,al d=true:=by
   intro d hd
   have hd':d ∈ cl1 (x ++ Txt.mul " " (g:Int)):=hd
   rw [e1,List.append_nil] at hd'
   rcases List.mem_append.mp hd' with hd | hd
   ·exact hal d hd
   ·rw [(List.mem_replicate.mp hd).2]; decide
  refine q _ hal2 (by rw [Zan,lb]; omega) ?_
  refine ZyW ?_
  have hww:=ZGy hal2
  refine hww.trans ?_
  show Ww1 (cl1 (x ++ Txt.mul " " (g:Int)))=_
  rw [e1,hW _ (.inr ?_),ZtL,List.length_map,List.take_length]
  ·exact List.append_nil _
  ·cases g with
   | zero=>exact .inl rfl
   | succ g=>exact .inr ⟨32,_,rfl,.inl rfl⟩
end
unseal PE PA PS PSs
mutual
theorem FmE.tr {t:Ad} {H:Hp} {π:Nat→Nat}:∀ (tr:Tr) (D:Nat) (p:Addr),nT tr≤D→FmE t H p (fmT π tr)→FmAt t H D p (fmT π tr)
 | .lamp k,0,p,h,_=>absurd h (by simp [nT])
 | .lamp k,D + 1,p,_,⟨n,h⟩ =>by
  cases n with
  | zero=>exact absurd h id
  | succ n=>exact h
 | .sure c,0,p,h,_=>absurd h (by simp [nT])
 | .sure c,D + 1,p,_,⟨n,h⟩ =>by
  cases n with
  | zero=>exact absurd h id
  | succ n=>exact h
 | .neg g,0,p,h,_=>absurd h (by simp [nT])
 | .neg g,D + 1,p,hD,⟨n,h⟩ =>by
  cases n with
  | zero=>exact absurd h id
  | succ n=>
   have hn:nT (.neg g)=1 + nT g:=rfl
   obtain ⟨dx,q,e,hq⟩ :=h
   exact ⟨dx,q,e,FmE.tr g D q (by omega) ⟨n,hq⟩⟩
 | .wrap g,D,p,hD,h=>by
  have hn:nT (.wrap g)=1 + nT g:=rfl
  exact FmE.tr g D p (by omega) h
 | .join v gs,0,p,h,_=>absurd h (by simp [nT])
 | .join v gs,D + 1,p,hD,⟨n,h⟩ =>by
  cases n with
  | zero=>exact absurd h id
  | succ n=>
   have hn:nT (.join v gs)=1 + nTL gs:=rfl
   obtain ⟨dx,tp,ps,e,e2,hq⟩ :=h
   exact ⟨dx,tp,ps,e,e2,FmE.trL gs D ps (by omega) (ZaH (fun a b h=>⟨n,h⟩) hq)⟩
theorem FmE.trL {t:Ad} {H:Hp} {π:Nat→Nat}:∀ (gs:List Tr) (D:Nat) (ps:List Addr),nTL gs≤D→Paired (FmE t H) ps (fmTL π gs)→Paired (FmAt t H D) ps (fmTL π gs)
 | [],D,_,_,.nil=>.nil
 | g :: gs,D,_,hD,.cons h r=>by
  have hn:nTL (g :: gs)=nT g + nTL gs:=by simp [nTL]
  exact .cons (FmE.tr g D _ (by omega) h) (FmE.trL gs D _ (by omega) r)
end
section
variable {P:Program} {w:World} {K:PySem.W.Frag} {mg:Str→Option Value} {base:Heap} {t:Ad} {n:Nat}
theorem FmAt.isi {H:Hp} {p:Addr} {f:Fm} (T:Txt K mg t) (h:FmAt t H n p f):∃ c,TyOf K H (.ref p) c∧PySem.W.kitOne K c (.ref t.Zaj)=some true:=by
 cases n with
 | zero=>exact h.elim
 | succ n=>
  cases f with
  | lamp k=>obtain ⟨dx,e⟩ :=h; exact ⟨_,T.ZHF _ _ _ _ e,T.Zoz⟩
  | sure b=>obtain ⟨dx,e⟩ :=h; exact ⟨_,T.ZHG _ _ _ _ e,T.ZoA⟩
  | neg g=>obtain ⟨dx,q,e,h⟩ :=h; exact ⟨_,T.y_Not _ _ _ _ e,T.Zrj⟩
  | join w gs=>
   obtain ⟨dx,tp,ps,e,e2,h⟩ :=h
   cases w
   ·exact ⟨_,T.y_And _ _ _ _ e,T.Zri⟩
   ·exact ⟨_,T.ZCh _ _ _ _ e,T.Zln⟩
   ·exact ⟨_,T.y_Or _ _ _ _ e,T.Ztc⟩
end
mutual
theorem ZFW {π:Nat→Nat} {m B:Nat} (h6:∀ k,k < m→π k < B):∀ t:Tr,okT m t=true→(fmT π t).low B=true
 | .lamp k,h=>decide_eq_true (h6 k (by simpa [okT] using h))
 | .sure c,_=>rfl
 | .neg t,h=>ZFW h6 t (by simpa [okT] using h)
 | .wrap t,h=>ZFW h6 t (by simpa [okT] using h)
 | .join v ts,h=>by
  simp only [okT,Bool.and_eq_true,decide_eq_true_iff] at h
  show (Fm.join v (fmTL π ts)).low B=true
  rw [ZBI,List.all_eq_true]
  exact ZHb h6 ts h.2
theorem ZHb {π:Nat→Nat} {m B:Nat} (h6:∀ k,k < m→π k < B):∀ ts:List Tr,okTL m ts=true→∀ f ∈ fmTL π ts,f.low B=true
 | [],_,f,hf=>by simp [fmTL] at hf
 | t :: ts,h,f,hf=>by
  simp only [okTL,Bool.and_eq_true] at h
  have hf:f ∈ fmT π t :: fmTL π ts:=hf
  rcases List.mem_cons.mp hf with rfl | hf
  ·exact ZFW h6 t h.1
  ·exact ZHb h6 ts h.2 f hf
end
mutual
theorem wt_T (π:Nat→Nat):∀ t:Tr,fWt (fmT π t) + 1≤2 * nT t
 | .lamp k=>by simp [fmT,fWt,nT]
 | .sure c=>by simp [fmT,fWt,nT]
 | .neg t=>by
  have:=wt_T π t
  simp only [fmT,fWt,nT]
  omega
 | .wrap t=>by
  have:=wt_T π t
  simp only [fmT,nT]
  omega
 | .join v ts=>by
  have:=ZKL π ts
  simp only [fmT,fWt,nT]
  omega
theorem ZKL (π:Nat→Nat):∀ ts:List Tr,fWtL (fmTL π ts)≤2 * nTL ts
 | []=>by simp [fmTL,fWtL]
 | t :: ts=>by
  have:=wt_T π t
  have:=ZKL π ts
  simp only [fmTL,fWtL,nTL]
  omega
end
open PySem.Spec PyProof.Rows in
theorem ZFP {M:Model} {A:Around} {c d:Bool} {Q:Value→Shared→Prop} {E:Value→Shared→Prop} {s:Shared} (h:Q (.bool (decide (c=d))) s):wpAny M A (compareOp .Is (.bool c) (.bool d)) Q E s:=by
 cases c <;> cases d <;> exact wpAny_pure h
theorem ZJY {X:Cx}:OpR X (compareOp .Is) (fun x y H Q=>∃ b c,x=.bl b∧y=.bl c∧Q (.bl (decide (b=c))) H):=by
 intro pins s σ H x y v u Q I rx ry h
 obtain ⟨b,c,rfl,rfl,q⟩ :=h
 cases rx
 cases ry
 exact ZFP (ZbL I q rfl)
def Nm8 (z:Str):Prop:=Lt z∧1≤z.length∧z.length≤8
section
variable {P:Program} {w:World} {K:PySem.W.Frag} {mg:Str→Option Value} {base:Heap} {t:Ad} {n:Nat}
def ZE2:Sp:=fun vs H Q _=>∃ (sd:Int) (sz:Nat),vs=[.int sd,.int (sz:Int)]∧sz≤8∧∀ z,Lt z→z.length=sz→Q (.str z) H
theorem ZCE (T:Txt K mg t):FnS P w K mg base 1 "_law_letters" ["_law_seed","_law_size"] (ZE2):=by
 refine ⟨_,_,T.ZiE.ok Zcb (fun vs H Q E h=>?_) (fun cdv A outer s H vs Q E hr h=>?_),T.ZnQ,T.ZiE.kp,T.Zon⟩
 ·obtain ⟨sd,sz,rfl,hsz,q⟩ :=h
  rfl
 obtain ⟨sd,sz,rfl,hsz,q⟩ :=h
 refine ⟨_,(Zac (ss 2 Zcb.nd Zak)
   (Zac (ss 3 Zcb.nd Zak)
   (Zac (ss 4 Zcb.nd (Zav Zbt (pv 0) Zae))
   (Zac (Zlm PassesOwn.never rfl (ZqQ rfl T.B.range (Zaa (pv 1) Zad)) (sg 5 Zcb.nd)
   (Zac (ss 4 Zcb.nd (Zav Zbt (Zav Zau (Zav ZrB (pv 4) Zae) Zae) Zae))
   (Zaf (ss 3 Zcb.nd (Zav Zau (pv 3) (ZaZ ZaA (pv 2) (Zav Zbt (Zav ZfS (pv 4) Zae) Zae) (fun _ _=>rfl)))))))
   (Zaf (Zay (pv 3))))))),?_⟩
 walk_at "rd0"
 refine ⟨_,rfl,by omega,by omega,?_⟩
 rw [show ((sz:Int)).toNat=sz by omega]
 refine ZBH (n:=sz) (fun i σ H'=>H'=H∧∃ (z:Str) (st:Int) (v:Option V),Lt z∧z.length=i∧σ=[some (.int sd),some (.int (sz:Int)),some (.str "abcdefghijklmnopqrstuvwxyz"),some (.str z),some (.int st),v]) ⟨rfl,"",_,_,(fun c hc=>by cases hc),rfl,rfl⟩ ?_ ?_
 ·rintro i σ H' hi ⟨rfl,z,st,v,hz,hl,rfl⟩
  walk_at "rd"
  refine Zwr (.inr ⟨by decide,by decide⟩) ?_
  walk_at "rd"
  obtain ⟨k,hk,hk26⟩ : ∃ k:Nat,(st * 48271 + 7919) % 2147483647 / 64 % 26=(k:Int)∧k < 26:=⟨((st * 48271 + 7919) % 2147483647 / 64 % 26).toNat,by omega,by omega⟩
  rw [hk]
  refine ZAC (by decide) (ZlI (ZD2 k hk26)) ?_
  refine Zlf (Zcd (by show _ + 1≤_; omega)) ?_
  walk_at "rd"
  exact ⟨rfl,_,_,_,Zhk hz (ZyY hk26),by rw [Zan,hl]; rfl,rfl⟩
 ·rintro σ H' ⟨rfl,z,st,v,hz,hl,rfl⟩
  walk_at "rd"
  exact q z hz hl
def ZhH:List Str:=["and","or","not","either","yes","no","then","is"]
def ZIc:List Str:=["lamps","start","bad","move","drop","show","judge","fence","always","reach"]
def okN (z:Str):Bool:=z.cps.toList.all (fun c=>decide (97≤c) && decide (c≤122)) && decide (1≤z.length) && decide (z.length≤7)
theorem ZHj {z:Str} (h:okN z=true):Lt z∧1≤z.length∧z.length≤7:=by
 unfold okN at h
 rw [Bool.and_eq_true,Bool.and_eq_true,List.all_eq_true] at h
 refine ⟨fun c hc=>?_,of_decide_eq_true h.1.2,of_decide_eq_true h.2⟩
 have:=h.1.1 c hc
 rw [Bool.and_eq_true] at this
 exact ⟨of_decide_eq_true this.1,of_decide_eq_true this.2⟩
theorem ZH8:∀ k,k < 8→∃ z,ZhH[k]?=some z∧okN z=true:=by
 have h:∀ k,k < 8→(ZhH[k]?).any okN=true:=by decide +kernel
 intro k hk
 have:=h k hk
 cases e:ZhH[k]? with
 | none=>rw [e] at this; exact absurd this (by decide)
 | some z=>rw [e] at this; exact ⟨z,rfl,this⟩
theorem ZId:∀ k,k < 10→∃ z,ZIc[k]?=some z∧okN z=true:=by
 have h:∀ k,k < 10→(ZIc[k]?).any okN=true:=by decide +kernel
 intro k hk
 have:=h k hk
 cases e:ZIc[k]? with
 | none=>rw [e] at this; exact absurd this (by decide)
 | some z=>rw [e] at this; exact ⟨z,rfl,this⟩
theorem ZHf {ns:List Str} {k:Nat} {z:Str} (h:ns[k]?=some z):(ns.map V.str)[k]?=some (.str z):=by rw [List.getElem?_map,h]; rfl
seal PE PA PS PSs
def ZKv:Sp:=fun vs H Q _=>∃ (k:Nat) (c:Int),vs=[.int (k:Int),.int c]∧k < 6∧∀ z H',Same H H'→Nm8 z→Q (.str z) H'
theorem ZIl (T:Txt K mg t):FnS P w K mg base 3 "_law_name" ["_law_k","_law_cell"] (ZKv):=by
 refine ⟨_,_,T.ZoB.ok ZcZ (fun vs H Q E h=>?_) (fun cdv A outer s H vs Q E hr h=>?_),T.ZtW,T.ZoB.kp,T.ZuG⟩
 ·obtain ⟨k,c,rfl,hk6,q⟩ :=h
  rfl
 obtain ⟨k,c,rfl,hk6,q⟩ :=h
 have ZnF:=ZCE (P:=P) (w:=w) (base:=base) T
 refine ⟨_,(Zac (ss 2 ZcZ.nd Zak)
   (Zac (ss 3 ZcZ.nd (Zav Zbt (pv 1) Zae))
   (Zac (ss 4 ZcZ.nd (Zav Zau Zae (Zav Zbt (Zav ZfS (pv 1) Zae) Zae)))
   (Zac (ss 5 ZcZ.nd (Zce ZnF hr (Zaa (pv 1) (Zaa Zae Zad))))
   (Zac (Za7 (Zal (ZaU hr.units) (pv 3) Zae (Zax _))
   (Zac (ss 6 ZcZ.nd (Zav Zbt (Zav ZfS (pv 1) Zae) (pv 4)))
   (Zac (ss 7 ZcZ.nd (Zav Zau (ZkQ PySem.F.plainAttrs_str PySem.F.slot_str_find PySem.F.type_str_find ZEc (pv 2) (Zaa (ZaZ ZaA (pv 5) (pv 6) (fun _ _=>rfl)) Zad)) (Zav ZrB (Zav Zau Zae (Zav ZrB Zae (Zav Zbt (Zav ZfS (pv 1) Zae) Zae))) (pv 0))))
   (Zaf (Zay (Zav Zau (Zav Zau (Zbc Zdq (pv 5) Zcf (ZbJ (pv 6))) (ZaZ ZaA (pv 2) (Zav Zbt (pv 7) Zae) (fun _ _=>rfl))) (Zbc Zdq (pv 5) (ZbJ (Zav Zau (pv 6) Zae)) (ZbJ (pv 4))))))))
   Zaz)
   (Zac (Za7 (Zal (ZaU hr.units) (pv 3) Zae (Zax _))
   (Zaf (Zay (Zce ZnF hr (Zaa (Zav Zau (pv 1) (Zav ZrB Zae (pv 0))) (Zaa (Zav Zau Zae (Zav Zbt (Zav Zau (pv 4) (Zav ZrB Zae (pv 0))) Zae)) Zad)))))
   Zaz)
   (Zac (Za7 (Zal (ZaU hr.units) (pv 3) Zae (Zax _))
   (Zaf (Zay (Zbc Zdq (pv 5) Zcf (ZbJ (Zav Zau Zae (Zav Zbt (Zav Zau (pv 4) (pv 0)) Zae))))))
   Zaz)
   (Zac (Za7 (Zal (ZaU hr.units) (Zav Zbt (Zav ZfS (pv 1) Zae) Zae) Zae (Zax _))
   (Zac (ss 2 ZcZ.nd (ZaN (ZCJ (ZCJ (Zaa Zak (Zaa Zak Zad))))))
   (Zaf (Zay (ZaZ ZaA (pv 2) (Zav Zbt (Zav Zau (pv 4) (pv 0)) Zae) (fun _ _=>rfl)))))
   Zaz)
   (Zaf (Zay (Zav Zau (ZaZ ZaA (ZaN (ZCJ (ZCJ Zad))) (Zav Zbt (Zav Zau (pv 4) (pv 0)) Zae) (fun _ _=>rfl)) (ZaZ ZaA (pv 5) (pv 0) (fun _ _=>rfl))))))))))))),?_⟩
 walk_at "rd0"
 refine ⟨c,8,rfl,by omega,fun w hw hw8=>?_⟩
 walk_at "rd"
 obtain ⟨sz,hsz,hs1,hs8⟩ : ∃ sz:Nat,1 + c / 4 % 8=(sz:Int)∧1≤sz∧sz≤8:=⟨(1 + c / 4 % 8).toNat,by omega,by omega,by omega⟩
 rw [hsz]
 refine Zcj (fun h0=>?_) (fun h0=>?_)
 ·walk_at "rd"
  obtain ⟨pl,hpl,hps⟩ : ∃ pl:Nat,c / 32 % (sz:Int)=(pl:Int)∧pl < sz:=by
   have v1:=Int.emod_nonneg (c / 32) (show (sz:Int) ≠ 0 by omega)
   have v2:=Int.emod_lt_of_pos (c / 32) (show (0:Int) < (sz:Int) by omega)
   exact ⟨(c / 32 % (sz:Int)).toNat,by omega,by omega⟩
  rw [hpl]
  refine ⟨tyS,?_⟩
  walk_at "rd"
  obtain ⟨d,hd⟩ :=ZAs (z:=w) (k:=pl) (by omega)
  refine ZAC (Zcd (by omega)) (ZlI hd) ?_
  walk_at "rd"
  refine ⟨_,_,rfl,rfl,?_⟩
  walk_at "rd"
  refine Zwr (.inl ⟨by decide,by decide⟩) ?_
  walk_at "rd"
  refine Zwr (.inr ⟨by omega,by omega⟩) ?_
  walk_at "rd"
  refine ZAD (by omega) ?_
  walk_at "rd"
  have l1:(Txt.slice w none (some (pl:Int))).length=pl:=by
   rcases PyProof.Rows.slice_ns_cases' w (pl:Int) with ⟨a,b⟩ | ⟨a,b,c⟩ | ⟨a,b⟩ <;> omega
  refine ZHV fun e he26=>?_
  refine Zlf (Zcd (by show _ + 1≤_; omega)) ?_
  walk_at "rd"
  refine ZAD (by omega) ?_
  have l2:(Txt.slice w (some ((pl:Int) + 1)) (some (sz:Int))).length=sz - (pl + 1):=by
   show (StrLaws.sliceText w (some ((pl:Int) + 1)) (some (sz:Int))).length=_
   have hl0:w.cps.toList.length=w.length:=by simp [Str.length]
   rw [StrLaws.sliceText_plain (by refine ⟨?_,?_,?_⟩ <;> omega)]
   show ((w.cps.toList.drop _).take _).toArray.size=_
   rw [List.size_toArray,List.length_take,List.length_drop]
   omega
  have l3:Str.length ⟨#[97 + e]⟩=1:=rfl
  refine Zlf (Zcd (by rw [Zan]; omega)) ?_
  refine q _ _ (Same.refl _) ⟨Zhk (Zhk (Zqr hw _ _) (ZyY he26)) (Zqr hw _ _),?_,?_⟩
  ·rw [Zan,Zan]; omega
  ·rw [Zan,Zan]; omega
 walk_at "rd"
 refine Zcj (fun h1=>?_) (fun h1=>?_)
 ·walk_at "rd"
  refine Zwr (.inl ⟨by decide,by decide⟩) ?_
  walk_at "rd"
  refine Zwr (.inl ⟨by decide,by decide⟩) ?_
  walk_at "rd"
  obtain ⟨e,he,he1,he8⟩ : ∃ e:Nat,1 + ((sz:Int) + 3 * (k:Int)) % 8=(e:Int)∧1≤e∧e≤8:=⟨(1 + ((sz:Int) + 3 * (k:Int)) % 8).toNat,by omega,by omega,by omega⟩
  rw [he]
  refine ⟨_,e,rfl,by omega,fun z hz hzl=>?_⟩
  exact q _ _ (Same.refl _) ⟨hz,by omega,by omega⟩
 walk_at "rd"
 refine Zcj (fun h2=>?_) (fun h2=>?_)
 ·walk_at "rd"
  refine ZAD (by omega) ?_
  refine q _ _ (Same.refl _) ⟨Zqr hw _ _,?_,?_⟩
  ·rcases PyProof.Rows.slice_ns_cases' w (1 + ((sz:Int) + (k:Int)) % 8) with ⟨a,b⟩ | ⟨a,b,c⟩ | ⟨a,b⟩ <;> omega
  ·have:=Txt.slice_le w none (some (1 + ((sz:Int) + (k:Int)) % 8))
   omega
 walk_at "rd"
 refine Zcj (fun h3=>?_) (fun h3=>?_)
 ·walk_at "rd"
  refine Zcu (by simp) fun l1 H1 s1 n1 e1=>?_
  walk_at "rd"
  obtain ⟨e,he,he10⟩ : ∃ e:Nat,((sz:Int) + (k:Int)) % 10=(e:Int)∧e < 10:=⟨(((sz:Int) + (k:Int)) % 10).toNat,by omega,by omega⟩
  rw [he]
  obtain ⟨z,hz,ok⟩ :=ZId e he10
  obtain ⟨o1,o2,o3⟩ :=ZHj ok
  exact Zgj e1 (ZHf hz) (q _ _ s1 ⟨o1,o2,by omega⟩)
 ·walk_at "rd"
  refine Zcu (by simp) fun l1 H1 s1 n1 e1=>?_
  walk_at "rd"
  obtain ⟨e,he,he10⟩ : ∃ e:Nat,((sz:Int) + (k:Int)) % 8=(e:Int)∧e < 8:=⟨(((sz:Int) + (k:Int)) % 8).toNat,by omega,by omega⟩
  rw [he]
  obtain ⟨z,hz,ok⟩ :=ZH8 e he10
  obtain ⟨o1,o2,o3⟩ :=ZHj ok
  refine Zgj e1 (ZHf hz) ?_
  walk_at "rd"
  obtain ⟨d,hd⟩ :=ZAs (z:=w) (k:=k) (by omega)
  refine ZAC (Zcd (by omega)) (ZlI hd) ?_
  have hd2:=hw d (List.mem_of_getElem? hd)
  have l3:Str.length ⟨#[d]⟩=1:=rfl
  refine Zlf (Zcd (by omega)) ?_
  refine q _ _ s1 ⟨Zhk o1 (fun x hx=>?_),by rw [Zan]; omega,by rw [Zan]; omega⟩
  have hx:x ∈ [d]:=hx
  rw [List.mem_singleton.mp hx]
  exact hd2
unseal PE PA PS PSs
def ZA4:Sp:=fun vs H Q _=>∃ (z:Str) (l:Addr) (ns:List Str),vs=[.str z,.ref l]∧H l=some (.lst (ns.map V.str))∧ns.length≤6∧Nm z∧∀ z' H',Same H H'→Nm z'→z'.length=z.length→z' ∉ ns→z' ∉ ZhH→Q (.str z') H'
theorem ZFR:ZhH.length=8:=rfl
theorem ZBQ (T:Txt K mg t):FnS P w K mg base 1 "_law_fresh" ["_law_name_here","_law_names_here"] (ZA4):=by
 refine ⟨_,_,T.Zlt.ok ZkW (fun vs H Q E h=>?_) (fun cdv A outer s H vs Q E hr h=>?_),T.Zr3,T.Zlt.kp,T.ZsQ⟩
 ·obtain ⟨z,l,ns,rfl,hl,hn5,⟨hz,hz1,hz2⟩,q⟩ :=h
  rfl
 obtain ⟨z,l,ns,rfl,hl,hn5,⟨hz,hz1,hz2⟩,q⟩ :=h
 obtain ⟨c,hc,ez⟩ :=ZDj hz1 hz
 generalize eu:Txt.slice z none (some (-1))=u at ez
 have hu:Lt u:=by rw [← eu]; exact Zqr hz _ _
 have hul:u.length + 1=z.length:=by rw [ez]; unfold rot; rw [Zan]; rfl
 have hrl:∀ j,(rot u c j).length=u.length + 1:=fun j=>by unfold rot; rw [Zan]; rfl
 refine ⟨_,(Zac (ss 2 ZkW.nd Zak)
   (Zac (ZB0 PassesOwn.never (PW.pt (ZCM (Zal Zu6 (pv 0) (pv 1) (by with_unfolding_all rfl)) (Zwv (Zal Zu6 (pv 0) (Zef (ZCJ (ZCJ Zad))) (by with_unfolding_all rfl)))))
   (Zaf (ss 0 ZkW.nd (Zav Zau (Zbc Zdq (pv 0) Zcf (ZbJ (ZzA Zs9 Zae))) (ZaZ ZaA (pv 2) (Zav Zbt (Zav Zau (ZkQ PySem.F.plainAttrs_str PySem.F.slot_str_find PySem.F.type_str_find ZEc (pv 2) (Zaa (ZaZ ZaA (pv 0) (ZzA Zs9 Zae) (fun _ _=>rfl)) Zad)) Zae) Zae) (fun _ _=>rfl))))))
   (Zaf (Zay (pv 0))))),?_⟩
 walk_at "rd0"
 refine ⟨fun m σ H'=>∃ j,m + j=15∧j≤14∧Same H H'∧(∀ i,i < j→rot u c i ∈ ns ++ ZhH)∧σ=[some (.str (rot u c j)),some (.ref l),some (.str "abcdefghijklmnopqrstuvwxyz")],⟨15,0,rfl,by omega,Same.refl _,fun i hi=>absurd hi (by omega),by rw [← ez]⟩,?_⟩
 rintro m σ H1 ⟨j,hm,hj,s1,hin,rfl⟩
 have go:rot u c j ∈ ns ++ ZhH→j + 1≤14:=fun h=>by
  have:=ZHr (rot u c) (j + 1) (ns ++ ZhH) (fun i hi=>by
   rcases (show i=j∨i < j by omega) with rfl | h'
   ·exact h
   ·exact hin i h') (fun i i' h1 h2=>ZKk h1 (by omega))
  rw [List.length_append,ZFR] at this
  omega
 have step:∀ (H2:Hp),Same H1 H2→rot u c j ∈ ns ++ ZhH→∃ N:St→Hp→Prop,(∀ σ' H',N σ' H'→∃ m',m' < m∧∃ j,m' + j=15∧j≤14∧Same H H'∧(∀ i,i < j→rot u c i ∈ ns ++ ZhH)∧σ'=[some (.str (rot u c j)),some (.ref l),some (.str "abcdefghijklmnopqrstuvwxyz")])∧∀ σ' H',σ'=[some (.str (rot u c (j + 1))),some (.ref l),some (.str "abcdefghijklmnopqrstuvwxyz")]→Same H H'→N σ' H':=fun H2 s2 h=>by
  have:=go h
  refine ⟨fun σ' H'=>Same H H'∧σ'=[some (.str (rot u c (j + 1))),some (.ref l),some (.str "abcdefghijklmnopqrstuvwxyz")],fun σ' H' ⟨a,b⟩ =>⟨m - 1,by omega,j + 1,by omega,this,a,fun i hi=>?_,b⟩,fun σ' H' a b=>⟨b,a⟩⟩
  rcases (show i=j∨i < j by omega) with rfl | h'
  ·exact h
  ·exact hin i h'
 have nxt:Txt.slice (rot u c j) none (some (-1)) ++ (⟨#[97 + (c + j + 1) % 26]⟩ : Str)=rot u c (j + 1):=by rw [ZEP]; rfl
 have h1:=hrl j
 walk_at "rd"
 have bod:∀ (H2:Hp) (N:St→Hp→Prop) (rt:VK) (bk:St→Hp→Prop),Same H1 H2→(∀ σ' H',σ'=[some (.str (rot u c (j + 1))),some (.ref l),some (.str "abcdefghijklmnopqrstuvwxyz")]→Same H H'→N σ' H')→tAsg (tOp ZxN (tSl (rSlA K) (tVar 0) ZA5 (ZIQ (tUn (rU fun i=>V.int (-i)) (tC (.int 1))))) (tOp (rIx K) (tVar 2) (tOp (rI (fun x j=>0 < j) fun i j=>V.int (i % j)) (tOp ZxN (tBM K "str" ZKc (tVar 2) (Zvs (tOp (rIx K) (tVar 0) (tUn (rU fun i=>V.int (-i)) (tC (.int 1)))) tNil)) (tC (.int 1))) (tC (.int 26))))) (ZyH 0) { nx:=N,rt:=rt,bk:=bk,ct:=N } [some (.str (rot u c j)),some (.ref l),some (.str "abcdefghijklmnopqrstuvwxyz")] H2:=fun H2 N rt bk s2 n2=>by
  walk_at "rd"
  refine ZAD (by omega) ?_
  walk_at "rd"
  refine ⟨tyS,?_⟩
  walk_at "rd"
  refine ZAC (Zcd (by omega)) (ZGl u c j) ?_
  walk_at "rd"
  refine ⟨_,_,rfl,rfl,?_⟩
  walk_at "rd"
  have e0:Txt.find "abcdefghijklmnopqrstuvwxyz" ⟨#[97 + (c + j) % 26]⟩=(((c + j) % 26:Nat):Int):=ZFT _ (by omega)
  rw [e0]
  have e1:((((c + j) % 26:Nat):Int) + 1) % 26=(((c + j + 1) % 26:Nat):Int):=by omega
  rw [e1]
  refine ZAC (by decide) (ZlI (ZD2 _ (by omega))) ?_
  have l3:=Txt.slice_le (rot u c j) none (some (-1))
  refine Zlf (Zcd (by show _ + 1≤_; omega)) ?_
  walk_at "rd"
  exact n2 _ _ (by rw [nxt]) (s1.trans s2)
 have memD:rot u c j ∈ ns ++ ZhH→Lt (rot u c j):=fun _=>Zhk hu (ZyY (by omega))
 walk_at "rd"
 refine ZCw (.inl (s1 _ _ hl)) ?_
 walk_at "rd"
 refine Zcj (fun hA=>?_) (fun hA=>?_)
 ·obtain ⟨N,n1,n2⟩ :=step H1 (Same.refl _) (List.mem_append_left _ hA)
  refine ZdP rfl ⟨N,n1,?_⟩
  exact bod H1 N _ _ (Same.refl _) n2
 ·walk_at "rd"
  refine Zi0 (by simp) fun l1 H2 s2 n2 e2=>?_
  refine ZCw (ns:=ZhH) (.inr e2) ?_
  walk_at "rd"
  refine Zcj (fun hB=>?_) (fun hB=>?_)
  ·obtain ⟨N,n1,n2⟩ :=step H2 s2 (List.mem_append_right _ hB)
   refine ⟨N,n1,?_⟩
   exact bod H2 N _ _ s2 n2
  ·walk_at "rd"
   exact q _ _ (s1.trans s2) ⟨Zhk hu (ZyY (by omega)),by omega,by omega⟩ (by omega) hA hB
def ZII:Sp:=fun vs H Q _=>∃ (m:Nat) (c:Int),vs=[.int (m:Int),.int c]∧m≤6∧∀ (l:Addr) (ns:List Str) (H':Hp),Same H H'→H l=none→H' l=some (.lst (ns.map V.str))→ns.length=m→(∀ z ∈ ns,Nm8 z∧z ∉ ZhH)→ns.Nodup→Q (.ref l) H'
theorem ZF6 (T:Txt K mg t):FnS P w K mg base 5 "_law_names" ["_law_many","_law_cell"] (ZII):=by
 refine ⟨_,_,T.Zlu.ok ZkX (fun vs H Q E h=>?_) (fun cdv A outer s H vs Q E hr h=>?_),T.Zr4,T.Zlu.kp,T.ZsR⟩
 ·obtain ⟨m,c,rfl,hm6,q⟩ :=h
  rfl
 obtain ⟨m,c,rfl,hm6,q⟩ :=h
 have ZAa:=ZIl (P:=P) (w:=w) (base:=base) T
 have ZhL:=ZBQ (P:=P) (w:=w) (base:=base) T
 refine ⟨_,(Zac (ss 2 ZkX.nd (ZaN Zad))
   (Zac (Zlm PassesOwn.never rfl (ZqQ rfl T.B.range (Zaa (pv 0) Zad)) (sg 3 ZkX.nd)
   (Zaf (ZcP (ZkQ PySem.F.plainAttrs_list PySem.F.slot_list_append PySem.F.type_list_append Zb9 (pv 2) (Zaa (Zce ZhL hr (Zaa (Zce ZAa hr (Zaa (pv 3) (Zaa (pv 1) Zad))) (Zaa (pv 2) Zad))) Zad)))))
   (Zaf (Zay (pv 2))))),?_⟩
 walk_at "rd0"
 refine Zcu (by simp) fun l H1 s1 n1 e1=>?_
 walk_at "rd"
 refine ⟨_,rfl,by omega,by omega,?_⟩
 rw [show ((m:Int)).toNat=m by omega]
 refine ZBH (n:=m) (fun i σ H'=>∃ (ns:List Str) (v:Option V),Same H H'∧H' l=some (.lst (ns.map V.str))∧ns.length=i∧(∀ z ∈ ns,Nm8 z∧z ∉ ZhH)∧ns.Nodup∧σ=[some (.int (m:Int)),some (.int c),some (.ref l),v]) ⟨[],_,s1,e1,rfl,(fun z hz=>by cases hz),List.nodup_nil,rfl⟩ ?_ ?_
 ·rintro i σ H2 hi ⟨ns,v,s2,e2,hl2,hn2,hd2,rfl⟩
  walk_at "rd"
  refine ⟨tyL e2,?_⟩
  walk_at "rd"
  refine ⟨i,c,rfl,by omega,fun z H3 s3 hz=>?_⟩
  walk_at "rd"
  refine ⟨z,l,ns,rfl,s3 _ _ e2,by omega,⟨hz.1,hz.2.1,by have:=hz.2.2; omega⟩,fun z' H4 s4 hz4 hzl4 hn4 hk4=>?_⟩
  walk_at "rd"
  refine ZfG (s4 _ _ (s3 _ _ e2)) (by rw [List.length_map]; omega) fun H5 b5 e5=>?_
  walk_at "rd"
  refine ⟨ns ++ [z'],_,b5.same n1 (s2.trans (s3.trans s4)),by rw [e5,List.map_append]; rfl,by rw [List.length_append]; simp [hl2],fun y hy=>?_,?_,rfl⟩
  ·rcases List.mem_append.mp hy with h | h
   ·exact hn2 y h
   ·rw [List.mem_singleton.mp h]; exact ⟨⟨hz4.1,hz4.2.1,by have:=hz.2.2; omega⟩,hk4⟩
  ·rw [List.nodup_append]
   refine ⟨hd2,by simp,fun a ha b hb e=>?_⟩
   rw [List.mem_singleton.mp hb] at e
   rw [e] at ha
   exact hn4 ha
 ·rintro σ H2 ⟨ns,v,s2,e2,hl2,hn2,hd2,rfl⟩
  walk_at "rd"
  exact q l ns H2 s2 n1 e2 hl2 hn2 hd2
end
theorem ZDO {z:Str}:∀ {ns:List Str} {k:Nat},ns.Nodup→ns[k]?=some z→idxS z ns=some k
 | [],k,_,h=>by simp at h
 | y :: r,k,nd,h=>by
  unfold idxS
  rw [List.nodup_cons] at nd
  cases k with
  | zero=>
   have:y=z:=by simpa using h
   rw [if_pos this]
  | succ k=>
   have h:r[k]?=some z:=by simpa using h
   have : ¬ y=z:=fun e=>nd.1 (by rw [e]; exact List.mem_of_getElem? h)
   rw [if_neg this,ZDO nd.2 h]
   rfl
theorem ZeS {ns:List Str} {k:Nat} (h:k < ns.length):ns[k]?=some (ns.getD k Str.empty):=by
 rw [List.getD_eq_getElem?_getD,List.getElem?_eq_getElem h]
 rfl
theorem ZJP {z:Str} (h:Nm8 z) (hk:z ∉ ZhH):z ∉ (["yes","no","not","(",")"]:List Str):=by
 unfold ZhH at hk
 simp only [List.mem_cons,List.not_mem_nil,or_false,not_or] at hk ⊢
 refine ⟨hk.2.2.2.2.1,hk.2.2.2.2.2.1,hk.2.2.1,?_,?_⟩
 ·rintro rfl
  have:=h.1 40 (by decide)
  omega
 ·rintro rfl
  have:=h.1 41 (by decide)
  omega
theorem ZJQ {zs:List Str} (h:∀ z ∈ zs,Nm8 z∧z ∉ ZhH) (nd:zs.Nodup):NmsOk zs zs id zs.length:=
 ⟨fun k hk=>ZDO nd (ZeS hk),fun k hk=>by
  have:=h _ (List.mem_of_getElem? (ZeS hk))
  exact ZJP this.1 this.2⟩
theorem ZEf {z:Str} (h:Nm8 z):NmL z∧z.length≤8:=⟨⟨fun e=>by
 have a:=h.2.1
 have b:z.cps.toList.length=z.length:=by simp [Str.length]
 rw [e] at b
 simp at b
 omega,h.1⟩,h.2.2⟩
theorem Zxg {zs:List Str} (h:∀ z ∈ zs,Nm8 z) {k:Nat} (hk:k < zs.length):NmL (zs.getD k Str.empty)∧(zs.getD k Str.empty).length≤8:=ZEf (h _ (List.mem_of_getElem? (ZeS hk)))
theorem Zyn {x:Str} (h:∀ d ∈ x.cps.toList,al d=true):Asc x:=fun c hc=>by
 have:=h c hc
 unfold al isL isM at this
 simp only [Bool.or_eq_true,Bool.and_eq_true,decide_eq_true_iff,beq_iff_eq] at this
 omega
theorem Zxb:∀ a:List Str,(∀ z ∈ a,Lt z)→PyData.canLayAll0 (a.map .str)=true
 | [],_=>rfl
 | x :: a,h=>by
  have e:PyData.strOk x=true:=by
   unfold PyData.strOk
   rw [Array.all_eq_true_iff_forall_mem]
   intro c hc
   have:=h x (by simp) c (Array.mem_toList_iff.mpr hc)
   exact decide_eq_true (by omega)
  simp [PyData.canLayAll0,PyData.canLay0,e,Zxb a (fun z hz=>h z (List.mem_cons_of_mem _ hz))]
section
variable {P:Program} {w:World} {K:PySem.W.Frag} {mg:Str→Option Value} {base:Heap} {t:Ad} {n:Nat}
end
def NmsK (ns:List Str):Prop:=∀ z ∈ ns,Nm8 z∧z ∉ ZhH
theorem ZAN {ns:List Str} (h:NmsK ns):NsOk ns:=fun z hz=>by
 obtain ⟨a,b⟩ :=h z hz
 have c:=ZJP a b
 unfold ZhH at b
 unfold Zxe
 simp only [List.mem_cons,List.not_mem_nil,or_false,not_or] at b c ⊢
 exact ⟨b.1,b.2.2.2.1,b.2.1,c.2.2.2.1,c.2.2.2.2,c.2.2.1⟩
def nmX (z:Str):Prop:=Lt z∧1≤z.length∧z.length≤9
theorem ZHi {z:Str} (h:nmX z):WdX z:=⟨.inr (.inr (.inr ⟨fun e=>by
 have a:=h.2.1
 have b:z.cps.toList.length=z.length:=by simp [Str.length]
 have e:z.cps.toList=[]:=e
 rw [e] at b
 simp at b
 omega,h.1⟩)),h.2.2⟩
theorem ZJN {z:Str} (h:Lt z):z ≠ "("∧z ≠ ")"∧z ≠ ",":=by
 refine ⟨?_,?_,?_⟩
 ·rintro rfl; have:=h 40 (by decide); omega
 ·rintro rfl; have:=h 41 (by decide); omega
 ·rintro rfl; have:=h 44 (by decide); omega
theorem ZCd {ns:List Str} {z:Str} (h:Lt z) (hk:z ∉ ZhH) (hn:z ∉ ns) : ¬ ZmC ns z:=by
 obtain ⟨a,b,_⟩ :=ZJN h
 unfold ZhH at hk
 unfold ZmC Zxe
 simp only [List.mem_cons,List.not_mem_nil,or_false,not_or] at hk ⊢
 exact ⟨⟨hk.1,hk.2.2.2.1,hk.2.1,a,b,hk.2.2.1⟩,hk.2.2.2.2.1,hk.2.2.2.2.2.1,hn⟩
theorem ZFi {ns:List Str} (hN:NsOk ns) {a b:List Str} {w:Str} {f:Fm} (hg:Zdn ns (a ++ b)=some f) (h:wJ w ≠ 0∨wB w ≠ 0∨¬ ZmC ns w):Zdn ns (a ++ w :: b)=none:=by
 obtain ⟨_,_,_,j,k,_⟩ :=Zfc hN hg
 rw [ZtH] at j
 rw [Znt] at k
 rcases h with h | h | h
 ·exact un_J hN (by rw [ZtH,Zvq]; omega)
 ·exact un_B hN (by rw [Znt,Zrh]; omega)
 ·exact un_K hN (z:=w) (by simp) h
theorem ZFh {ns:List Str} (hN:NsOk ns) {a b:List Str} {w:Str} {f:Fm} (hg:Zdn ns (a ++ w :: b)=some f) (h:wJ w ≠ 0∨wB w ≠ 0):Zdn ns (a ++ b)=none:=by
 obtain ⟨_,_,_,j,k,_⟩ :=Zfc hN hg
 rw [ZtH,Zvq] at j
 rw [Znt,Zrh] at k
 rcases h with h | h
 ·exact un_J hN (by rw [ZtH]; omega)
 ·exact un_B hN (by rw [Znt]; omega)
theorem ZIT {ns:List Str} (hN:NsOk ns) {a b:List Str} {f:Fm} (hg:Zdn ns (a ++ ("(" : Str) :: b)=some f):Zdn ns (a ++ (")" : Str) :: b)=none:=by
 obtain ⟨_,_,_,j,k,_⟩ :=Zfc hN hg
 rw [Znt,Zrh] at k
 have e1:wB "(" = 1:=by decide
 have e2:wB ")" = -1:=by decide
 exact un_B hN (by rw [Znt,Zrh]; omega)
def Zrf (z:Str):Str:=if z ∈ (["and","either","or"]:List Str) then "join" else if z ∈ (["(",")","not"]:List Str) then z else "name"
theorem ZgT (z:Str):(Zrf z = "name"∧wJ z = -1)∨(Zrf z = "join"∧wJ z=1)∨(Zrf z = "("∧z = "(")∨(Zrf z = ")"∧z = ")")∨(Zrf z = "not"∧z = "not"):=by
 unfold Zrf wJ
 simp only [List.mem_cons,List.not_mem_nil,or_false]
 by_cases h1:z = "and"∨z = "either"∨z = "or"
 ·rw [if_pos h1,if_pos h1]; exact .inr (.inl ⟨rfl,rfl⟩)
 rw [if_neg h1,if_neg h1]
 by_cases h2:z = "("∨z = ")"∨z = "not"
 ·rw [if_pos h2,if_pos h2]
  rcases h2 with rfl | rfl | rfl
  ·exact .inr (.inr (.inl ⟨rfl,rfl⟩))
  ·exact .inr (.inr (.inr (.inl ⟨rfl,rfl⟩)))
  ·exact .inr (.inr (.inr (.inr ⟨rfl,rfl⟩)))
 ·rw [if_neg h2,if_neg h2]; exact .inl ⟨rfl,rfl⟩
theorem ZFK {ns ws:List Str} (hN:NsOk ns) {f:Fm} (hg:Zdn ns ws=some f):∃ z ∈ ws,Zrf z = "name":=by
 obtain ⟨_,_,_,j,_⟩ :=Zfc hN hg
 refine Classical.byContradiction fun h=>?_
 have:∀ ys:List Str,(∀ z ∈ ys,z ∈ ws)→0≤sumJ ys:=by
  intro ys
  induction ys with
  | nil=>intro _; exact Int.le_refl _
  | cons y ys ih=>
   intro hy
   have:=ih fun z hz=>hy z (List.mem_cons_of_mem _ hz)
   rw [Zvq]
   rcases ZgT y with c | c | c | c | c
   ·exact absurd ⟨y,hy y List.mem_cons_self,c.1⟩ h
   ·omega
   ·rw [c.2,show wJ "(" = 0 by decide]; omega
   ·rw [c.2,show wJ ")" = 0 by decide]; omega
   ·rw [c.2,show wJ "not" = 0 by decide]; omega
 have:=this ws fun z hz=>hz
 omega
theorem Zrg {ws:List Str} {k:Nat} {z:Str} (h:ws[k]?=some z):ws=ws.take k ++ z :: ws.drop (k + 1):=by
 obtain ⟨hk,e⟩ :=List.getElem?_eq_some_iff.mp h
 rw [← e,← List.drop_eq_getElem_cons hk,List.take_append_drop]
theorem cutT {ws:List Str} {k:Nat} (h:k≤ws.length):cutV (ws.map V.str) none (some (k:Int))=(ws.take k).map V.str:=by
 rw [ZGF (by rw [List.length_map]; exact h),List.map_take]
theorem cutF {ws:List Str} {k:Nat} (h:k≤ws.length):cutV (ws.map V.str) (some (k:Int)) none=(ws.drop k).map V.str:=by
 rw [ZwU (by rw [List.length_map]; exact h),List.map_drop]
theorem ZDi {ws:List Str} {k:Nat} (h:k + 1≤ws.length):cutV (ws.map V.str) (some ((k:Int) + 1)) none=(ws.drop (k + 1)).map V.str:=cutF (k:=k + 1) h
theorem ZKS {ws:List Str} {k:Nat} (h:k + 1≤ws.length):cutV (ws.map V.str) none (some ((k:Int) + 1))=(ws.take (k + 1)).map V.str:=cutT (k:=k + 1) h
theorem ZKR {ws:List Str} {k:Nat} (h:k + 2≤ws.length):cutV (ws.map V.str) (some ((k:Int) + 2)) none=(ws.drop (k + 2)).map V.str:=cutF (k:=k + 2) h
theorem Zqz (x:Int) {n:Nat} (h:0 < n):∃ k:Nat,x % (n:Int)=(k:Int)∧k < n:=by
 have v1:=Int.emod_nonneg x (show (n:Int) ≠ 0 by omega)
 have v2:=Int.emod_lt_of_pos x (show (0:Int) < (n:Int) by omega)
 exact ⟨(x % (n:Int)).toNat,by omega,by omega⟩
theorem ZIe (x:Int) {n p:Nat} (h:p < n):∃ j:Nat,j < n∧(x + (j:Int)) % (n:Int)=(p:Int):=by
 obtain ⟨j,hj,hjn⟩ :=Zqz ((p:Int) - x) (show 0 < n by omega)
 refine ⟨j,hjn,?_⟩
 rw [← hj,Int.add_emod_emod,show x + ((p:Int) - x)=(p:Int) by omega]
 exact Int.emod_eq_of_lt (by omega) (by omega)
seal PE PA PS PSs
section
variable {P:Program} {w:World} {K:PySem.W.Frag} {mg:Str→Option Value} {base:Heap} {t:Ad} {n:Nat}
def ZKw:Sp:=fun vs H Q _=>∃ (l sl:Addr) (ws so:List Str) (a:Int),vs=[.ref l,.int a,.ref sl]∧H l=some (.lst (ws.map V.str))∧H sl=some (.lst (so.map V.str))∧ws.length≤260∧(∀ (k:Nat) (z:Str),ws[k]?=some z→Zrf z ∈ so→∀ H',Same H H'→Q (.int (k:Int)) H')∧((∀ z ∈ ws,Zrf z ∉ so)→∀ H',Same H H'→Q (.int (-1)) H')
theorem ZIm (T:Txt K mg t):FnS P w K mg base 1 "_law_next" ["_law_some","_law_at","_law_sorts"] (ZKw):=by
 refine ⟨_,_,T.ZoC.ok ZeE (fun vs H Q E h=>?_) (fun cdv A outer s H vs Q E hr h=>?_),T.ZtX,T.ZoC.kp,T.ZuH⟩
 ·obtain ⟨l,sl,ws,so,a,rfl,hl,hs,hz,q1,q2⟩ :=h
  rfl
 obtain ⟨l,sl,ws,so,a,rfl,hl,hs,hz,q1,q2⟩ :=h
 refine ⟨_,(Zac (Zlm PassesOwn.never rfl (ZqQ rfl T.B.range (Zaa (ZaM ZaW rfl T.B.len Zdr (Zaa (pv 0) Zad)) Zad)) (sg 3 ZeE.nd)
   (Zac (ss 4 ZeE.nd (Zav Zbt (Zav Zau (pv 1) (pv 3)) (ZaM ZaW rfl T.B.len Zdr (Zaa (pv 0) Zad))))
   (Zac (ss 5 ZeE.nd Zak)
   (Zac (Za7 (Zal Zu6 (ZaZ ZaA (pv 0) (pv 4) (fun _ _=>rfl)) (Zef (Zaa Zak (Zaa Zak (Zaa Zak Zad)))) (by with_unfolding_all rfl))
   (Zaf (ss 5 ZeE.nd (ZaZ ZaA (pv 0) (pv 4) (fun _ _=>rfl))))
   Zaz)
   (Zac (Za7 (Zal Zu6 (ZaZ ZaA (pv 0) (pv 4) (fun _ _=>rfl)) (Zef (Zaa Zak (Zaa Zak (Zaa Zak Zad)))) (by with_unfolding_all rfl))
   (Zaf (ss 5 ZeE.nd Zak))
   Zaz)
   (Zaf (Za7 (Zal Zu6 (pv 5) (pv 2) (by with_unfolding_all rfl))
   (Zaf (Zay (pv 4)))
   Zaz)))))))
   (Zaf (Zay (ZzA Zs9 Zae)))),?_⟩
 walk_at "rd0"
 refine ⟨_,rfl,by omega,by rw [List.length_map]; omega,?_⟩
 rw [List.length_map,show ((ws.length:Int)).toNat=ws.length by omega]
 refine ZBH (n:=ws.length) (fun i σ H'=>Same H H'∧(∀ j z,j < i→ws[((a + (j:Int)) % (ws.length:Int)).toNat]?=some z→Zrf z ∉ so)∧∃ v3 v4 v5,σ=[some (.ref l),some (.int a),some (.ref sl),v3,v4,v5]) ⟨Same.refl _,fun j z hj=>absurd hj (by omega),_,_,_,rfl⟩ ?_ ?_
 ·rintro i σ H1 hi ⟨s1,hno,v3,v4,v5,rfl⟩
  have hl1:=s1 _ _ hl
  obtain ⟨k,hk,hkn⟩ :=Zqz (a + (i:Int)) (show 0 < ws.length by omega)
  obtain ⟨z,ez⟩ : ∃ z,ws[k]?=some z:=⟨_,List.getElem?_eq_getElem hkn⟩
  have ez2:(ws.map V.str)[k]?=some (.str z):=by rw [List.getElem?_map,ez]; rfl
  refine ZiZ ?_
  walk_at "rs"
  rw [List.length_map]
  (try refine i_rI (by omega) ?_)
  rw [hk]
  walk_at "rs"
  refine ZiZ ?_
  walk_at "rs"
  refine Zhg (fun σ H2=>Same H1 H2∧σ=[some (.ref l),some (.int a),some (.ref sl),some (.int (i:Int)),some (.int (k:Int)),some (.str (if z ∈ (["(",")","not"]:List Str) then z else "name"))]) ?_ ?_
  rotate_left
  ·intro Kn hK
   walk_at "rs"
   refine Zgj hl1 ez2 ?_
   walk_at "rs"
   refine Zi0 (by simp) fun p1 H2 s2 n2 e2=>?_
   refine ZCw (ns:=["(",")","not"]) (.inr e2) ?_
   walk_at "rs"
   refine Zcj (fun h=>?_) (fun h=>?_)
   ·walk_at "rs"
    refine Zgj (s2 _ _ hl1) ez2 ?_
    walk_at "rs"
    exact hK _ _ ⟨s2,by rw [if_pos h]⟩
   ·walk_at "rs"
    exact hK _ _ ⟨s2,by rw [if_neg h]⟩
  rintro σ H2 ⟨s2,rfl⟩
  refine Zhg (fun σ H3=>Same H1 H3∧σ=[some (.ref l),some (.int a),some (.ref sl),some (.int (i:Int)),some (.int (k:Int)),some (.str (Zrf z))]) ?_ ?_
  rotate_left
  ·intro Kn hK
   walk_at "rs"
   refine Zgj (s2 _ _ hl1) ez2 ?_
   walk_at "rs"
   refine Zi0 (by simp) fun p1 H3 s3 n3 e3=>?_
   refine ZCw (ns:=["and","either","or"]) (.inr e3) ?_
   walk_at "rs"
   refine Zcj (fun h=>?_) (fun h=>?_)
   ·walk_at "rs"
    exact hK _ _ ⟨s2.trans s3,by unfold Zrf; rw [if_pos h]⟩
   ·walk_at "rs"
    exact hK _ _ ⟨s2.trans s3,by unfold Zrf; rw [if_neg h]⟩
  rintro σ H3 ⟨s3,rfl⟩
  have w3:=s1.trans s3
  walk_at "rs"
  refine ZCw (.inl (w3 _ _ hs)) ?_
  walk_at "rs"
  refine Zcj (fun h=>?_) (fun h=>?_)
  ·walk_at "rs"
   exact q1 k z ez h H3 w3
  ·walk_at "rs"
   refine ⟨w3,fun j z' hj e=>?_,_,_,_,rfl⟩
   rcases (show j < i∨j=i by omega) with y | rfl
   ·exact hno j z' y e
   ·rw [hk,Int.toNat_natCast,ez] at e
    cases e
    exact h
 ·rintro σ H1 ⟨s1,hno,v3,v4,v5,rfl⟩
  walk_at "rd"
  refine q2 (fun z hz=>?_) H1 s1
  obtain ⟨p,hp,ep⟩ :=List.getElem_of_mem hz
  obtain ⟨j,hj,ej⟩ :=ZIe a hp
  refine hno j z hj ?_
  rw [ej,Int.toNat_natCast,List.getElem?_eq_getElem hp,ep]
end
unseal PE PA PS PSs
seal PE PA PS PSs
section
variable {P:Program} {w:World} {K:PySem.W.Frag} {mg:Str→Option Value} {base:Heap} {t:Ad} {n:Nat}
def ZGp:Sp:=fun vs H Q _=>∃ (z:Str) (nl:Addr) (ns:List Str) (more:Int),vs=[.str z,.ref nl,.int more]∧H nl=some (.lst (ns.map V.str))∧ns.length≤6∧NmsK ns∧Nm8 z∧∀ z' H',Same H H'→WdX z'→¬ ZmC ns z'→Q (.str z') H'
theorem ZCF (T:Txt K mg t):FnS P w K mg base 3 "_law_no_name" ["_law_name_here","_law_names_here","_law_more"] (ZGp):=by
 refine ⟨_,_,T.ZiF.ok Zvg (fun vs H Q E h=>?_) (fun cdv A outer s H vs Q E hr h=>?_),T.ZnR,T.ZiF.kp,T.Zoo⟩
 ·obtain ⟨z,nl,ns,more,rfl,hl,hn6,hK,hz,q⟩ :=h
  rfl
 obtain ⟨z,nl,ns,more,rfl,hl,hn6,hK,hz,q⟩ :=h
 have ZhL:=ZBQ (P:=P) (w:=w) (base:=base) T
 refine ⟨_,(Zac (Za7 (Zal ZCI (Zav Zbt (pv 2) Zae) Zae (Zax _))
   (Zaf (Zay (ZaZ ZaA (ZaN (Zaa Zak (Zaa Zak Zad))) (Zav Zbt (pv 2) Zae) (fun _ _=>rfl))))
   Zaz)
   (Zac (Za7 (PW.pt (Zfh (Zal (ZaU hr.units) (Zav Zbt (pv 2) Zae) Zae (Zax _)) (Zey (Zal Zu5 (ZaM ZaW rfl T.B.len Zdr (Zaa (pv 0) Zad)) Zae (Zax _)))))
   (Zaf (Zay (Zce ZhL hr (Zaa (Zbc Zdq (pv 0) Zcf (ZbJ (ZzA Zs9 Zae))) (Zaa (pv 1) Zad)))))
   Zaz)
   (Zaf (Zay (Zce ZhL hr (Zaa (Zav Zau (pv 0) (ZaZ ZaA Zak (Zav Zbt (Zav ZfS (pv 2) Zae) Zae) (fun _ _=>rfl))) (Zaa (pv 1) Zad))))))),?_⟩
 walk_at "rd0"
 refine Zcj (fun h0=>?_) (fun h0=>?_)
 ·walk_at "rd"
  refine Zcu (by simp) fun l1 H1 s1 n1 e1=>?_
  walk_at "rd"
  obtain ⟨k,hk,hk2⟩ : ∃ k:Nat,more % 4=(k:Int)∧k < 2:=⟨(more % 4).toNat,by omega,by omega⟩
  rw [hk]
  obtain ⟨y,ey,hy⟩ : ∃ y:Str,([.str "then",.str "is"]:List V)[k]?=some (.str y)∧y ∈ (["then","is"]:List Str):=by
   rcases (show k=0∨k=1 by omega) with rfl | rfl
   ·exact ⟨_,rfl,by simp⟩
   ·exact ⟨_,rfl,by simp⟩
  refine Zgj e1 ey ?_
  have hy2:y ∈ ZhH∧nmX y∧y ∉ Zxe∧y ≠ "yes"∧y ≠ "no":=by
   simp only [List.mem_cons,List.not_mem_nil,or_false] at hy
   rcases hy with rfl | rfl
   ·exact ⟨by decide,⟨by unfold Lt; decide,by decide,by decide⟩,by decide,by decide,by decide⟩
   ·exact ⟨by decide,⟨by unfold Lt; decide,by decide,by decide⟩,by decide,by decide,by decide⟩
  refine q _ _ s1 (ZHi hy2.2.1) ?_
  rintro (h | h | h | h)
  ·exact hy2.2.2.1 h
  ·exact hy2.2.2.2.1 h
  ·exact hy2.2.2.2.2 h
  ·exact (hK y h).2 hy2.1
 obtain ⟨hz1,hz2,hz3⟩ :=hz
 have last:∀ (y:Str),Lt y→1≤y.length→y.length≤9→ZA4 [.str y,.ref nl] H Q (fun _ _ _=>False):=fun y a b c=>⟨y,nl,ns,rfl,hl,hn6,⟨a,b,by omega⟩,fun z' H' s' hz' hzl hn hk=>q z' H' s' (ZHi ⟨hz'.1,hz'.2.1,by omega⟩) (ZCd hz'.1 hk hn)⟩
 have app:∀ e,e < 26→ZA4 [.str (z ++ ⟨#[97 + e]⟩),.ref nl] H Q (fun _ _ _=>False):=fun e he=>last _ (Zhk hz1 (ZyY he)) (by rw [Zan]; omega) (by rw [Zan]; have:Str.length ⟨#[97 + e]⟩=1:=rfl; omega)
 walk_at "rd"
 refine Zcj (fun h1=>?_) (fun h1=>?_)
 ·walk_at "rd"
  refine ZDL (Zcd (by omega)) ?_
  walk_at "rd"
  refine Zcj (fun h2=>?_) (fun h2=>?_)
  ·walk_at "rd"
   refine ZAD (by omega) ?_
   have l1:(Txt.slice z none (some (-1))).length=z.length - 1:=by
    rcases PyProof.Rows.slice_ns_cases' z (-1) with ⟨a,b⟩ | ⟨a,b,c⟩ | ⟨a,b⟩ <;> omega
   walk_at "rd"
   exact last _ (Zqr hz1 _ _) (by rw [l1]; have:(1:Int) < (z.length:Int):=h2; omega) (by omega)
  ·walk_at "rd"
   refine ZHV fun e he=>?_
   refine Zlf (Zcd (by show _ + 1≤_; omega)) ?_
   walk_at "rd"
   exact app e he
 ·walk_at "rd"
  refine Zcc rfl ?_
  walk_at "rd"
  refine ZHV fun e he=>?_
  refine Zlf (Zcd (by show _ + 1≤_; omega)) ?_
  walk_at "rd"
  exact app e he
def OutS (ns ws:List Str) (H:Hp) (Q:VK):Prop:=∀ (l':Addr) (ws':List Str) (H':Hp),Same H H'→H' l'=some (.lst (ws'.map V.str))→Zdn ns ws'=none→(∀ z ∈ ws',WdX z)→ws'.length≤ws.length + 1→Q (.ref l') H'
theorem OutS.put {ns ws:List Str} {H:Hp} {Q:VK} (h:OutS ns ws H Q) {l':Addr} {H':Hp} {a b c:List Str} (s:Same H H') (e:H' l'=some (.lst (a.map V.str ++ b.map V.str ++ c.map V.str))) (hr:Zdn ns (a ++ b ++ c)=none) (hw:∀ z ∈ a ++ b ++ c,WdX z) (hl:(a ++ b ++ c).length≤ws.length + 1):Q (.ref l') H':=h l' (a ++ b ++ c) H' s (by rw [e,List.map_append,List.map_append]) hr hw hl
structure GoodW (ns ws:List Str):Prop where
 rd:∃ f,Zdn ns ws=some f
 nm:NmsK ns
 wd:∀ z ∈ ws,WdX z
 ln:ws.length≤258
 n1:1≤ns.length
 n6:ns.length≤6
theorem GoodW.mid {ns ws:List Str} (G:GoodW ns ws) {a b:List Str} {mid:List Str} (ha:∀ z ∈ a,z ∈ ws) (hb:∀ z ∈ b,z ∈ ws) (hm:∀ z ∈ mid,WdX z):∀ z ∈ a ++ mid ++ b,WdX z:=fun z hz=>by
 rcases List.mem_append.mp hz with h | h
 ·rcases List.mem_append.mp h with h | h
  ·exact G.wd z (ha z h)
  ·exact hm z h
 ·exact G.wd z (hb z h)
def ZLd:Sp:=fun vs H Q _=>∃ (l nl:Addr) (ws ns:List Str) (way:Nat) (a more:Int),vs=[.ref l,.ref nl,.int (way:Int),.int a,.int more]∧H l=some (.lst (ws.map V.str))∧H nl=some (.lst (ns.map V.str))∧GoodW ns ws∧1≤way∧way≤4∧OutS ns ws H Q
theorem ZEo (T:Txt K mg t):FnS P w K mg base 1 "_law_put_in" ["_law_some","_law_names_here","_law_way","_law_at","_law_more"] (ZLd):=by
 refine ⟨_,_,T.ZjS.ok Zdk (fun vs H Q E h=>?_) (fun cdv A outer s H vs Q E hr h=>?_),T.ZpA,T.ZjS.kp,T.Zqu⟩
 ·obtain ⟨l,nl,ws,ns,way,a,more,rfl,hl,hn,G,hw1,hw4,q⟩ :=h
  rfl
 obtain ⟨l,nl,ws,ns,way,a,more,rfl,hl,hn,G,hw1,hw4,q⟩ :=h
 have hN:=ZAN G.nm
 have hlen:=G.ln
 obtain ⟨f,hg⟩ :=G.rd
 obtain ⟨k,hk,hkn⟩ :=Zqz a (show 0 < ws.length + 1 by omega)
 have hk':a % ((ws.length:Int) + 1)=(k:Int):=by rw [← hk]; congr 1
 have hkn2:k≤ws.length:=by omega
 have hwd:∀ z ∈ ns,WdX z:=fun z hz=>WdS.x ⟨Wd.let (ZEf (G.nm z hz).1).1,(ZEf (G.nm z hz).1).2⟩
 have n1:=G.n1
 have n6:=G.n6
 let Pw:Str→Prop:=fun w=>WdX w∧(wJ w ≠ 0∨wB w ≠ 0∨¬ ZmC ns w)
 have p0:Pw ",":=⟨⟨.inr (.inr (.inl rfl)),by decide⟩,.inr (.inr fun h=>by
  rcases h with h | h | h | h
  ·exact absurd h (by decide)
  ·exact absurd h (by decide)
  ·exact absurd h (by decide)
  ·exact (ZJN (G.nm _ h).1.1).2.2 rfl)⟩
 have p1:∀ z ∈ ns,Pw z:=fun z hz=>⟨hwd z hz,.inl (by rw [(ZBP (hN z hz)).1]; decide)⟩
 have p2:∀ i,i < 3→∃ z,([.str "and",.str "either",.str "or"]:List V)[i]?=some (.str z)∧Pw z:=fun i hi=>by
  rcases (show i=0∨i=1∨i=2 by omega) with rfl | rfl | rfl
  ·exact ⟨_,rfl,(Zli "and" (by decide)).x,.inl (by decide)⟩
  ·exact ⟨_,rfl,(Zli "either" (by decide)).x,.inl (by decide)⟩
  ·exact ⟨_,rfl,(Zli "or" (by decide)).x,.inl (by decide)⟩
 have p3:∀ i,i < 2→∃ z,([.str "(",.str ")"]:List V)[i]?=some (.str z)∧Pw z:=fun i hi=>by
  rcases (show i=0∨i=1 by omega) with rfl | rfl
  ·exact ⟨_,rfl,(Zli "(" (by decide)).x,.inr (.inl (by decide))⟩
  ·exact ⟨_,rfl,(Zli ")" (by decide)).x,.inr (.inl (by decide))⟩
 refine ⟨_,(Zac (ss 5 Zdk.nd (Zav Zbt (pv 3) (Zav Zau (ZaM ZaW rfl T.B.len Zdr (Zaa (pv 0) Zad)) Zae)))
   (Zac (ss 6 Zdk.nd Zak)
   (Zac (Za7 (Zal (ZaU hr.units) (pv 2) Zae (Zax _))
   (Zaf (ss 6 Zdk.nd (ZaZ ZaA (pv 1) (Zav Zbt (pv 4) (ZaM ZaW rfl T.B.len Zdr (Zaa (pv 1) Zad))) (fun _ _=>rfl))))
   Zaz)
   (Zac (Za7 (Zal (ZaU hr.units) (pv 2) Zae (Zax _))
   (Zaf (ss 6 Zdk.nd (ZaZ ZaA (ZaN (Zaa Zak (Zaa Zak (Zaa Zak Zad)))) (Zav Zbt (pv 4) Zae) (fun _ _=>rfl))))
   Zaz)
   (Zac (Za7 (Zal (ZaU hr.units) (pv 2) Zae (Zax _))
   (Zaf (ss 6 Zdk.nd (ZaZ ZaA (ZaN (Zaa Zak (Zaa Zak Zad))) (Zav Zbt (pv 4) Zae) (fun _ _=>rfl))))
   Zaz)
   (Zaf (Zay (Zav Zau (Zav Zau (Zbc Zdq (pv 0) Zcf (ZbJ (pv 5))) (ZaN (Zaa (pv 6) Zad))) (Zbc Zdq (pv 0) (ZbJ (pv 5)) Zcf))))))))),?_⟩
 walk_at "rs0"
 refine ZiZ ?_
 walk_at "rs"
 rw [List.length_map]
 (try refine i_rI (by omega) ?_)
 rw [hk']
 walk_at "rs"
 refine ZiZ ?_
 walk_at "rs"
 refine Zhg (fun σ H1=>Same H H1∧∃ w,Pw w∧σ=[some (.ref l),some (.ref nl),some (.int (way:Int)),some (.int a),some (.int more),some (.int (k:Int)),some (.str w)]) ?_ ?_
 rotate_left
 ·intro Kn hK
  walk_at "rs"
  refine Zcj (fun h=>?_) (fun h=>?_)
  ·walk_at "rs"
   rw [List.length_map]
   obtain ⟨e,he,hen⟩ :=Zqz more (show 0 < ns.length by omega)
   (try refine i_rI (by omega) ?_)
   rw [he]
   refine Zgj (j:=e) hn (v:=.str (ns.getD e Str.empty)) (by rw [List.getElem?_map,ZeS hen]; rfl) ?_
   walk_at "rs"
   exact hK _ _ ⟨Same.refl _,_,p1 _ (List.mem_of_getElem? (ZeS hen)),rfl⟩
  ·walk_at "rs"
   exact hK _ _ ⟨Same.refl _,_,p0,rfl⟩
 rintro σ H1 ⟨s1,w1,pw1,rfl⟩
 refine Zhg (fun σ H1=>Same H H1∧∃ w,Pw w∧σ=[some (.ref l),some (.ref nl),some (.int (way:Int)),some (.int a),some (.int more),some (.int (k:Int)),some (.str w)]) ?_ ?_
 rotate_left
 ·intro Kn hK
  walk_at "rs"
  refine Zcj (fun h=>?_) (fun h=>?_)
  ·walk_at "rs"
   refine Zcu (by simp) fun l2 H2 s2 n2 e2=>?_
   walk_at "rs"
   obtain ⟨e,he,hen⟩ :=Zqz more (show 0 < 3 by decide)
   have he:more % 3=(e:Int):=he
   rw [he]
   obtain ⟨z,ez,pz⟩ :=p2 e hen
   refine Zgj e2 ez ?_
   walk_at "rs"
   exact hK _ _ ⟨s1.trans s2,_,pz,rfl⟩
  ·walk_at "rs"
   exact hK _ _ ⟨s1,_,pw1,rfl⟩
 clear w1 pw1 s1
 rintro σ H1 ⟨s1,w1,pw1,rfl⟩
 refine Zhg (fun σ H1=>Same H H1∧∃ w,Pw w∧σ=[some (.ref l),some (.ref nl),some (.int (way:Int)),some (.int a),some (.int more),some (.int (k:Int)),some (.str w)]) ?_ ?_
 rotate_left
 ·intro Kn hK
  walk_at "rs"
  refine Zcj (fun h=>?_) (fun h=>?_)
  ·walk_at "rs"
   refine Zcu (by simp) fun l2 H2 s2 n2 e2=>?_
   walk_at "rs"
   obtain ⟨e,he,hen⟩ :=Zqz more (show 0 < 2 by decide)
   have he:more % 2=(e:Int):=he
   rw [he]
   obtain ⟨z,ez,pz⟩ :=p3 e hen
   refine Zgj e2 ez ?_
   walk_at "rs"
   exact hK _ _ ⟨s1.trans s2,_,pz,rfl⟩
  ·walk_at "rs"
   exact hK _ _ ⟨s1,_,pw1,rfl⟩
 clear w1 pw1 s1
 rintro σ H1 ⟨s1,w1,⟨pw1,pw2⟩,rfl⟩
 walk_at "rs"
 refine Znv (SqL.of (s1 _ _ hl)) (cutT hkn2) fun l2 H2 s2 n2 e2=>?_
 walk_at "rs"
 refine Zcu (by simp) fun l3 H3 s3 n3 e3=>?_
 have lt:=List.length_take_le k ws
 have ld:=List.length_drop (i:=k) (l:=ws)
 refine Zlp (s3 _ _ e2) e3 (by rw [List.length_map]; simp only [List.length_singleton]; omega) fun l4 H4 s4 n4 e4=>?_
 walk_at "rs"
 have w4:=s1.trans (s2.trans (s3.trans s4))
 refine Znv (SqL.of (w4 _ _ hl)) (cutF hkn2) fun l5 H5 s5 n5 e5=>?_
 refine Zlp (s5 _ _ e4) e5 (by simp only [List.length_append,List.length_map,List.length_singleton]; omega) fun l6 H6 s6 n6 e6=>?_
 refine q.put (a:=ws.take k) (b:=[w1]) (c:=ws.drop k) (w4.trans (s5.trans s6)) e6 ?_ (G.mid (fun z hz=>List.mem_of_mem_take hz) (fun z hz=>List.mem_of_mem_drop hz) (fun z hz=>by rw [List.mem_singleton.mp hz]; exact pw1)) (by simp only [List.length_append,List.length_singleton]; omega)
 have:=ZFi hN (a:=ws.take k) (b:=ws.drop k) (w:=w1) (f:=f) (by rw [List.take_append_drop]; exact hg) pw2
 rw [List.append_assoc]
 exact this
end
unseal PE PA PS PSs
seal PE PA PS PSs
section
variable {P:Program} {w:World} {K:PySem.W.Frag} {mg:Str→Option Value} {base:Heap} {t:Ad} {n:Nat}
def ZCa:Str:="ABCDEFGHIJKLMNOPQRSTUVWXYZ0123456789!\"#$&'*+-./:;<=>?\x40[\\]^_`{|}~\n\t"
theorem ZID:∀ k,k < 66→∃ c,ZCa.cps.toList[k]?=some c∧c < 128∧al c=false:=by
 have h:∀ k,k < 66→(ZCa.cps.toList[k]?).any (fun c=>decide (c < 128) && !al c)=true:=by decide +kernel
 intro k hk
 have:=h k hk
 cases e:ZCa.cps.toList[k]? with
 | none=>rw [e] at this; exact absurd this (by decide)
 | some c=>
  rw [e] at this
  have this:(decide (c < 128) && !al c)=true:=this
  rw [Bool.and_eq_true,decide_eq_true_iff,Bool.not_eq_true'] at this
  exact ⟨c,rfl,this.1,this.2⟩
theorem ZEW:ZCa.length=66:=by decide +kernel
def ZKz:Sp:=fun vs H Q _=>∃ (c:Int),vs=[.int c]∧∀ d,d < 128→al d=false→Q (.str ⟨#[d]⟩) H
theorem ZxF (T:Txt K mg t):FnS P w K mg base 1 "_law_other_sign" ["_law_cell"] (ZKz):=by
 refine ⟨_,_,T.Zfk.ok ZiB (fun vs H Q E h=>?_) (fun cdv A outer s H vs Q E hr h=>?_),T.Zje,T.Zfk.kp,T.Zjv⟩
 ·obtain ⟨c,rfl,q⟩ :=h
  rfl
 obtain ⟨c,rfl,q⟩ :=h
 refine ⟨_,(Zac (ss 1 ZiB.nd Zak)
   (Zaf (Zay (ZaZ ZaA (pv 1) (Zav Zbt (pv 0) (ZaM ZaW rfl T.B.len Zdr (Zaa (pv 1) Zad))) (fun _ _=>rfl))))),?_⟩
 walk_at "rd0"
 refine ZDL (by decide +kernel) ?_
 have e66:((Str.length "ABCDEFGHIJKLMNOPQRSTUVWXYZ0123456789!\"#$&'*+-./:;<=>?\x40[\\]^_`{|}~\n\t" : Nat):Int)=((66:Nat):Int):=congrArg _ ZEW
 rw [e66]
 walk_at "rd"
 obtain ⟨k,hk,hk66⟩ :=Zqz c (show 0 < 66 by decide)
 (try refine i_rI (by decide) ?_)
 rw [hk]
 obtain ⟨d,hd,h1,h2⟩ :=ZID k hk66
 exact ZAC (by decide +kernel) (ZlI hd) (q d h1 h2)
def ZKx (t:Ad):Addr→Addr→Sp:=fun ea C vs H Q _=>vs=[.ref ea]∧C=t.Zag∧∀ H',Same H H'→Q (.bl false) H'
theorem Zzu (T:Txt K mg t):FnSH P w K mg base 1 "_law_of_others" ["_law_e"] (ZKx t):=by
 refine ⟨_,_,T.Zgb.okH ZrE (fun ea C vs H Q E h=>?_) (fun cdv A outer s H vs Q ea C oe hy h=>?_),T.Zk5,T.Zgb.kp,T.Zlj⟩
 ·obtain ⟨rfl,_⟩ :=h
  rfl
 obtain ⟨rfl,rfl,q⟩ :=h
 have hx:=T.Zez
 refine ⟨_,(Zac (Za7 (ZdW (ZaM (Zyy hx List.mem_cons_self hy.cls hy.dict hy.nk) rfl T.B.isinstance ZeJ (Zaa (pv 0) (Zaa (Zef (Zaa (Zfx (v:=.ref t.ZdX) rfl T.ZD7 rfl) (Zaa (Zfx (v:=.ref t.ZbQ) rfl T.Zy0 rfl) (Zaa (Zfx (v:=.ref t.ZbR) rfl T.Zy1 rfl) (Zaa (Zfx (v:=.ref t.ZbS) rfl T.Zy2 rfl) (Zaa (Zfx (v:=.ref t.ZcG) rfl T.ZBK rfl) (Zaa (Zfx (v:=.ref t.Za1) rfl T.ZuF rfl) Zad))))))) Zad))) (fun _=>rfl))
   (Zaf (Zay Zny))
   Zaz)
   (Zaf (Zay (ZaM (Zyy hx List.mem_cons_self hy.cls hy.dict hy.nk) rfl T.B.isinstance ZeJ (Zaa (pv 0) (Zaa (Zef (Zaa (Zfx (v:=.ref t.ZcH) rfl T.ZBL rfl) (Zaa (Zfx (v:=.ref t.ZcI) rfl T.ZBM rfl) (Zaa (Zfx (v:=.ref t.ZbT) rfl T.Zy3 rfl) (Zaa (Zfx (v:=.ref t.ZaG) rfl T.Zqs rfl) (Zaa (Zfx (v:=.ref t.ZbU) rfl T.Zy4 rfl) Zad)))))) Zad)))))),?_⟩
 walk_at "rd0"
 refine Zi0 (Nat.le_of_ble_eq_true rfl) fun p1 H2 s2 n2 e2=>?_
 walk_at "rd"
 refine ZDJ (cs:=[t.ZdX,t.ZbQ,t.ZbR,t.ZbS,t.ZcG,t.Za1]) e2 (fun d hd=>?_) ?_
 ·simp only [List.mem_cons,List.not_mem_nil,or_false] at hd
  rcases hd with rfl | rfl | rfl | rfl | rfl | rfl
  all_goals first | exact T.ZiC | exact T.Zgs | exact T.Zgt | exact T.Zgu | exact T.ZhE | exact T.Zfj
 walk_at "rd"
 refine Zcc rfl ?_
 walk_at "rd"
 refine Zi0 (Nat.le_of_ble_eq_true rfl) fun p2 H3 s3 n3 e3=>?_
 walk_at "rd"
 refine ZDJ (cs:=[t.ZcH,t.ZcI,t.ZbT,t.ZaG,t.ZbU]) e3 (fun d hd=>?_) ?_
 ·simp only [List.mem_cons,List.not_mem_nil,or_false] at hd
  rcases hd with rfl | rfl | rfl | rfl | rfl
  all_goals first | exact T.ZhF | exact T.ZhG | exact T.Zgv | exact T.ZeH | exact T.Zgw
 exact q H3 (s2.trans s3)
theorem ZJk {l l':Addr} {a b:List Str} {H:Hp} {Q:VK} (ha:∀ z ∈ a,Lt z) (hb:∀ z ∈ b,Lt z) (h:H l=some (.lst (a.map V.str))) (h':H l'=some (.lst (b.map V.str))) (q:Q (.bl (decide (a=b))) H):rEqA (.ref l) (.ref l') H Q:=by
 have ca:PyData.canLay0 (.list (a.map .str))=true:=by rw [PyData.canLay0]; exact Zxb a ha
 have cb:PyData.canLay0 (.list (b.map .str))=true:=by rw [PyData.canLay0]; exact Zxb b hb
 refine .inr ⟨.list (a.map .str),.list (b.map .str),?_,?_,ca,cb,?_,?_⟩
 ·rw [DV]; exact ⟨l,_,rfl,h,ZwV H a⟩
 ·rw [DV]; exact ⟨l',_,rfl,h',ZwV H b⟩
 ·rw [PyData.depth]
  have:∀ a:List Str,PyData.depthAll (a.map .str)=0:=fun a=>by induction a with | nil=>rfl | cons x a ih=>simp only [List.map_cons,PyData.depthAll,PyData.depth,ih]; rfl
  rw [this]; decide
 ·rw [PyData.eqv,Zum]; exact q
def ZE4:Sp:=fun vs H Q _=>∃ (x:Str) (nl:Addr) (ns:List Str),vs=[.str x,.ref nl]∧H nl=some (.lst (ns.map V.str))∧ns.length≤1000∧(∀ z ∈ ns,Lt z)∧Asc x∧x.length≤3600∧(okW x=true→∀ y ∈ Txt.words (pad x),ZvH y)∧(okW x=true→Zdn ns (Txt.words (pad x))=none)∧∀ H',Same H H'→Q (.bl true) H'
theorem ZEN {x:Str} {nl:Addr} {ns:List Str} {H:Hp} {Q:VK} {E:XK} (hn:H nl=some (.lst (ns.map V.str))) (h1000:ns.length≤1000) (ha:Asc x) (hx:x.length≤3600) (hpl:okW x=true→∀ y ∈ Txt.words (pad x),ZvH y) (hno:okW x=true→Zdn ns (Txt.words (pad x))=none) (k:∀ H',Same H H'→E (.ref t.Zag) none H'):ZHy t [.str x,.ref nl] H Q E:=
 ⟨x,nl,ns,rfl,ha,hx,hn,h1000,hpl,fun _=>k,fun _ _=>k,fun ok f hf=>absurd hf (by rw [hno ok]; exact fun z=>nomatch z)⟩
theorem ZCG (T:Txt K mg t):FnS P w K mg base 12 "_law_refused" ["_law_line","_law_names_here"] (ZE4):=by
 refine ⟨_,_,T.ZiG.ok ZbK (fun vs H Q E h=>?_) (fun cdv A outer s H vs Q E hr h=>?_),T.ZnS,T.ZiG.kp,T.Zop⟩
 ·obtain ⟨x,nl,ns,rfl,hn,h1000,hlt,ha,hx,hpl,hno,q⟩ :=h
  rfl
 obtain ⟨x,nl,ns,rfl,hn,h1000,hlt,ha,hx,hpl,hno,q⟩ :=h
 have ZA9:=ZEp (P:=P) (w:=w) (base:=base) T
 have Ztd:=Zzu (P:=P) (w:=w) (base:=base) T
 refine ⟨_,(Zac (ss 2 ZbK.nd Zny)
   (Zac (ss 3 ZbK.nd (ZdG Zjf rfl T.B.list Zt4 (Zaa (pv 1) Zad)))
   (Zac (ZHt (ZB1 (ZHo ZA9 hr (Zaa (pv 0) (Zaa (pv 3) Zad))))
   (ZHp ⟨rfl,T.Zew,T.ZdJ,T.ZlY,T.ZcY,by decide⟩ (fun _ _ _ _ _ _=>(Zaf (ss 2 ZbK.nd Zny)))
   ZHq))
   (Zac (ss 4 ZbK.nd ZED)
   (Zac (ZHt (ZB1 (ZHo ZA9 hr (Zaa (pv 0) (Zaa (ZdG Zjf rfl T.B.list Zt4 (Zaa (pv 1) Zad)) Zad))))
   (ZEH (i:=5) ⟨rfl,T.ZuE,T.ZdI,T.Zr7,T.ZeC,by decide⟩ ZbK.nd rfl rfl (fun ea oe C pn h1 h2 h3 h4 hx=>(Zaf (ss 4 ZbK.nd (ZBS (ZaM (ZC6 hx h1 h2 h3 h4) (by rfl) T.B.isinstance ZeJ (Zaa (pv 5) (Zaa (ZEz (v:=.ty "ValueError") (by rfl) T.b_ValueError (by decide +kernel) rfl) Zad))) (ZEE (ZGc (K:=K) (by rfl) (ZJ7 Ztd hr h1 h2 h3 h4 (by rfl) rfl (Zaa (pv 5) Zad))))))))
   (ZHp ⟨rfl,T.Zew,T.ZdJ,T.ZlY,T.ZcY,by decide⟩ (fun _ _ _ _ _ _=>(Zaf (ss 4 ZbK.nd Zny)))
   ZHq)))
   (Zaf (Zay (ZBS (pv 2) (ZBS (Zu8 ZJY (pv 4) Zny (Zax _)) (ZEE (Zu8 (ZaU hr.units) (pv 3) (pv 1) (Zax _)))))))))))),?_⟩
 walk_at "rd0"
 refine ZyQ (.inl (SqL.of hn)) fun hd H1 s1 n1 e1=>?_
 walk_at "rd"
 refine ZG6 ?_
 refine ZJp ?_
 walk_at "rd"
 refine ZEN e1 h1000 ha hx hpl hno fun H2 s2=>⟨_,rfl,?_⟩
 refine ZDI T.Za4 ?_
 walk_at "rd"
 refine ZG6 ?_
 refine ZJp ?_
 walk_at "rd"
 refine ZyQ (.inl (SqL.of ((s1.trans s2) _ _ hn))) fun h3 H3 s3 n3 e3=>?_
 walk_at "rd"
 refine ZEN e3 h1000 ha hx hpl hno fun H4 s4=>⟨_,rfl,?_⟩
 refine ZDI T.ZaT ?_
 refine ZKU T.Zez fun ea=>?_
 (try dsimp only [List.set_cons_succ,List.set_cons_zero])
 walk_at "rd"
 refine ZHZ T.Zvt ?_
 walk_at "rd"
 refine ZdP rfl ?_
 walk_at "rd"
 refine ZKV ?_
 walk_at "rd"
 refine ⟨rfl,rfl,fun H5 s5=>?_⟩
 walk_at "rd"
 (try dsimp only [List.set_cons_succ,List.set_cons_zero])
 walk_at "rd"
 refine ZdP rfl ?_
 walk_at "rd"
 refine ⟨_,_,rfl,rfl,?_⟩
 walk_at "rd"
 refine ZdP rfl ?_
 walk_at "rd"
 have w5:=s2.trans (s3.trans (s4.trans s5))
 refine ZJk hlt hlt (w5 _ _ e1) ((s1.trans w5) _ _ hn) ?_
 rw [decide_eq_true rfl]
 exact q H5 (s1.trans w5)
end
unseal PE PA PS PSs
seal PE PA PS PSs
section
variable {P:Program} {w:World} {K:PySem.W.Frag} {mg:Str→Option Value} {base:Heap} {t:Ad} {n:Nat}
def ZGt:Sp:=fun vs H Q _=>∃ (l nl:Addr) (ws ns:List Str) (way:Nat) (a more:Int),vs=[.ref l,.ref nl,.int (way:Int),.int a,.int more]∧H l=some (.lst (ws.map V.str))∧H nl=some (.lst (ns.map V.str))∧GoodW ns ws∧way≤10∧OutS ns ws H Q
theorem ZEs (T:Txt K mg t):FnS P w K mg base 5 "_law_spoilt" ["_law_some","_law_names_here","_law_way","_law_at","_law_more"] (ZGt):=by
 refine ⟨_,_,T.ZjU.ok Zdl (fun vs H Q E h=>?_) (fun cdv A outer s H vs Q E hr h=>?_),T.ZpC,T.ZjU.kp,T.Zqw⟩
 ·obtain ⟨l,nl,ws,ns,way,a,more,rfl,hl,hn,G,hw10,q⟩ :=h
  rfl
 obtain ⟨l,nl,ws,ns,way,a,more,rfl,hl,hn,G,hw10,q⟩ :=h
 have ZwF:=ZEo (P:=P) (w:=w) (base:=base) T
 have ZgZ:=ZIm (P:=P) (w:=w) (base:=base) T
 have ZvF:=ZCF (P:=P) (w:=w) (base:=base) T
 have hN:=ZAN G.nm
 have hlen:=G.ln
 obtain ⟨f,hg⟩ :=G.rd
 have n1:=G.n1
 have n6:=G.n6
 obtain ⟨z0,hz0,so0⟩ :=ZFK hN hg
 have lt:∀ k,(ws.take k).length≤ws.length:=fun k=>by rw [List.length_take]; omega
 have ld:∀ k,(ws.drop k).length≤ws.length:=fun k=>by rw [List.length_drop]; omega
 have mt:∀ k,∀ z ∈ ws.take k,z ∈ ws:=fun k z hz=>List.mem_of_mem_take hz
 have md:∀ k,∀ z ∈ ws.drop k,z ∈ ws:=fun k z hz=>List.mem_of_mem_drop hz
 refine ⟨_,(Zac (Za7 (ZGg ZJ0 ZJ0 Zae (pv 2) Zae)
   (Zaf (Zay (Zce ZwF hr (Zaa (pv 0) (Zaa (pv 1) (Zaa (pv 2) (Zaa (pv 3) (Zaa (pv 4) Zad))))))))
   Zaz)
   (Zac (Za7 (Zal (ZaU hr.units) (pv 2) Zae (Zax _))
   (Zac (ss 5 Zdl.nd (Zce ZgZ hr (Zaa (pv 0) (Zaa (pv 3) (Zaa (ZaN (Zaa Zak Zad)) Zad)))))
   (Zaf (Zay (Zav Zau (Zav Zau (Zbc Zdq (pv 0) Zcf (ZbJ (pv 5))) (ZaN (Zaa (Zce ZvF hr (Zaa (ZaZ ZaA (pv 1) (Zav Zbt (pv 3) (ZaM ZaW rfl T.B.len Zdr (Zaa (pv 1) Zad))) (fun _ _=>rfl)) (Zaa (pv 1) (Zaa (pv 4) Zad)))) Zad))) (Zbc Zdq (pv 0) (ZbJ (Zav Zau (pv 5) Zae)) Zcf)))))
   Zaz)
   (Zac (Za7 (Zal (ZaU hr.units) (pv 2) Zae (Zax _))
   (Zac (ss 5 Zdl.nd (Zce ZgZ hr (Zaa (pv 0) (Zaa (pv 3) (Zaa (ZaN (Zaa Zak Zad)) Zad)))))
   (Zac (Za7 (Zal ZCI (pv 5) Zae (Zax _))
   (Zaf (Zay (Zav Zau (pv 0) (ZaN (Zaa Zak Zad)))))
   Zaz)
   (Zaf (Zay (Zav Zau (Zav Zau (Zbc Zdq (pv 0) Zcf (ZbJ (pv 5))) (ZaN (Zaa (ZaZ ZaA (pv 0) (Zav Zau (pv 5) Zae) (fun _ _=>rfl)) (Zaa (ZaZ ZaA (pv 0) (pv 5) (fun _ _=>rfl)) Zad)))) (Zbc Zdq (pv 0) (ZbJ (Zav Zau (pv 5) Zae)) Zcf))))))
   Zaz)
   (Zac (Za7 (Zal (ZaU hr.units) (pv 2) Zae (Zax _))
   (Zac (ss 5 Zdl.nd (Zce ZgZ hr (Zaa (pv 0) (Zaa (pv 3) (Zaa (ZaN (Zaa Zak (Zaa Zak Zad))) Zad)))))
   (Zaf (Zay (Zav Zau (Zav Zau (Zbc Zdq (pv 0) Zcf (ZbJ (Zav Zau (pv 5) Zae))) (ZaN (Zaa Zak Zad))) (Zbc Zdq (pv 0) (ZbJ (Zav Zau (pv 5) Zae)) Zcf)))))
   Zaz)
   (Zac (Za7 (Zal (ZaU hr.units) (pv 2) Zae (Zax _))
   (Zac (ss 5 Zdl.nd (Zce ZgZ hr (Zaa (pv 0) (Zaa (pv 3) (Zaa (ZaN (Zaa Zak Zad)) Zad)))))
   (Zac (Za7 (Zal ZCI (pv 5) Zae (Zax _))
   (Zaf (Zay (Zav Zau (ZaN (Zaa Zak Zad)) (pv 0))))
   Zaz)
   (Zaf (Zay (Zav Zau (Zav Zau (Zbc Zdq (pv 0) Zcf (ZbJ (pv 5))) (ZaN (Zaa Zak Zad))) (Zbc Zdq (pv 0) (ZbJ (Zav Zau (pv 5) Zae)) Zcf))))))
   Zaz)
   (Zac (Za7 (Zal (ZaU hr.units) (pv 2) Zae (Zax _))
   (Zaf (Zay (ZaN Zad)))
   Zaz)
   (Zac (ss 5 Zdl.nd (Zce ZgZ hr (Zaa (pv 0) (Zaa (pv 3) (Zaa (ZaN (Zaa Zak (Zaa Zak (Zaa Zak (Zaa Zak Zad))))) Zad)))))
   (Zaf (Zay (Zav Zau (Zbc Zdq (pv 0) Zcf (ZbJ (pv 5))) (Zbc Zdq (pv 0) (ZbJ (Zav Zau (pv 5) Zae)) Zcf))))))))))),?_⟩
 walk_at "rd0"
 rcases (show (1≤way∧way≤4)∨way=5∨way=6∨way=7∨way=8∨way=9∨way=0∨way=10 by omega) with h | h | h | h | h | h | h | h
 ·walk_at "tst"
  exact ⟨l,nl,ws,ns,way,a,more,rfl,hl,hn,G,h.1,h.2,q⟩
 ·walk_at "tst"
  refine Zcu (by simp) fun sl H1 s1 n1 e1=>?_
  walk_at "tst"
  refine ⟨l,sl,ws,["name"],a,rfl,s1 _ _ hl,e1,by omega,fun k z ek hk H2 s2=>?_,fun hno=>absurd (hno z0 hz0) (by rw [so0]; simp)⟩
  have hkl:=(List.getElem?_eq_some_iff.mp ek).1
  have w2:=s1.trans s2
  walk_at "tst"
  refine Znv (SqL.of (w2 _ _ hl)) (cutT (by omega)) fun l2 H3 s3 n3 e3=>?_
  have w3:=w2.trans s3
  have hn3:=w3 _ _ hn
  walk_at "tst"
  obtain ⟨e,he,hen⟩ :=Zqz a (show 0 < ns.length by omega)
  (try rw [List.length_map])
  (try refine i_rI (by omega) ?_)
  rw [he]
  refine Zgj (j:=e) hn3 (v:=.str (ns.getD e Str.empty)) (by rw [List.getElem?_map,ZeS hen]; rfl) ?_
  walk_at "tst"
  refine ⟨_,nl,ns,more,rfl,hn3,n6,G.nm,(G.nm _ (List.mem_of_getElem? (ZeS hen))).1,fun y H4 s4 hy hyk=>?_⟩
  walk_at "tst"
  refine Zcu (by simp) fun l5 H5 s5 n5 e5=>?_
  refine Zlp ((s4.trans s5) _ _ e3) e5 (by rw [List.length_map]; simp only [List.length_singleton]; have:=lt k; omega) fun l6 H6 s6 n6' e6=>?_
  have w6:=w3.trans (s4.trans (s5.trans s6))
  walk_at "tst"
  refine Znv (SqL.of (w6 _ _ hl)) (ZDi (by omega)) fun l7 H7 s7 n7 e7=>?_
  refine Zlp (s7 _ _ e6) e7 (by simp only [List.length_append,List.length_map,List.length_singleton]; have:=lt k; have:=ld (k + 1); omega) fun l8 H8 s8 n8 e8=>?_
  refine q.put (a:=ws.take k) (b:=[y]) (c:=ws.drop (k + 1)) (w6.trans (s7.trans s8)) e8 (un_K hN (z:=y) (by simp) hyk) (G.mid (mt k) (md _) (fun z hz=>by rw [List.mem_singleton.mp hz]; exact hy)) (by simp only [List.length_append,List.length_singleton,List.length_take,List.length_drop]; omega)
 ·walk_at "tst"
  refine Zcu (by simp) fun sl H1 s1 n1 e1=>?_
  walk_at "tst"
  refine ⟨l,sl,ws,["join"],a,rfl,s1 _ _ hl,e1,by omega,fun k z ek hk H2 s2=>?_,fun hno H2 s2=>?_⟩
  ·have hkl:=(List.getElem?_eq_some_iff.mp ek).1
   have w2:=s1.trans s2
   have hj:wJ z=1:=by
    have hk:Zrf z = "join":=by simpa using hk
    rcases ZgT z with c | c | c | c | c
    ·rw [hk] at c; exact absurd c.1 (by decide)
    ·exact c.2
    ·rw [hk] at c; exact absurd c.1 (by decide)
    ·rw [hk] at c; exact absurd c.1 (by decide)
    ·rw [hk] at c; exact absurd c.1 (by decide)
   have hk1:k + 1 < ws.length:=by
    refine Classical.byContradiction fun y=>?_
    have e:=Zrg ek
    rw [List.drop_eq_nil_of_le (by omega)] at e
    rw [e] at hg
    exact ZDT hN hj hg
   obtain ⟨y,ey⟩ : ∃ y,ws[k + 1]?=some y:=⟨_,List.getElem?_eq_getElem hk1⟩
   have esp:ws=ws.take k ++ z :: y :: ws.drop (k + 2):=by
    have:=Zrg ek
    rw [List.drop_eq_getElem_cons hk1] at this
    have e2:ws[k + 1]=y:=by rw [List.getElem?_eq_getElem hk1] at ey; exact Option.some.inj ey
    rw [e2] at this
    exact this
   walk_at "tst"
   refine Znv (SqL.of (w2 _ _ hl)) (cutT (by omega)) fun l2 H3 s3 n3 e3=>?_
   have w3:=w2.trans s3
   walk_at "tst"
   refine Zgj (j:=k + 1) (w3 _ _ hl) (v:=.str y) (by rw [List.getElem?_map,ey]; rfl) ?_
   walk_at "tst"
   refine Zgj (j:=k) (w3 _ _ hl) (v:=.str z) (by rw [List.getElem?_map,ek]; rfl) ?_
   walk_at "tst"
   refine Zcu (by simp) fun l5 H5 s5 n5 e5=>?_
   refine Zlp (s5 _ _ e3) e5 (by rw [List.length_map]; simp only [List.length_cons,List.length_nil]; have:=lt k; omega) fun l6 H6 s6 n6' e6=>?_
   have w6:=w3.trans (s5.trans s6)
   walk_at "tst"
   refine Znv (SqL.of (w6 _ _ hl)) (ZKR (by omega)) fun l7 H7 s7 n7 e7=>?_
   refine Zlp (s7 _ _ e6) e7 (by simp only [List.length_append,List.length_map,List.length_cons,List.length_nil]; have:=lt k; have:=ld (k + 2); omega) fun l8 H8 s8 n8 e8=>?_
   refine q.put (a:=ws.take k) (b:=[y,z]) (c:=ws.drop (k + 2)) (w6.trans (s7.trans s8)) e8 ?_ (G.mid (mt k) (md _) (fun x hx=>by
    simp only [List.mem_cons,List.not_mem_nil,or_false] at hx
    rcases hx with rfl | rfl
    ·exact G.wd _ (List.mem_of_getElem? ey)
    ·exact G.wd _ (List.mem_of_getElem? ek))) (by simp only [List.length_append,List.length_cons,List.length_nil,List.length_take,List.length_drop]; omega)
   rw [esp] at hg
   rw [List.append_assoc]
   exact ZIS hN hj hg
  ·have w2:=s1.trans s2
   walk_at "tst"
   refine Zcu (by simp) fun l5 H5 s5 n5 e5=>?_
   refine Zlp ((w2.trans s5) _ _ hl) e5 (by rw [List.length_map]; simp only [List.length_singleton]; omega) fun l6 H6 s6 n6' e6=>?_
   refine q l6 (ws ++ [("and" : Str)]) H6 (w2.trans (s5.trans s6)) (by rw [e6,List.map_append]; rfl) (ZFi hN (a:=ws) (b:=[]) (w:="and") (f:=f) (by rw [List.append_nil]; exact hg) (.inl (by decide))) (fun z hz=>?_) (by rw [List.length_append]; simp)
   rcases List.mem_append.mp hz with hz | hz
   ·exact G.wd z hz
   ·rw [List.mem_singleton.mp hz]; exact (Zli "and" (by decide)).x
 ·walk_at "tst"
  refine Zcu (by simp) fun sl H1 s1 n1 e1=>?_
  walk_at "tst"
  refine ⟨l,sl,ws,["name",")"],a,rfl,s1 _ _ hl,e1,by omega,fun k z ek hk H2 s2=>?_,fun hno=>absurd (hno z0 hz0) (by rw [so0]; simp)⟩
  have hkl:=(List.getElem?_eq_some_iff.mp ek).1
  have w2:=s1.trans s2
  have hx:wJ z = -1∨z = ")":=by
   rcases ZgT z with c | c | c | c | c
   ·exact .inl c.2
   ·rw [c.1] at hk; exact absurd hk (by decide)
   ·rw [c.1] at hk; exact absurd hk (by decide)
   ·exact .inr c.2
   ·rw [c.1] at hk; exact absurd hk (by decide)
  walk_at "tst"
  refine Znv (SqL.of (w2 _ _ hl)) (ZKS (by omega)) fun l2 H3 s3 n3 e3=>?_
  walk_at "tst"
  refine Zcu (by simp) fun l5 H5 s5 n5 e5=>?_
  refine Zlp (s5 _ _ e3) e5 (by rw [List.length_map]; simp only [List.length_singleton]; have:=lt (k + 1); omega) fun l6 H6 s6 n6' e6=>?_
  have w6:=w2.trans (s3.trans (s5.trans s6))
  walk_at "tst"
  refine Znv (SqL.of (w6 _ _ hl)) (ZDi (by omega)) fun l7 H7 s7 n7 e7=>?_
  refine Zlp (s7 _ _ e6) e7 (by simp only [List.length_append,List.length_map,List.length_singleton]; have:=lt (k + 1); have:=ld (k + 1); omega) fun l8 H8 s8 n8 e8=>?_
  refine q.put (a:=ws.take (k + 1)) (b:=["not"]) (c:=ws.drop (k + 1)) (w6.trans (s7.trans s8)) e8 ?_ (G.mid (mt _) (md _) (fun z hz=>by rw [List.mem_singleton.mp hz]; exact (Zli "not" (by decide)).x)) (by simp only [List.length_append,List.length_singleton,List.length_take,List.length_drop]; omega)
  rw [Zeg ek,List.append_assoc,List.append_assoc]
  exact ZKJ hN hx
 ·walk_at "tst"
  refine Zcu (by simp) fun sl H1 s1 n1 e1=>?_
  walk_at "tst"
  refine ⟨l,sl,ws,["("],a,rfl,s1 _ _ hl,e1,by omega,fun k z ek hk H2 s2=>?_,fun hno H2 s2=>?_⟩
  ·have hkl:=(List.getElem?_eq_some_iff.mp ek).1
   have w2:=s1.trans s2
   have hz:z = "(":=by
    rcases ZgT z with c | c | c | c | c
    ·rw [c.1] at hk; exact absurd hk (by decide)
    ·rw [c.1] at hk; exact absurd hk (by decide)
    ·exact c.2
    ·rw [c.1] at hk; exact absurd hk (by decide)
    ·rw [c.1] at hk; exact absurd hk (by decide)
   walk_at "tst"
   refine Znv (SqL.of (w2 _ _ hl)) (cutT (by omega)) fun l2 H3 s3 n3 e3=>?_
   walk_at "tst"
   refine Zcu (by simp) fun l5 H5 s5 n5 e5=>?_
   refine Zlp (s5 _ _ e3) e5 (by rw [List.length_map]; simp only [List.length_singleton]; have:=lt k; omega) fun l6 H6 s6 n6' e6=>?_
   have w6:=w2.trans (s3.trans (s5.trans s6))
   walk_at "tst"
   refine Znv (SqL.of (w6 _ _ hl)) (ZDi (by omega)) fun l7 H7 s7 n7 e7=>?_
   refine Zlp (s7 _ _ e6) e7 (by simp only [List.length_append,List.length_map,List.length_singleton]; have:=lt k; have:=ld (k + 1); omega) fun l8 H8 s8 n8 e8=>?_
   refine q.put (a:=ws.take k) (b:=[")"]) (c:=ws.drop (k + 1)) (w6.trans (s7.trans s8)) e8 ?_ (G.mid (mt _) (md _) (fun z hz=>by rw [List.mem_singleton.mp hz]; exact (Zli ")" (by decide)).x)) (by simp only [List.length_append,List.length_singleton,List.length_take,List.length_drop]; omega)
   have esp:=Zrg ek
   rw [hz] at esp
   rw [esp] at hg
   rw [List.append_assoc]
   exact ZIT hN hg
  ·have w2:=s1.trans s2
   walk_at "tst"
   refine Zcu (by simp) fun l5 H5 s5 n5 e5=>?_
   walk_at "tst"
   refine Zlp e5 ((w2.trans s5) _ _ hl) (by rw [List.length_map]; simp only [List.length_singleton]; omega) fun l6 H6 s6 n6' e6=>?_
   refine q l6 (")" :: ws) H6 (w2.trans (s5.trans s6)) e6 (ZFi hN (a:=[]) (b:=ws) (w:=")") (f:=f) hg (.inr (.inl (by decide)))) (fun z hz=>?_) (by simp)
   rcases List.mem_cons.mp hz with rfl | hz
   ·exact (Zli ")" (by decide)).x
   ·exact G.wd z hz
 ·walk_at "tst"
  refine Zcu (by simp) fun l5 H5 s5 n5 e5=>?_
  exact q l5 [] H5 s5 e5 (un_J hN (by decide)) (fun z hz=>by cases hz) (by simp)
 ·walk_at "tst"
  refine Zcu (by simp) fun sl H1 s1 n1 e1=>?_
  walk_at "tst"
  refine ⟨l,sl,ws,["name","join","(",")"],a,rfl,s1 _ _ hl,e1,by omega,fun k z ek hk H2 s2=>?_,fun hno=>absurd (hno z0 hz0) (by rw [so0]; simp)⟩
  have hkl:=(List.getElem?_eq_some_iff.mp ek).1
  have w2:=s1.trans s2
  have hx:wJ z ≠ 0∨wB z ≠ 0:=by
   rcases ZgT z with c | c | c | c | c
   ·exact .inl (by rw [c.2]; decide)
   ·exact .inl (by rw [c.2]; decide)
   ·exact .inr (by rw [c.2]; decide)
   ·exact .inr (by rw [c.2]; decide)
   ·rw [c.1] at hk; exact absurd hk (by decide)
  walk_at "tst"
  refine Znv (SqL.of (w2 _ _ hl)) (cutT (by omega)) fun l2 H3 s3 n3 e3=>?_
  have w3:=w2.trans s3
  walk_at "tst"
  refine Znv (SqL.of (w3 _ _ hl)) (ZDi (by omega)) fun l7 H7 s7 n7 e7=>?_
  refine Zlp (s7 _ _ e3) e7 (by simp only [List.length_map]; have:=lt k; have:=ld (k + 1); omega) fun l8 H8 s8 n8 e8=>?_
  refine q l8 (ws.take k ++ ws.drop (k + 1)) H8 (w3.trans (s7.trans s8)) (by rw [e8,List.map_append]) ?_ (fun z hz=>?_) (by simp only [List.length_append,List.length_take,List.length_drop]; omega)
  ·have esp:=Zrg ek
   rw [esp] at hg
   exact ZFh hN hg hx
  ·rcases List.mem_append.mp hz with hz | hz
   ·exact G.wd z (mt _ z hz)
   ·exact G.wd z (md _ z hz)
 ·walk_at "tst"
  refine Zcu (by simp) fun sl H1 s1 n1 e1=>?_
  walk_at "tst"
  refine ⟨l,sl,ws,["name","join","(",")"],a,rfl,s1 _ _ hl,e1,by omega,fun k z ek hk H2 s2=>?_,fun hno=>absurd (hno z0 hz0) (by rw [so0]; simp)⟩
  have hkl:=(List.getElem?_eq_some_iff.mp ek).1
  have w2:=s1.trans s2
  have hx:wJ z ≠ 0∨wB z ≠ 0:=by
   rcases ZgT z with c | c | c | c | c
   ·exact .inl (by rw [c.2]; decide)
   ·exact .inl (by rw [c.2]; decide)
   ·exact .inr (by rw [c.2]; decide)
   ·exact .inr (by rw [c.2]; decide)
   ·rw [c.1] at hk; exact absurd hk (by decide)
  walk_at "tst"
  refine Znv (SqL.of (w2 _ _ hl)) (cutT (by omega)) fun l2 H3 s3 n3 e3=>?_
  have w3:=w2.trans s3
  walk_at "tst"
  refine Znv (SqL.of (w3 _ _ hl)) (ZDi (by omega)) fun l7 H7 s7 n7 e7=>?_
  refine Zlp (s7 _ _ e3) e7 (by simp only [List.length_map]; have:=lt k; have:=ld (k + 1); omega) fun l8 H8 s8 n8 e8=>?_
  refine q l8 (ws.take k ++ ws.drop (k + 1)) H8 (w3.trans (s7.trans s8)) (by rw [e8,List.map_append]) ?_ (fun z hz=>?_) (by simp only [List.length_append,List.length_take,List.length_drop]; omega)
  ·have esp:=Zrg ek
   rw [esp] at hg
   exact ZFh hN hg hx
  ·rcases List.mem_append.mp hz with hz | hz
   ·exact G.wd z (mt _ z hz)
   ·exact G.wd z (md _ z hz)
end
unseal PE PA PS PSs
seal PE PA PS PSs
section
variable {P:Program} {w:World} {K:PySem.W.Frag} {mg:Str→Option Value} {base:Heap} {t:Ad} {n:Nat}
theorem Zz0 {z:Str} (h:WdX z):ZvH z:=by
 unfold ZvH
 have a:=StrLaws.reprText_len z (fun c hc=>by
  have hc:c ∈ cl1 z:=hc
  have:c < 128:=by
   rcases h.1 with e | e | e | e
   ·rw [e] at hc; rw [List.mem_singleton.mp hc]; decide
   ·rw [e] at hc; rw [List.mem_singleton.mp hc]; decide
   ·rw [e] at hc; rw [List.mem_singleton.mp hc]; decide
   ·have:=e.2 c hc; omega
  have:(128:Nat)≤16 ^ 8:=by decide
  omega)
 have:=h.2
 omega
theorem ok_law (T:Txt K mg t):FnOk P w K mg base CX0 80 t.f_law t.d_law ["_law_script"] (spLaw K):=by
 refine T.F_law.ok Zfi (fun vs H Q E h=>?_) (fun cdv A outer s H vs Q E hr h=>?_)
 ·obtain ⟨a,ns,rfl,_⟩ :=h
  rfl
 obtain ⟨sc,ns,rfl,hS,h63,hO,q⟩ :=h
 have Zdg:=ZCD (P:=P) (w:=w) (base:=base) T
 have Zyk:=ZF6 (P:=P) (w:=w) (base:=base) T
 have ZAc:=ZIo (P:=P) (w:=w) (base:=base) T
 have Zb8:=Zrl (P:=P) (w:=w) (base:=base) T 64
 have Zpm:=ZEr (P:=P) (w:=w) (base:=base) T
 have ZA9:=ZEp (P:=P) (w:=w) (base:=base) T
 have Zrk:=ZxF (P:=P) (w:=w) (base:=base) T
 have ZwG:=ZEs (P:=P) (w:=w) (base:=base) T
 have ZvG:=ZCG (P:=P) (w:=w) (base:=base) T
 have Zyl:=ZHI (P:=P) (w:=w) (base:=base) T (n:=64)
 have D_shown:=Zwj (P:=P) (w:=w) (base:=base) T 63
 refine ⟨_,(Zac (ss 1 Zfi.nd (Zav Zau Zae (Zav Zbt (Zce Zdg hr (Zaa (pv 0) (Zaa Zae Zad))) Zae)))
   (Zac (ss 2 Zfi.nd (Zce Zyk hr (Zaa (pv 1) (Zaa (Zce Zdg hr (Zaa (pv 0) (Zaa Zae Zad))) Zad))))
   (Zac (ss 3 Zfi.nd (Zce ZAc hr (Zaa (Zbc Zdq (pv 0) (ZbJ Zae) (ZbJ Zae)) (Zaa (pv 1) (Zaa (Zav ZfS (Zce Zdg hr (Zaa (pv 0) (Zaa Zae Zad))) Zae) (Zaa Zae (Zaa Zae Zad)))))))
   (Zac (ss 4 Zfi.nd (Zav Zbt (Zce Zdg hr (Zaa (pv 0) (Zaa Zae Zad))) Zae))
   (Zac (ss 5 Zfi.nd (Zav ZfS (Zce Zdg hr (Zaa (pv 0) (Zaa Zae Zad))) Zae))
   (Zac (ss 6 Zfi.nd (Zce Zdg hr (Zaa (pv 0) (Zaa Zae Zad))))
   (Zac (ss 7 Zfi.nd (ZdG Zjf rfl T.B.list Zt4 (Zaa (pv 2) Zad)))
   (Zac (Za7 (PW.pt (Zfh (Zal (ZaU hr.units) (pv 4) Zae (Zax _)) (Zey (Zal Zu5 (pv 1) Zae (Zax _)))))
   (Zac (ss 3 Zfi.nd (Zef (Zaa Zak (Zaa (ZaN (Zaa (Zef (Zaa Zak (Zaa (Zav Zu7 (pv 1) Zae) Zad))) (Zaa (pv 3) Zad))) Zad))))
   (Zaf (ss 7 Zfi.nd (Zbc Zdq (pv 2) Zcf (ZbJ (ZzA Zs9 Zae))))))
   Zaz)
   (Zac (ss 8 Zfi.nd (Zce Zb8 hr (Zaa (pv 3) (Zaa (pv 2) (Zaa Zny Zad)))))
   (Zac (ss 9 Zfi.nd (Zce Zpm hr (Zaa (pv 8) (Zaa (pv 5) Zad))))
   (Zac (ss 10 Zfi.nd (pv 9))
   (Zac (Za7 (Zal (ZaU hr.units) (pv 4) Zae (Zax _))
   (Zac (ss 11 Zfi.nd (Zav Zbt (pv 6) (Zav Zau (ZaM ZaW rfl T.B.len Zdr (Zaa (pv 9) Zad)) Zae)))
   (Zaf (ss 10 Zfi.nd (Zav Zau (Zav Zau (Zbc Zdq (pv 9) Zcf (ZbJ (pv 11))) (Zce Zrk hr (Zaa (pv 5) Zad))) (Zbc Zdq (pv 9) (ZbJ (pv 11)) Zcf)))))
   (Zaf (Za7 (Zal (ZaU hr.units) (ZaM ZaW rfl T.B.len Zdr (Zaa (pv 7) Zad)) (pv 1) (Zax _))
   (Zaf (ss 10 Zfi.nd (Zce Zpm hr (Zaa (Zce ZwG hr (Zaa (pv 8) (Zaa (pv 2) (Zaa (pv 4) (Zaa (pv 6) (Zaa (pv 5) Zad)))))) (Zaa (pv 5) Zad)))))
   Zaz)))
   (Zac (Za7 (ZB2 (ZdW (Zce ZvG hr (Zaa (pv 10) (Zaa (pv 7) Zad))) (fun _=>rfl)))
   (Zaf (Zay Zny))
   Zaz)
   (Zac (ss 12 Zfi.nd (ZJ6 ZA9 hr (Zaa (pv 9) (Zaa (ZdG Zjf rfl T.B.list Zt4 (Zaa (pv 2) Zad)) Zad))))
   (Zac (Za7 (ZB2 (ZdW (ZaM ZBg rfl T.B.isinstance ZeJ (Zaa (pv 12) (Zaa (Zfx (v:=.ref t.Zaj) rfl T.ZyZ rfl) Zad))) (fun _=>rfl)))
   (Zaf (Zay Zny))
   Zaz)
   (Zac (ss 13 Zfi.nd (ZAW D_shown hr (pv 12) (Zaa (ZdG Zjf rfl T.B.list Zt4 (Zaa (pv 2) Zad)) Zad)))
   (Zaf (Zay (ZBS (ZaM ZBg rfl T.B.isinstance ZeJ (Zaa (pv 13) (Zaa (ZEz (v:=.ty "str") rfl T.B.str ZI2 rfl) Zad))) (ZEE (Zu8 (ZaU hr.units) (pv 13) (Zce Zyl hr (Zaa (pv 3) (Zaa (pv 2) Zad))) (Zax _)))))))))))))))))))))),?_⟩
 obtain ⟨m,hm,hm1,hm6⟩ : ∃ m:Nat,1 + cell ns 0 % 6=(m:Int)∧1≤m∧m≤6:=⟨(1 + cell ns 0 % 6).toNat,by omega,by omega,by omega⟩
 obtain ⟨way,hway,hway12⟩ : ∃ k:Nat,cell ns 2 % 12=(k:Int)∧k < 12:=⟨(cell ns 2 % 12).toNat,by omega,by omega⟩
 walk_at "rd0"
 refine ⟨sc,ns,0,rfl,hS,?_⟩
 walk_at "rd"
 rw [hm]
 walk_at "rd"
 refine ⟨sc,ns,1,rfl,hS,?_⟩
 walk_at "rd"
 refine ⟨m,cell ns 1,rfl,hm6,fun nl zs H1 s1 n1 e1 hz1 hz2 hz3=>?_⟩
 have hNm:∀ z ∈ zs,Nm8 z:=fun z hz=>(hz2 z hz).1
 walk_at "rd"
 refine Znv (s1.seq hS) ((ZHN _ 4 64).trans (ZAI ns 4 60)) fun cl H2 s2 n2 e2=>?_
 walk_at "rd"
 refine ⟨sc,ns,0,rfl,(s1.trans s2).seq hS,?_⟩
 walk_at "rd"
 refine ⟨cl,_,m,_,_,_,rfl,e2,by rw [List.length_take]; omega,hm1,hm6,fun tp tr H3 s3 tr3 hok hnT=>?_⟩
 have w3:=s1.trans (s2.trans s3)
 walk_at "rs"
 refine ZiZ ?_
 walk_at "rs"
 refine ⟨sc,ns,2,rfl,w3.seq hS,?_⟩
 walk_at "rs"
 rw [hway]
 walk_at "rs"
 refine ZiZ ?_
 walk_at "rs"
 refine ⟨sc,ns,2,rfl,w3.seq hS,?_⟩
 walk_at "rs"
 refine ZiZ ?_
 walk_at "rs"
 refine ⟨sc,ns,3,rfl,w3.seq hS,?_⟩
 walk_at "rs"
 refine ZiZ ?_
 walk_at "rs"
 have el3:=(s2.trans s3) _ _ e1
 refine ZyQ (.inl (SqL.of el3)) fun kl H4 s4 n4 e4=>?_
 walk_at "rs"
 generalize cell ns 2 / 12=more
 generalize cell ns 3=pl
 have el4:=s4 _ _ el3
 have tr4:=tr3.same s4
 have w4:=w3.trans s4
 clear e2 tr3 el3
 refine Zhg (fun σ H'=>Same H4 H'∧∃ (tp' kl':Addr) (tr':Tr) (kn:List Str),TwAt anyA H' 64 tp' tr'∧okT m tr'=true∧nT tr'≤63∧H' kl'=some (.lst (kn.map V.str))∧(kn=zs∧way ≠ 10∨kn=zs∧way=10∧m=1∨way=10∧kn=zs.take (m - 1)∧1 < m∧zs.getD (m - 1) Str.empty ∈ wdG true zs tr')∧σ=[some (.ref sc),some (.int (m:Int)),some (.ref nl),some (.ref tp'),some (.int (way:Int)),some (.int more),some (.int pl),some (.ref kl'),none,none,none,none,none,none]) ?_ ?_
 rotate_left
 ·intro Kn hK
  walk_at "rs"
  refine Zcj (fun h10=>?_) (fun h10=>?_)
  ·walk_at "rs"
   refine Zcj (fun hgt=>?_) (fun hgt=>?_)
   ·have hgt:1 < m:=by omega
    have ez:zs=zs.take (m - 1) ++ [zs.getD (m - 1) Str.empty]:=by
     have:=Zeg (ZeS (ns:=zs) (k:=m - 1) (by omega))
     rw [show m - 1 + 1=zs.length by omega,List.take_length] at this
     exact this
    have ec:cutV (zs.map V.str) none (some (-1))=(zs.take (m - 1)).map V.str:=by
     have:=ZFA ((zs.take (m - 1)).map V.str) (.str (zs.getD (m - 1) Str.empty))
     have e:(zs.take (m - 1)).map V.str ++ [.str (zs.getD (m - 1) Str.empty)]=zs.map V.str:=by
      conv=>rhs; rw [ez]
      rw [List.map_append]
      rfl
     rw [e] at this
     exact this
    walk_at "rs"
    refine ZiZ ?_
    walk_at "rs"
    refine Zi0 (by simp) fun p5 H5 s5 n5 e5=>?_
    walk_at "rs"
    refine Zcu (by simp) fun l6 H6 s6 n6 e6=>?_
    walk_at "rs"
    refine Zi0 (by simp) fun p7 H7 s7 n7 e7=>?_
    walk_at "rs"
    refine Znv (SqL.of ((s5.trans (s6.trans s7)) _ _ el4)) ec fun kl2 H8 s8 n8 e8=>?_
    walk_at "rs"
    have w8:=s5.trans (s6.trans (s7.trans s8))
    refine hK _ _ ⟨w8,p7,kl2,.join .o [.lamp (m - 1),tr],zs.take (m - 1),⟨l6,[p5,tp],s8 _ _ e7,trivial,(s7.trans s8) _ _ e6,.cons ?_ (.cons (tr4.same w8) .nil)⟩,?_,?_,e8,.inr (.inr ⟨by omega,rfl,hgt,?_⟩),rfl⟩
    ·show H8 p5=some (.tup [.str "lamp",.int ((m - 1:Nat):Int)])
     rw [show ((m - 1:Nat):Int)=(m:Int) - 1 by omega]
     exact (s6.trans (s7.trans s8)) _ _ e5
    ·simp only [okT,okTL,hok,Bool.and_true,Bool.and_eq_true,decide_eq_true_iff]
     refine ⟨?_,?_⟩ <;> first | omega | decide | (simp; done) | (simp; omega)
    ·simp only [nT,nTL]; omega
    ·simp [wdG,wdGL,jnW,brW,rkG,ZeA]
   ·walk_at "rs"
    exact hK _ _ ⟨Same.refl _,tp,kl,tr,zs,tr4.le (by omega),hok,by omega,e4,.inr (.inl ⟨rfl,by omega,by omega⟩),rfl⟩
  ·walk_at "rs"
   refine Zcc rfl ?_
   walk_at "rs"
   exact hK _ _ ⟨Same.refl _,tp,kl,tr,zs,tr4.le (by omega),hok,by omega,e4,.inl ⟨rfl,by omega⟩,rfl⟩
 rintro σ H5 ⟨s5,tp',kl',tr',kn,tr5,hok5,hnT5,ek5,hkn,rfl⟩
 have w5:=w4.trans s5
 have el5:=s5 _ _ el4
 have hokz:okT zs.length tr'=true:=by rw [hz1]; exact hok5
 have wl:=ZwA true zs tr'
 have hwd:∀ z ∈ wdG true zs tr',WdS z:=Zz1 Zli (m:=zs.length) (fun k hk=>⟨Wd.let (Zxg hNm hk).1,(Zxg hNm hk).2⟩) tr' hokz
 have hrd:=ZEO (ZJQ hz2 hz3) hokz
 walk_at "rs"
 refine ZiZ ?_
 walk_at "rs"
 refine ⟨tp',nl,true,tr',zs,rfl,tr5,el5,hokz,hnT5,fun wp H6 s6 n6 e6=>?_⟩
 walk_at "rs"
 refine ZiZ ?_
 walk_at "rs"
 refine ⟨wp,_,more,rfl,e6,fun z hz=>(hwd z hz).x,by omega,fun x hal hxl hxw=>?_⟩
 walk_at "rs"
 refine ZiZ ?_
 walk_at "rs"
 have el6:=s6 _ _ el5
 have ek6:=s6 _ _ ek5
 have tr6:=tr5.same s6
 have hokx:okW x=true:=List.all_eq_true.mpr hal
 have hplx:okW x=true→∀ y ∈ Txt.words (pad x),ZvH y:=fun _=>by rw [hxw]; exact fun y hy=>Zz0 (hwd y hy).x
 refine Zhg (fun σ H'=>Same H6 H'∧∃ (y:Str) (v11:Option V),Asc y∧y.length≤3600∧(okW y=true→∀ z ∈ Txt.words (pad y),ZvH z)∧(okW y=true→Zdn kn (Txt.words (pad y))=none)∧σ=[some (.ref sc),some (.int (m:Int)),some (.ref nl),some (.ref tp'),some (.int (way:Int)),some (.int more),some (.int pl),some (.ref kl'),some (.ref wp),some (.str x),some (.str y),v11,none,none]) ?_ ?_
 rotate_left
 ·intro Kn hK
  walk_at "rs"
  refine Zcj (fun h11=>?_) (fun h11=>?_)
  ·walk_at "rs"
   refine ZiZ ?_
   walk_at "rs"
   refine ZDL (Zcd (by omega)) ?_
   walk_at "rs"
   obtain ⟨k,hk,hkn2⟩ :=Zqz pl (show 0 < x.length + 1 by omega)
   have hk':pl % ((x.length:Int) + 1)=(k:Int):=by rw [← hk]; congr 1
   (try refine i_rI (by omega) ?_)
   rw [hk']
   walk_at "rs"
   have l1:(Txt.slice x none (some (k:Int))).length=k:=by
    rcases PyProof.Rows.slice_ns_cases' x (k:Int) with ⟨a,b⟩ | ⟨a,b,c⟩ | ⟨a,b⟩ <;> omega
   have l2:(Txt.slice x (some (k:Int)) none).length=x.length - k:=by
    rcases PyProof.Rows.slice_sn_cases' x (k:Int) with ⟨a,b⟩ | ⟨a,b⟩ | ⟨a,b,c⟩ <;> omega
   refine ZAD (by omega) ?_
   walk_at "rs"
   refine ⟨more,rfl,fun d hd hda=>?_⟩
   have l3:Str.length ⟨#[d]⟩=1:=rfl
   refine Zlf (Zcd (by omega)) ?_
   walk_at "rs"
   refine ZAD (by omega) ?_
   refine Zlf (Zcd (by rw [Zan]; omega)) ?_
   walk_at "rs"
   have hmem:d ∈ (Txt.slice x none (some (k:Int)) ++ ⟨#[d]⟩ ++ Txt.slice x (some (k:Int)) none).cps.toList:=by
    rw [list_append,list_append]
    simp
   have hbad:okW (Txt.slice x none (some (k:Int)) ++ ⟨#[d]⟩ ++ Txt.slice x (some (k:Int)) none)=true→False:=fun h=>by
    have:=List.all_eq_true.mp h d hmem
    rw [hda] at this
    cases this
   refine hK _ _ ⟨Same.refl _,_,_,Zwl (Zwl (Zyq (Zyn hal) _ _) (fun c hc=>by
    have hc:c ∈ [d]:=hc
    rw [List.mem_singleton.mp hc]; exact hd)) (Zyq (Zyn hal) _ _),by rw [Zan,Zan]; omega,fun h=>(hbad h).elim,fun h=>(hbad h).elim,rfl⟩
  ·walk_at "rs"
   (try rw [List.length_map])
   refine Zcj (fun hl=>?_) (fun hl=>?_)
   ·have hkz:kn=zs∧way≤10:=by
     rcases hkn with ⟨a,b⟩ | ⟨a,b,c⟩ | ⟨a,b,c,d⟩
     ·exact ⟨a,by omega⟩
     ·exact ⟨a,by omega⟩
     ·rw [b,List.length_take] at hl; omega
    obtain ⟨rfl,hw10⟩ :=hkz
    walk_at "rs"
    refine ⟨wp,nl,_,kn,way,pl,more,rfl,e6,el6,⟨⟨_,hrd⟩,hz2,fun z hz=>(hwd z hz).x,by omega,by omega,by omega⟩,hw10,fun l' ws' H7 s7 e7 hno hw7 hl7=>?_⟩
    walk_at "rs"
    refine ⟨l',ws',more,rfl,e7,hw7,by omega,fun y hya hyl hyw=>?_⟩
    walk_at "rs"
    exact hK _ _ ⟨s7,y,_,Zyn hya,by omega,fun _=>by rw [hyw]; exact fun z hz=>Zz0 (hw7 z hz),fun _=>by rw [hyw]; exact hno,rfl⟩
   ·have hkz:kn=zs.take (m - 1)∧1 < m∧zs.getD (m - 1) Str.empty ∈ wdG true zs tr':=by
     rcases hkn with ⟨a,b⟩ | ⟨a,b,c⟩ | ⟨a,b,c,d⟩
     ·rw [a] at hl; exact absurd (by omega) hl
     ·rw [a] at hl; exact absurd (by omega) hl
     ·exact ⟨b,c,d⟩
    obtain ⟨rfl,hgt,hmem⟩ :=hkz
    walk_at "rs"
    refine hK _ _ ⟨Same.refl _,x,_,Zyn hal,by omega,hplx,fun _=>?_,rfl⟩
    rw [hxw]
    have hsome:=ZeS (ns:=zs) (k:=m - 1) (by omega)
    have hin:=hz2 _ (List.mem_of_getElem? hsome)
    refine un_K (ZAN fun z hz=>hz2 z (List.mem_of_mem_take hz)) hmem (ZCd hin.1.1 hin.2 fun hc=>?_)
    have ez:=Zeg hsome
    rw [show m - 1 + 1=zs.length by omega,List.take_length] at ez
    rw [ez,List.nodup_append] at hz3
    exact hz3.2.2 _ hc _ (List.mem_singleton.mpr rfl) rfl
 have hkl:kn.length≤6∧∀ z ∈ kn,Lt z:=by
  rcases hkn with ⟨rfl,_⟩ | ⟨rfl,_⟩ | ⟨_,rfl,_⟩
  ·exact ⟨by omega,fun z hz=>(hNm z hz).1⟩
  ·exact ⟨by omega,fun z hz=>(hNm z hz).1⟩
  ·exact ⟨by rw [List.length_take]; omega,fun z hz=>(hNm z (List.mem_of_mem_take hz)).1⟩
 rintro σ H7 ⟨s7,y,v11,hya,hyl,hyp,hyn,rfl⟩
 walk_at "rd"
 refine ⟨y,kl',kn,rfl,s7 _ _ ek6,by omega,hkl.2,hya,hyl,hyp,hyn,fun H8 s8=>?_⟩
 walk_at "rd"
 refine Zcc rfl ?_
 have w8:=s7.trans s8
 walk_at "rd"
 refine ZyQ (.inl (SqL.of (w8 _ _ el6))) fun h1 H9 s9 n9 e9=>?_
 walk_at "rd"
 refine ⟨x,h1,zs,rfl,Zyn hal,by omega,e9,by omega,hplx,fun hf=>absurd hokx (by rw [hf]; decide),fun _ hf=>absurd hf (by rw [hxw,hrd]; exact fun z=>nomatch z),fun _ f hf fq H10 s10 fE=>?_⟩
 obtain rfl:fmT id tr'=f:=by
  rw [hxw,hrd] at hf
  exact Option.some.inj hf
 have fA:=FmE.tr tr' 63 fq hnT5 fE
 obtain ⟨cf,ty,ks⟩ :=FmAt.isi T fA
 have w10:=w8.trans (s9.trans s10)
 have h20:∀ z ∈ zs,z.length≤20:=fun z hz=>by have:=(hNm z hz).2.2; omega
 have wt1:=wt_T id tr'
 have lo1:(fmT id tr').low zs.length=true:=ZFW (fun k hk=>hk) tr' hokz
 have sh1:=(Zns (ns':=zs) (ns:=zs) (π:=id) (m:=zs.length) (fun k hk=>rfl) (fun k hk=>(Zxg hNm hk).1) tr' hokz).2
 walk_at "rd"
 refine ZJr ty ks ?_
 walk_at "rd"
 refine Zcc rfl ?_
 walk_at "rd"
 obtain ⟨C,dx',fs',e',hC,hlk⟩ :=fA.ins "shown" (by decide +kernel) (by decide +kernel) (by decide +kernel) (by decide +kernel)
 refine ⟨fq,C,dx',fs',rfl,e',hC,hlk,?_⟩
 walk_at "rd"
 refine ZyQ (.inl (SqL.of (w10 _ _ el6))) fun h3 H11 s11 n11 e11=>?_
 walk_at "rd"
 refine ⟨s11 _ _ e',fq,h3,_,zs,rfl,FmAt.mono (Ext.of s11) fA,e11,h20,lo1,by omega,fun H12 s12=>?_⟩
 have w12:=w10.trans (s11.trans s12)
 walk_at "rd"
 refine ZdP rfl ?_
 walk_at "rd"
 refine ⟨tp',nl,tr',zs,rfl,tr6.same w12,w12 _ _ el6,hokz,hnT5,fun k hk=>Zxg hNm hk,fun due H13 s13 hdue=>?_⟩
 obtain rfl:Zd2 zs (fmT id tr')=due:=Zx9 (sh1.trans hdue.symm)
 walk_at "rd"
 rw [decide_eq_true rfl]
 exact q _
end
unseal PE PA PS PSs
end LW
theorem PySem.W.Fast.tw2881844985192241153 : True := trivial
theorem PySem.W.Fast.tw1680891797835200002 : True := trivial
theorem PySem.W.Fast.tw8380577716315958358 : True := trivial
theorem PySem.W.Fast.tw6207125115711816146 : True := trivial
theorem PySem.W.Fast.tw1614352664216730935 : True := trivial
theorem PySem.W.Fast.tw18331855539557644363 : True := trivial
theorem PySem.W.Fast.tw11311231319815649486 : True := trivial
theorem PySem.W.Fast.tw3774596963329988677 : True := trivial
theorem PySem.W.Fast.tw7709341975885940162 : True := trivial
theorem PySem.W.Fast.tw13054641854843531982 : True := trivial
theorem PySem.W.Fast.tw5817791003423424414 : True := trivial
theorem PySem.W.Fast.tw828425852396696320 : True := trivial
theorem PySem.W.Fast.tw12708253703445115222 : True := trivial
theorem PySem.W.Fast.tw9648518078146709930 : True := trivial
theorem PySem.W.Fast.tw9500405184762279571 : True := trivial
theorem PySem.W.Fast.tw9585877597842400619 : True := trivial
theorem PySem.W.Fast.tw8073447484645326603 : True := trivial
theorem PySem.W.Fast.tw7179136835851346728 : True := trivial
theorem PySem.W.Fast.tw18371284523469307023 : True := trivial
theorem PySem.W.Fast.tw8360031111714575219 : True := trivial
theorem PySem.W.Fast.tw10011556472919914453 : True := trivial
theorem PySem.W.Fast.tw8390045870310847121 : True := trivial
theorem PySem.W.Fast.tw2679088158431687809 : True := trivial
theorem PySem.W.Fast.tw16736474439233599135 : True := trivial
theorem PySem.W.Fast.tw8714607475759380944 : True := trivial
theorem PySem.W.Fast.tw15814433143358436947 : True := trivial
theorem PySem.W.Fast.tw11331494916473376803 : True := trivial
theorem PySem.W.Fast.tw11088265118863961988 : True := trivial
theorem PySem.W.Fast.tw695197208806505062 : True := trivial
theorem PySem.W.Fast.tw17721464586072983562 : True := trivial
theorem PySem.W.Fast.tw7975180654216736170 : True := trivial
theorem PySem.W.Fast.tw6514224127660664119 : True := trivial
theorem PySem.W.Fast.tw11160837923293666786 : True := trivial
theorem PySem.W.Fast.tw15725098311972909118 : True := trivial
theorem PySem.W.Fast.tw17886052182530264556 : True := trivial
theorem PySem.W.Fast.tw4748670452546895 : True := trivial
theorem PySem.W.Fast.tw1699424017666644656 : True := trivial
theorem PySem.W.Fast.tw11740138834514344772 : True := trivial
theorem PySem.W.Fast.tw14524791625049523063 : True := trivial
theorem PySem.W.Fast.tw7470333552404434587 : True := trivial
theorem PySem.W.Fast.tw13672916858552336227 : True := trivial
theorem PySem.W.Fast.tw8851104859954796287 : True := trivial
theorem PySem.W.Fast.tw17623645975524349110 : True := trivial
theorem PySem.W.Fast.tw1733097719854690425 : True := trivial
theorem PySem.W.Fast.tw1412331378448854622 : True := trivial
theorem PySem.W.Fast.tw8748340249487218085 : True := trivial
theorem PySem.W.Fast.tw13863704801080365234 : True := trivial
theorem PySem.W.Fast.tw4384940915364373275 : True := trivial
theorem PySem.W.Fast.tw2394194366593601392 : True := trivial
theorem PySem.W.Fast.tw1672456447163164630 : True := trivial
theorem PySem.W.Fast.tw12577136487004131948 : True := trivial
theorem PySem.W.Fast.tw11227233043340670314 : True := trivial
theorem PySem.W.Fast.tw17143166086983965719 : True := trivial
theorem PySem.W.Fast.tw13434415883417820294 : True := trivial
theorem PySem.W.Fast.tw5344796188267577089 : True := trivial
theorem PySem.W.Fast.tw16195630334113537994 : True := trivial
theorem PySem.W.Fast.tw11891200149143349669 : True := trivial
theorem PySem.W.Fast.tw2569739026837410351 : True := trivial
theorem PySem.W.Fast.tw1337302209880016946 : True := trivial
theorem PySem.W.Fast.tw3018905323309874655 : True := trivial
theorem PySem.W.Fast.tw14465296900720270129 : True := trivial
theorem PySem.W.Fast.tw12540635585433977586 : True := trivial
theorem PySem.W.Fast.tw9671056292930238208 : True := trivial
theorem PySem.W.Fast.tw4444367745286829080 : True := trivial
theorem PySem.W.Fast.tw4147093021110050049 : True := trivial
theorem PySem.W.Fast.tw5254054015310318723 : True := trivial
theorem PySem.W.Fast.tw13479303447064600983 : True := trivial
theorem PySem.W.Fast.tw6316322178403500710 : True := trivial
theorem PySem.W.Fast.tw5986463981130996660 : True := trivial
theorem PySem.W.Fast.tw441611554024126532 : True := trivial
theorem PySem.W.Fast.tw13728724600622987054 : True := trivial
theorem PySem.W.Fast.tw5581022753305040711 : True := trivial
theorem PySem.W.Fast.tw12982755853650371861 : True := trivial
theorem PySem.W.Fast.tw9325293715403754656 : True := trivial
theorem PySem.W.Fast.tw8144389088479916047 : True := trivial
theorem PySem.W.Fast.tw18204011316294291073 : True := trivial
theorem PySem.W.Fast.tw7983490761825172715 : True := trivial
theorem PySem.W.Fast.tw17100352242462643148 : True := trivial
theorem PySem.W.Fast.tw9148273264267657010 : True := trivial
theorem PySem.W.Fast.tw13882195815634406785 : True := trivial
theorem PySem.W.Fast.tw849091339555401374 : True := trivial
theorem PySem.W.Fast.tw8880975219452815107 : True := trivial
theorem PySem.W.Fast.tw13327779632559546833 : True := trivial
theorem PySem.W.Fast.tw16311413413942001356 : True := trivial
theorem PySem.W.Fast.tw17940206483314567754 : True := trivial
theorem PySem.W.Fast.tw8725072871911578091 : True := trivial
theorem PySem.W.Fast.tw14006009483456216134 : True := trivial
theorem PySem.W.Fast.tw7054744688461313487 : True := trivial
theorem PySem.W.Fast.tw7237307699832120327 : True := trivial
theorem PySem.W.Fast.tw12481442212067595073 : True := trivial
theorem PySem.W.Fast.tw9279194584482847966 : True := trivial
theorem PySem.W.Fast.tw18394218537422134174 : True := trivial
theorem PySem.W.Fast.tw10257359625096516988 : True := trivial
theorem PySem.W.Fast.tw15645486729581144870 : True := trivial
theorem PySem.W.Fast.tw8353277257705565471 : True := trivial
theorem PySem.W.Fast.tw14359160213721838785 : True := trivial
theorem PySem.W.Fast.tw2370322192274180211 : True := trivial
theorem PySem.W.Fast.tw6951433896862999983 : True := trivial
theorem PySem.W.Fast.tw10651122930980078118 : True := trivial
theorem PySem.W.Fast.tw6908872663551169314 : True := trivial
theorem PySem.W.Fast.tw7320729505249359419 : True := trivial
theorem PySem.W.Fast.tw17557637085594392052 : True := trivial
theorem PySem.W.Fast.tw6080434996281860158 : True := trivial
theorem PySem.W.Fast.tw4188470168552111641 : True := trivial
theorem PySem.W.Fast.tw11809127412403128976 : True := trivial
theorem PySem.W.Fast.tw10728705907793144897 : True := trivial
theorem PySem.W.Fast.tw12105348772781191554 : True := trivial
theorem PySem.W.Fast.tw440936546533867406 : True := trivial
theorem PySem.W.Fast.tw16821966147784107559 : True := trivial
theorem PySem.W.Fast.tw17771127610687489733 : True := trivial
theorem PySem.W.Fast.tw18085168561460896110 : True := trivial
theorem PySem.W.Fast.tw1190748496679999420 : True := trivial
theorem PySem.W.Fast.tw4518706841555221769 : True := trivial
theorem PySem.W.Fast.tw6170031787177367302 : True := trivial
theorem PySem.W.Fast.tw12982075613371182518 : True := trivial
theorem PySem.W.Fast.tw9307232972064068578 : True := trivial
theorem PySem.W.Fast.tw2689919893301350757 : True := trivial
theorem PySem.W.Fast.tw7104202842418735828 : True := trivial
theorem PySem.W.Fast.tw2861560947650530762 : True := trivial
theorem PySem.W.Fast.tw431218429509718015 : True := trivial
theorem PySem.W.Fast.tw1755720958818148766 : True := trivial
theorem PySem.W.Fast.tw9985312376391203751 : True := trivial
theorem PySem.W.Fast.tw7920133660364078735 : True := trivial
theorem PySem.W.Fast.tw1267711096994656401 : True := trivial
theorem PySem.W.Fast.tw18342262063004582383 : True := trivial
theorem PySem.W.Fast.tw1980463176773402170 : True := trivial
theorem PySem.W.Fast.tw11283615174989101953 : True := trivial
theorem PySem.W.Fast.tw6126163481923243359 : True := trivial
theorem PySem.W.Fast.tw5106416959431775744 : True := trivial
theorem PySem.W.Fast.tw14633509689660223260 : True := trivial
theorem PySem.W.Fast.tw2126924145089500903 : True := trivial
theorem PySem.W.Fast.tw13412997864717306261 : True := trivial
theorem PySem.W.Fast.tw15278827312471085314 : True := trivial
theorem PySem.W.Fast.tw5837097422046237236 : True := trivial
theorem PySem.W.Fast.tw15054011859906654495 : True := trivial
theorem PySem.W.Fast.tw15036118819089436770 : True := trivial
theorem PySem.W.Fast.tw9260240601363564903 : True := trivial
theorem PySem.W.Fast.tw1299792092230965404 : True := trivial
theorem PySem.W.Fast.tw5524811001008531728 : True := trivial
theorem PySem.W.Fast.tw3099482737921980160 : True := trivial
theorem PySem.W.Fast.tw6263416490154077247 : True := trivial
theorem PySem.W.Fast.tw14616422951966106477 : True := trivial
theorem PySem.W.Fast.tw4804897592297923338 : True := trivial
theorem PySem.W.Fast.tw13775930567726369037 : True := trivial
theorem PySem.W.Fast.tw10294977057297782757 : True := trivial
theorem PySem.W.Fast.tw11127586152580793314 : True := trivial
theorem PySem.W.Fast.tw15679972361373219690 : True := trivial
theorem PySem.W.Fast.tw7303501120954235194 : True := trivial
theorem PySem.W.Fast.tw6343491860497815470 : True := trivial
theorem PySem.W.Fast.tw2576437233861868442 : True := trivial
theorem PySem.W.Fast.tw1201074012109863527 : True := trivial
theorem PySem.W.Fast.tw16092407687816384503 : True := trivial
theorem PySem.W.Fast.tw11613178838276912538 : True := trivial
theorem PySem.W.Fast.tw7458569108234079711 : True := trivial
theorem PySem.W.Fast.tw11798365241375575712 : True := trivial
theorem PySem.W.Fast.tw15571319778751078236 : True := trivial
theorem PySem.W.Fast.tw17967329467901667919 : True := trivial
theorem PySem.W.Fast.tw8139990717681640691 : True := trivial
theorem PySem.W.Fast.tw8413191561130108588 : True := trivial
theorem PySem.W.Fast.tw17491675566355529359 : True := trivial
theorem PySem.W.Fast.tw6593752818451977194 : True := trivial
theorem PySem.W.Fast.tw13057124778316326046 : True := trivial
theorem PySem.W.Fast.tw2785794295529678289 : True := trivial
theorem PySem.W.Fast.tw553367874161351020 : True := trivial
theorem PySem.W.Fast.tw10122108572710271283 : True := trivial
theorem PySem.W.Fast.tw7157674164220245048 : True := trivial
theorem PySem.W.Fast.tw10994769786127944759 : True := trivial
theorem PySem.W.Fast.tw16812125329568348809 : True := trivial
theorem PySem.W.Fast.tw3450838989883000643 : True := trivial
theorem PySem.W.Fast.tw2448838444755281477 : True := trivial
theorem PySem.W.Fast.tw5803338670991808400 : True := trivial
theorem PySem.W.Fast.tw6386642440979685873 : True := trivial
theorem PySem.W.Fast.tw9907695920391498804 : True := trivial
theorem PySem.W.Fast.tw5477073092092748825 : True := trivial
theorem PySem.W.Fast.tw4147823147623635629 : True := trivial
theorem PySem.W.Fast.tw9241962507908395105 : True := trivial
theorem PySem.W.Fast.tw9356054289190579115 : True := trivial
theorem PySem.W.Fast.tw4857901690761776610 : True := trivial
theorem PySem.W.Fast.tw7638969432124764665 : True := trivial
theorem PySem.W.Fast.tw4531016309017391867 : True := trivial
theorem PySem.W.Fast.tw16922640717616499920 : True := trivial
theorem PySem.W.Fast.tw13660261676764447476 : True := trivial
theorem PySem.W.Fast.tw16850293068544322800 : True := trivial
theorem PySem.W.Fast.tw12269996094366484299 : True := trivial
theorem PySem.W.Fast.tw13016680911334516507 : True := trivial
theorem PySem.W.Fast.tw14676599525918047502 : True := trivial
theorem PySem.W.Fast.tw280193338311822280 : True := trivial
theorem PySem.W.Fast.tw16136845284839862875 : True := trivial
theorem PySem.W.Fast.tw47999813859850174 : True := trivial
theorem PySem.W.Fast.tw14406213913908002641 : True := trivial
theorem PySem.W.Fast.tw3537300640591736093 : True := trivial
theorem PySem.W.Fast.tw11302487827272319900 : True := trivial
theorem PySem.W.Fast.tw4353979350819395868 : True := trivial
theorem PySem.W.Fast.tw13537726950318965641 : True := trivial
theorem PySem.W.Fast.tw15150621330152625426 : True := trivial
theorem PySem.W.Fast.tw14130159505340203341 : True := trivial
theorem PySem.W.Fast.tw1856113860784704209 : True := trivial
theorem PySem.W.Fast.tw17037773043217072346 : True := trivial
theorem PySem.W.Fast.tw5733572199999190041 : True := trivial
theorem PySem.W.Fast.tw3063767208469534506 : True := trivial
theorem PySem.W.Fast.tw12929511236210525243 : True := trivial
theorem PySem.W.Fast.tw12041189957132959983 : True := trivial
theorem PySem.W.Fast.tw4921488895596653371 : True := trivial
theorem PySem.W.Fast.tw2414942910128763965 : True := trivial
theorem PySem.W.Fast.tw5082562156509814901 : True := trivial
theorem PySem.W.Fast.tw4638113255716933372 : True := trivial
theorem PySem.W.Fast.tw10579047630073253748 : True := trivial
theorem PySem.W.Fast.tw5283838680195089596 : True := trivial
theorem PySem.W.Fast.tw8514367249914778217 : True := trivial
theorem PySem.W.Fast.tw10512273247559335638 : True := trivial
theorem PySem.W.Fast.tw5189760055079157695 : True := trivial
theorem PySem.W.Fast.tw2495105046795239442 : True := trivial
theorem PySem.W.Fast.tw16560953478464143811 : True := trivial
theorem PySem.W.Fast.tw6603523847512548053 : True := trivial
theorem PySem.W.Fast.tw13269401329801735569 : True := trivial
theorem PySem.W.Fast.tw5588971040815991728 : True := trivial
theorem PySem.W.Fast.tw8079936987197997768 : True := trivial
theorem PySem.W.Fast.tw12739258555852954825 : True := trivial
theorem PySem.W.Fast.tw7631972507163773751 : True := trivial
theorem PySem.W.Fast.tw13854816094055018225 : True := trivial
theorem PySem.W.Fast.tw10112152825324727173 : True := trivial
theorem PySem.W.Fast.tw8522790785752506808 : True := trivial
theorem PySem.W.Fast.tw5590428800071548735 : True := trivial
theorem PySem.W.Fast.tw17242470057817386712 : True := trivial
theorem PySem.W.Fast.tw15504377399128860070 : True := trivial
theorem PySem.W.Fast.tw13634064156683116392 : True := trivial
theorem PySem.W.Fast.tw10463554014885963355 : True := trivial
theorem PySem.W.Fast.tw3639284738185063597 : True := trivial
theorem PySem.W.Fast.tw9848312622321122181 : True := trivial
theorem PySem.W.Fast.tw8443332895802574018 : True := trivial
theorem PySem.W.Fast.tw5379036655078721506 : True := trivial
theorem PySem.W.Fast.tw10611298779660121340 : True := trivial
theorem PySem.W.Fast.tw3678879892624372182 : True := trivial
theorem PySem.W.Fast.tw6708355796447939245 : True := trivial
theorem PySem.W.Fast.tw10936867761728082516 : True := trivial
theorem PySem.W.Fast.tw5052656281042596365 : True := trivial
theorem PySem.W.Fast.tw1298896716128456668 : True := trivial
theorem PySem.W.Fast.tw14737822001095528939 : True := trivial
theorem PySem.W.Fast.tw4193927926234078919 : True := trivial
theorem PySem.W.Fast.tw4098972724415228007 : True := trivial
theorem PySem.W.Fast.tw11495421811337259152 : True := trivial
theorem PySem.W.Fast.tw12032695218504282510 : True := trivial
theorem PySem.W.Fast.tw8225247487736511237 : True := trivial
theorem PySem.W.Fast.tw11284114086586469877 : True := trivial
theorem PySem.W.Fast.tw1197467848491230438 : True := trivial
theorem PySem.W.Fast.tw1678268153376261486 : True := trivial
theorem PySem.W.Fast.tw3383011364740661758 : True := trivial
theorem PySem.W.Fast.tw12341194453523489488 : True := trivial
theorem PySem.W.Fast.tw16604675012403625799 : True := trivial
theorem PySem.W.Fast.tw4323927100540950392 : True := trivial
theorem PySem.W.Fast.tw10999256096437141220 : True := trivial
theorem PySem.W.Fast.tw12254740494790661518 : True := trivial
theorem PySem.W.Fast.tw12323100109901297284 : True := trivial
theorem PySem.W.Fast.tw16563701412075970844 : True := trivial
theorem PySem.W.Fast.tw2331739761054750058 : True := trivial
theorem PySem.W.Fast.tw6294005229728783271 : True := trivial
theorem PySem.W.Fast.tw10013530937518078305 : True := trivial
theorem PySem.W.Fast.tw11752916004886125819 : True := trivial
theorem PySem.W.Fast.tw879268337153836615 : True := trivial
theorem PySem.W.Fast.tw8640114283198828672 : True := trivial
theorem PySem.W.Fast.tw426763728678765212 : True := trivial
theorem PySem.W.Fast.tw4884460920981415975 : True := trivial
theorem PySem.W.Fast.tw2235672498363765668 : True := trivial
theorem PySem.W.Fast.tw7018270616560383592 : True := trivial
theorem PySem.W.Fast.tw3941046138655725976 : True := trivial
theorem PySem.W.Fast.tw15049379860424116935 : True := trivial
theorem PySem.W.Fast.tw13086397256427803380 : True := trivial
theorem PySem.W.Fast.tw2203028600155101669 : True := trivial
theorem PySem.W.Fast.tw17794155256408479064 : True := trivial
theorem PySem.W.Fast.tw8762978593189556718 : True := trivial
theorem PySem.W.Fast.tw8665059458718776038 : True := trivial
theorem PySem.W.Fast.tw14990942688517275282 : True := trivial
theorem PySem.W.Fast.tw3736747862470232392 : True := trivial
theorem PySem.W.Fast.tw3477170298601872126 : True := trivial
theorem PySem.W.Fast.tw18247833405285987333 : True := trivial
theorem PySem.W.Fast.tw1475957282183102270 : True := trivial
theorem PySem.W.Fast.tw2646428974971936661 : True := trivial
theorem PySem.W.Fast.tw6323542607410036391 : True := trivial
theorem PySem.W.Fast.tw10428528164186208317 : True := trivial
theorem PySem.W.Fast.tw16388877894707436001 : True := trivial
theorem PySem.W.Fast.tw11393976983459555294 : True := trivial
theorem PySem.W.Fast.tw13620345084770190978 : True := trivial
theorem PySem.W.Fast.tw7943072005692674267 : True := trivial
theorem PySem.W.Fast.tw1610801930345731521 : True := trivial
theorem PySem.W.Fast.tw8089710019958247446 : True := trivial
theorem PySem.W.Fast.tw9586810417353388769 : True := trivial
theorem PySem.W.Fast.tw11140305597793591157 : True := trivial
theorem PySem.W.Fast.tw16537587724933193115 : True := trivial
theorem PySem.W.Fast.tw55281987324123398 : True := trivial
theorem PySem.W.Fast.tw1104204692060061010 : True := trivial
theorem PySem.W.Fast.tw15717415145061318668 : True := trivial
theorem PySem.W.Fast.tw7730446727926740099 : True := trivial
theorem PySem.W.Fast.tw4810111959537242777 : True := trivial
theorem PySem.W.Fast.tw16595479716425378398 : True := trivial
theorem PySem.W.Fast.tw11743913447174619751 : True := trivial
theorem PySem.W.Fast.tw11293865338610475677 : True := trivial
theorem PySem.W.Fast.tw15075510642949348089 : True := trivial
theorem PySem.W.Fast.tw10611277387596851408 : True := trivial
theorem PySem.W.Fast.tw15715444990678403144 : True := trivial
theorem PySem.W.Fast.tw8393650938453736502 : True := trivial
theorem PySem.W.Fast.tw14746729406845675128 : True := trivial
theorem PySem.W.Fast.tw5198756372715360909 : True := trivial
theorem PySem.W.Fast.tw3434598086799141282 : True := trivial
theorem PySem.W.Fast.tw13325316565581298011 : True := trivial
theorem PySem.W.Fast.tw1161595791338985748 : True := trivial
theorem PySem.W.Fast.tw15716685695258657644 : True := trivial
theorem PySem.W.Fast.tw13810292454429021658 : True := trivial
theorem PySem.W.Fast.tw5561152939039668110 : True := trivial
theorem PySem.W.Fast.tw10103335659512729439 : True := trivial
theorem PySem.W.Fast.tw2054225077709434183 : True := trivial
theorem PySem.W.Fast.tw10142528207955966535 : True := trivial
theorem PySem.W.Fast.tw2664337820656408109 : True := trivial
theorem PySem.W.Fast.tw12897805207007779033 : True := trivial
theorem PySem.W.Fast.tw8702611086652084377 : True := trivial
theorem PySem.W.Fast.tw14684987709445353063 : True := trivial
theorem PySem.W.Fast.tw9690656033669617475 : True := trivial
theorem PySem.W.Fast.tw8531339522511125993 : True := trivial
theorem PySem.W.Fast.tw8213960773433824242 : True := trivial
theorem PySem.W.Fast.tw14687573653140660284 : True := trivial
theorem PySem.W.Fast.tw15074320645911672334 : True := trivial
theorem PySem.W.Fast.tw14944367487405072870 : True := trivial
theorem PySem.W.Fast.tw1456467137321035654 : True := trivial
theorem PySem.W.Fast.tw8627383049905905025 : True := trivial
theorem PySem.W.Fast.tw8094780302386730550 : True := trivial
theorem PySem.W.Fast.tw8032050772286473537 : True := trivial
theorem PySem.W.Fast.tw14924741704850926077 : True := trivial
theorem PySem.W.Fast.tw5619534168544818038 : True := trivial
theorem PySem.W.Fast.tw8096569858524348048 : True := trivial
theorem PySem.W.Fast.tw14452427212877745231 : True := trivial
theorem PySem.W.Fast.tw15327255771180661764 : True := trivial
theorem PySem.W.Fast.tw706296544724561346 : True := trivial
theorem PySem.W.Fast.tw10211678364223348315 : True := trivial
theorem PySem.W.Fast.tw12079538377527524213 : True := trivial
theorem PySem.W.Fast.tw9570074920820120742 : True := trivial
theorem PySem.W.Fast.tw5082951821301847516 : True := trivial
theorem PySem.W.Fast.tw17981037595871761499 : True := trivial
theorem PySem.W.Fast.tw15750898290254752021 : True := trivial
theorem PySem.W.Fast.tw5112316333761131427 : True := trivial
theorem PySem.W.Fast.tw15077417369689727602 : True := trivial
theorem PySem.W.Fast.tw10621464056300604722 : True := trivial
theorem PySem.W.Fast.tw5428450227513341591 : True := trivial
theorem PySem.W.Fast.tw9201185049011504142 : True := trivial
theorem PySem.W.Fast.tw11242899025140171621 : True := trivial
theorem PySem.W.Fast.tw10206164235010723564 : True := trivial
theorem PySem.W.Fast.tw6933206719366334401 : True := trivial
theorem PySem.W.Fast.tw11192565180963334494 : True := trivial
theorem PySem.W.Fast.tw13567218950278223126 : True := trivial
theorem PySem.W.Fast.tw16399442411479987419 : True := trivial
theorem PySem.W.Fast.tw10326685913275415173 : True := trivial
theorem PySem.W.Fast.tw3073931827723402134 : True := trivial
theorem PySem.W.Fast.tw3064386189697725142 : True := trivial
theorem PySem.W.Fast.tw15091253119373407233 : True := trivial
theorem PySem.W.Fast.tw832617358821031188 : True := trivial
theorem PySem.W.Fast.tw16003652977118719565 : True := trivial
theorem PySem.W.Fast.tw5965055828925345653 : True := trivial
theorem PySem.W.Fast.tw9780959657972264607 : True := trivial
theorem PySem.W.Fast.tw3610326039570154999 : True := trivial
theorem PySem.W.Fast.tw16378453563849706014 : True := trivial
theorem PySem.W.Fast.tw4984284654505026087 : True := trivial
theorem PySem.W.Fast.tw108012163044416068 : True := trivial
theorem PySem.W.Fast.tw11779773802448778070 : True := trivial
theorem PySem.W.Fast.tw5142721726028373611 : True := trivial
theorem PySem.W.Fast.tw2663991381812329177 : True := trivial
theorem PySem.W.Fast.tw9640260446528565926 : True := trivial
theorem PySem.W.Fast.tw3799943354920474538 : True := trivial
theorem PySem.W.Fast.tw10411947754007467556 : True := trivial
theorem PySem.W.Fast.tw17748568461370978161 : True := trivial
theorem PySem.W.Fast.tw4854522436846984407 : True := trivial
theorem PySem.W.Fast.tw8519209984405510012 : True := trivial
theorem PySem.W.Fast.tw7977563586380772495 : True := trivial
theorem PySem.W.Fast.tw17698437632481403897 : True := trivial
theorem PySem.W.Fast.tw5206604047934618958 : True := trivial
theorem PySem.W.Fast.tw3075123516961101454 : True := trivial
theorem PySem.W.Fast.tw9661364113324591807 : True := trivial
theorem PySem.W.Fast.tw2574404322697479046 : True := trivial
theorem PySem.W.Fast.tw17615040180734120152 : True := trivial
theorem PySem.W.Fast.tw5176494774739937531 : True := trivial
theorem PySem.W.Fast.tw7783399460094588773 : True := trivial
theorem PySem.W.Fast.tw8746445514610356664 : True := trivial
theorem PySem.W.Fast.tw8543642513609578030 : True := trivial
theorem PySem.W.Fast.tw10573716864834194979 : True := trivial
theorem PySem.W.Fast.tw7029342078401530845 : True := trivial
theorem PySem.W.Fast.tw5892004599481771737 : True := trivial
theorem PySem.W.Fast.tw13091625654047565386 : True := trivial
theorem PySem.W.Fast.tw16749870788711440250 : True := trivial
theorem PySem.W.Fast.tw257284537953669367 : True := trivial
theorem PySem.W.Fast.tw3778647521254231691 : True := trivial
theorem PySem.W.Fast.tw8348049570388685859 : True := trivial
theorem PySem.W.Fast.tw2234026166890258033 : True := trivial
theorem PySem.W.Fast.tw12363027322045547356 : True := trivial
theorem PySem.W.Fast.tw14975702454388792833 : True := trivial
theorem PySem.W.Fast.tw17017124490818811450 : True := trivial
theorem PySem.W.Fast.tw1379096862310312915 : True := trivial
theorem PySem.W.Fast.tw16209239983363387256 : True := trivial
theorem PySem.W.Fast.tw3397774764752619430 : True := trivial
theorem PySem.W.Fast.tw12965593682090665179 : True := trivial
theorem PySem.W.Fast.tw12524385021560047529 : True := trivial
theorem PySem.W.Fast.tw5419807050681531329 : True := trivial
theorem PySem.W.Fast.tw17282385855828843251 : True := trivial
theorem PySem.W.Fast.tw7095183533556780790 : True := trivial
theorem PySem.W.Fast.tw4501989966725894002 : True := trivial
theorem PySem.W.Fast.tw2003547037569407088 : True := trivial
theorem PySem.W.Fast.tw9445823234767593664 : True := trivial
theorem PySem.W.Fast.tw2876150954409646885 : True := trivial
theorem PySem.W.Fast.tw6586342771293323119 : True := trivial
theorem PySem.W.Fast.tw13704149177089699121 : True := trivial
theorem PySem.W.Fast.tw13256803582837344955 : True := trivial
theorem PySem.W.Fast.tw17990917609116228306 : True := trivial
theorem PySem.W.Fast.tw5428021881511460271 : True := trivial
theorem PySem.W.Fast.tw10660105823817518215 : True := trivial
theorem PySem.W.Fast.tw10293524947335833176 : True := trivial
theorem PySem.W.Fast.tw9027175125929334876 : True := trivial
theorem PySem.W.Fast.tw17892209566162692557 : True := trivial
theorem PySem.W.Fast.tw13315188112322179328 : True := trivial
theorem PySem.W.Fast.tw1015498833619896815 : True := trivial
theorem PySem.W.Fast.tw4869800258328023609 : True := trivial
theorem PySem.W.Fast.tw13589350045331167367 : True := trivial
theorem PySem.W.Fast.tw13831811088799529071 : True := trivial
theorem PySem.W.Fast.tw9723488997072203474 : True := trivial
theorem PySem.W.Fast.tw14502728780262402366 : True := trivial
theorem PySem.W.Fast.tw15856797904565271882 : True := trivial
theorem PySem.W.Fast.tw10563188083505152199 : True := trivial
theorem PySem.W.Fast.tw16258758308179440367 : True := trivial
theorem PySem.W.Fast.tw1303364440320374015 : True := trivial
theorem PySem.W.Fast.tw14927144704842840791 : True := trivial
theorem PySem.W.Fast.tw195895703306639120 : True := trivial
theorem PySem.W.Fast.tw2844231013229489956 : True := trivial
theorem PySem.W.Fast.tw6516967677758617735 : True := trivial
theorem PySem.W.Fast.tw8573930131132925674 : True := trivial
theorem PySem.W.Fast.tw14568571538628731189 : True := trivial
theorem PySem.W.Fast.tw18379566817082804786 : True := trivial
theorem PySem.W.Fast.tw6247814691762205850 : True := trivial
theorem PySem.W.Fast.tw12625483953619278976 : True := trivial
theorem PySem.W.Fast.tw14272085596157958304 : True := trivial
theorem PySem.W.Fast.tw1396372602831511456 : True := trivial
theorem PySem.W.Fast.tw15906576820889319617 : True := trivial
theorem PySem.W.Fast.tw8364862609581376071 : True := trivial
theorem PySem.W.Fast.tw10282682898750769131 : True := trivial
theorem PySem.W.Fast.tw9336465137575382451 : True := trivial
theorem PySem.W.Fast.tw9654480961807567559 : True := trivial
theorem PySem.W.Fast.tw2487912125216374547 : True := trivial
theorem PySem.W.Fast.tw15191038207459939365 : True := trivial
theorem PySem.W.Fast.tw12957833274676696658 : True := trivial
theorem PySem.W.Fast.tw8921127685509889508 : True := trivial
theorem PySem.W.Fast.tw4951931670982112612 : True := trivial
theorem PySem.W.Fast.tw2530401576757628400 : True := trivial
theorem PySem.W.Fast.tw15374246138885150454 : True := trivial
theorem PySem.W.Fast.tw16727057490233039958 : True := trivial
theorem PySem.W.Fast.tw7610083720859251200 : True := trivial
theorem PySem.W.Fast.tw1868657365491409585 : True := trivial
theorem PySem.W.Fast.tw1629549892620515287 : True := trivial
theorem PySem.W.Fast.tw15020971290997773056 : True := trivial
theorem PySem.W.Fast.tw17846047473074649804 : True := trivial
theorem PySem.W.Fast.tw13470201481421073080 : True := trivial
theorem PySem.W.Fast.tw14381031592779434108 : True := trivial
theorem PySem.W.Fast.tw15456185400985695323 : True := trivial
theorem PySem.W.Fast.tw15612730585047288338 : True := trivial
theorem PySem.W.Fast.tw4768843256003078784 : True := trivial
theorem PySem.W.Fast.tw16438920692109072855 : True := trivial
theorem PySem.W.Fast.tw16409833996397912766 : True := trivial
theorem PySem.W.Fast.tw5625534283236915667 : True := trivial
theorem PySem.W.Fast.tw5451127973682636377 : True := trivial
theorem PySem.W.Fast.tw18378608100835737562 : True := trivial
theorem PySem.W.Fast.tw6421455899379641047 : True := trivial
theorem PySem.W.Fast.tw8060232772654334076 : True := trivial
theorem PySem.W.Fast.tw5401442863926986257 : True := trivial
theorem PySem.W.Fast.tw14888073946445930388 : True := trivial
theorem PySem.W.Fast.tw10355460233163981993 : True := trivial
theorem PySem.W.Fast.tw579711765147969629 : True := trivial
theorem PySem.W.Fast.tw10427648970676415874 : True := trivial
theorem PySem.W.Fast.tw7606569677770582530 : True := trivial
theorem PySem.W.Fast.tw17205165378447524578 : True := trivial
theorem PySem.W.Fast.tw14825883459851554458 : True := trivial
theorem PySem.W.Fast.tw9971454823019711098 : True := trivial
theorem PySem.W.Fast.tw1716502854187581687 : True := trivial
theorem PySem.W.Fast.tw3280301021049256974 : True := trivial
theorem PySem.W.Fast.tw4083233774040701981 : True := trivial
theorem PySem.W.Fast.tw13023924856364473287 : True := trivial
theorem PySem.W.Fast.tw2018840196621621375 : True := trivial
theorem PySem.W.Fast.tw5800018156096291340 : True := trivial
theorem PySem.W.Fast.tw7188464962837953939 : True := trivial
theorem PySem.W.Fast.tw12558935470945431977 : True := trivial
theorem PySem.W.Fast.tw14399646357687106264 : True := trivial
theorem PySem.W.Fast.tw10582745597694800738 : True := trivial
theorem PySem.W.Fast.tw17476450403934348792 : True := trivial
theorem PySem.W.Fast.tw2291893408953251495 : True := trivial
theorem PySem.W.Fast.tw976468314595470185 : True := trivial
theorem PySem.W.Fast.tw15806594315232176108 : True := trivial
theorem PySem.W.Fast.tw4635928634474672366 : True := trivial
theorem PySem.W.Fast.tw974225236901297695 : True := trivial
theorem PySem.W.Fast.tw11488069780375329525 : True := trivial
theorem PySem.W.Fast.tw17067626049214218322 : True := trivial
theorem PySem.W.Fast.tw2217545829623711990 : True := trivial
theorem PySem.W.Fast.tw16847447827914539218 : True := trivial
theorem PySem.W.Fast.tw12827158183967957378 : True := trivial
theorem PySem.W.Fast.tw7982066913078820880 : True := trivial
theorem PySem.W.Fast.tw17660764227644666340 : True := trivial
theorem PySem.W.Fast.tw11932240043257629470 : True := trivial
theorem PySem.W.Fast.tw4843102889032771472 : True := trivial
theorem PySem.W.Fast.tw455519234814017730 : True := trivial
theorem PySem.W.Fast.tw4628673114559427135 : True := trivial
theorem PySem.W.Fast.tw9183836514169680082 : True := trivial
theorem PySem.W.Fast.tw16681687478014588798 : True := trivial
theorem PySem.W.Fast.tw2586124752425893181 : True := trivial
theorem PySem.W.Fast.tw13307806111686131724 : True := trivial
theorem PySem.W.Fast.tw14339313743486783479 : True := trivial
theorem PySem.W.Fast.tw11546020676388338866 : True := trivial
theorem PySem.W.Fast.tw698654552330157935 : True := trivial
theorem PySem.W.Fast.tw13183680993018805878 : True := trivial
theorem PySem.W.Fast.tw17104747588224952230 : True := trivial
theorem PySem.W.Fast.tw16527154695854571588 : True := trivial
theorem PySem.W.Fast.tw15649817094416234732 : True := trivial
theorem PySem.W.Fast.tw2858519119147278787 : True := trivial
theorem PySem.W.Fast.tw2221953998672920882 : True := trivial
theorem PySem.W.Fast.tw269104072973753766 : True := trivial
theorem PySem.W.Fast.tw7899731199530102665 : True := trivial
theorem PySem.W.Fast.tw14746376290535781105 : True := trivial
theorem PySem.W.Fast.tw8481598377511153851 : True := trivial
theorem PySem.W.Fast.tw10096100506126874287 : True := trivial
theorem PySem.W.Fast.tw8395584171913474922 : True := trivial
theorem PySem.W.Fast.tw14227966135432878047 : True := trivial
theorem PySem.W.Fast.tw15818340490432331500 : True := trivial
theorem PySem.W.Fast.tw18307544168757463400 : True := trivial
theorem PySem.W.Fast.tw18428803434057141712 : True := trivial
theorem PySem.W.Fast.tw4407427874841390265 : True := trivial
theorem PySem.W.Fast.tw444579201297789846 : True := trivial
theorem PySem.W.Fast.tw7975015301901082008 : True := trivial
theorem PySem.W.Fast.tw10324440676031292259 : True := trivial
theorem PySem.W.Fast.tw17457973783235533129 : True := trivial
theorem PySem.W.Fast.tw16388906211961535632 : True := trivial
theorem PySem.W.Fast.tw17361433979039038705 : True := trivial
theorem PySem.W.Fast.tw7218960079614980083 : True := trivial
theorem PySem.W.Fast.tw5497933667802107233 : True := trivial
theorem PySem.W.Fast.tw8488506361000062655 : True := trivial
theorem PySem.W.Fast.tw16905787156765732794 : True := trivial
theorem PySem.W.Fast.tw5587881874739142939 : True := trivial
theorem PySem.W.Fast.tw13173924302144349839 : True := trivial
theorem PySem.W.Fast.tw12304077147155257605 : True := trivial
theorem PySem.W.Fast.tw201703226918755974 : True := trivial
theorem PySem.W.Fast.tw6832724543693763601 : True := trivial
theorem PySem.W.Fast.tw12935165392728362304 : True := trivial
theorem PySem.W.Fast.tw7280422662640804337 : True := trivial
theorem PySem.W.Fast.tw16305062880182076157 : True := trivial
theorem PySem.W.Fast.tw15193992408398438555 : True := trivial
theorem PySem.W.Fast.tw8391611107383183428 : True := trivial
theorem PySem.W.Fast.tw9025347683094984856 : True := trivial
theorem PySem.W.Fast.tw12509363551574768293 : True := trivial
theorem PySem.W.Fast.tw7207715701780251627 : True := trivial
theorem PySem.W.Fast.tw13661683259580647615 : True := trivial
theorem PySem.W.Fast.tw8050231042875181695 : True := trivial
theorem PySem.W.Fast.tw3704152751431576780 : True := trivial
theorem PySem.W.Fast.tw14787814253593778406 : True := trivial
theorem PySem.W.Fast.tw14473800356277897514 : True := trivial
theorem PySem.W.Fast.tw1652294874220110468 : True := trivial
theorem PySem.W.Fast.tw11307720542360981170 : True := trivial
theorem PySem.W.Fast.tw2885507180980776452 : True := trivial
theorem PySem.W.Fast.tw2070263336293192552 : True := trivial
theorem PySem.W.Fast.tw4658884019106942479 : True := trivial
theorem PySem.W.Fast.tw15725696437727954734 : True := trivial
theorem PySem.W.Fast.tw1198905495487730987 : True := trivial
theorem PySem.W.Fast.tw13187573189124060246 : True := trivial
theorem PySem.W.Fast.tw1059825512704842328 : True := trivial
theorem PySem.W.Fast.tw14438392098518627429 : True := trivial
theorem PySem.W.Fast.tw14575126528627637961 : True := trivial
theorem PySem.W.Fast.tw18051845138650076076 : True := trivial
theorem PySem.W.Fast.tw16465652598148753806 : True := trivial
theorem PySem.W.Fast.tw6685329318320422867 : True := trivial
theorem PySem.W.Fast.tw13114782130530815869 : True := trivial
theorem PySem.W.Fast.tw7690883116516753775 : True := trivial
theorem PySem.W.Fast.tw13806267056372742147 : True := trivial
theorem PySem.W.Fast.tw8525699894058388640 : True := trivial
theorem PySem.W.Fast.tw3284716483815887082 : True := trivial
theorem PySem.W.Fast.tw11765293959760394340 : True := trivial
theorem PySem.W.Fast.tw3378670817884897056 : True := trivial
theorem PySem.W.Fast.tw10600802848360172827 : True := trivial
theorem PySem.W.Fast.tw9109209866453924201 : True := trivial
theorem PySem.W.Fast.tw13611615460827766212 : True := trivial
theorem PySem.W.Fast.tw14041798741810911453 : True := trivial
theorem PySem.W.Fast.tw11541451128042993826 : True := trivial
theorem PySem.W.Fast.tw14927915769986820837 : True := trivial
theorem PySem.W.Fast.tw7699597934958278321 : True := trivial
theorem PySem.W.Fast.tw17800450411729600820 : True := trivial
theorem PySem.W.Fast.tw18059889418394982096 : True := trivial
theorem PySem.W.Fast.tw14131381326438483304 : True := trivial
theorem PySem.W.Fast.tw8690490749672764522 : True := trivial
theorem PySem.W.Fast.tw15217604719794518355 : True := trivial
theorem PySem.W.Fast.tw16881913573341082133 : True := trivial
theorem PySem.W.Fast.tw15629092644250868119 : True := trivial
theorem PySem.W.Fast.tw5499669766419169733 : True := trivial
theorem PySem.W.Fast.tw12643341868656651980 : True := trivial
theorem PySem.W.Fast.tw3907925548722718186 : True := trivial
theorem PySem.W.Fast.tw6932328455601540754 : True := trivial
theorem PySem.W.Fast.tw13207290458471129286 : True := trivial
theorem PySem.W.Fast.tw3323229611055783192 : True := trivial
theorem PySem.W.Fast.tw17084984741304245984 : True := trivial
theorem PySem.W.Fast.tw1180313140698423848 : True := trivial
theorem PySem.W.Fast.tw3040823880112715785 : True := trivial
theorem PySem.W.Fast.tw11784218759475627133 : True := trivial
theorem PySem.W.Fast.tw669419415158933384 : True := trivial
theorem PySem.W.Fast.tw112387320513969209 : True := trivial
theorem PySem.W.Fast.tw8022258352924690695 : True := trivial
theorem PySem.W.Fast.tw13020957706834315417 : True := trivial
theorem PySem.W.Fast.tw6527327998676640843 : True := trivial
theorem PySem.W.Fast.tw14075449628745780147 : True := trivial
theorem PySem.W.Fast.tw13212020615705755903 : True := trivial
theorem PySem.W.Fast.tw2056643139866530988 : True := trivial
theorem PySem.W.Fast.tw12743412468151143052 : True := trivial
theorem PySem.W.Fast.tw13218805067564040195 : True := trivial
theorem PySem.W.Fast.tw8534302449549116275 : True := trivial
theorem PySem.W.Fast.tw8407742387369811189 : True := trivial
theorem PySem.W.Fast.tw4676179770567475149 : True := trivial
theorem PySem.W.Fast.tw2226157079073113528 : True := trivial
theorem PySem.W.Fast.tw5255663272815708742 : True := trivial
theorem PySem.W.Fast.tw1197288480710836993 : True := trivial
theorem PySem.W.Fast.tw14127057800562814486 : True := trivial
theorem PySem.W.Fast.tw701985218792086653 : True := trivial
theorem PySem.W.Fast.tw10447197467068563025 : True := trivial
theorem PySem.W.Fast.tw6483638363313549308 : True := trivial
theorem PySem.W.Fast.tw549130017105192064 : True := trivial
theorem PySem.W.Fast.tw3311488948571234852 : True := trivial
theorem PySem.W.Fast.tw15257247233332633906 : True := trivial
theorem PySem.W.Fast.tw10339098523556880725 : True := trivial
theorem PySem.W.Fast.tw14853259907362738978 : True := trivial
theorem PySem.W.Fast.tw3460223625096462655 : True := trivial
theorem PySem.W.Fast.tw3437210388292971723 : True := trivial
theorem PySem.W.Fast.tw16033017612541747696 : True := trivial
theorem PySem.W.Fast.tw11847898554742665816 : True := trivial
theorem PySem.W.Fast.tw13983360645491826322 : True := trivial
theorem PySem.W.Fast.tw9826789929448495834 : True := trivial
theorem PySem.W.Fast.tw4082526283709589455 : True := trivial
theorem PySem.W.Fast.tw4296045140531536250 : True := trivial
theorem PySem.W.Fast.tw4939096980505924994 : True := trivial
theorem PySem.W.Fast.tw17574277951703445491 : True := trivial
theorem PySem.W.Fast.tw8557458846377790956 : True := trivial
theorem PySem.W.Fast.tw13301210119984812672 : True := trivial
theorem PySem.W.Fast.tw1181602685824255910 : True := trivial
theorem PySem.W.Fast.tw3515187907912538194 : True := trivial
theorem PySem.W.Fast.tw15498903736379160817 : True := trivial
theorem PySem.W.Fast.tw7378108604255721947 : True := trivial
theorem PySem.W.Fast.tw3479361643965549100 : True := trivial
theorem PySem.W.Fast.tw7360281327352478311 : True := trivial
theorem PySem.W.Fast.tw18066972371452247274 : True := trivial
theorem PySem.W.Fast.tw17761123979072972997 : True := trivial
theorem PySem.W.Fast.tw4018586664903080705 : True := trivial
theorem PySem.W.Fast.tw3766293294147121924 : True := trivial
theorem PySem.W.Fast.tw18234164459117017753 : True := trivial
theorem PySem.W.Fast.tw4180731144354494353 : True := trivial
theorem PySem.W.Fast.tw17276525549850007651 : True := trivial
theorem PySem.W.Fast.tw16960717868840853010 : True := trivial
theorem PySem.W.Fast.tw8496956497660148592 : True := trivial
theorem PySem.W.Fast.tw8742417829428559561 : True := trivial
theorem PySem.W.Fast.tw4157399652129852909 : True := trivial
theorem PySem.W.Fast.tw18408130634871551043 : True := trivial
theorem PySem.W.Fast.tw8077715719052115166 : True := trivial
theorem PySem.W.Fast.tw14985356604135979879 : True := trivial
theorem PySem.W.Fast.tw12044436814679195362 : True := trivial
theorem PySem.W.Fast.tw6125654609382842338 : True := trivial
theorem PySem.W.Fast.tw2207709392783456363 : True := trivial
theorem PySem.W.Fast.tw9802669260527031224 : True := trivial
theorem PySem.W.Fast.tw7092341066967220020 : True := trivial
theorem PySem.W.Fast.tw6860157923113205208 : True := trivial
theorem PySem.W.Fast.tw10381344661532845364 : True := trivial
theorem PySem.W.Fast.tw837701195389643424 : True := trivial
theorem PySem.W.Fast.tw3305792525291185664 : True := trivial
theorem PySem.W.Fast.tw3170570073054475557 : True := trivial
theorem PySem.W.Fast.tw3190024979828691309 : True := trivial
theorem PySem.W.Fast.tw13684979603011478255 : True := trivial
theorem PySem.W.Fast.tw9041832265608702340 : True := trivial
theorem PySem.W.Fast.tw1336960855348232072 : True := trivial
theorem PySem.W.Fast.tw8469010876070015750 : True := trivial
theorem PySem.W.Fast.tw14357254736492600717 : True := trivial
theorem PySem.W.Fast.tw12647171260854656960 : True := trivial
theorem PySem.W.Fast.tw17994676937070690796 : True := trivial
theorem PySem.W.Fast.tw13089026134807136115 : True := trivial
theorem PySem.W.Fast.tw11158504675552345677 : True := trivial
theorem PySem.W.Fast.tw11810276722066161635 : True := trivial
theorem PySem.W.Fast.tw5601177621942157870 : True := trivial
theorem PySem.W.Fast.tw6353644098048367211 : True := trivial
theorem PySem.W.Fast.tw4418307814849784875 : True := trivial
theorem PySem.W.Fast.tw10923855830721012963 : True := trivial
theorem PySem.W.Fast.tw1131409038849989937 : True := trivial
theorem PySem.W.Fast.tw10842341229725721420 : True := trivial
theorem PySem.W.Fast.tw17637446793267238624 : True := trivial
theorem PySem.W.Fast.tw13101940643855126331 : True := trivial
theorem PySem.W.Fast.tw12288176948934207393 : True := trivial
theorem PySem.W.Fast.tw2003277696558858018 : True := trivial
theorem PySem.W.Fast.tw4682020761208119555 : True := trivial
theorem PySem.W.Fast.tw12161472423923845079 : True := trivial
theorem PySem.W.Fast.tw18261316161260414722 : True := trivial
theorem PySem.W.Fast.tw18037656123848874585 : True := trivial
theorem PySem.W.Fast.tw10667849884824067386 : True := trivial
theorem PySem.W.Fast.tw3741355595022149063 : True := trivial
theorem PySem.W.Fast.tw7245697099935654864 : True := trivial
theorem PySem.W.Fast.tw3195397939859225823 : True := trivial
theorem PySem.W.Fast.tw7307628401661961372 : True := trivial
theorem PySem.W.Fast.tw4057723067296627929 : True := trivial
theorem PySem.W.Fast.tw9124753272247251139 : True := trivial
theorem PySem.W.Fast.tw16517850427798951908 : True := trivial
theorem PySem.W.Fast.tw8734418119336393155 : True := trivial
theorem PySem.W.Fast.tw15065416763365196915 : True := trivial
open PySem PySem.W PyProof.Rows
set_option maxRecDepth 100000 in
set_option maxHeartbeats 0 in
theorem PySem.W.Fast.tw4501836719012196018 : True := trivial
theorem PySem.W.Fast.tw6610642750469514774 : True := trivial
theorem PySem.W.Fast.tw14006461475440767991 : True := trivial
theorem PySem.W.Fast.tw15170509249580143010 : True := trivial
theorem PySem.W.Fast.tw6527098945127320688 : True := trivial
theorem PySem.W.Fast.tw11783923632870614461 : True := trivial
theorem PySem.W.Fast.tw10565219957285219273 : True := trivial
theorem PySem.W.Fast.tw8067529342977404150 : True := trivial
theorem PySem.W.Fast.tw5349530883117592277 : True := trivial
theorem PySem.W.Fast.tw5888933104987432005 : True := trivial
theorem PySem.W.Fast.tw14036572956424269543 : True := trivial
theorem PySem.W.Fast.tw15370418198979734027 : True := trivial
theorem PySem.W.Fast.tw13699370189764589021 : True := trivial
theorem PySem.W.Fast.tw15652546500908415048 : True := trivial
theorem PySem.W.Fast.tw16084046592300244888 : True := trivial
theorem PySem.W.Fast.tw4003436704233073277 : True := trivial
theorem PySem.W.Fast.tw18196870776985034187 : True := trivial
theorem PySem.W.Fast.tw15231317674302134612 : True := trivial
theorem PySem.W.Fast.tw18243049152595891229 : True := trivial
theorem PySem.W.Fast.tw9822052409360742052 : True := trivial
theorem PySem.W.Fast.tw13303813644045683542 : True := trivial
theorem PySem.W.Fast.tw11927523039118889695 : True := trivial
theorem PySem.W.Fast.tw1904096711703841996 : True := trivial
theorem PySem.W.Fast.tw17483100872659674729 : True := trivial
theorem PySem.W.Fast.tw14307292886162057934 : True := trivial
theorem PySem.W.Fast.tw9345235826697383101 : True := trivial
theorem PySem.W.Fast.tw10338904346848780529 : True := trivial
theorem PySem.W.Fast.tw6326624093532521624 : True := trivial
theorem PySem.W.Fast.tw7274093828222386836 : True := trivial
theorem PySem.W.Fast.tw5553366373441878762 : True := trivial
theorem PySem.W.Fast.tw5981371349393833811 : True := trivial
theorem PySem.W.Fast.tw16352276507882223536 : True := trivial
theorem PySem.W.Fast.tw8053154152801682436 : True := trivial
theorem PySem.W.Fast.tw7855710458369054532 : True := trivial
theorem PySem.W.Fast.tw13867809705068101319 : True := trivial
theorem PySem.W.Fast.tw818622322382399737 : True := trivial
theorem PySem.W.Fast.tw4057577249535541542 : True := trivial
theorem PySem.W.Fast.tw12779938026693100610 : True := trivial
theorem PySem.W.Fast.tw4829758459463241129 : True := trivial
theorem PySem.W.Fast.tw1208901332022193777 : True := trivial
theorem PySem.W.Fast.tw16720175502757826441 : True := trivial
theorem PySem.W.Fast.tw16855469041039942297 : True := trivial
theorem PySem.W.Fast.tw13914412704534881854 : True := trivial
theorem PySem.Challenge.cw_evernever_k07_unread_holds : PySem.Challenge.rw_evernever_k07_unread.Holds := by
 w_on; o_law; k_head; (case hw=>w_witness2)
 k_fill
 refine L2.walk_ofK (l:=PySem.Challenge.rw_evernever_k07_unread) (n:=63) (k:=80) (x:="_law_script") (CX:=L2.CX0) (sp:=LW.spLaw) rfl (by decide) rfl ⟨rfl,by decide,by decide⟩ (fun w h Y=>PySem.W.kIn_of Y) ?F ?S ?C
 case F=>
  intro w mg fa h KX G hmg
  have T:∃ t,LW.Txt (L2.KOf KX) mg t:=by
   dsimp only [L2.KOf]
   refine' LW.txt_mk KX G ?ZoR ?ZAi ?ZwM ?ZoS ?ZAh ?ZwN ?ZlA ?ZCY ?ZiH ?Zlx ?ZiI ?ZoM ?Zly ?ZoP ?ZjW ?ZoO ?ZoQ ?Zg0 ?Zlz ?ZjY ?ZoN ?ZiJ ?ZjX ?ZjZ ?Zfl ?Zgc ?ZiK ?a_law ?ZtM ?ZCW ?ZCX ?a_Not ?ZwI ?a_And ?ZwH ?a_Or ?ZAf ?ZoK ?ZAg ?ZtN ?ZtO ?ZtP ?ZwJ ?ZoL ?ZwK ?ZwL ?ZtQ ?ZjV ?ZtR ?ZoJ ?Zic ?ZdJ ?ZcY ?Ztu ?Znu ?Zqx ?Znd ?ZgU ?Zjw ?Zne ?ZgV ?Zjx ?Znf ?ZgW ?Zjy ?Zqa ?ZjO ?ZmF ?Zid ?ZeG ?Zf0 ?Zqb ?ZjP ?ZmG ?Zqc ?ZjQ ?ZmH ?Zng ?ZgX ?Zjz ?ZfF ?Zdm ?Zd4 ?Znh ?ZgY ?ZjA ?Zib ?ZdI ?ZeC ?Zm7 ?Zm4 ?Zm5 ?Zm3 ?Zm6 ?Zm8 ?Za4 ?ZbN ?Zbn ?Zbo ?Zbp ?Zbw ?Za5 ?Zbx ?Zby ?Zbq ?ZaV ?Zbr ?ZaT ?b_ValueError ?ne_ ?Zeo ?ZoX ?Zmf ?Zmg ?Zgg ?Zo0 ?Zmj ?Zmk ?Zgh ?Zro ?ZoY ?ZoZ ?Zhe ?Zko ?ZiU ?ZiV ?ZeR ?Zhd ?Zkm ?Zrn ?ZoV ?ZoW ?ZeQ ?Zgf ?Zkn ?ZiS ?ZiT ?ZiW ?Zmi ?Zul ?Zrp ?Zrq ?Zmh ?Zfp ?Zfo ?Zfq ?Zkp ?ZkM ?Zj9 ?ZkB ?Zw9 ?ZwQ ?Zw6 ?Ztx ?Ztq ?Ztv ?ZkN ?Zka ?ZkC ?Zw8 ?ZwP ?Zw5 ?Zty ?Ztr ?Ztw ?Ziw ?Zh0 ?Zim ?ZBD ?ZBf ?ZBB ?ZfO ?ZfB ?ZfH ?Zit ?ZhX ?Zij ?ZfP ?ZfC ?ZfI ?ZkH ?Zj4 ?Zkw ?Ziu ?ZhY ?Zik ?ZkK ?Zj7 ?Zkz ?ZgO ?ZgB ?ZgH ?ZkJ ?Zj6 ?Zky ?ZkL ?Zj8 ?ZkA ?ZeY ?ZeL ?ZeW ?Ziv ?ZhZ ?Zil ?ZgQ ?ZgD ?ZgJ ?ZkI ?Zj5 ?Zkx ?ZfQ ?ZfD ?ZfJ ?ZgP ?ZgC ?ZgI ?ZgR ?ZgE ?ZgK ?ZdU ?ZdN ?ZdQ ?Zel ?Zei ?Zej ?ZfR ?ZfE ?ZfK ?l_law ?c_law ?k_law ?Zc8 ?Zc2 ?ZaL ?Za8 ?ZkD ?Zj0 ?Zku ?Zo6 ?Zin ?ZhR ?ZfV ?Zmp ?Zio ?ZhS ?ZfW ?Zmq ?ZkG ?Zj3 ?Zkv ?Zo9 ?Zir ?ZhV ?ZfY ?Zmt ?Zis ?ZhW ?ZfZ ?Zmu ?Znk ?Zna ?Zni ?Zrv ?ZkE ?Zj1 ?Zhi ?Zo7 ?ZkF ?Zj2 ?Zhj ?Zo8 ?ZgM ?Zgz ?ZgG ?ZdO ?ZfL ?Zfy ?ZbX ?Zdh ?ZfM ?Zfz ?ZbY ?Zdi ?ZeX ?ZeK ?ZdA ?Zhf ?ZgL ?Zgy ?ZeU ?Zks ?Zdp ?Zdo ?Zck ?ZeT ?Zek ?Zeh ?Zdb ?Zgi ?ZfN ?ZfA ?Zd3 ?ZiY ?Ziq ?ZhU ?ZfX ?Zms ?Zip ?ZhT ?Zii ?Zmr ?ZdS ?ZdL ?ZcL ?Zfs ?ZdR ?ZdK ?ZcK ?Zfr ?ZdT ?ZdM ?ZcM ?Zft ?ZgN ?ZgA ?ZeV ?Zkt ?Znn ?Znc ?Zno ?Znq ?Zwt ?Zrt ?Zru ?Zf2 ?ZdD ?Zd8 ?ZdC ?Zd7 ?Zd6 ?ZcN ?Ze4 ?ZcO ?ZxH ?ZwY ?ZxK ?ZxQ ?ZAE ?ZAx ?ZAz ?ZAL ?Zhq ?Zf5 ?Zhs ?Zf4 ?Zhr ?Zhp ?Zeb ?ZjG ?Zec ?ZxI ?ZwZ ?ZxL ?ZxR ?ZAF ?ZAy ?ZAA ?ZAM ?ZmO ?ZdF ?Zhx ?Zf9 ?Zhw ?Zhv ?Zed ?ZjL ?Zee ?ZBU ?ZBs ?ZBZ ?ZB9 ?ZDX ?ZDz ?ZDD ?ZEb ?ZqB ?Zhu ?ZeD ?Zht ?ZjJ ?ZjI ?Zfa ?ZmK ?Zfb ?ZqP ?Zp9 ?Zq2 ?Zq5 ?Zuz ?Zur ?Zut ?ZuO ?Zho ?Zea ?Ze7 ?Zd9 ?Ze6 ?Ze5 ?Zde ?Zf3 ?Zdf ?ZBT ?ZBr ?ZBY ?ZB8 ?ZDW ?ZDy ?ZDC ?ZEa ?ZqA ?Zhm ?ZjF ?Zex ?ZjE ?ZjD ?ZeZ ?ZmJ ?Ze0 ?ZqO ?Zp8 ?Zq1 ?Zq4 ?Zuy ?Zuq ?Zus ?ZuN ?Zhn ?Zd5 ?Ze3 ?Zcw ?Ze2 ?Ze1 ?Zdc ?Zf1 ?Zdd ?pg_Or ?hd_Or ?po_Or ?sa_Or ?kc_Or ?ha_Or ?hm_Or ?mk_Or ?ZuQ ?ZjK ?ZmN ?Zfv ?ZmM ?ZmL ?Zf7 ?ZqC ?Zf8 ?ZtB ?Ztt ?ZtC ?ZtE ?Zw7 ?ZwX ?Zw0 ?Zxf ?ZjH ?Ze9 ?Zf6 ?Ze8 ?ZbZ ?Zcl ?Zbm ?ZdE ?ZaD ?nd_ ?hn_ ?htk_ ?ZcJ ?ZcQ ?Zi1 ?Zi2 ?ZkV ?Zgl ?ZkU ?Zgk ?ZmZ ?ZhB ?Zi3 ?b_len ?b_range ?b_isinstance ?b_int ?b_bool ?b_str ?b_list ?b_tuple ?b_dict ?b_set ?b_sorted ?b_max ?b_min ?b_sum ?b_any ?b_all ?b_abs ?b_reversed ?b_enumerate ?b_zip ?g_LETTERS ?g_MARKS ?g_BLANK ?g_JOINS ?lk_JOINS
   (case ZoR=>k_is)
   (case ZAi=>k_is)
   (case ZwM=>k_is)
   (case ZoS=>k_is)
   (case ZAh=>k_is)
   (case ZwN=>k_is)
   (case ZlA=>k_is)
   (case ZCY=>k_is)
   (case ZiH=>k_is)
   (case Zlx=>k_is)
   (case ZiI=>k_is)
   (case ZoM=>k_is)
   (case Zly=>k_is)
   (case ZoP=>k_is)
   (case ZjW=>k_is)
   (case ZoO=>k_is)
   (case ZoQ=>k_is)
   (case Zg0=>k_is)
   (case Zlz=>k_is)
   (case ZjY=>k_is)
   (case ZoN=>k_is)
   (case ZiJ=>k_is)
   (case ZjX=>k_is)
   (case ZjZ=>k_is)
   (case Zfl=>k_is)
   (case Zgc=>k_is)
   (case ZiK=>k_is)
   (case a_law=>k_is)
   (case ZtM=>k_is)
   (case ZCW=>k_is)
   (case ZCX=>k_is)
   (case a_Not=>k_is)
   (case ZwI=>k_is)
   (case a_And=>k_is)
   (case ZwH=>k_is)
   (case a_Or=>k_is)
   (case ZAf=>k_is)
   (case ZoK=>k_is)
   (case ZAg=>k_is)
   (case ZtN=>k_is)
   (case ZtO=>k_is)
   (case ZtP=>k_is)
   (case ZwJ=>k_is)
   (case ZoL=>k_is)
   (case ZwK=>k_is)
   (case ZwL=>k_is)
   (case ZtQ=>k_is)
   (case ZjV=>k_is)
   (case ZtR=>k_is)
   (case ZoJ=>k_is)
   (case Zic=>k_is)
   (case ZdJ=>k_is)
   (case ZcY=>k_is)
   (case Ztu=>k_is)
   (case Znu=>k_is)
   (case Zqx=>k_is)
   (case Znd=>k_is)
   (case ZgU=>k_is)
   (case Zjw=>k_is)
   (case Zne=>k_is)
   (case ZgV=>k_is)
   (case Zjx=>k_is)
   (case Znf=>k_is)
   (case ZgW=>k_is)
   (case Zjy=>k_is)
   (case Zqa=>k_is)
   (case ZjO=>k_is)
   (case ZmF=>k_is)
   (case Zid=>k_is)
   (case ZeG=>k_is)
   (case Zf0=>k_is)
   (case Zqb=>k_is)
   (case ZjP=>k_is)
   (case ZmG=>k_is)
   (case Zqc=>k_is)
   (case ZjQ=>k_is)
   (case ZmH=>k_is)
   (case Zng=>k_is)
   (case ZgX=>k_is)
   (case Zjz=>k_is)
   (case ZfF=>k_is)
   (case Zdm=>k_is)
   (case Zd4=>k_is)
   (case Znh=>k_is)
   (case ZgY=>k_is)
   (case ZjA=>k_is)
   (case Zib=>k_is)
   (case ZdI=>k_is)
   (case ZeC=>k_is)
   (case Zm7=>k_exc)
   (case Zm4=>k_is)
   (case Zm5=>k_is)
   (case Zm3=>k_is)
   (case Zm6=>k_is)
   (case Zm8=>k_is)
   (case Za4=>k_is)
   (case ZbN=>k_is)
   (case Zbn=>k_is)
   (case Zbo=>k_is)
   (case Zbp=>k_is)
   (case Zbw=>k_is)
   (case Za5=>k_is)
   (case Zbx=>k_is)
   (case Zby=>k_is)
   (case Zbq=>k_is)
   (case ZaV=>k_is)
   (case Zbr=>k_is)
   (case ZaT=>k_is)
   (case b_ValueError=>k_is)
   (case ne_=>decide)
   (case Zeo=>k_is)
   (case ZoX=>k_is)
   (case Zmf=>k_is)
   (case Zmg=>k_is)
   (case Zgg=>k_is)
   (case Zo0=>k_is)
   (case Zmj=>k_is)
   (case Zmk=>k_is)
   (case Zgh=>k_is)
   (case Zro=>k_is)
   (case ZoY=>k_is)
   (case ZoZ=>k_is)
   (case Zhe=>k_is)
   (case Zko=>k_is)
   (case ZiU=>k_is)
   (case ZiV=>k_is)
   (case ZeR=>k_is)
   (case Zhd=>k_is)
   (case Zkm=>k_is)
   (case Zrn=>k_is)
   (case ZoV=>k_is)
   (case ZoW=>k_is)
   (case ZeQ=>k_is)
   (case Zgf=>k_is)
   (case Zkn=>k_is)
   (case ZiS=>k_is)
   (case ZiT=>k_is)
   (case ZiW=>k_is)
   (case Zmi=>k_is)
   (case Zul=>k_is)
   (case Zrp=>k_is)
   (case Zrq=>k_is)
   (case Zmh=>k_is)
   (case Zfp=>k_is)
   (case Zfo=>k_is)
   (case Zfq=>k_is)
   (case Zkp=>k_is)
   (case ZkM=>k_is)
   (case Zj9=>k_is)
   (case ZkB=>k_is)
   (case Zw9=>k_is)
   (case ZwQ=>k_is)
   (case Zw6=>k_is)
   (case Ztx=>k_is)
   (case Ztq=>k_is)
   (case Ztv=>k_is)
   (case ZkN=>k_is)
   (case Zka=>k_is)
   (case ZkC=>k_is)
   (case Zw8=>k_is)
   (case ZwP=>k_is)
   (case Zw5=>k_is)
   (case Zty=>k_is)
   (case Ztr=>k_is)
   (case Ztw=>k_is)
   (case Ziw=>k_is)
   (case Zh0=>k_is)
   (case Zim=>k_is)
   (case ZBD=>k_is)
   (case ZBf=>k_is)
   (case ZBB=>k_is)
   (case ZfO=>k_is)
   (case ZfB=>k_is)
   (case ZfH=>k_is)
   (case Zit=>k_is)
   (case ZhX=>k_is)
   (case Zij=>k_is)
   (case ZfP=>k_is)
   (case ZfC=>k_is)
   (case ZfI=>k_is)
   (case ZkH=>k_is)
   (case Zj4=>k_is)
   (case Zkw=>k_is)
   (case Ziu=>k_is)
   (case ZhY=>k_is)
   (case Zik=>k_is)
   (case ZkK=>k_is)
   (case Zj7=>k_is)
   (case Zkz=>k_is)
   (case ZgO=>k_is)
   (case ZgB=>k_is)
   (case ZgH=>k_is)
   (case ZkJ=>k_is)
   (case Zj6=>k_is)
   (case Zky=>k_is)
   (case ZkL=>k_is)
   (case Zj8=>k_is)
   (case ZkA=>k_is)
   (case ZeY=>k_is)
   (case ZeL=>k_is)
   (case ZeW=>k_is)
   (case Ziv=>k_is)
   (case ZhZ=>k_is)
   (case Zil=>k_is)
   (case ZgQ=>k_is)
   (case ZgD=>k_is)
   (case ZgJ=>k_is)
   (case ZkI=>k_is)
   (case Zj5=>k_is)
   (case Zkx=>k_is)
   (case ZfQ=>k_is)
   (case ZfD=>k_is)
   (case ZfJ=>k_is)
   (case ZgP=>k_is)
   (case ZgC=>k_is)
   (case ZgI=>k_is)
   (case ZgR=>k_is)
   (case ZgE=>k_is)
   (case ZgK=>k_is)
   (case ZdU=>k_is)
   (case ZdN=>k_is)
   (case ZdQ=>k_is)
   (case Zel=>k_is)
   (case Zei=>k_is)
   (case Zej=>k_is)
   (case ZfR=>k_is)
   (case ZfE=>k_is)
   (case ZfK=>k_is)
   (case l_law=>k_is)
   (case c_law=>k_is)
   (case k_law=>k_is)
   (case Zc8=>k_is)
   (case Zc2=>k_is)
   (case ZaL=>k_is)
   (case Za8=>k_is)
   (case ZkD=>k_is)
   (case Zj0=>k_is)
   (case Zku=>k_is)
   (case Zo6=>k_is)
   (case Zin=>k_is)
   (case ZhR=>k_is)
   (case ZfV=>k_is)
   (case Zmp=>k_is)
   (case Zio=>k_is)
   (case ZhS=>k_is)
   (case ZfW=>k_is)
   (case Zmq=>k_is)
   (case ZkG=>k_is)
   (case Zj3=>k_is)
   (case Zkv=>k_is)
   (case Zo9=>k_is)
   (case Zir=>k_is)
   (case ZhV=>k_is)
   (case ZfY=>k_is)
   (case Zmt=>k_is)
   (case Zis=>k_is)
   (case ZhW=>k_is)
   (case ZfZ=>k_is)
   (case Zmu=>k_is)
   (case Znk=>k_is)
   (case Zna=>k_is)
   (case Zni=>k_is)
   (case Zrv=>k_is)
   (case ZkE=>k_is)
   (case Zj1=>k_is)
   (case Zhi=>k_is)
   (case Zo7=>k_is)
   (case ZkF=>k_is)
   (case Zj2=>k_is)
   (case Zhj=>k_is)
   (case Zo8=>k_is)
   (case ZgM=>k_is)
   (case Zgz=>k_is)
   (case ZgG=>k_is)
   (case ZdO=>k_is)
   (case ZfL=>k_is)
   (case Zfy=>k_is)
   (case ZbX=>k_is)
   (case Zdh=>k_is)
   (case ZfM=>k_is)
   (case Zfz=>k_is)
   (case ZbY=>k_is)
   (case Zdi=>k_is)
   (case ZeX=>k_is)
   (case ZeK=>k_is)
   (case ZdA=>k_is)
   (case Zhf=>k_is)
   (case ZgL=>k_is)
   (case Zgy=>k_is)
   (case ZeU=>k_is)
   (case Zks=>k_is)
   (case Zdp=>k_is)
   (case Zdo=>k_is)
   (case Zck=>k_is)
   (case ZeT=>k_is)
   (case Zek=>k_is)
   (case Zeh=>k_is)
   (case Zdb=>k_is)
   (case Zgi=>k_is)
   (case ZfN=>k_is)
   (case ZfA=>k_is)
   (case Zd3=>k_is)
   (case ZiY=>k_is)
   (case Ziq=>k_is)
   (case ZhU=>k_is)
   (case ZfX=>k_is)
   (case Zms=>k_is)
   (case Zip=>k_is)
   (case ZhT=>k_is)
   (case Zii=>k_is)
   (case Zmr=>k_is)
   (case ZdS=>k_is)
   (case ZdL=>k_is)
   (case ZcL=>k_is)
   (case Zfs=>k_is)
   (case ZdR=>k_is)
   (case ZdK=>k_is)
   (case ZcK=>k_is)
   (case Zfr=>k_is)
   (case ZdT=>k_is)
   (case ZdM=>k_is)
   (case ZcM=>k_is)
   (case Zft=>k_is)
   (case ZgN=>k_is)
   (case ZgA=>k_is)
   (case ZeV=>k_is)
   (case Zkt=>k_is)
   (case Znn=>k_is)
   (case Znc=>k_is)
   (case Zno=>k_is)
   (case Znq=>k_is)
   (case Zwt=>k_is)
   (case Zrt=>k_is)
   (case Zru=>k_is)
   (case Zf2=>k_is)
   (case ZdD=>k_is)
   (case Zd8=>k_is)
   (case ZdC=>k_is)
   (case Zd7=>k_is)
   (case Zd6=>k_is)
   (case ZcN=>k_is)
   (case Ze4=>k_is)
   (case ZcO=>k_is)
   (case ZxH=>k_is)
   (case ZwY=>k_is)
   (case ZxK=>k_is)
   (case ZxQ=>k_is)
   (case ZAE=>k_is)
   (case ZAx=>k_is)
   (case ZAz=>k_is)
   (case ZAL=>k_is)
   (case Zhq=>k_is)
   (case Zf5=>k_is)
   (case Zhs=>k_is)
   (case Zf4=>k_is)
   (case Zhr=>k_is)
   (case Zhp=>k_is)
   (case Zeb=>k_is)
   (case ZjG=>k_is)
   (case Zec=>k_is)
   (case ZxI=>k_is)
   (case ZwZ=>k_is)
   (case ZxL=>k_is)
   (case ZxR=>k_is)
   (case ZAF=>k_is)
   (case ZAy=>k_is)
   (case ZAA=>k_is)
   (case ZAM=>k_is)
   (case ZmO=>k_is)
   (case ZdF=>k_is)
   (case Zhx=>k_is)
   (case Zf9=>k_is)
   (case Zhw=>k_is)
   (case Zhv=>k_is)
   (case Zed=>k_is)
   (case ZjL=>k_is)
   (case Zee=>k_is)
   (case ZBU=>k_is)
   (case ZBs=>k_is)
   (case ZBZ=>k_is)
   (case ZB9=>k_is)
   (case ZDX=>k_is)
   (case ZDz=>k_is)
   (case ZDD=>k_is)
   (case ZEb=>k_is)
   (case ZqB=>k_is)
   (case Zhu=>k_is)
   (case ZeD=>k_is)
   (case Zht=>k_is)
   (case ZjJ=>k_is)
   (case ZjI=>k_is)
   (case Zfa=>k_is)
   (case ZmK=>k_is)
   (case Zfb=>k_is)
   (case ZqP=>k_is)
   (case Zp9=>k_is)
   (case Zq2=>k_is)
   (case Zq5=>k_is)
   (case Zuz=>k_is)
   (case Zur=>k_is)
   (case Zut=>k_is)
   (case ZuO=>k_is)
   (case Zho=>k_is)
   (case Zea=>k_is)
   (case Ze7=>k_is)
   (case Zd9=>k_is)
   (case Ze6=>k_is)
   (case Ze5=>k_is)
   (case Zde=>k_is)
   (case Zf3=>k_is)
   (case Zdf=>k_is)
   (case ZBT=>k_is)
   (case ZBr=>k_is)
   (case ZBY=>k_is)
   (case ZB8=>k_is)
   (case ZDW=>k_is)
   (case ZDy=>k_is)
   (case ZDC=>k_is)
   (case ZEa=>k_is)
   (case ZqA=>k_is)
   (case Zhm=>k_is)
   (case ZjF=>k_is)
   (case Zex=>k_is)
   (case ZjE=>k_is)
   (case ZjD=>k_is)
   (case ZeZ=>k_is)
   (case ZmJ=>k_is)
   (case Ze0=>k_is)
   (case ZqO=>k_is)
   (case Zp8=>k_is)
   (case Zq1=>k_is)
   (case Zq4=>k_is)
   (case Zuy=>k_is)
   (case Zuq=>k_is)
   (case Zus=>k_is)
   (case ZuN=>k_is)
   (case Zhn=>k_is)
   (case Zd5=>k_is)
   (case Ze3=>k_is)
   (case Zcw=>k_is)
   (case Ze2=>k_is)
   (case Ze1=>k_is)
   (case Zdc=>k_is)
   (case Zf1=>k_is)
   (case Zdd=>k_is)
   (case pg_Or=>k_is)
   (case hd_Or=>k_is)
   (case po_Or=>k_is)
   (case sa_Or=>k_is)
   (case kc_Or=>k_is)
   (case ha_Or=>k_is)
   (case hm_Or=>k_is)
   (case mk_Or=>k_is)
   (case ZuQ=>k_is)
   (case ZjK=>k_is)
   (case ZmN=>k_is)
   (case Zfv=>k_is)
   (case ZmM=>k_is)
   (case ZmL=>k_is)
   (case Zf7=>k_is)
   (case ZqC=>k_is)
   (case Zf8=>k_is)
   (case ZtB=>k_is)
   (case Ztt=>k_is)
   (case ZtC=>k_is)
   (case ZtE=>k_is)
   (case Zw7=>k_is)
   (case ZwX=>k_is)
   (case Zw0=>k_is)
   (case Zxf=>k_is)
   (case ZjH=>k_is)
   (case Ze9=>k_is)
   (case Zf6=>k_is)
   (case Ze8=>k_is)
   (case ZbZ=>k_is)
   (case Zcl=>k_is)
   (case Zbm=>k_is)
   (case ZdE=>k_is)
   (case ZaD=>k_is)
   (case nd_=>decide)
   (case hn_=>k_is)
   (case htk_=>k_is)
   (case ZcJ=>k_is)
   (case ZcQ=>k_is)
   (case Zi1=>k_is)
   (case Zi2=>k_is)
   (case ZkV=>k_is)
   (case Zgl=>k_is)
   (case ZkU=>k_is)
   (case Zgk=>k_is)
   (case ZmZ=>k_is)
   (case ZhB=>k_is)
   (case Zi3=>k_is)
   (case b_len=>k_is)
   (case b_range=>k_is)
   (case b_isinstance=>k_is)
   (case b_int=>k_is)
   (case b_bool=>k_is)
   (case b_str=>k_is)
   (case b_list=>k_is)
   (case b_tuple=>k_is)
   (case b_dict=>k_is)
   (case b_set=>k_is)
   (case b_sorted=>k_is)
   (case b_max=>k_is)
   (case b_min=>k_is)
   (case b_sum=>k_is)
   (case b_any=>k_is)
   (case b_all=>k_is)
   (case b_abs=>k_is)
   (case b_reversed=>k_is)
   (case b_enumerate=>k_is)
   (case b_zip=>k_is)
   (case g_LETTERS=>k_is)
   (case g_MARKS=>k_is)
   (case g_BLANK=>k_is)
   (case g_JOINS=>k_is)
   (case lk_JOINS=>k_is)
  obtain ⟨t,T⟩ :=T
  have e0:=hmg.symm.trans T.m_law
  cases e0
  exact ⟨_,T.bl,fun base _ _=>LW.ok_law T⟩
 case S=>exact fun K H a ns hl hO hS=>⟨a,ns,rfl,hS,hl,hO,fun _=>rfl⟩
 case C=>exact fun _ _ _ _ z=>z
#print axioms PySem.Challenge.cw_evernever_k07_unread_holds
