import PyProof.Rows.All
import Wide.All
import OpenK.AllK
import Wide.FinOn
import Lean
import PyProof.EqAt
import PyProof.EqKinds
import PyProof.TupleCall
import PyProof.P3Eq
import PyProof.NeKinds
import KE.KRevIter
import PyProof.EnumMake
import PyProof.EnumFor
import PyProof.Draws
import PyProof.ZipIter
import PyProof.ConsumeWalk
import PyProof.RaisesMany
import PyProof.ExcClass3
import PyProof.ExcBaseAll.ValueError
import PyProof.RulesAs
import PyProof.ExcAttrAll.ValueError
import PyProof.ReprStr
import PyProof.PassesOwn
import PyProof.ToksMono
import PyProof.DictItems
import PyProof.MeetsIn
import PyProof.StrCalls6
import PyProof.StrCalls2
import PyProof.StrBlock2
import PyProof.StrLawsWords
import PyProof.StrLawsTight
import PyProof.StrLawsChain
import PyProof.ListRange
import PyProof.NsDelKeeps
import PyProof.P3In
import PyProof.DictWalks
import KE.KDictList
import PyProof.Rows.StrInSeq3
import PySem.Challenge.RW_evernever_k18_lines_written
set_option Elab.async false
set_option linter.all false
set_option maxRecDepth 100000
set_option maxHeartbeats 4000000
set_option maxRecDepth 100000
namespace L2
open PySem PySem.Spec PyProof.Rows
abbrev Key:=Sum Int Str
def ZFf:Key→Value→Bool
 | .inl k,v=>Value.isInt k v
 | .inr x,v=>Value.isStrOf x v
def keyH (w:World):Key→Int
 | .inl k=>hashInt k
 | .inr x=>hashStr w x
theorem ZcN:∀ {k:Key} {v:Value},ZFf k v=true→(∃ i t,k=Sum.inl i∧v=Value.int i t)∨(∃ x t,k=Sum.inr x∧v=Value.str x t)
 | .inl i,v,h=>by
  obtain ⟨t,e⟩ :=Value.isInt_shape (k:=i) (v:=v) h
  exact .inl ⟨i,t,rfl,e⟩
 | .inr x,v,h=>by
  obtain ⟨t,e⟩ :=Value.isStrOf_shape (x:=x) (v:=v) h
  exact .inr ⟨x,t,rfl,e⟩
theorem ZGF (i:Int) (t:Tok):ZFf (.inl i) (.int i t)=true:=by simp [ZFf,Value.isInt]
theorem ZGG (x:Str) (t:Tok):ZFf (.inr x) (.str x t)=true:=by simp [ZFf,Value.isStrOf]
theorem ZL4 (a b:Int):decide ((Sum.inl a:Key)=Sum.inl b)=(a == b):=by
 by_cases e:a=b
 ·subst e; simp
 ·have h : ¬ (Sum.inl a:Key)=Sum.inl b:=fun q=>e (Sum.inl.inj q)
  rw [decide_eq_false h]
  exact (beq_eq_false_iff_ne.mpr e).symm
theorem ZL7 (a b:Str):decide ((Sum.inr a:Key)=Sum.inr b)=decide (a=b):=by
 by_cases e:a=b
 ·subst e; simp
 ·have h : ¬ (Sum.inr a:Key)=Sum.inr b:=fun q=>e (Sum.inr.inj q)
  rw [decide_eq_false h,decide_eq_false e]
theorem ZL5 (a:Int) (b:Str):decide ((Sum.inl a:Key)=Sum.inr b)=false:=decide_eq_false (fun q=>nomatch q)
theorem ZL6 (a:Str) (b:Int):decide ((Sum.inr a:Key)=Sum.inl b)=false:=decide_eq_false (fun q=>nomatch q)
def Zc7 (prog:Program) (w:World):PySem.KeyKind prog w Key where
 is:=ZFf
 hash:=keyH w
 inj:=fun v a b ha hb=>by
  rcases ZcN ha with ⟨i,t,rfl,rfl⟩ | ⟨x,t,rfl,rfl⟩
  ·rcases ZcN hb with ⟨j,u,rfl,e⟩ | ⟨y,u,rfl,e⟩
   ·injection e with e1 _; rw [e1]
   ·exact nomatch e
  ·rcases ZcN hb with ⟨j,u,rfl,e⟩ | ⟨y,u,rfl,e⟩
   ·exact nomatch e
   ·injection e with e1 _; rw [e1]
 byValue:=fun k v h=>by
  rcases ZcN h with ⟨i,t,rfl,rfl⟩ | ⟨x,t,rfl,rfl⟩ <;> rfl
 pyHash:=fun hv h=>by
  rcases ZcN hv with ⟨i,t,rfl,rfl⟩ | ⟨x,t,rfl,rfl⟩
  ·exact wpAny_pyHash_int h
  ·exact wpAny_pyHash_str h
 eqBool:=fun hu hv h=>by
  rcases ZcN hu with ⟨i,t,rfl,rfl⟩ | ⟨x,t,rfl,rfl⟩
  ·rcases ZcN hv with ⟨j,u,rfl,rfl⟩ | ⟨y,u,rfl,rfl⟩
   ·rw [ZL4] at h; exact wpAny_eqBool_int h
   ·rw [ZL5] at h; exact SeqAt.EqAt.int_str i t y u _ _ _ _ h
  ·rcases ZcN hv with ⟨j,u,rfl,rfl⟩ | ⟨y,u,rfl,rfl⟩
   ·rw [ZL6] at h; exact SeqAt.EqAt.str_int x t j u _ _ _ _ h
   ·rw [ZL7] at h; exact wpAny_eqBool_str h
 «strs»:=fun k x t v h=>by
  rcases ZcN h with ⟨i,u,rfl,e⟩ | ⟨y,u,rfl,e⟩
  ·exact nomatch e
  ·injection e with e1 _
   subst e1
   cases v <;> rfl
theorem ZDe (prog:Program) (w:World) (i:Int) (t:Tok):(Zc7 prog w).is (.inl i) (.int i t)=true:=ZGF i t
theorem ZDf (prog:Program) (w:World) (x:Str) (t:Tok):(Zc7 prog w).is (.inr x) (.str x t)=true:=ZGG x t
end L2
namespace L2
open PySem PySem.Spec PyProof.Rows
inductive V where
 | non | bl (b:Bool) | int (i:Int) | str (x:Str) | byt (b:Array UInt8) | flt (b:UInt64) | ref (a:Addr) | ty (n:String)
 deriving DecidableEq
def RelV:V→Value→Prop
 | .non,u=>u=Value.none
 | .bl b,u=>u=Value.bool b
 | .int i,u=>∃ t,u=Value.int i t
 | .str x,u=>∃ t,u=Value.str x t
 | .byt b,u=>∃ t,u=Value.bytes b t
 | .flt b,u=>∃ t,u=Value.float b t
 | .ref a,u=>u=Value.ref a
 | .ty n,u=>u=Value.type n
abbrev Vals:List V→List Value→Prop:=Paired RelV
theorem Vals.length {xs:List V} {us:List Value} (r:Vals xs us):xs.length=us.length:=Paired.length r
theorem Vals.get:∀ {xs:List V} {us:List Value} {i:Nat} {x:V},Vals xs us→xs[i]?=some x→∃ u,us[i]?=some u∧RelV x u
 | _,_,_,_,.nil,e=>by simp at e
 | _,_,0,_,.cons r _,e=>by simp at e; subst e; exact ⟨_,rfl,r⟩
 | _,_,i + 1,x,.cons _ t,e=>by
  obtain ⟨u,h1,h2⟩ :=Vals.get (i:=i) (x:=x) t (by simpa using e)
  exact ⟨u,by simpa using h1,h2⟩
theorem Vals.append:∀ {xs ys:List V} {us ws:List Value},Vals xs us→Vals ys ws→Vals (xs ++ ys) (us ++ ws)
 | _,_,_,_,.nil,s=>s
 | _,_,_,_,.cons r t,s=>.cons r (Vals.append t s)
theorem Vals.take:∀ {xs:List V} {us:List Value} (n:Nat),Vals xs us→Vals (xs.take n) (us.take n)
 | _,_,0,_=>.nil
 | _,_,_ + 1,.nil=>.nil
 | _,_,n + 1,.cons r t=>.cons r (Vals.take n t)
theorem Vals.drop:∀ {xs:List V} {us:List Value} (n:Nat),Vals xs us→Vals (xs.drop n) (us.drop n)
 | _,_,0,r=>r
 | _,_,_ + 1,.nil=>.nil
 | _,_,n + 1,.cons _ t=>Vals.drop n t
def RelO:Option V→Option Value→Prop
 | some v,some u=>RelV v u
 | none,none=>True
 | _,_=>False
def KV {κ:Type}:List (κ × V)→List (κ × Value)→Prop:=Paired fun (p:κ × V) (q:κ × Value)=>p.1=q.1∧RelV p.2 q.2
def kV:Key→V
 | .inl i=>.int i
 | .inr x=>.str x
inductive HO where
 | lst (xs:List V)
 | tup (xs:List V)
 | dK (kvs:List (Key × V)) | dT (kvs:List (List Key × V))
 | set (S:Int→Bool) (n:Nat)
 | ins (C dx:Addr) (fs:List (Str × V))
 | own (x:Addr)
 | xd (fs:List (Str × V))
 | met (f x:Addr)
 | rng (lo hi:Int)
 | frz (o:Obj) (u:HO)
 | tbl (ps:Array Value)
 | ext (φ:Heap→Prop)
abbrev Hp:=Addr→Option HO
def upd (H:Hp) (a:Addr) (o:HO):Hp:=fun b=>if b=a then some o else H b
theorem Zaz {H:Hp} {a:Addr} {o:HO}:upd H a o a=some o:=by unfold upd; rw [if_pos rfl]
theorem ZaS {H:Hp} {a b:Addr} {o:HO} (h:b ≠ a):upd H a o b=H b:=by unfold upd; rw [if_neg h]
theorem ZLa {H:Hp} {a:Addr} {o u:HO}:upd (upd H a o) a u=upd H a u:=by
 funext b; unfold upd; split <;> rfl
theorem Zdg {H:Hp} {a b:Addr} {o u:HO} (h:H a=some o) (h':H b=some u) (d:o ≠ u):a ≠ b:=by
 intro e; subst e; rw [h] at h'; exact d (Option.some.inj h')
theorem Zaf {H:Hp} {a b:Addr} {o:HO} (h:H a=some o) (h':H b=none):a ≠ b:=by
 intro e; subst e; rw [h] at h'; cases h'
section
variable (P:Program) (w:World)
def ZeB (H:Hp) (h:Heap) (a:Addr):HO→Prop
 | .lst xs=>xs.length≤sizeLine∧∃ (its:List Value) (n:Nat),Vals xs its∧h.get? a=some { cls:=.type "list",data:=.seq its.toArray n }
 | .tup xs=>xs.length≤sizeLine∧∃ its:List Value,Vals xs its∧IsTup h a its.toArray
 | .dK kvs=>kvs.length≤sizeLine∧(a == sysModules)=false∧∃ vs,KV kvs vs∧h.DictOf (Zc7 P w) a vs
 | .dT kvs=>kvs.length≤sizeLine∧(a == sysModules)=false∧∃ xs:List (List Key × Addr × Value),
   Paired (fun (p:List Key × V) (q:List Key × Addr × Value)=>p.1=q.1∧H q.2.1=some (.tup (p.1.map kV))∧RelV p.2 q.2.2) kvs xs∧
   ∃ o es ep,h.get? a=some o∧o.ExactDict∧o.data=.dict es ep∧es.toList=xs.map (entryOfKey (tupleKind (Zc7 P w)))∧(xs.map (·.1)).Nodup
 | .set S n=>h.SetOf (intKind P w) a S n
 | .ins C dx fs=>H dx=some (.own a)∧fs.length≤1000∧dx ≠ a∧h.get? a=some (PySem.W.instObj C dx)∧
   ∃ mA,h.Ns1 dx mA∧(∀ f,RelO (fs.lookup f) (mA f))∧PySem.Within mA (fs.map (·.1))
 | .own _=>∃ o,h.get? a=some o
 | .xd fs=>∃ mA,h.Ns1 a mA∧∀ f,RelO (fs.lookup f) (mA f)
 | .rng lo hi=>∃ t u v,h.get? a=some { cls:=.type "range",data:=.fields #[.int lo t,.int hi u,.int 1 v] }
 | .frz o u=>h.get? a=some o∧ZeB H h a u
 | .tbl ps=>h.get? a=some { cls:=.none,data:=.fields ps }
 | .met f x=>h.get? a=some (PySem.W.methodObj (.ref f) (.ref x))
 | .ext φ=>φ h∧(∃ o,h.get? a=some o)∧∀ h1 h2:Heap,φ h1→(∀ o,h1.get? a=some o→h2.get? a=some o)→φ h2
def HOk (H:Hp) (h:Heap):Prop:=∀ a o,H a=some o→ZeB P w H h a o
end
section
variable {P:Program} {w:World} {H H':Hp} {h h':Heap} {a:Addr} {o:HO}
theorem ZeB.lt (x:ZeB P w H h a o):a < h.objs.size:=by
 cases o with
 | lst xs=>obtain ⟨_,_,_,_,e⟩ :=x; exact Heap.lt_size e
 | tup xs=>obtain ⟨_,_,_,p⟩ :=x; exact p.lt
 | dK kvs=>obtain ⟨_,_,_,_,o,_,_,e,_⟩ :=x; exact Heap.lt_size e
 | dT kvs=>obtain ⟨_,_,_,_,o,_,_,e,_⟩ :=x; exact Heap.lt_size e
 | set S n=>obtain ⟨o,_,_,_,e,_⟩ :=x; exact Heap.lt_size e
 | ins C dx fs=>obtain ⟨_,_,_,e,_⟩ :=x; exact Heap.lt_size e
 | own y=>obtain ⟨_,e⟩ :=x; exact Heap.lt_size e
 | xd fs=>obtain ⟨_,⟨_,_,_,e,_⟩,_⟩ :=x; exact Heap.lt_size e
 | rng lo hi=>obtain ⟨_,_,_,e⟩ :=x; exact Heap.lt_size e
 | frz ob u=>obtain ⟨e,_⟩ :=x; exact Heap.lt_size e
 | tbl ps=>exact Heap.lt_size (show h.get? a=some _ from x)
 | met f y=>exact Heap.lt_size (show h.get? a=some _ from x)
 | ext φ=>obtain ⟨_,⟨_,e⟩,_⟩ :=x; exact Heap.lt_size e
theorem Paired.mapP {α β:Type} {F G:α→β→Prop}:∀ {l₁:List α} {l₂:List β},Paired F l₁ l₂→(∀ a b,F a b→G a b)→Paired G l₁ l₂
 | _,_,.nil,_=>.nil
 | _,_,.cons r t,f=>.cons (f _ _ r) (Paired.mapP t f)
theorem ZeB.stay (x:ZeB P w H h a o) (k:∀ b u,(b=a∨H b=some (.own a))→h.get? b=some u→h'.get? b=some u)
  (ho:∀ b,H b=some (.own a)→H' b=some (.own a)) (ht:∀ b xs,H b=some (.tup xs)→H' b=some (.tup xs)):ZeB P w H' h' a o:=by
 induction o with
 | lst xs=>obtain ⟨z,its,n,r,e⟩ :=x; exact ⟨z,its,n,r,k _ _ (.inl rfl) e⟩
 | tup xs=>obtain ⟨z,its,r,ob,e,c⟩ :=x; exact ⟨z,its,r,ob,k _ _ (.inl rfl) e,c⟩
 | dK kvs=>obtain ⟨z,y,vs,r,ob,es,ep,e,c⟩ :=x; exact ⟨z,y,vs,r,ob,es,ep,k _ _ (.inl rfl) e,c⟩
 | dT kvs=>
  obtain ⟨z,y,xs,r,ob,es,ep,e,c⟩ :=x
  exact ⟨z,y,xs,Paired.mapP r fun p q z=>⟨z.1,ht _ _ z.2.1,z.2.2⟩,ob,es,ep,k _ _ (.inl rfl) e,c⟩
 | set S n=>obtain ⟨ob,es,ep,t,e,c⟩ :=x; exact ⟨ob,es,ep,t,k _ _ (.inl rfl) e,c⟩
 | ins C dx fs=>
  obtain ⟨d,z,ne,e,mA,⟨od,es,ep,e2,c⟩,r⟩ :=x
  exact ⟨ho _ d,z,ne,k _ _ (.inl rfl) e,mA,⟨od,es,ep,k _ _ (.inr d) e2,c⟩,r⟩
 | own y=>obtain ⟨ob,e⟩ :=x; exact ⟨ob,k _ _ (.inl rfl) e⟩
 | xd fs=>obtain ⟨mA,⟨od,es,ep,e,c⟩,r⟩ :=x; exact ⟨mA,⟨od,es,ep,k _ _ (.inl rfl) e,c⟩,r⟩
 | rng lo hi=>obtain ⟨t,u,v,e⟩ :=x; exact ⟨t,u,v,k _ _ (.inl rfl) e⟩
 | frz ob u ih=>obtain ⟨e,q⟩ :=x; exact ⟨k _ _ (.inl rfl) e,ih q⟩
 | tbl ps=>
  have e:h.get? a=some { cls:=.none,data:=.fields ps }:=x
  show h'.get? a=some { cls:=.none,data:=.fields ps }
  exact k a _ (.inl rfl) e
 | met f y=>
  have e:h.get? a=some (PySem.W.methodObj (.ref f) (.ref y)):=x
  show h'.get? a=some (PySem.W.methodObj (.ref f) (.ref y))
  exact k a _ (.inl rfl) e
 | ext φ=>obtain ⟨p,⟨o,e⟩,st⟩ :=x; exact ⟨st _ _ p fun o q=>k _ _ (.inl rfl) q,⟨o,k _ _ (.inl rfl) e⟩,st⟩
theorem HOk.lt (x:HOk P w H h) (e:H a=some o):a < h.objs.size:=(x a o e).lt
theorem HOk.fresh (x:HOk P w H h) (e:h.objs.size≤a):H a=none:=by
 cases q:H a with
 | none=>rfl
 | some u=>exact absurd (Nat.lt_of_lt_of_le (x.lt q) e) (Nat.lt_irrefl _)
theorem HOk.kept (x:HOk P w H h) (k:∀ b u,h.get? b=some u→h'.get? b=some u):HOk P w H h':=fun a o e=>
 (x a o e).stay (fun b u _ q=>k b u q) (fun _ q=>q) fun _ _ q=>q
theorem HOk.laid (x:HOk P w H h) (k:∀ b u,h.get? b=some u→h'.get? b=some u) (hp:h.objs.size≤a) (new:ZeB P w (upd H a o) h' a o):HOk P w (upd H a o) h':=fun b u e=>by
 have hn:=x.fresh hp
 by_cases hb:b=a
 ·subst hb; rw [Zaz] at e; cases e; exact new
 ·rw [ZaS hb] at e
  exact (x b u e).stay (fun c v _ q=>k c v q) (fun c q=>by rw [ZaS (Zaf q hn)]; exact q) fun c xs q=>by rw [ZaS (Zaf q hn)]; exact q
end
def Rd (H:Hp) (a:Addr) (u:HO):Prop:=H a=some u∨∃ o,H a=some (.frz o u)
theorem Rd.ok {P:Program} {w:World} {H:Hp} {h:Heap} {a:Addr} {u:HO} (r:Rd H a u) (x:HOk P w H h):ZeB P w H h a u:=by
 rcases r with r | ⟨o,r⟩
 ·exact x a u r
 ·obtain ⟨_,q⟩ :=x a _ r
  exact q
def Mut:Option HO→Prop
 | some (.lst _)=>True
 | some (.dK _)=>True
 | some (.dT _)=>True
 | some (.set _ _)=>True
 | some (.ins _ _ _)=>True
 | some (.ext _)=>True
 | _=>False
section
variable {P:Program} {w:World} {H:Hp} {h h':Heap} {x e:Addr} {o':HO}
theorem HOk.write (ok:HOk P w H h) (mu:Mut (H x)) (he:e=x∨H e=some (.own x)) (k:∀ b u,b ≠ e→h.get? b=some u→h'.get? b=some u) (heo:∃ u,h'.get? e=some u)
  (new:ZeB P w (upd H x o') h' x o'):HOk P w (upd H x o') h':=fun b u q=>by
 have nown:∀ c y,H c=some (.own y)→c ≠ x:=fun c y r z=>by subst z; rw [r] at mu; exact mu
 have ntup:∀ c xs,H c=some (.tup xs)→c ≠ x:=fun c xs r z=>by subst z; rw [r] at mu; exact mu
 by_cases hb:b=x
 ·subst hb; rw [Zaz] at q; cases q; exact new
 ·rw [ZaS hb] at q
  by_cases hbe:b=e
  ·have q':H b=some (.own x):=by
    rcases he with z | z
    ·exact absurd (hbe.trans z) hb
    ·rw [hbe]; exact z
   rw [q] at q'; cases q'
   obtain ⟨v,hv⟩ :=heo
   exact ⟨v,by rw [hbe]; exact hv⟩
  ·refine (ok b u q).stay (fun c v hc r=>k c v ?_ r) (fun c r=>by rw [ZaS (nown c b r)]; exact r) fun c xs r=>by rw [ZaS (ntup c xs r)]; exact r
   rcases hc with rfl | hc
   ·exact hbe
   ·rintro rfl
    rcases he with z | z
    ·exact nown c b hc z
    ·rw [hc] at z; cases z; exact hb rfl
end
structure Un (fs ex:List Addr) (H H':Hp) (h h':Heap):Prop where
 keep:∀ b o,h.get? b=some o→H b=none→b ∉ fs→b ∉ ex→h'.get? b=some o
 slot:∀ b o,h.get? b=some o→H b=none→b ∈ fs→b ∉ ex→∃ sl,h'.get? b=some { o with slots:=sl }
 free:∀ b o,h.get? b=some o→H b=none→b ∉ ex→H' b=none
 there:∀ b o,h.get? b=some o→b ∉ ex→∃ o',h'.get? b=some o'
 tups:∀ b xs,H b=some (.tup xs)→H' b=some (.tup xs)
 frzs:∀ b o u,H b=some (.frz o u)→H' b=some (.frz o u)
 tbls:∀ b ps,H b=some (.tbl ps)→∃ more,H' b=some (.tbl (ps ++ more))
section
variable {fs fs' ex ex':List Addr} {H H1 H2:Hp} {h h1 h2 h':Heap} {a x e:Addr} {o:HO}
theorem Un.any (u:Un fs ex H H1 h h1) {b:Addr} {ob:Obj} (q:h.get? b=some ob) (n:H b=none) (hx:b ∉ ex):∃ sl,h1.get? b=some { ob with slots:=sl }:=by
 by_cases hb:b ∈ fs
 ·exact u.slot b ob q n hb hx
 ·exact ⟨ob.slots,u.keep b ob q n hb hx⟩
theorem Un.kept (k:∀ b u,h.get? b=some u→h'.get? b=some u):Un fs ex H H h h':=
 ⟨fun b ob q _ _ _=>k b ob q,fun b ob q _ _ _=>⟨ob.slots,k b ob q⟩,fun _ _ _ n _=>n,fun b ob q _=>⟨ob,k b ob q⟩,fun _ _ q=>q,fun _ _ _ q=>q,fun _ ps q=>⟨#[],by rw [q]; simp⟩⟩
theorem Un.refl:Un fs ex H H h h:=Un.kept fun _ _ q=>q
theorem Un.laid (k:∀ b u,h.get? b=some u→h'.get? b=some u) (hp:h.objs.size≤a) (hn:H a=none):Un fs ex H (upd H a o) h h' where
 keep:=fun b u q _ _ _=>k b u q
 slot:=fun b u q _ _ _=>⟨u.slots,k b u q⟩
 free:=fun b u q n _=>by rw [ZaS (Nat.ne_of_lt (Nat.lt_of_lt_of_le (Heap.lt_size q) hp))]; exact n
 there:=fun b u q _=>⟨u,k b u q⟩
 tups:=fun b xs q=>by rw [ZaS (Zaf q hn)]; exact q
 frzs:=fun b u xs q=>by rw [ZaS (Zaf q hn)]; exact q
 tbls:=fun b ps q=>⟨#[],by rw [ZaS (Zaf q hn),q]; simp⟩
theorem Un.write (mu:Mut (H x)) (he:e=x∨H e=some (.own x)) (k:∀ b u,b ≠ e→h.get? b=some u→h'.get? b=some u) (heo:∃ u,h'.get? e=some u):Un fs ex H (upd H x o) h h':=by
 have hx:∀ b,H b=none→b ≠ x:=fun b n z=>by subst z; rw [n] at mu; exact mu
 have hb:∀ b,H b=none→b ≠ e:=fun b n z=>by
  subst z
  rcases he with r | r
  ·exact hx b n r
  ·rw [n] at r; cases r
 have hm:∀ b u,H b=some u→¬ Mut (some u)→b ≠ x:=fun b u q nm z=>by subst z; rw [q] at mu; exact nm mu
 refine ⟨fun b u q n _ _=>k b u (hb b n) q,fun b u q n _ _=>⟨u.slots,k b u (hb b n) q⟩,fun b u q n _=>by rw [ZaS (hx b n)]; exact n,fun b u q _=>?_,
  fun b xs q=>by rw [ZaS (hm b _ q fun z=>z)]; exact q,fun b u xs q=>by rw [ZaS (hm b _ q fun z=>z)]; exact q,fun b ps q=>⟨#[],by rw [ZaS (hm b _ q fun z=>z),q]; simp⟩⟩
 by_cases hbe:b=e
 ·subst hbe; exact heo
 ·exact ⟨u,k b u hbe q⟩
end
def trk (h:Heap) (H:Hp):List Addr:=(List.range h.objs.size).filter fun a=>(H a).isSome
def hidT (h:Heap) (H:Hp):Heap:=PySem.W.hideAll h (trk h H)
theorem ZGl (h:Heap) (H:Hp):(hidT h H).objs.size=h.objs.size:=PySem.W.hideAll_size _ _
theorem ZIf {h:Heap} {H:Hp} {b:Addr} {o:Obj} (e:h.get? b=some o) (n:H b=none):(hidT h H).get? b=some o:=
 PySem.W.hideAll_get _ e fun hm=>by
  have q:(H b).isSome=true:=(List.mem_filter.mp hm).2
  rw [n] at q; simp at q
theorem ZKG {h:Heap} {H:Hp} {b:Addr} {o:Obj} (e:(hidT h H).get? b=some o):h.get? b=some o∧H b=none:=by
 have e':h.get? b=some o:=PySem.W.of_hideAll (trk h H) e
 refine ⟨e',?_⟩
 cases q:H b with
 | none=>rfl
 | some x=>
  have hm:b ∈ trk h H:=List.mem_filter.mpr ⟨List.mem_range.mpr (Heap.lt_size e'),by simp [q]⟩
  have z:(hidT h H).get? b=none:=PySem.W.hideAll_none (trk h H) hm
  rw [z] at e; cases e
end L2
namespace L2
open PySem PySem.Spec PyProof.Rows
structure Mod (K:PySem.W.Frag) (mg:Str→Option Value) (base:Heap):Prop where
 kin:K.In base
 glob:base.Ns mainGlobals mg
 blt:∃ mb,base.Ns builtinsNs mb∧∀ x:Str,x ≠ "__name__"→mb x=bootBuiltins x
 nolimit:base.NoLimit
structure Cx where
 prog:Program
 w:World
 K:PySem.W.Frag
 mg:Str→Option Value
 base:Heap
 A:Around
 N:List Str
 s₀:Shared
 H₀:Hp
 env:Env
 outer:List Env
 stack:List Env
 ex:List Addr
 fn:Str→Bool
 calm:Bool
 pn:List (Addr × Obj)
 xe:Value→Shared→Prop
def frs (l:List Env):List Addr:=l.filterMap (·.frame)
abbrev Cx.fs (X:Cx):List Addr:=frs X.outer
def Vis (sc:Scope) (x:Str):Prop:=sc.names.lookup x=some .local∨sc.names.lookup x=some .cell∨sc.names.lookup x=some .free
def Loc (sc:Scope) (x:Str):Prop:=sc.names.lookup x=some .local∨sc.names.lookup x=some .cell
def Look (env:Env) (h:Heap) (m:Str→Option Value) (x:Str) (u:Value):Prop:=
 (env.kindOf x=some .local∧m x=some u)∨((env.kindOf x=some .cell∨env.kindOf x=some .free)∧∃ c,env.cells.lookup x=some c∧h.IsCell c (some u))
structure Cx.Ok (X:Cx):Prop where
 mod:Mod X.K X.mg X.base
 kind:X.env.scope.kind=.function
 glob:X.env.globals=mainGlobals
 blt:X.env.builtins=builtinsNs
 above:X.s₀.heap.objs.size≤X.env.locals
 inj:∀ x y c,X.env.cells.lookup x=some c→X.env.cells.lookup y=some c→x=y
 has:∀ x,(X.env.kindOf x=some .cell∨X.env.kindOf x=some .free)→∃ c,X.env.cells.lookup x=some c
 cab:∀ x c,X.fn x=true→X.env.cells.lookup x=some c→X.s₀.heap.objs.size≤c
 hd:X.calm=true→X.A.handled=none
 frames:X.A.frames=some X.stack
 stk:X.stack=X.outer∨(X.stack=X.env :: X.outer∧X.env.frame=some X.env.locals)
 exf:∀ b ∈ X.ex,b ≠ X.env.locals∧∀ x c,X.env.cells.lookup x=some c→c ≠ b
 bs:∀ b o,X.base.get? b=some o→X.s₀.heap.get? b=some o∧X.H₀ b=none
 bsz:X.base.objs.size≤X.s₀.heap.objs.size
 noex:∀ b o,X.base.get? b=some o→b ∉ X.ex
 exfs:∀ b ∈ X.ex,b ∉ X.fs
 funs:X.s₀.heap.FunFrames X.base X.outer
 frf:∀ b ∈ X.fs,X.H₀ b=none
structure Inv (X:Cx) (pins:List (Addr × Obj)) (σ:List (Option V)) (H:Hp) (s:Shared):Prop where
 ok:X.Ok
 os:s.os=X.s₀.os
 bare:AllBare s.gens
 base:Un X.fs X.ex X.H₀ H X.s₀.heap s.heap
 loc:∃ m,s.heap.Ns X.env.locals m∧∀ (i:Nat) (x:Str) (v:V),X.N[i]?=some x→σ[i]?=some (some v)→Vis X.env.scope x→∃ u,RelV v u∧Look X.env s.heap m x u
 cell:∀ x c,X.env.cells.lookup x=some c→∃ v,s.heap.IsCell c v
 free:H X.env.locals=none
 freeC:∀ x c,X.env.cells.lookup x=some c→H c=none
 pin:∀ p ∈ X.pn ++ pins,s.heap.get? p.1=some p.2∧H p.1=none∧p.1 ≠ X.env.locals∧p.1 ∉ X.fs∧∀ v,p.2.data ≠ .cell v
 hok:HOk X.prog X.w H s.heap
 len:σ.length=X.N.length
section
variable {X:Cx} {pins:List (Addr × Obj)} {σ:List (Option V)} {H H':Hp} {s:Shared} {h':Heap}
theorem Cx.Ok.nofr (ok:X.Ok) {b:Addr} {o:Obj} (e:X.base.get? b=some o):b ∉ X.fs:=fun hb=>by
 have:=(ok.funs.mem hb).1
 rw [e] at this; cases this
theorem Inv.bs (I:Inv X pins σ H s):∀ b o,X.base.get? b=some o→s.heap.get? b=some o∧H b=none:=fun b o e=>
 ⟨I.base.keep b o (I.ok.bs b o e).1 (I.ok.bs b o e).2 (I.ok.nofr e) (I.ok.noex b o e),I.base.free b o (I.ok.bs b o e).1 (I.ok.bs b o e).2 (I.ok.noex b o e)⟩
theorem Inv.bk (I:Inv X pins σ H s):∀ b o,X.base.get? b=some o→s.heap.get? b=some o:=fun b o e=>(I.bs b o e).1
theorem Inv.mod (I:Inv X pins σ H s):Mod X.K X.mg X.base:=I.ok.mod
theorem Inv.kIn (I:Inv X pins σ H s):X.K.In s.heap:=I.ok.mod.kin.keeps I.bk
theorem Inv.lt (I:Inv X pins σ H s):X.env.locals < s.heap.objs.size:=let ⟨_,hn,_⟩ :=I.loc; hn.lt
theorem Inv.sz (I:Inv X pins σ H s):X.s₀.heap.objs.size≤s.heap.objs.size:=Nat.le_trans I.ok.above (Nat.le_of_lt I.lt)
theorem Inv.nofs (I:Inv X pins σ H s) {a:Addr} (h:s.heap.objs.size≤a):a ∉ X.fs:=fun hb=>by
 obtain ⟨_,o,ho,_⟩ :=I.ok.funs.mem hb
 exact absurd (Nat.lt_of_lt_of_le (Heap.lt_size ho) (Nat.le_trans I.sz h)) (Nat.lt_irrefl _)
theorem Inv.cne (I:Inv X pins σ H s):∀ x c,X.env.cells.lookup x=some c→c ≠ X.env.locals:=fun x c e z=>by
 obtain ⟨v,o,ho,hd⟩ :=I.cell x c e
 obtain ⟨m,⟨o',es,ep,ho',hd',_⟩,_⟩ :=I.loc
 rw [z,ho'] at ho; cases ho; rw [hd'] at hd; cases hd
theorem Inv.funs (I:Inv X pins σ H s):s.heap.FunFrames X.base X.outer:=by
 have all:∀ (l:List Env),(∀ b ∈ frs l,b ∈ X.fs)→X.s₀.heap.FunFrames X.base l→s.heap.FunFrames X.base l:=by
  intro l
  induction l with
  | nil=>intro _ _; trivial
  | cons env r ih=>
   intro hs hl
   obtain ⟨hk,⟨L,o,hf,hn,ho,hd⟩,hr⟩ :=hl
   have hL:L ∈ X.fs:=hs L (by unfold frs; rw [List.filterMap_cons,hf]; exact List.mem_cons_self)
   obtain ⟨sl,e⟩ :=I.base.slot L o ho (I.ok.frf L hL) hL fun z=>I.ok.exfs L z hL
   exact ⟨hk,⟨L,_,hf,hn,e,hd⟩,ih (fun b hb=>hs b (by unfold frs; rw [List.filterMap_cons,hf]; exact List.mem_cons_of_mem _ hb)) hr⟩
 exact all X.outer (fun _ hb=>hb) I.ok.funs
theorem Inv.stack (I:Inv X pins σ H s):s.heap.FunFrames X.base X.stack:=by
 rcases I.ok.stk with e | ⟨e,hf⟩
 ·rw [e]; exact I.funs
 ·rw [e]
  obtain ⟨m,hn,_⟩ :=I.loc
  refine .cons (by rw [I.ok.kind]; decide) hf hn ?_ I.funs
  exact Heap.get?_none_of_le (Nat.le_trans I.ok.bsz I.ok.above)
theorem Inv.stkSub (I:Inv X pins σ H s):∀ b ∈ frs X.stack,b ∈ X.env.locals :: X.fs:=fun b hb=>by
 rcases I.ok.stk with e | ⟨e,hf⟩
 ·rw [e] at hb; exact List.mem_cons_of_mem _ hb
 ·rw [e] at hb
  unfold frs at hb
  rw [List.filterMap_cons,hf] at hb
  exact hb
theorem Inv.stkFree (I:Inv X pins σ H s):∀ b ∈ frs X.stack,H b=none:=fun b hb=>by
 rcases List.mem_cons.mp (I.stkSub b hb) with e | hb
 ·rw [e]; exact I.free
 ·obtain ⟨_,o,ho,_⟩ :=I.ok.funs.mem hb
  exact I.base.free b o ho (I.ok.frf b hb) fun z=>I.ok.exfs b z hb
theorem Inv.step {g':Array GenState} {t':Nat} {d':Drawn} {ch:List Addr} (I:Inv X pins σ H s)
  (hch:∀ b ∈ ch,(b ∈ X.ex∨X.s₀.heap.objs.size≤b)∧b ≠ X.env.locals∧(∀ x c,X.env.cells.lookup x=some c→c ≠ b)∧∀ p ∈ X.pn ++ pins,p.1 ≠ b)
  (keep:∀ b o,b ≠ X.env.locals→b ∉ X.fs→b ∉ ch→s.heap.get? b=some o→H b=none→h'.get? b=some o)
  (slot:∀ b o,b ≠ X.env.locals→b ∈ X.fs→b ∉ ch→s.heap.get? b=some o→H b=none→∃ sl,h'.get? b=some { o with slots:=sl }) (free:∀ b o,b ∉ ch→s.heap.get? b=some o→H b=none→H' b=none)
  (there:∀ b o,b ∉ ch→s.heap.get? b=some o→∃ o',h'.get? b=some o')
  (tups:∀ b xs,H b=some (.tup xs)→H' b=some (.tup xs)) (frzs:∀ b o u,H b=some (.frz o u)→H' b=some (.frz o u)) (tbls:∀ b ps,H b=some (.tbl ps)→∃ more,H' b=some (.tbl (ps ++ more)))
  (ns:∀ m,s.heap.Ns X.env.locals m→h'.Ns X.env.locals m) (hok:HOk X.prog X.w H' h') (hg:AllBare g') :
  Inv X pins σ H' { s with heap:=h',gens:=g',drawn:=d',toks:=t' }:=by
 have neL:∀ b o,X.s₀.heap.get? b=some o→b ≠ X.env.locals:=fun b o e=>Nat.ne_of_lt (Nat.lt_of_lt_of_le (Heap.lt_size e) I.ok.above)
 have neC:∀ b o,X.s₀.heap.get? b=some o→b ∉ X.ex→b ∉ ch:=fun b o e hx hb=>by
  rcases (hch b hb).1 with z | z
  ·exact hx z
  ·exact absurd (Nat.lt_of_lt_of_le (Heap.lt_size e) z) (Nat.lt_irrefl _)
 have cellK:∀ x c,X.env.cells.lookup x=some c→∀ v,s.heap.IsCell c v→h'.IsCell c v:=fun x c e v ⟨o,ho,hd⟩ =>by
  have nch:c ∉ ch:=fun z=>(hch c z).2.2.1 x c e rfl
  by_cases hc:c ∈ X.fs
  ·obtain ⟨sl,q⟩ :=slot c o (I.cne x c e) hc nch ho (I.freeC x c e)
   exact ⟨_,q,hd⟩
  ·exact ⟨o,keep c o (I.cne x c e) hc nch ho (I.freeC x c e),hd⟩
 refine ⟨I.ok,I.os,hg,⟨fun b o e n hb hx=>?_,fun b o e n hb hx=>?_,fun b o e n hx=>?_,fun b o e hx=>?_,fun b xs e=>tups b xs (I.base.tups b xs e),fun b o xs e=>frzs b o xs (I.base.frzs b o xs e),fun b ps e=>?_⟩,?_,fun x c e=>?_,?_,fun x c e=>?_,fun p hp=>?_,hok,I.len⟩
 ·exact keep b o (neL b o e) hb (neC b o e hx) (I.base.keep b o e n hb hx) (I.base.free b o e n hx)
 ·obtain ⟨sl,e1⟩ :=I.base.slot b o e n hb hx
  obtain ⟨sl',e2⟩ :=slot b _ (neL b o e) hb (neC b o e hx) e1 (I.base.free b o e n hx)
  exact ⟨sl',e2⟩
 ·obtain ⟨o',e1⟩ :=I.base.there b o e hx
  exact free b o' (neC b o e hx) e1 (I.base.free b o e n hx)
 ·obtain ⟨o',e1⟩ :=I.base.there b o e hx
  exact there b o' (neC b o e hx) e1
 ·obtain ⟨m1,e1⟩ :=I.base.tbls b ps e
  obtain ⟨m2,e2⟩ :=tbls b _ e1
  exact ⟨m1 ++ m2,by rw [e2,Array.append_assoc]⟩
 ·obtain ⟨m,hn,hl⟩ :=I.loc
  refine ⟨m,ns m hn,fun i x v e1 e2 e3=>?_⟩
  obtain ⟨u,r,l⟩ :=hl i x v e1 e2 e3
  refine ⟨u,r,?_⟩
  rcases l with l | ⟨k,c,e,z⟩
  ·exact .inl l
  ·exact .inr ⟨k,c,e,cellK x c e _ z⟩
 ·obtain ⟨v,z⟩ :=I.cell x c e
  exact ⟨v,cellK x c e v z⟩
 ·obtain ⟨m,⟨o,_,_,ho,_⟩,_⟩ :=I.loc
  exact free _ o (fun z=>(hch _ z).2.1 rfl) ho I.free
 ·obtain ⟨v,o,ho,hd⟩ :=I.cell x c e
  exact free c o (fun z=>(hch c z).2.2.1 x c e rfl) ho (I.freeC x c e)
 ·obtain ⟨e,n,ne,nf,d⟩ :=I.pin p hp
  have nch:p.1 ∉ ch:=fun z=>(hch p.1 z).2.2.2 p hp rfl
  exact ⟨keep p.1 p.2 ne nf nch e n,free p.1 p.2 nch e n,ne,nf,d⟩
theorem Inv.un {t':Nat} (I:Inv X pins σ H s) (u:Un X.fs [] H H' s.heap h') (hok:HOk X.prog X.w H' h'):Inv X pins σ H' { s with heap:=h',toks:=t' }:=by
 obtain ⟨m,⟨o,es,ep,ho,r⟩,_⟩ :=id I.loc
 obtain ⟨sl,hL⟩ :=u.any ho I.free (by simp)
 exact I.step (g':=s.gens) (d':=s.drawn) (ch:=[]) (fun _ z=>nomatch z) (fun b o _ hb _ e n=>u.keep b o e n hb (by simp)) (fun b o _ hb _ e n=>u.slot b o e n hb (by simp)) (fun b o _ e n=>u.free b o e n (by simp)) (fun b o _ e=>u.there b o e (by simp)) u.tups u.frzs u.tbls (fun m' hm=>by
  obtain ⟨o',es',ep',ho',r'⟩ :=hm
  rw [ho] at ho'; cases ho'
  exact ⟨_,es',ep',hL,r'⟩) hok I.bare
theorem Inv.call {g':Array GenState} {t':Nat} {d':Drawn} {ch:List Addr} (I:Inv X pins σ H s) (u:Un (frs X.stack) ch H H' s.heap h') (hok:HOk X.prog X.w H' h') (hg:AllBare g')
  (hch:∀ b ∈ ch,(b ∈ X.ex∨X.s₀.heap.objs.size≤b)∧b ≠ X.env.locals∧(∀ x c,X.env.cells.lookup x=some c→c ≠ b)∧∀ p ∈ X.pn ++ pins,p.1 ≠ b) :
  Inv X pins σ H' { s with heap:=h',gens:=g',drawn:=d',toks:=t' }:=by
 obtain ⟨m,⟨o,es,ep,ho,r⟩,_⟩ :=id I.loc
 obtain ⟨sl,hL⟩ :=u.any ho I.free fun z=>(hch _ z).2.1 rfl
 exact I.step (ch:=ch) hch (fun b o hL hb hc e n=>u.keep b o e n (fun z=>(List.mem_cons.mp (I.stkSub b z)).elim hL hb) hc) (fun b o _ _ hc e n=>u.any e n hc) (fun b o hc e n=>u.free b o e n hc) (fun b o hc e=>u.there b o e hc) u.tups u.frzs u.tbls (fun m' hm=>by
  obtain ⟨o',es',ep',ho',r'⟩ :=hm
  rw [ho] at ho'; cases ho'
  exact ⟨_,es',ep',hL,r'⟩) hok hg
theorem Inv.turned {t':Nat} {it:Addr} (I:Inv X pins σ H s) (k:∀ b o,b ≠ it→s.heap.get? b=some o→h'.get? b=some o) (hn:H it=none) (hL:it ≠ X.env.locals)
  (h1:it ∈ X.ex∨X.s₀.heap.objs.size≤it) (h2:∀ x c,X.env.cells.lookup x=some c→c ≠ it) (h3:∀ p ∈ X.pn ++ pins,p.1 ≠ it):Inv X pins σ H { s with heap:=h',toks:=t' }:=by
 have nit:∀ b u,H b=some u→b ≠ it:=fun b u e z=>by rw [z,hn] at e; cases e
 refine I.step (g':=s.gens) (d':=s.drawn) (ch:=[it]) (fun b hb=>?_) (fun b o _ _ hc e _=>k b o (fun z=>hc (by simp [z])) e) (fun b o _ _ hc e _=>⟨o.slots,k b o (fun z=>hc (by simp [z])) e⟩) (fun _ _ _ _ n=>n)
  (fun b o hc e=>⟨o,k b o (fun z=>hc (by simp [z])) e⟩) (fun _ _ e=>e) (fun _ _ _ e=>e) (fun b ps e=>⟨#[],by rw [e]; simp⟩) (fun m hm=>?_) (fun b u e=>?_) I.bare
 ·have e:b=it:=by simpa using hb
  subst e
  exact ⟨h1,hL,h2,h3⟩
 ·obtain ⟨o,es,ep,ho,r⟩ :=hm
  exact ⟨o,es,ep,k _ o (Ne.symm hL) ho,r⟩
 ·refine (I.hok b u e).stay (fun c v hc q=>k c v ?_ q) (fun _ q=>q) fun _ _ q=>q
  rcases hc with z | z
  ·rw [z]; exact nit b u e
  ·exact nit c _ z
theorem Inv.tok (I:Inv X pins σ H s) (t:Nat):Inv X pins σ H { s with toks:=t }:=I.un (h':=s.heap) (t':=t) Un.refl I.hok
theorem Inv.kept {t':Nat} (I:Inv X pins σ H s) (k:∀ b u,s.heap.get? b=some u→h'.get? b=some u):Inv X pins σ H { s with heap:=h',toks:=t' }:=I.un (Un.kept k) (I.hok.kept k)
theorem Inv.laid {a:Addr} {o:HO} {t':Nat} (I:Inv X pins σ H s) (k:∀ b u,s.heap.get? b=some u→h'.get? b=some u) (hp:s.heap.objs.size≤a) (new:ZeB X.prog X.w (upd H a o) h' a o) :
  Inv X pins σ (upd H a o) { s with heap:=h',toks:=t' }:=I.un (Un.laid k hp (I.hok.fresh hp)) (I.hok.laid k hp new)
theorem Inv.write {x e:Addr} {o:HO} {t':Nat} (I:Inv X pins σ H s) (mu:Mut (H x)) (he:e=x∨H e=some (.own x)) (k:∀ b u,b ≠ e→s.heap.get? b=some u→h'.get? b=some u) (heo:∃ u,h'.get? e=some u)
  (new:ZeB X.prog X.w (upd H x o) h' x o):Inv X pins σ (upd H x o) { s with heap:=h',toks:=t' }:=I.un (Un.write mu he k heo) (I.hok.write mu he k heo new)
theorem Inv.pins_of {pins':List (Addr × Obj)} (I:Inv X pins σ H s) (h:∀ p ∈ pins',s.heap.get? p.1=some p.2∧H p.1=none∧p.1 ≠ X.env.locals∧p.1 ∉ X.fs∧∀ v,p.2.data ≠ .cell v):Inv X pins' σ H s:=
 ⟨I.ok,I.os,I.bare,I.base,I.loc,I.cell,I.free,I.freeC,fun p hp=>(List.mem_append.mp hp).elim (fun z=>I.pin p (List.mem_append_left _ z)) (h p),I.hok,I.len⟩
theorem Zzi {N:List Str} (hN:N.Nodup) {i j:Nat} {x:Str} (a:N[i]?=some x) (b:N[j]?=some x):i=j:=by
 obtain ⟨h1,e1⟩ :=List.getElem?_eq_some_iff.mp a
 obtain ⟨h2,e2⟩ :=List.getElem?_eq_some_iff.mp b
 exact (List.getElem_inj hN).mp (e1.trans e2.symm)
theorem Zw6 {M:Model} {A:Around} {E:Value→Shared→Prop} {i:Nat} {x:Str} {v:V} {u:Value} {Q:Unit→Shared→Prop} (I:Inv X pins σ H s) (hN:X.N.Nodup) (hi:X.N[i]?=some x) (hx:Loc X.env.scope x) (r:RelV v u)
  (h:∀ s',Inv X pins (σ.set i (some v)) H s'→(∃ a,Heap.SameBut a s.heap s'.heap∧(a=X.env.locals∨X.env.cells.lookup x=some a))→Q () s') (hf:X.fn x=true∨X.env.scope.names.lookup x=some .local:=by first | exact .inl rfl | exact .inr rfl | assumption):wpAny M A (storeName X.env x u) Q E s:=by
 obtain ⟨m,hn,hl⟩ :=id I.loc
 have hcls:(X.env.scope.kind == .class || (X.env.scope.kind == .module && X.env.locals != X.env.globals))=false:=by rw [I.ok.kind]; rfl
 have hiσ:i < σ.length:=by rw [I.len]; exact (List.getElem?_eq_some_iff.mp hi).1
 have cne:=I.cne
 have tracked:∀ {a:Addr} {h':Heap},(∃ o,s.heap.get? a=some o∧H a=none)→Heap.SameBut a s.heap h'→HOk X.prog X.w H h':=fun {a h'} ha hs b ob e=>by
  obtain ⟨_,_,hfree⟩ :=ha
  refine (I.hok b ob e).stay (fun c w' hc q=>(hs.2 c ?_).trans q) (fun _ q=>q) fun _ _ q=>q
  rintro rfl
  rcases hc with rfl | hc
  ·rw [hfree] at e; cases e
  ·rw [hfree] at hc; cases hc
 rcases hx with hk | hk
 ·refine wpAny_storeName_local hk hn (fun h' hn' hs=>?_) hcls
  obtain ⟨oL,_,_,hoL,_⟩ :=id hn
  refine h _ ⟨I.ok,I.os,I.bare,⟨fun b o e n hb hx=>?_,fun b o e n hb hx=>?_,I.base.free,fun b o e hx=>?_,I.base.tups,I.base.frzs,I.base.tbls⟩,⟨_,hn',fun j y v' e1 e2 e3=>?_⟩,fun y c e=>?_,I.free,I.freeC,fun p hp=>?_,tracked ⟨oL,hoL,I.free⟩ hs,by simpa using I.len⟩ ⟨_,hs,.inl rfl⟩
  ·exact (hs.2 b (Nat.ne_of_lt (Nat.lt_of_lt_of_le (Heap.lt_size e) I.ok.above))).trans (I.base.keep b o e n hb hx)
  ·obtain ⟨sl,e1⟩ :=I.base.slot b o e n hb hx
   exact ⟨sl,(hs.2 b (Nat.ne_of_lt (Nat.lt_of_lt_of_le (Heap.lt_size e) I.ok.above))).trans e1⟩
  ·obtain ⟨o',e1⟩ :=I.base.there b o e hx
   exact ⟨o',(hs.2 b (Nat.ne_of_lt (Nat.lt_of_lt_of_le (Heap.lt_size e) I.ok.above))).trans e1⟩
  ·by_cases hj:j=i
   ·subst hj
    rw [hi] at e1; cases e1
    rw [List.getElem?_set_self hiσ] at e2
    cases e2
    exact ⟨u,r,.inl ⟨hk,by simp⟩⟩
   ·rw [List.getElem?_set_ne (Ne.symm hj)] at e2
    obtain ⟨u',r',q⟩ :=hl j y v' e1 e2 e3
    refine ⟨u',r',?_⟩
    rcases q with ⟨k,e⟩ | ⟨k,c,e,z⟩
    ·refine .inl ⟨k,?_⟩
     have:y ≠ x:=fun e=>hj (Zzi hN e1 (e ▸ hi))
     simp [this,e]
    ·exact .inr ⟨k,c,e,z.sameBut hs (cne y c e)⟩
  ·obtain ⟨w',z⟩ :=I.cell y c e
   exact ⟨w',z.sameBut hs (cne y c e)⟩
  ·obtain ⟨e,n,ne,nf,d⟩ :=I.pin p hp
   exact ⟨(hs.2 p.1 ne).trans e,n,ne,nf,d⟩
 ·have hfn:X.fn x=true:=by
   rcases hf with z | z
   ·exact z
   ·rw [z] at hk; cases hk
  obtain ⟨c,hc⟩ :=I.ok.has x (.inl hk)
  obtain ⟨w',z⟩ :=I.cell x c hc
  refine wpAny_storeName_cell I.ok.kind hk hc z (fun h' hc' hs=>?_)
  obtain ⟨oc,hoc,hocd⟩ :=id z
  refine h { s with heap:=h' } ⟨I.ok,I.os,I.bare,⟨fun b o e n hb hx=>?_,fun b o e n hb hx=>?_,I.base.free,fun b o e hx=>?_,I.base.tups,I.base.frzs,I.base.tbls⟩,⟨m,hn.sameBut hs (Ne.symm (cne x c hc)),fun j y v' e1 e2 e3=>?_⟩,fun y c' e=>?_,I.free,I.freeC,fun p hp=>?_,tracked ⟨oc,hoc,I.freeC x c hc⟩ hs,by simpa using I.len⟩ ⟨c,hs,.inr hc⟩
  ·exact (hs.2 b (Nat.ne_of_lt (Nat.lt_of_lt_of_le (Heap.lt_size e) (I.ok.cab x c hfn hc)))).trans (I.base.keep b o e n hb hx)
  ·obtain ⟨sl,e1⟩ :=I.base.slot b o e n hb hx
   exact ⟨sl,(hs.2 b (Nat.ne_of_lt (Nat.lt_of_lt_of_le (Heap.lt_size e) (I.ok.cab x c hfn hc)))).trans e1⟩
  ·obtain ⟨o',e1⟩ :=I.base.there b o e hx
   exact ⟨o',(hs.2 b (Nat.ne_of_lt (Nat.lt_of_lt_of_le (Heap.lt_size e) (I.ok.cab x c hfn hc)))).trans e1⟩
  ·by_cases hj:j=i
   ·subst hj
    rw [hi] at e1; cases e1
    rw [List.getElem?_set_self hiσ] at e2
    cases e2
    exact ⟨u,r,.inr ⟨.inl hk,c,hc,hc'⟩⟩
   ·rw [List.getElem?_set_ne (Ne.symm hj)] at e2
    obtain ⟨u',r',q⟩ :=hl j y v' e1 e2 e3
    refine ⟨u',r',?_⟩
    rcases q with q | ⟨k,c',e,z'⟩
    ·exact .inl q
    ·refine .inr ⟨k,c',e,z'.sameBut hs ?_⟩
     rintro rfl
     exact hj (Zzi hN e1 (I.ok.inj _ _ _ e hc ▸ hi))
  ·by_cases hcc:c'=c
   ·subst hcc; exact ⟨_,hc'⟩
   ·obtain ⟨w2,z2⟩ :=I.cell y c' e
    exact ⟨w2,z2.sameBut hs hcc⟩
  ·obtain ⟨e,n,ne,nf,d⟩ :=I.pin p hp
   refine ⟨(hs.2 p.1 ?_).trans e,n,ne,nf,d⟩
   intro q
   rw [q,hoc] at e
   have q':oc=p.2:=Option.some.inj e
   exact d w' (by rw [← q']; exact hocd)
theorem ZEV {M:Model} {A:Around} {E:Value→Shared→Prop} {i:Nat} {x:Str} {v:V} {u:Value} {Q:Unit→Shared→Prop} (I:Inv X pins σ H s) (hN:X.N.Nodup) (hi:X.N[i]?=some x) (hx:Loc X.env.scope x) (r:RelV v u)
  (h:∀ s',Inv X pins (σ.set i (some v)) H s'→Q () s') (hf:X.fn x=true∨X.env.scope.names.lookup x=some .local:=by first | exact .inl rfl | exact .inr rfl | assumption):wpAny M A (storeName X.env x u) Q E s:=
 Zw6 I hN hi hx r (fun s' I' _=>h s' I') hf
theorem Inv.call' {s':Shared} {ch:List Addr} (I:Inv X pins σ H s) (ho:s'.os=s.os) (u:Un (frs X.stack) ch H H' s.heap s'.heap) (hok:HOk X.prog X.w H' s'.heap) (hg:AllBare s'.gens)
  (hch:∀ b ∈ ch,(b ∈ X.ex∨X.s₀.heap.objs.size≤b)∧b ≠ X.env.locals∧(∀ x c,X.env.cells.lookup x=some c→c ≠ b)∧∀ p ∈ X.pn ++ pins,p.1 ≠ b):Inv X pins σ H' s':=by
 obtain ⟨h',g',d',t',o'⟩ :=s'
 have e:o'=s.os:=ho
 subst e
 exact I.call (g':=g') (t':=t') (d':=d') u hok hg hch
end
abbrev XK:=Value→Option Addr→Hp→Prop
abbrev St:=List (Option V)
abbrev VK:=V→Hp→Prop
abbrev TE:=St→Hp→VK→Prop
abbrev TT:=St→Hp→(Bool→Hp→Prop)→Prop
abbrev TA:=St→Hp→(List V→Hp→Prop)→Prop
structure Ends where
 nx:St→Hp→Prop
 rt:VK
 bk:St→Hp→Prop:=fun _ _=>False
 ct:St→Hp→Prop:=fun _ _=>False
abbrev TS:=Ends→St→Hp→Prop
def EP (X:Cx) (pins:List (Addr × Obj)) (σ:St) (Q:VK) (u:Value) (s':Shared):Prop:=∃ v H',Inv X pins σ H' s'∧RelV v u∧Q v H'
def TP (X:Cx) (pins:List (Addr × Obj)) (σ:St) (Q:Bool→Hp→Prop) (b:Bool) (s':Shared):Prop:=∃ H',Inv X pins σ H' s'∧Q b H'
def AP (X:Cx) (pins:List (Addr × Obj)) (σ:St) (Q:List V→Hp→Prop) (us:List Value) (s':Shared):Prop:=∃ vs H',Inv X pins σ H' s'∧Vals vs us∧Q vs H'
def SP (X:Cx) (pins:List (Addr × Obj)) (D:Ends) (f:Flow) (s':Shared):Prop:=
 match f with
 | .next=>∃ σ' H',Inv X pins σ' H' s'∧D.nx σ' H'
 | .brk=>∃ σ' H',Inv X pins σ' H' s'∧D.bk σ' H'
 | .cont=>∃ σ' H',Inv X pins σ' H' s'∧D.ct σ' H'
 | .ret u=>∃ v σ' H',Inv X pins σ' H' s'∧RelV v u∧D.rt v H'
def PE (X:Cx) (e:Expr) (t:TE):Prop:=
 ∀ (pins:List (Addr × Obj)) (s:Shared) (σ:St) (H:Hp) (Q:VK),Inv X pins σ H s→t σ H Q→wpAny (model X.prog X.w) X.A (eval e X.env) (EP X pins σ Q) X.xe s
def PT (X:Cx) (e:Expr) (t:TT):Prop:=
 ∀ (pins:List (Addr × Obj)) (s:Shared) (σ:St) (H:Hp) (Q:Bool→Hp→Prop),Inv X pins σ H s→t σ H Q→wpAny (model X.prog X.w) X.A (isTrue e X.env (eval e X.env)) (TP X pins σ Q) X.xe s
def PW (X:Cx) (e:Expr) (t:TT):Prop:=
 ∀ (whole:Sem Value) (pins:List (Addr × Obj)) (s:Shared) (σ:St) (H:Hp) (Q:Bool→Hp→Prop),Inv X pins σ H s→t σ H Q→wpAny (model X.prog X.w) X.A (isTrue e X.env whole) (TP X pins σ Q) X.xe s
theorem PW.pt {X:Cx} {e:Expr} {t:TT} (h:PW X e t):PT X e t:=h _
def PA (X:Cx) (es:List Expr) (t:TA):Prop:=
 ∀ (pos:Pos) (pins:List (Addr × Obj)) (s:Shared) (σ:St) (H:Hp) (Q:List V→Hp→Prop),Inv X pins σ H s→t σ H Q→wpAny (model X.prog X.w) X.A (spliced (backTo pos (starEach es X.env))) (AP X pins σ Q) X.xe s
def PS (X:Cx) (st:Stmt) (t:TS):Prop:=
 ∀ (pins:List (Addr × Obj)) (s:Shared) (σ:St) (H:Hp) (D:Ends),Inv X pins σ H s→t D σ H→wpAny (model X.prog X.w) X.A (exec st X.env) (SP X pins D) X.xe s
def PSs (X:Cx) (st:List Stmt) (t:TS):Prop:=
 ∀ (pins:List (Addr × Obj)) (s:Shared) (σ:St) (H:Hp) (D:Ends),Inv X pins σ H s→t D σ H→wpAny (model X.prog X.w) X.A (execs st X.env) (SP X pins D) X.xe s
theorem thn {α:Type} {t:Sem α} {Q Q':α→Shared→Prop} {M:Model} {A:Around} {E:Value→Shared→Prop} {s:Shared} (h:wpAny M A t Q E s) (hQ:∀ a s,Q a s→Q' a s):wpAny M A t Q' E s:=wpAny_mono h hQ fun _ _ x=>x
end L2
namespace L2
open PySem PySem.Spec PyProof.Rows
section
variable {X:Cx}
def tVar (i:Nat):TE:=fun σ H Q=>∃ v,σ[i]?=some (some v)∧Q v H
def tC (v:V):TE:=fun _ H Q=>Q v H
theorem ZMu {i:Nat} {x:Str} {pos:Pos} (hN:X.N[i]?=some x) (hv:Vis X.env.scope x) (hd:(x == ("__debug__" : Str))=false:=by decide) (hcd:(x == ("__classdict__" : Str))=false:=by decide):PE X (.Name x pos) (tVar i):=by
 intro pins s σ H Q I h
 obtain ⟨v,e,h⟩ :=h
 obtain ⟨m,hn,hl⟩ :=I.loc
 obtain ⟨u,r,l⟩ :=hl i x v hN e hv
 have fin:EP X pins σ Q u s:=⟨v,H,I,r,h⟩
 rcases l with ⟨hk,hm⟩ | ⟨hk,c,hc,hcell⟩
 ·exact wpAny_Name (wpAny_loadName_local I.ok.kind hk hn hm fin) hd
 ·rcases hk with hk | hk
  ·exact wpAny_Name (wpAny_loadName_cell I.ok.kind hk hc hcell fin) hd
  ·exact wpAny_Name (wpAny_loadName_free I.ok.kind hk hc hcell fin hcd) hd
theorem Zam {i j pos}:PE X (.Constant (.int i) j pos) (tC (.int i)):=fun _ _ _ H _ I h=>wpAny_Constant_int ⟨.int i,H,I.tok _,⟨_,rfl⟩,h⟩
theorem ZxA {b j pos}:PE X (.Constant (.bool b) j pos) (tC (.bl b)):=fun _ _ _ H _ I h=>Constant_bool ⟨.bl b,H,I,rfl,h⟩
theorem ZJW {j pos}:PE X (.Constant .none j pos) (tC .non):=fun _ _ _ H _ I h=>Constant_none ⟨.non,H,I,rfl,h⟩
theorem Zau {x j pos}:PE X (.Constant (.str x) j pos) (tC (.str x)):=fun _ _ _ H _ I h=>Calls.Constant_str ⟨.str x,H,I.tok _,⟨_,rfl⟩,h⟩
def Gl (X:Cx) (x:Str):Prop:=X.env.kindOf x=some .globalImplicit
theorem Zwi {E:Value→Shared→Prop} {pins:List (Addr × Obj)} {s:Shared} {σ:St} {H:Hp} {x:Str} {u:Value} {pos:Pos} {Q:Value→Shared→Prop} (I:Inv X pins σ H s) (hg:Gl X x) (hm:X.mg x=some u) (h:Q u s)
  (hd:(x == ("__debug__" : Str))=false:=by decide):wpAny (model X.prog X.w) X.A (eval (.Name x pos) X.env) Q E s:=
 Calls.Name_function_global I.ok.kind hg (Calls.loadGlobal_global (by rw [I.ok.glob]; exact I.mod.glob.keeps I.bk) hm h) hd
theorem Zyl {E:Value→Shared→Prop} {pins:List (Addr × Obj)} {s:Shared} {σ:St} {H:Hp} {x:Str} {u:Value} {pos:Pos} {Q:Value→Shared→Prop} (I:Inv X pins σ H s) (hg:Gl X x) (hm:X.mg x=none) (hv:bootBuiltins x=some u) (h:Q u s)
  (hn:x ≠ "__name__":=by decide) (hd:(x == ("__debug__" : Str))=false:=by decide):wpAny (model X.prog X.w) X.A (eval (.Name x pos) X.env) Q E s:=by
 obtain ⟨mb,h1,h2⟩ :=I.mod.blt
 exact Calls.Name_function_global I.ok.kind hg (Calls.loadGlobal_builtin (by rw [I.ok.glob]; exact I.mod.glob.keeps I.bk) hm (by rw [I.ok.blt]; exact h1.keeps I.bk) ((h2 x hn).trans hv) h) hd
theorem ZKN {x:Str} {v:V} {u:Value} {pos:Pos} (hg:Gl X x) (hm:X.mg x=some u) (r:RelV v u) (hd:(x == ("__debug__" : Str))=false:=by decide):PE X (.Name x pos) (tC v):=
 fun _ _ _ H _ I h=>Zwi I hg hm ⟨v,H,I,r,h⟩ hd
theorem ZHf {x:Str} {v:V} {u:Value} {pos:Pos} (hg:Gl X x) (hm:X.mg x=none) (hv:bootBuiltins x=some u) (r:RelV v u) (hn:x ≠ "__name__":=by decide) (hd:(x == ("__debug__" : Str))=false:=by decide):PE X (.Name x pos) (tC v):=
 fun _ _ _ H _ I h=>Zyl I hg hm hv ⟨v,H,I,r,h⟩ hn hd
variable {a b:Expr} {ta tb:TE} {pos:Pos}
variable {tA tB':TT} {rest:List Expr}
def tAnd (t u:TT):TT:=fun σ H Q=>t σ H fun c H1=>if c=true then u σ H1 Q else Q false H1
def tOr (t u:TT):TT:=fun σ H Q=>t σ H fun c H1=>if c=true then Q true H1 else u σ H1 Q
def tNot (t:TT):TT:=fun σ H Q=>t σ H fun c H1=>Q (!c) H1
theorem Zz1 (ha:PT X a tA):PW X (.BoolOp .And [a] pos) tA:=by
 intro wh pins s σ H Q I h
 refine isTrue_and (thn (ha pins s σ H Q I h) fun c s1 e=>?_)
 cases c with
 | true=>exact isTrue_and_nil e
 | false=>exact e
theorem ZoQ (ha:PT X a tA):PW X (.BoolOp .Or [a] pos) tA:=by
 intro wh pins s σ H Q I h
 refine isTrue_or (thn (ha pins s σ H Q I h) fun c s1 e=>?_)
 cases c with
 | false=>exact isTrue_or_nil e
 | true=>exact e
theorem ZyB (ha:PT X a tA) (hb:PW X (.BoolOp .And (b :: rest) pos) tB'):PW X (.BoolOp .And (a :: b :: rest) pos) (tAnd tA tB'):=by
 intro wh pins s σ H Q I h
 refine isTrue_and (thn (ha pins s σ H _ I h) fun c s1 ⟨H1,I1,q1⟩ =>?_)
 cases c with
 | true=>exact hb wh pins s1 σ H1 Q I1 q1
 | false=>exact ⟨H1,I1,q1⟩
theorem ZxD (ha:PT X a tA) (hb:PW X (.BoolOp .Or (b :: rest) pos) tB'):PW X (.BoolOp .Or (a :: b :: rest) pos) (tOr tA tB'):=by
 intro wh pins s σ H Q I h
 refine isTrue_or (thn (ha pins s σ H _ I h) fun c s1 ⟨H1,I1,q1⟩ =>?_)
 cases c with
 | true=>exact ⟨H1,I1,q1⟩
 | false=>exact hb wh pins s1 σ H1 Q I1 q1
theorem ZCb (ha:PT X a tA):PT X (.UnaryOp .Not a pos) (tNot tA):=by
 intro pins s σ H Q I h
 exact isTrue_not (ha pins s σ H (fun c H1=>Q (!c) H1) I h)
def tIf (t:TT) (ta tb:TE):TE:=fun σ H Q=>t σ H fun c H1=>if c=true then ta σ H1 Q else tb σ H1 Q
theorem Zrv {c:Expr} (hc:PT X c tA) (ha:PE X a ta) (hb:PE X b tb):PE X (.IfExp c a b pos) (tIf tA ta tb):=by
 intro pins s σ H Q I h
 refine wpAny_IfExp (thn (hc pins s σ H _ I h) fun d s1 ⟨H1,I1,q1⟩ =>?_)
 cases d with
 | true=>exact ha pins s1 σ H1 Q I1 q1
 | false=>exact hb pins s1 σ H1 Q I1 q1
end
end L2
namespace L2
open PySem PySem.Spec PyProof.Rows
def SqL (K:PySem.W.Frag) (H:Hp) (a:Addr) (xs:List V):Prop:=
 Rd H a (.lst xs)∨
  ∃ (o:Obj) (its:Array Value) (n:Nat),K.lookup a=some o∧o.cls=.type "list"∧o.dict=none∧o.data=.seq its n∧its.size≤sizeLine∧Vals xs its.toList
def SqT (K:PySem.W.Frag) (H:Hp) (a:Addr) (xs:List V):Prop:=
 Rd H a (.tup xs)∨
  ∃ (o:Obj) (its:Array Value) (n:Nat),K.lookup a=some o∧o.cls=.type "tuple"∧o.data=.seq its n∧its.size≤sizeLine∧Vals xs its.toList
def absV:Value→Option V
 | .none=>some .non
 | .bool b=>some (.bl b)
 | .int i _=>some (.int i)
 | .str x _=>some (.str x)
 | .bytes b _=>some (.byt b)
 | .float b _=>some (.flt b)
 | .ref a=>some (.ref a)
 | .type n=>some (.ty n)
 | _=>none
theorem RelV.abs {x:V} {u:Value} (r:RelV x u):absV u=some x:=by
 cases x with
 | non=>cases r; rfl
 | bl _=>cases r; rfl
 | int _=>obtain ⟨t,rfl⟩ :=r; rfl
 | str _=>obtain ⟨t,rfl⟩ :=r; rfl
 | byt _=>obtain ⟨t,rfl⟩ :=r; rfl
 | flt _=>obtain ⟨t,rfl⟩ :=r; rfl
 | ref _=>cases r; rfl
 | ty _=>cases r; rfl
theorem RelV.inj {x y:V} {u:Value} (r:RelV x u) (q:RelV y u):x=y:=Option.some.inj (r.abs.symm.trans q.abs)
theorem Vals.inj:∀ {xs ys:List V} {us:List Value},Vals xs us→Vals ys us→xs=ys
 | _,_,_,.nil,.nil=>rfl
 | _,_,_,.cons r t,.cons r' t'=>by rw [r.inj r',Vals.inj t t']
section
variable {X:Cx} {pins:List (Addr × Obj)} {σ:St} {H:Hp} {s:Shared} {a:Addr} {xs ys:List V}
theorem SqL.of {K:PySem.W.Frag} (h:H a=some (.lst xs)):SqL K H a xs:=.inl (.inl h)
theorem SqT.of {K:PySem.W.Frag} (h:H a=some (.tup xs)):SqT K H a xs:=.inl (.inl h)
theorem Inv.list (I:Inv X pins σ H s) (h:SqL X.K H a xs):∃ its:List Value,Vals xs its∧PlainL s.heap a its.toArray∧xs.length≤sizeLine:=by
 rcases h with h | ⟨o,its,n,hk,hc,hd,hs,hz,r⟩
 ·obtain ⟨z,its,n,r,e⟩ :=h.ok I.hok
  exact ⟨its,r,⟨_,n,e,rfl,rfl,rfl⟩,z⟩
 ·refine ⟨its.toList,r,⟨o,n,I.kIn a o hk,hc,hd,by simpa using hs⟩,?_⟩
  have e:=r.length
  simp only [Array.length_toList] at e
  omega
theorem Inv.tuple (I:Inv X pins σ H s) (h:SqT X.K H a xs):∃ its:List Value,Vals xs its∧IsTup s.heap a its.toArray∧xs.length≤sizeLine:=by
 rcases h with h | ⟨o,its,n,hk,hc,hs,hz,r⟩
 ·obtain ⟨z,its,r,p⟩ :=h.ok I.hok
  exact ⟨its,r,p,z⟩
 ·refine ⟨its.toList,r,⟨o,I.kIn a o hk,hc,n,by simpa using hs⟩,?_⟩
  have e:=r.length
  simp only [Array.length_toList] at e
  omega
theorem Inv.list_inj (I:Inv X pins σ H s) (h:SqL X.K H a xs) (h':SqL X.K H a ys):xs=ys:=by
 obtain ⟨its,r,⟨o,n,e,_,_,d⟩,_⟩ :=I.list h
 obtain ⟨its',r',⟨o',n',e',_,_,d'⟩,_⟩ :=I.list h'
 rw [e] at e'; cases e'
 rw [d] at d'
 injection d' with d1 _
 have:its=its':=by simpa using congrArg Array.toList d1
 subst this
 exact r.inj r'
theorem Inv.tuple_inj (I:Inv X pins σ H s) (h:SqT X.K H a xs) (h':SqT X.K H a ys):xs=ys:=by
 obtain ⟨its,r,⟨o,e,_,n,d⟩,_⟩ :=I.tuple h
 obtain ⟨its',r',⟨o',e',_,n',d'⟩,_⟩ :=I.tuple h'
 rw [e] at e'; cases e'
 rw [d] at d'
 injection d' with d1 _
 have:its=its':=by simpa using congrArg Array.toList d1
 subst this
 exact r.inj r'
end
abbrev Cx.wish (X:Cx) (E:Value→Shared→Prop):Cx:={ X with xe:=E }
abbrev Cx.nox (X:Cx):Cx:=X.wish fun _ _=>False
theorem Cx.Ok.wish {X:Cx} (ok:X.Ok) (E:Value→Shared→Prop):(X.wish E).Ok:=
 ⟨ok.mod,ok.kind,ok.glob,ok.blt,ok.above,ok.inj,ok.has,ok.cab,ok.hd,ok.frames,ok.stk,ok.exf,ok.bs,ok.bsz,ok.noex,ok.exfs,ok.funs,ok.frf⟩
theorem Cx.Ok.unwish {X:Cx} {E:Value→Shared→Prop} (ok:(X.wish E).Ok):X.Ok:=
 ⟨ok.mod,ok.kind,ok.glob,ok.blt,ok.above,ok.inj,ok.has,ok.cab,ok.hd,ok.frames,ok.stk,ok.exf,ok.bs,ok.bsz,ok.noex,ok.exfs,ok.funs,ok.frf⟩
section
variable {X:Cx} {pins:List (Addr × Obj)} {σ:St} {H:Hp} {s:Shared} {E:Value→Shared→Prop}
theorem Inv.wish (I:Inv X pins σ H s) (E:Value→Shared→Prop):Inv (X.wish E) pins σ H s:=⟨I.ok.wish E,I.os,I.bare,I.base,I.loc,I.cell,I.free,I.freeC,I.pin,I.hok,I.len⟩
theorem Inv.unwish (I:Inv (X.wish E) pins σ H s):Inv X pins σ H s:=⟨I.ok.unwish,I.os,I.bare,I.base,I.loc,I.cell,I.free,I.freeC,I.pin,I.hok,I.len⟩
theorem SP.unwish {D:Ends} {f:Flow} {s':Shared} (h:SP (X.wish E) pins D f s'):SP X pins D f s':=by
 cases f with
 | next=>obtain ⟨σ',H',I,q⟩ :=h; exact ⟨σ',H',I.unwish,q⟩
 | brk=>obtain ⟨σ',H',I,q⟩ :=h; exact ⟨σ',H',I.unwish,q⟩
 | cont=>obtain ⟨σ',H',I,q⟩ :=h; exact ⟨σ',H',I.unwish,q⟩
 | ret u=>obtain ⟨v,σ',H',I,r,q⟩ :=h; exact ⟨v,σ',H',I.unwish,r,q⟩
theorem PT.nox {e:Expr} {t:TT} (h:PT X.nox e t):PT X e t:=fun pins s σ H Q I hw=>
 wpAny_mono (h pins s σ H Q (I.wish _) hw) (fun _ _ ⟨H',I',q⟩ =>⟨H',I'.unwish,q⟩) fun _ _ z=>False.elim z
theorem PSs.nox {st:List Stmt} {t:TS} (h:PSs X.nox st t):PSs X st t:=fun pins s σ H D I hw=>
 wpAny_mono (h pins s σ H D (I.wish _) hw) (fun _ _ q=>q.unwish) fun _ _ z=>False.elim z
end
section
variable {X:Cx} {st:Stmt} {rest:List Stmt} {t u:TS} {e:Expr} {te:TE} {pos:Pos}
def ZM1:TS:=fun D σ H=>D.nx σ H
def tSeq (t u:TS):TS:=fun D σ H=>t { D with nx:=u D } σ H
theorem ZaI:PSs X [] ZM1:=fun _ _ σ H _ I h=>wpAny_execs_nil ⟨σ,H,I,h⟩
theorem Zac (h1:PS X st t) (h2:PSs X rest u):PSs X (st :: rest) (tSeq t u):=by
 intro pins s σ H D I h
 refine wpAny_execs_cons (thn (h1 pins s σ H { D with nx:=u D } I h) fun f s1 q=>?_)
 cases f with
 | next=>
  obtain ⟨σ',H',I',q⟩ :=q
  exact h2 pins s1 σ' H' D I' q
 | ret v=>exact q
 | brk=>exact q
 | cont=>exact q
theorem Zae (h1:PS X st t):PSs X [st] t:=by
 intro pins s σ H D I h
 refine wpAny_execs_cons (thn (h1 pins s σ H D I h) fun f s1 q=>?_)
 cases f with
 | next=>exact wpAny_execs_nil q
 | ret v=>exact q
 | brk=>exact q
 | cont=>exact q
theorem Inv.quiet {pins:List (Addr × Obj)} {σ:St} {H:Hp} {s:Shared} (I:Inv X pins σ H s):interactive X.env=false:=by simp [interactive,I.ok.kind]
def ZK8 (te:TE):TS:=fun D σ H=>te σ H fun _ H1=>D.nx σ H1
theorem ZaR (he:PE X e te) (hs:swapsWith e none pos.line X.env=pure false:=by rfl):PS X (.Expr e pos) (ZK8 te):=by
 intro pins s σ H D I h
 exact wpAny_Expr_any (thn (he pins s σ H _ I h) fun v s1 ⟨x,H1,I1,r1,q1⟩ =>⟨σ,H1,I1,q1⟩) I.quiet hs
def tRet (te:TE):TS:=fun D σ H=>te σ H D.rt
theorem ZaA (he:PE X e te):PS X (.Return (some e) pos) (tRet te):=by
 intro pins s σ H D I h
 exact wpAny_Return_some (thn (he pins s σ H _ I h) fun v s1 ⟨x,H1,I1,r1,q1⟩ =>⟨x,σ,H1,I1,r1,q1⟩)
def tIfS (c:TT) (t u:TS):TS:=fun D σ H=>c σ H fun b H1=>if b=true then t D σ H1 else u D σ H1
theorem ZbV {c:Expr} {a b:List Stmt} {tc:TT} (hc:PT X c tc) (ha:PSs X a t) (hb:PSs X b u):PS X (.If c a b pos) (tIfS tc t u):=by
 intro pins s σ H D I h
 refine wpAny_If (thn (hc pins s σ H _ I h) fun d s1 ⟨H1,I1,q1⟩ =>?_)
 cases d with
 | true=>exact ha pins s1 σ H1 D I1 q1
 | false=>exact hb pins s1 σ H1 D I1 q1
def ZM0:TS:=fun _ _ _=>False
theorem Zgi:PS X st ZM0:=fun _ _ _ _ _ _ h=>h.elim
end
abbrev TG:=V→St→Hp→(St→Hp→Prop)→Prop
abbrev TGs:=List V→St→Hp→(St→Hp→Prop)→Prop
def PG (X:Cx) (target:Expr) (t:TG):Prop:=
 ∀ (pins:List (Addr × Obj)) (s:Shared) (σ:St) (H:Hp) (v:V) (u:Value) (Q:St→Hp→Prop),Inv X pins σ H s→RelV v u→t v σ H Q→
  wpAny (model X.prog X.w) X.A (assign target X.env u) (fun _ s'=>∃ σ' H',Inv X pins σ' H' s'∧Q σ' H') X.xe s
def PGs (X:Cx) (ts:List Expr) (t:TGs):Prop:=
 ∀ (pins:List (Addr × Obj)) (s:Shared) (σ:St) (H:Hp) (vs:List V) (us:List Value) (Q:St→Hp→Prop),Inv X pins σ H s→Vals vs us→t vs σ H Q→
  wpAny (model X.prog X.w) X.A (assignInOrder ((assignEach ts X.env).map (·.2)) us) (fun _ s'=>∃ σ' H',Inv X pins σ' H' s'∧Q σ' H') X.xe s
section
variable {X:Cx} {pos:Pos}
def Zv0 (i:Nat):TG:=fun v σ H Q=>Q (σ.set i (some v)) H
theorem ZzU {i:Nat} {x:Str} (hN:X.N.Nodup) (hi:X.N[i]?=some x) (hx:Loc X.env.scope x) (hf:X.fn x=true∨X.env.scope.names.lookup x=some .local:=by first | exact .inl rfl | exact .inr rfl | assumption):PG X (.Name x pos) (Zv0 i):=by
 intro pins s σ H v u Q I r h
 exact wpAny_assign_Name (ZEV I hN hi hx r (fun s' I'=>⟨_,H,I',h⟩) hf)
def gNil:TGs:=fun vs σ H Q=>vs=[]∧Q σ H
def ZKg (t:TG) (u:TGs):TGs:=fun vs σ H Q=>∃ v r,vs=v :: r∧t v σ H fun σ' H'=>u r σ' H' Q
theorem ZsC:PGs X [] gNil:=by
 intro pins s σ H vs us Q I r h
 obtain ⟨e,h⟩ :=h
 subst e
 cases r
 exact assignInOrder_nil ⟨σ,H,I,h⟩
theorem ZeA {e:Expr} {es:List Expr} {t:TG} {u:TGs} (h1:PG X e t) (h2:PGs X es u)
  (hs:(assignEach (e :: es) X.env).map (·.2)=assign e X.env :: (assignEach es X.env).map (·.2):=by rfl):PGs X (e :: es) (ZKg t u):=by
 intro pins s σ H vs us Q I r h
 obtain ⟨v,vr,e1,h⟩ :=h
 subst e1
 cases r with
 | cons r rr=>
  rw [hs]
  refine assignInOrder_cons (thn (h1 pins s σ H _ _ _ I r h) fun _ s1 ⟨σ1,H1,I1,q1⟩ =>?_)
  exact h2 pins s1 σ1 H1 _ _ Q I1 rr q1
def gTup (K:PySem.W.Frag) (n:Nat) (t:TGs):TG:=fun v σ H Q=>∃ a xs,v=.ref a∧SqT K H a xs∧xs.length=n∧t xs σ H Q
theorem Zyx {es:List Expr} {k:Nat} {t:TGs} {n:Nat} (hc:X.calm=true) (h:PGs X es t)
  (hn:(assignEach es X.env).length=n:=by rfl) (hst:(assignEach es X.env).findIdx? (·.1)=none:=by rfl):PG X (.Tuple es k pos) (gTup X.K n t):=by
 intro pins s σ H v u Q I r hw
 obtain ⟨a,xs,e1,hq,hl,hw⟩ :=hw
 subst e1
 cases r
 obtain ⟨its,rv,ht,hz⟩ :=I.tuple hq
 refine assign_Tuple_tuple (I.ok.hd hc) ht (by simp [hn,← hl,rv.length]) hst fun h' hx=>?_
 have I1:Inv X pins σ H { s with heap:=h' }:=I.kept (t':=s.toks) fun b o e=>hx b o (Nat.ne_of_lt (Heap.lt_size e)) e
 exact h pins _ σ H xs _ Q I1 (by simpa using rv) hw
def tAsg (te:TE) (g:TG):TS:=fun D σ H=>te σ H fun x H1=>g x σ H1 D.nx
theorem ZMw {i:Nat} {x:Str} {e:Expr} {te:TE} {pos':Pos} (hN:X.N.Nodup) (hi:X.N[i]?=some x) (hx:Loc X.env.scope x) (he:PE X e te) (hs:swapsWith e (some (.Name x pos')) pos.line X.env=pure false:=by rfl) (hf:X.fn x=true∨X.env.scope.names.lookup x=some .local:=by first | exact .inl rfl | exact .inr rfl | assumption) :
  PS X (.Assign [.Name x pos'] e pos) (tAsg te (Zv0 i)):=by
 intro pins s σ H D I h
 refine wpAny_Assign_Name (thn (he pins s σ H _ I h) fun v s1 ⟨y,H1,I1,r1,q1⟩ =>?_) hs
 exact ZEV I1 hN hi hx r1 (fun s2 I2=>⟨_,H1,I2,q1⟩) hf
end
section
variable {X:Cx} {pos:Pos}
def ZM4 (c:TT) (tb:TS):TS:=fun D σ H=>∃ W:Nat→St→Hp→Prop,(∃ m,W m σ H)∧∀ m σ H,W m σ H→
 c σ H fun b H1=>if b=true then ∃ N:St→Hp→Prop,(∀ σ' H',N σ' H'→∃ m',m' < m∧W m' σ' H')∧tb { D with nx:=N,ct:=N,bk:=D.nx } σ H1 else D.nx σ H1
theorem ZIP {c:Expr} {body:List Stmt} {tc:TT} {tb:TS} (hp:PassesOwn (model X.prog X.w) X.A X.env X.xe) (hc:PT X c tc) (hb:PSs X body tb):PS X (.While c body [] pos) (ZM4 tc tb):=by
 intro pins s σ H D I h
 obtain ⟨W,⟨m0,w0⟩,turn⟩ :=h
 refine wpAny_While (codeAny_whileLoop (fun n s'=>∃ σ' H',Inv X pins σ' H' s'∧W n σ' H') ?_ m0 ⟨σ,H,I,w0⟩)
 rintro n s1 ⟨σ1,H1,I1,w1⟩
 refine wpAny_passesOwn hp (thn (hc pins s1 σ1 H1 _ I1 (turn n σ1 H1 w1)) fun b s2 ⟨H2,I2,q2⟩ =>?_)
 cases b with
 | true=>
  obtain ⟨N,hN,q2⟩ :=q2
  rw [if_pos rfl]
  refine wpAny_passesOwn hp (thn (hb pins s2 σ1 H2 _ I2 q2) fun f s3 q3=>?_)
  cases f with
  | next=>
   obtain ⟨σ3,H3,I3,n3⟩ :=q3
   obtain ⟨m',hm,w3⟩ :=hN σ3 H3 n3
   exact ⟨m',hm,σ3,H3,I3,w3⟩
  | cont=>
   obtain ⟨σ3,H3,I3,n3⟩ :=q3
   obtain ⟨m',hm,w3⟩ :=hN σ3 H3 n3
   exact ⟨m',hm,σ3,H3,I3,w3⟩
  | brk=>exact q3
  | ret v=>exact q3
 | false=>
  rw [if_neg Bool.false_ne_true]
  exact wpAny_execs_nil ⟨σ1,H2,I2,q2⟩
end
structure It where
 go:Nat→Hp→Prop
 yld:Nat→Hp→V→Hp→Prop
 stop:Nat→Hp→Prop
def FpOk (X:Cx) (pins:List (Addr × Obj)) (H:Hp) (b:Addr):Prop:=
 H b=none∧b ≠ X.env.locals∧b ∉ X.fs∧(b ∈ X.ex∨X.s₀.heap.objs.size≤b)∧(∀ x c,X.env.cells.lookup x=some c→c ≠ b)∧∀ p ∈ X.pn ++ pins,p.1 ≠ b
theorem Inv.fpOk {X:Cx} {pins:List (Addr × Obj)} {σ:St} {H H':Hp} {s:Shared} {b:Addr} (I:Inv X pins σ H s) (hb:s.heap.objs.size≤b) (hn:H' b=none):FpOk X pins H' b:=by
 refine ⟨hn,Nat.ne_of_gt (Nat.lt_of_lt_of_le I.lt hb),I.nofs hb,.inr (Nat.le_trans I.sz hb),fun x c e z=>?_,fun p hp z=>?_⟩
 ·obtain ⟨v,q⟩ :=I.cell x c e
  exact absurd (Nat.lt_of_lt_of_le q.lt (by rw [z]; exact hb)) (Nat.lt_irrefl _)
 ·exact absurd (Nat.lt_of_lt_of_le (Heap.lt_size (I.pin p hp).1) (by rw [z]; exact hb)) (Nat.lt_irrefl _)
structure Turn (P:Program) (w:World) (K:PySem.W.Frag) (tg:Expr) (J:It) (fp:List Addr) (it:Addr) (tn:Nat→Heap→Prop):Prop where
 mem:it ∈ fp
 obj:∀ i h,tn i h→∀ b ∈ fp,∃ o,h.get? b=some o∧∀ v,o.data ≠ .cell v
 keep:∀ i h h',tn i h→(∀ b ∈ fp,∀ o,h.get? b=some o→h'.get? b=some o)→tn i h'
 item:∀ (X:Cx),X.prog=P→X.w=w→X.K=K→X.calm=true→∀ (i:Nat) (pins:List (Addr × Obj)) (s:Shared) (σ:St) (H:Hp) (E:Value→Shared→Prop),Inv X pins σ H s→(∀ b ∈ fp,FpOk X pins H b)→tn i s.heap→J.go i H→
  wpAny (model P w) X.A (pyNext (.ref it)) (fun r s1=>∃ u,r=some u∧
   wpAny (model P w) X.A (letOwnedTupleGo tg (.ref it) u) (fun _ s2=>∃ x H',Inv X pins σ H' s2∧RelV x u∧J.yld i H x H'∧tn (i + 1) s2.heap∧∀ b ∈ fp,H' b=none) E s1) E s
 done:∀ (X:Cx),X.prog=P→X.w=w→X.K=K→X.calm=true→∀ (i:Nat) (pins:List (Addr × Obj)) (s:Shared) (σ:St) (H:Hp) (E:Value→Shared→Prop),Inv X pins σ H s→(∀ b ∈ fp,FpOk X pins H b)→tn i s.heap→J.stop i H→
  wpAny (model P w) X.A (pyNext (.ref it)) (fun r s1=>r=none∧Inv X pins σ H s1) E s
 self:∀ (A:Around) (i:Nat) (s:Shared) (Q:Value→Shared→Prop) (E:Value→Shared→Prop),tn i s.heap→Q (.ref it) s→wpAny (model P w) A (pyIter (.ref it)) Q E s
abbrev TI:=St→Hp→(It→Hp→Prop)→Prop
def PIE (X:Cx) (pins:List (Addr × Obj)) (σ:St) (tg:Expr) (R:It→Hp→Prop) (itv:Value) (s2:Shared):Prop:=
 ∃ (it:Addr) (fp:List Addr) (tn:Nat→Heap→Prop) (J:It) (H':Hp),itv=.ref it∧Inv X pins σ H' s2∧Turn X.prog X.w X.K tg J fp it tn∧tn 0 s2.heap∧(∀ b ∈ fp,FpOk X pins H' b)∧R J H'
def PI (X:Cx) (tg iter:Expr) (wi:TI):Prop:=
 ∀ (pins:List (Addr × Obj)) (s:Shared) (σ:St) (H:Hp) (R:It→Hp→Prop),Inv X pins σ H s→wi σ H R→
  wpAny (model X.prog X.w) X.A (eval iter X.env) (fun v s1=>wpAny (model X.prog X.w) X.A (pyIter v) (PIE X pins σ tg R) X.xe s1) X.xe s
theorem ZFa {M:Model} {A:Around} {E:Value→Shared→Prop} {s:Shared} {tg:Expr} {it:Addr} {u:Value} {o:Obj} {n:String} {vs:Array Value} {Q:Unit→Shared→Prop} (ho:s.heap.get? it=some o) (hc:o.cls=.type n) (hd:o.data=.fields vs)
    (hn:["enumerate","zip","dict_itemiterator","dict_reverseitemiterator","odict_iterator","itertools.zip_longest","itertools.pairwise"].contains n=false) (hQ:Q () s):wpAny M A (letOwnedTupleGo tg (.ref it) u) Q E s:=by
  unfold letOwnedTupleGo
  cases tg <;> first
    | exact wpAny_pure hQ
    | (cases u <;> first
        | exact wpAny_pure hQ
        | (refine wpAny_bind (wpAny_load ho ?_)
           rw [hc,hd]
           show wpAny M A (if (["enumerate","zip","dict_itemiterator","dict_reverseitemiterator","odict_iterator","itertools.zip_longest","itertools.pairwise"].contains n && vs[0]? == some (rawInt _))=true then _ else _) Q E s
           rw [if_neg (by intro h; rw [hn,Bool.false_and] at h; cases h)]
           exact wpAny_pure hQ))
def Itl (K:PySem.W.Frag) (a:Addr):It:=
 ⟨fun i H=>∃ xs x,SqL K H a xs∧xs[i]?=some x,fun i H x H'=>H'=H∧∀ xs,SqL K H a xs→xs[i]?=some x,fun i H=>∃ xs,SqL K H a xs∧xs.length≤i⟩
def Itt (K:PySem.W.Frag) (a:Addr):It:=
 ⟨fun i H=>∃ xs x,SqT K H a xs∧xs[i]?=some x,fun i H x H'=>H'=H∧∀ xs,SqT K H a xs→xs[i]?=some x,fun i H=>∃ xs,SqT K H a xs∧xs.length≤i⟩
def Itr (lo:Int) (n:Nat):It:=⟨fun i _=>i < n,fun i H x H'=>H'=H∧x=.int (lo + i),fun i _=>n≤i⟩
theorem ZHO {P:Program} {w:World} {K:PySem.W.Frag} {tg:Expr} (a it:Addr):Turn P w K tg (Itl K a) [it] it (fun i h=>h.IsListIter it a i) where
 mem:=by simp
 obj:=fun i h st b hb=>by
  have e:b=it:=by simpa using hb
  subst e
  obtain ⟨o,e,c,d⟩ :=st
  exact ⟨o,e,fun v z=>by rw [d] at z; cases z⟩
 keep:=fun i h h' st k=>st.at fun o e=>k it (by simp) o e
 item:=by
  intro X hP hw hK hc i pins s σ H E I hf st hg
  subst hP hw hK
  obtain ⟨xs,x,hq,hx⟩ :=hg
  obtain ⟨its,rv,p,hz⟩ :=I.list hq
  obtain ⟨u,hu,ru⟩ :=rv.get hx
  obtain ⟨f0,f1,f2,f3,f4,f5⟩ :=hf it (by simp)
  refine wpAny_pyNext_list_item st p.isList (x:=u) (by simpa using hu) fun h' st' sb=>?_
  have I1:Inv X pins σ H { s with heap:=h' }:=I.turned (t':=s.toks) (fun b o hb e=>(sb.2 b hb).trans e) f0 f1 f3 f4 f5
  obtain ⟨o,e,c,d⟩ :=id st'
  exact ⟨u,rfl,ZFa (s:={ s with heap:=h' }) e c d (by decide) ⟨x,H,I1,ru,⟨rfl,fun ys hy=>by rw [I.list_inj hy hq]; exact hx⟩,st',fun b hb=>(hf b hb).1⟩⟩
 done:=by
  intro X hP hw hK hc i pins s σ H E I hf st hg
  subst hP hw hK
  obtain ⟨xs,hq,hx⟩ :=hg
  obtain ⟨its,rv,p,hz⟩ :=I.list hq
  obtain ⟨f0,f1,f2,f3,f4,f5⟩ :=hf it (by simp)
  have hl:=rv.length
  exact wpAny_pyNext_list_end (I.ok.hd hc) st p.isList (by simp; omega) fun h' eb=>⟨rfl,I.turned (t':=s.toks) (fun b o hb e=>eb b o hb e) f0 f1 f3 f4 f5⟩
 self:=fun _ _ _ _ _ st h=>wpAny_pyIter_listiter st h
theorem ZFD {P:Program} {w:World} {K:PySem.W.Frag} {tg:Expr} (a it:Addr):Turn P w K tg (Itt K a) [it] it (fun i h=>h.IsTupleIter it a i) where
 mem:=by simp
 obj:=fun i h st b hb=>by
  have e:b=it:=by simpa using hb
  subst e
  obtain ⟨o,e,c,d⟩ :=st
  exact ⟨o,e,fun v z=>by rw [d] at z; cases z⟩
 keep:=fun i h h' st k=>st.at fun o e=>k it (by simp) o e
 item:=by
  intro X hP hw hK hc i pins s σ H E I hf st hg
  subst hP hw hK
  obtain ⟨xs,x,hq,hx⟩ :=hg
  obtain ⟨its,rv,p,hz⟩ :=I.tuple hq
  obtain ⟨u,hu,ru⟩ :=rv.get hx
  obtain ⟨f0,f1,f2,f3,f4,f5⟩ :=hf it (by simp)
  refine wpAny_pyNext_tuple_item st (show s.heap.IsTuple a its.toArray from p) (x:=u) (by simpa using hu) fun h' st' sb=>?_
  have I1:Inv X pins σ H { s with heap:=h' }:=I.turned (t':=s.toks) (fun b o hb e=>(sb.2 b hb).trans e) f0 f1 f3 f4 f5
  obtain ⟨o,e,c,d⟩ :=id st'
  exact ⟨u,rfl,ZFa (s:={ s with heap:=h' }) e c d (by decide) ⟨x,H,I1,ru,⟨rfl,fun ys hy=>by rw [I.tuple_inj hy hq]; exact hx⟩,st',fun b hb=>(hf b hb).1⟩⟩
 done:=by
  intro X hP hw hK hc i pins s σ H E I hf st hg
  subst hP hw hK
  obtain ⟨xs,hq,hx⟩ :=hg
  obtain ⟨its,rv,p,hz⟩ :=I.tuple hq
  obtain ⟨f0,f1,f2,f3,f4,f5⟩ :=hf it (by simp)
  have hl:=rv.length
  exact wpAny_pyNext_tuple_end (I.ok.hd hc) st (show s.heap.IsTuple a its.toArray from p) (by simp; omega) fun h' eb=>⟨rfl,I.turned (t':=s.toks) (fun b o hb e=>eb b o hb e) f0 f1 f3 f4 f5⟩
 self:=fun _ _ _ _ _ st h=>wpAny_pyIter_tupleiter st h
theorem ZFC {P:Program} {w:World} {K:PySem.W.Frag} {tg:Expr} (it:Addr) (lo:Int) (n:Nat):Turn P w K tg (Itr lo n) [it] it (fun i h=>IsRangeIter h it (lo + (i:Nat) * 1) ((n:Int) - (i:Nat)) 1) where
 mem:=by simp
 obj:=fun i h st b hb=>by
  have e:b=it:=by simpa using hb
  subst e
  exact ⟨_,st,fun v z=>by
   have z':Data.fields _=Data.cell v:=z
   cases z'⟩
 keep:=fun i h h' st k=>k it (by simp) _ st
 item:=by
  intro X hP hw hK hc i pins s σ H E I hf st hg
  subst hP hw hK
  obtain ⟨f0,f1,f2,f3,f4,f5⟩ :=hf it (by simp)
  have W:=Walks.range (prog:=X.prog) (w:=X.w) (I.ok.hd hc) it lo 1 n
  refine W.item i s _ _ hg st fun v h' tk hv st' kk=>?_
  obtain ⟨t,rfl⟩ :=hv
  have I1:Inv X pins σ H { s with heap:=h',toks:=tk }:=I.turned (fun b o hb e=>kk b o (by simpa using hb) e) f0 f1 f3 f4 f5
  refine ⟨_,rfl,ZFa (s:={ s with heap:=h',toks:=tk }) (n:="range_iterator") st' rfl rfl (by decide) ⟨.int (lo + i),H,I1,⟨t,?_⟩,⟨rfl,rfl⟩,st',fun b hb=>(hf b hb).1⟩⟩
  rw [Int.mul_one]
 done:=by
  intro X hP hw hK hc i pins s σ H E I hf st hg
  subst hP hw hK
  obtain ⟨f0,f1,f2,f3,f4,f5⟩ :=hf it (by simp)
  exact wpAny_pyNext_range_end (I.ok.hd hc) st (by have:n≤i:=hg; omega) fun h' eb=>⟨rfl,I.turned (t':=s.toks) (fun b o hb e=>eb b o hb e) f0 f1 f3 f4 f5⟩
 self:=fun _ _ _ _ _ st h=>wpAny_pyIter_rangeiter st h
end L2
namespace L2
open PySem PySem.Spec PyProof.Rows
section
variable {X:Cx} {tg:Expr}
theorem ZIS {pins:List (Addr × Obj)} {σ:St} {H:Hp} {s:Shared} {R:It→Hp→Prop} {E:Value→Shared→Prop} {lo hi:Int} {t u v:Tok} {tk:Nat} (I:Inv X pins σ H s) (h1 : -(2 ^ 62)≤lo) (h2:lo < 2 ^ 62) (h3 : -(2 ^ 62)≤hi) (h4:hi < 2 ^ 62)
  (q:R (Itr lo (hi - lo).toNat) H):wpAny (model X.prog X.w) X.A (pyIter (.ref s.heap.objs.size)) (PIE X pins σ tg R) E { s with heap:=s.heap.push { cls:=.type "range",data:=.fields #[.int lo t,.int hi u,.int 1 v] },toks:=tk }:=by
 refine wpAny_pyIter_range (IsRange.new ..) (small_one h1 h2 h3 h4) ?_
 have I1:Inv X pins σ H { s with heap:=s.heap.push { cls:=.type "range",data:=.fields #[.int lo t,.int hi u,.int 1 v] },toks:=tk }:=I.kept fun b o e=>Heap.get?_push_of_some _ e
 refine ⟨(s.heap.push { cls:=.type "range",data:=.fields #[.int lo t,.int hi u,.int 1 v] }).objs.size,[(s.heap.push { cls:=.type "range",data:=.fields #[.int lo t,.int hi u,.int 1 v] }).objs.size],_,_,H,rfl,
  I1.kept (t':=tk) fun b o e=>Heap.get?_push_of_some _ e,ZFC _ lo (hi - lo).toNat,?_,fun b hb=>?_,q⟩
 ·have e1:lo + ((0:Nat):Int) * 1=lo:=by simp
  have e2:(((hi - lo).toNat:Nat):Int) - ((0:Nat):Int)=Builtin.Range.rangeSize lo hi 1:=by rw [rangeSize_one]; split <;> omega
  show IsRangeIter _ _ (lo + ((0:Nat):Int) * 1) ((((hi - lo).toNat:Nat):Int) - ((0:Nat):Int)) 1
  rw [e1,e2]
  exact Heap.get?_push_size _ rfl
 ·have e:b=(s.heap.push { cls:=.type "range",data:=.fields #[.int lo t,.int hi u,.int 1 v] }).objs.size:=by simpa using hb
  subst e
  exact I1.fpOk (Nat.le_refl _) (I1.hok.fresh (Nat.le_refl _))
def ZKk (ta:TA):TI:=fun σ H R=>ta σ H fun vs H1=>∃ j:Int,vs=[.int j]∧-(2 ^ 62)≤j∧j < 2 ^ 62∧R (Itr 0 j.toNat) H1
theorem Zer {a:Expr} {ta:TA} {p pos:Pos} (hg:Gl X "range") (hm:X.mg "range" = none) (ha:PA X [a] ta) (hs:starEach [a] X.env=[(false,eval a X.env)]:=by rfl):PI X tg (.Call (.Name "range" p) [a] [] pos) (ZKk ta):=by
 intro pins s σ H R I h
 refine Call_ (Zyl I hg hm boot_range (PyProof.Rows.callWith_type1 (thn (ha pos pins s σ H _ I h) fun us s1 ⟨vs,H1,I1,r1,q1⟩ =>?_) hs rfl))
 obtain ⟨j,e,q1,q2,q⟩ :=q1
 subst e
 cases r1 with
 | cons r rr=>
  cases rr
  obtain ⟨t,rfl⟩ :=r
  exact call_range_1 (ZIS I1 (by omega) (by omega) q1 q2 (by simpa using q))
def tFor (wi:TI) (g:TG) (tb:TS):TS:=fun D σ H=>wi σ H fun J H1=>∃ W:Nat→Nat→St→Hp→Prop,(∃ m,W 0 m σ H1)∧∀ i m σ H,W i m σ H→
 (J.stop i H∧D.nx σ H)∨(J.go i H∧∃ N:St→Hp→Prop,(∀ σ' H',N σ' H'→∃ m',m' < m∧W (i + 1) m' σ' H')∧∀ x H',J.yld i H x H'→g x σ H' fun σ2 H2=>tb { D with nx:=N,ct:=N,bk:=D.nx } σ2 H2)
def Zyy (fp:List Addr) (h:Heap):List (Addr × Obj):=fp.filterMap fun b=>(h.get? b).map fun o=>(b,o)
theorem ZfX {fp:List Addr} {h:Heap} {b:Addr} {o:Obj} (hb:b ∈ fp) (e:h.get? b=some o):(b,o) ∈ Zyy fp h:=List.mem_filterMap.mpr ⟨b,hb,by rw [e]; rfl⟩
theorem ZG3 {fp:List Addr} {h:Heap} {p:Addr × Obj} (hp:p ∈ Zyy fp h):p.1 ∈ fp∧h.get? p.1=some p.2:=by
 obtain ⟨b,hb,e⟩ :=List.mem_filterMap.mp hp
 cases q:h.get? b with
 | none=>rw [q] at e; cases e
 | some o=>
  rw [q] at e
  have e':(b,o)=p:=Option.some.inj e
  subst e'
  exact ⟨hb,q⟩
theorem Inv.pinned {pins:List (Addr × Obj)} {σ:St} {H:Hp} {s:Shared} {fp:List Addr} (I:Inv X pins σ H s) (hf:∀ b ∈ fp,FpOk X pins H b) (ho:∀ b ∈ fp,∃ o,s.heap.get? b=some o∧∀ v,o.data ≠ .cell v):Inv X (pins ++ Zyy fp s.heap) σ H s:=
 I.pins_of fun p hp=>(List.mem_append.mp hp).elim (fun z=>I.pin p (List.mem_append_right _ z)) fun z=>by
  obtain ⟨hb,e⟩ :=ZG3 z
  obtain ⟨f0,f1,f2,_⟩ :=hf p.1 hb
  obtain ⟨o,e',d⟩ :=ho p.1 hb
  rw [e] at e'; cases e'
  exact ⟨e,f0,f1,f2,d⟩
theorem Inv.unpinned {pins pl:List (Addr × Obj)} {σ:St} {H:Hp} {s:Shared} (I:Inv X (pins ++ pl) σ H s):Inv X pins σ H s:=I.pins_of fun p hp=>I.pin p (List.mem_append_right _ (List.mem_append_left _ hp))
theorem Zb5 {iter:Expr} {body:List Stmt} {wi:TI} {g:TG} {tb:TS} {pos:Pos} (hp:PassesOwn (model X.prog X.w) X.A X.env X.xe) (hc:X.calm=true) (hi:PI X tg iter wi) (hg:PG X tg g) (hb:PSs X body tb)
  (hs:∀ x,foldedSetIterable iter X.env x=pure x:=by intro _; rfl):PS X (.For tg iter body [] pos) (tFor wi g tb):=by
 intro pins s σ H D I h
 refine wpAny_For (thn (hi pins s σ H _ I h) fun v s1 h1=>thn h1 fun itv s2 h2=>?_) hs
 obtain ⟨it,fp,tn,J,H2,e,I2,T,st2,f2,W,⟨m0,w0⟩,turn⟩ :=h2
 subst e
 have stat:∀ {H':Hp},(∀ b ∈ fp,H' b=none)→∀ b ∈ fp,FpOk X pins H' b:=fun hn b hb=>⟨hn b hb,(f2 b hb).2⟩
 refine codeAny_forLoop_any (fun n s'=>∃ i σ' H',Inv X pins σ' H' s'∧tn i s'.heap∧(∀ b ∈ fp,H' b=none)∧W i n σ' H') ?_ m0 ⟨0,σ,H2,I2,st2,fun b hb=>(f2 b hb).1,w0⟩
 rintro n s3 ⟨i,σ3,H3,I3,st3,fr3,w3⟩
 rcases turn i n σ3 H3 w3 with ⟨stop,qn⟩ | ⟨go,N,hN,step⟩
 ·refine wpAny_passesOwn hp (thn (T.done X rfl rfl rfl hc i pins s3 σ3 H3 X.xe I3 (stat fr3) st3 stop) fun r s4 ⟨hr,I4⟩ =>?_)
  subst hr
  exact wpAny_execs_nil ⟨σ3,H3,I4,qn⟩
 ·refine wpAny_passesOwn hp (thn (T.item X rfl rfl rfl hc i pins s3 σ3 H3 X.xe I3 (stat fr3) st3 go) fun r s4 ⟨u,hr,h4⟩ =>?_)
  subst hr
  refine wpAny_passesOwn hp (thn h4 fun _ s5 ⟨x,H5,I5,r5,y5,st5,fr5⟩ =>?_)
  have I5':=I5.pinned (stat fr5) (T.obj _ _ st5)
  refine wpAny_passesOwn hp (thn (hg _ s5 σ3 H5 x u _ I5' r5 (step x H5 y5)) fun _ s6 ⟨σ6,H6,I6,q6⟩ =>?_)
  refine wpAny_passesOwn hp (thn (hb _ s6 σ6 H6 _ I6 q6) fun f s7 q7=>?_)
  have again:∀ {σ7:St} {H7:Hp},Inv X (pins ++ Zyy fp s5.heap) σ7 H7 s7→N σ7 H7→∃ m,m < n∧∃ i σ' H',Inv X pins σ' H' s7∧tn i s7.heap∧(∀ b ∈ fp,H' b=none)∧W i m σ' H':=fun {σ7 H7} I7 n7=>by
   obtain ⟨m',hm,w7⟩ :=hN σ7 H7 n7
   refine ⟨m',hm,i + 1,σ7,H7,I7.unpinned,T.keep _ _ _ st5 fun b hb o e=>(I7.pin (b,o) (List.mem_append_right _ (List.mem_append_right _ (ZfX hb e)))).1,fun b hb=>?_,w7⟩
   obtain ⟨o,e,d⟩ :=T.obj _ _ st5 b hb
   exact (I7.pin (b,o) (List.mem_append_right _ (List.mem_append_right _ (ZfX hb e)))).2.1
  cases f with
  | next=>obtain ⟨σ7,H7,I7,n7⟩ :=q7; exact again I7 n7
  | cont=>obtain ⟨σ7,H7,I7,n7⟩ :=q7; exact again I7 n7
  | brk=>obtain ⟨σ7,H7,I7,q7⟩ :=q7; exact ⟨σ7,H7,I7.unpinned,q7⟩
  | ret v=>obtain ⟨x7,σ7,H7,I7,r7,q7⟩ :=q7; exact ⟨x7,σ7,H7,I7.unpinned,r7,q7⟩
end
theorem ZH9 {K:PySem.W.Frag} {a:Addr} {xs:List V} {g:TG} {tb:TS} {D:Ends} {σ:St} {H:Hp} (Pv:Nat→St→Hp→Prop) (h0:Pv 0 σ H) (hl:∀ i σ H,i≤xs.length→Pv i σ H→SqL K H a xs)
  (hs:∀ i x σ H,xs[i]?=some x→Pv i σ H→g x σ H fun σ2 H2=>tb { D with nx:=Pv (i + 1),ct:=Pv (i + 1),bk:=D.nx } σ2 H2) (hd:∀ σ H,Pv xs.length σ H→D.nx σ H) :
  ∃ W:Nat→Nat→St→Hp→Prop,(∃ m,W 0 m σ H)∧∀ i m σ H,W i m σ H→
   ((Itl K a).stop i H∧D.nx σ H)∨((Itl K a).go i H∧∃ N:St→Hp→Prop,(∀ σ' H',N σ' H'→∃ m',m' < m∧W (i + 1) m' σ' H')∧∀ x H',(Itl K a).yld i H x H'→g x σ H' fun σ2 H2=>tb { D with nx:=N,ct:=N,bk:=D.nx } σ2 H2):=by
 refine ⟨fun i m σ H=>m=xs.length - i∧i≤xs.length∧Pv i σ H,⟨xs.length,by simp,Nat.zero_le _,h0⟩,?_⟩
 rintro i m σ H ⟨rfl,hi,p⟩
 have q:=hl i σ H hi p
 by_cases hlt:i < xs.length
 ·refine .inr ⟨⟨xs,xs[i],q,by simp [hlt]⟩,Pv (i + 1),fun σ' H' p'=>⟨xs.length - (i + 1),by omega,rfl,hlt,p'⟩,fun x H' y=>?_⟩
  obtain ⟨e,y⟩ :=y
  subst e
  exact hs i x σ _ (y xs q) p
 ·have e:i=xs.length:=by omega
  subst e
  exact .inl ⟨⟨xs,q,Nat.le_refl _⟩,hd σ H p⟩
theorem ZKe {K:PySem.W.Frag} {a:Addr} {xs:List V} {g:TG} {tb:TS} {D:Ends} {σ:St} {H:Hp} (Pv:Nat→St→Hp→Prop) (h0:Pv 0 σ H) (hl:∀ i σ H,i≤xs.length→Pv i σ H→SqT K H a xs)
  (hs:∀ i x σ H,xs[i]?=some x→Pv i σ H→g x σ H fun σ2 H2=>tb { D with nx:=Pv (i + 1),ct:=Pv (i + 1),bk:=D.nx } σ2 H2) (hd:∀ σ H,Pv xs.length σ H→D.nx σ H) :
  ∃ W:Nat→Nat→St→Hp→Prop,(∃ m,W 0 m σ H)∧∀ i m σ H,W i m σ H→
   ((Itt K a).stop i H∧D.nx σ H)∨((Itt K a).go i H∧∃ N:St→Hp→Prop,(∀ σ' H',N σ' H'→∃ m',m' < m∧W (i + 1) m' σ' H')∧∀ x H',(Itt K a).yld i H x H'→g x σ H' fun σ2 H2=>tb { D with nx:=N,ct:=N,bk:=D.nx } σ2 H2):=by
 refine ⟨fun i m σ H=>m=xs.length - i∧i≤xs.length∧Pv i σ H,⟨xs.length,by simp,Nat.zero_le _,h0⟩,?_⟩
 rintro i m σ H ⟨rfl,hi,p⟩
 have q:=hl i σ H hi p
 by_cases hlt:i < xs.length
 ·refine .inr ⟨⟨xs,xs[i],q,by simp [hlt]⟩,Pv (i + 1),fun σ' H' p'=>⟨xs.length - (i + 1),by omega,rfl,hlt,p'⟩,fun x H' y=>?_⟩
  obtain ⟨e,y⟩ :=y
  subst e
  exact hs i x σ _ (y xs q) p
 ·have e:i=xs.length:=by omega
  subst e
  exact .inl ⟨⟨xs,q,Nat.le_refl _⟩,hd σ H p⟩
theorem ZGd {lo:Int} {n:Nat} {g:TG} {tb:TS} {D:Ends} {σ:St} {H:Hp} (Pv:Nat→St→Hp→Prop) (h0:Pv 0 σ H)
  (hs:∀ i σ H,i < n→Pv i σ H→g (.int (lo + i)) σ H fun σ2 H2=>tb { D with nx:=Pv (i + 1),ct:=Pv (i + 1),bk:=D.nx } σ2 H2) (hd:∀ σ H,Pv n σ H→D.nx σ H) :
  ∃ W:Nat→Nat→St→Hp→Prop,(∃ m,W 0 m σ H)∧∀ i m σ H,W i m σ H→
   ((Itr lo n).stop i H∧D.nx σ H)∨((Itr lo n).go i H∧∃ N:St→Hp→Prop,(∀ σ' H',N σ' H'→∃ m',m' < m∧W (i + 1) m' σ' H')∧∀ x H',(Itr lo n).yld i H x H'→g x σ H' fun σ2 H2=>tb { D with nx:=N,ct:=N,bk:=D.nx } σ2 H2):=by
 refine ⟨fun i m σ H=>m=n - i∧i≤n∧Pv i σ H,⟨n,by simp,Nat.zero_le _,h0⟩,?_⟩
 rintro i m σ H ⟨rfl,hi,p⟩
 by_cases hlt:i < n
 ·refine .inr ⟨hlt,Pv (i + 1),fun σ' H' p'=>⟨n - (i + 1),by omega,rfl,hlt,p'⟩,fun x H' y=>?_⟩
  obtain ⟨e,y⟩ :=y
  subst e y
  exact hs i σ _ hlt p
 ·have e:i=n:=by omega
  subst e
  exact .inl ⟨Nat.le_refl _,hd σ H p⟩
end L2
namespace L2
open PySem PySem.Spec PyProof.Rows
abbrev R2:=V→V→Hp→VK→Prop
def OpR (X:Cx) (f:Value→Value→Sem Value) (r:R2):Prop:=
 ∀ (pins:List (Addr × Obj)) (s:Shared) (σ:St) (H:Hp) (x y:V) (v u:Value) (Q:VK),Inv X pins σ H s→RelV x v→RelV y u→r x y H Q→
  wpAny (model X.prog X.w) X.A (f v u) (EP X pins σ Q) X.xe s
def UnR (X:Cx) (f:Value→Sem Value) (r:V→Hp→VK→Prop):Prop:=
 ∀ (pins:List (Addr × Obj)) (s:Shared) (σ:St) (H:Hp) (x:V) (v:Value) (Q:VK),Inv X pins σ H s→RelV x v→r x H Q→
  wpAny (model X.prog X.w) X.A (f v) (EP X pins σ Q) X.xe s
def Zr1 (X:Cx) (f:Value) (r:List V→Hp→VK→Prop):Prop:=
 ∀ (pins:List (Addr × Obj)) (s:Shared) (σ:St) (H:Hp) (xs:List V) (us:List Value) (Q:VK),Inv X pins σ H s→Vals xs us→r xs H Q→
  wpAny (model X.prog X.w) X.A (call f us) (EP X pins σ Q) X.xe s
def TruR (X:Cx) (r:V→Hp→(Bool→Hp→Prop)→Prop):Prop:=
 ∀ (pins:List (Addr × Obj)) (s:Shared) (σ:St) (H:Hp) (x:V) (v:Value) (Q:Bool→Hp→Prop),Inv X pins σ H s→RelV x v→r x H Q→
  wpAny (model X.prog X.w) X.A (truthy v) (TP X pins σ Q) X.xe s
def tOp (r:R2) (ta tb:TE):TE:=fun σ H Q=>ta σ H fun x H1=>tb σ H1 fun y H2=>r x y H2 Q
def tUn (r:V→Hp→VK→Prop) (ta:TE):TE:=fun σ H Q=>ta σ H fun x H1=>r x H1 Q
def rI (C:Int→Int→Prop) (g:Int→Int→V):R2:=fun x y H Q=>∃ i j,x=.int i∧y=.int j∧C i j∧Q (g i j) H
def rI0 (g:Int→Int→V):R2:=fun x y H Q=>∃ i j,x=.int i∧y=.int j∧Q (g i j) H
def rU (g:Int→V):V→Hp→VK→Prop:=fun x H Q=>∃ i,x=.int i∧Q (g i) H
section
variable {X:Cx} {a b c:Expr} {ta tb tc:TE} {pos:Pos}
theorem binT (ha:PE X a ta) (hb:PE X b tb) {pins:List (Addr × Obj)} {s:Shared} {σ:St} {H:Hp} {R:V→V→Hp→Prop} (I:Inv X pins σ H s)
  (h:ta σ H fun x H1=>tb σ H1 fun y H2=>R x y H2) {Q:Value→Shared→Prop} {f:Value→Value→Sem Value}
  (hf:∀ v u s2 x y H2,Inv X pins σ H2 s2→RelV x v→RelV y u→R x y H2→wpAny (model X.prog X.w) X.A (f v u) Q X.xe s2) :
  wpAny (model X.prog X.w) X.A (eval a X.env) (fun v s₁=>wpAny (model X.prog X.w) X.A (eval b X.env) (fun u s₂=>wpAny (model X.prog X.w) X.A (f v u) Q X.xe s₂) X.xe s₁) X.xe s:=by
 refine thn (ha pins s σ H _ I h) fun v s1 ⟨x,H1,I1,r1,q1⟩ =>?_
 refine thn (hb pins s1 σ H1 _ I1 q1) fun u s2 ⟨y,H2,I2,r2,q2⟩ =>?_
 exact hf v u s2 x y H2 I2 r1 r2 q2
theorem ZaD {op:Operator} {r:R2} (ho:OpR X (binaryOp op) r) (ha:PE X a ta) (hb:PE X b tb):PE X (.BinOp a op b pos) (tOp r ta tb):=by
 intro pins s σ H Q I h
 exact wpAny_BinOp (binT ha hb I h fun v u s2 x y H2 I2 rx ry q=>ho pins s2 σ H2 x y v u Q I2 rx ry q)
theorem ZFv {op:UnaryOp} {r:V→Hp→VK→Prop} (ho:UnR X (unaryOp op) r) (ha:PE X a ta):PE X (.UnaryOp op a pos) (tUn r ta):=by
 intro pins s σ H Q I h
 exact UnaryOp_ (thn (ha pins s σ H _ I h) fun v s1 ⟨x,H1,I1,r1,q1⟩ =>ho pins s1 σ H1 x v Q I1 r1 q1)
theorem opI {f:Value→Value→Sem Value} {C:Int→Int→Prop} {g:Int→Int→Int}
  (rule:∀ (i j:Int) (t u:Tok) (s:Shared) (Q:Value→Shared→Prop) (E:Value→Shared→Prop),C i j→Q (.int (g i j) s.toks) { s with toks:=s.toks + 1 }→wpAny (model X.prog X.w) X.A (f (.int i t) (.int j u)) Q E s) :
  OpR X f (rI C fun i j=>.int (g i j)):=by
 intro pins s σ H x y v u Q I rx ry h
 obtain ⟨i,j,rfl,rfl,hc,q⟩ :=h
 obtain ⟨t,rfl⟩ :=rx
 obtain ⟨t',rfl⟩ :=ry
 exact rule i j t t' s _ _ hc ⟨.int (g i j),H,I.tok _,⟨_,rfl⟩,q⟩
theorem opI0 {f:Value→Value→Sem Value} {g:Int→Int→Int}
  (rule:∀ (i j:Int) (t u:Tok) (s:Shared) (Q:Value→Shared→Prop) (E:Value→Shared→Prop),Q (.int (g i j) s.toks) { s with toks:=s.toks + 1 }→wpAny (model X.prog X.w) X.A (f (.int i t) (.int j u)) Q E s) :
  OpR X f (rI0 fun i j=>.int (g i j)):=by
 intro pins s σ H x y v u Q I rx ry h
 obtain ⟨i,j,rfl,rfl,q⟩ :=h
 obtain ⟨t,rfl⟩ :=rx
 obtain ⟨t',rfl⟩ :=ry
 exact rule i j t t' s _ _ ⟨.int (g i j),H,I.tok _,⟨_,rfl⟩,q⟩
theorem opB0 {f:Value→Value→Sem Value} {g:Int→Int→Bool}
  (rule:∀ (i j:Int) (t u:Tok) (s:Shared) (Q:Value→Shared→Prop) (E:Value→Shared→Prop),Q (.bool (g i j)) s→wpAny (model X.prog X.w) X.A (f (.int i t) (.int j u)) Q E s) :
  OpR X f (rI0 fun i j=>.bl (g i j)):=by
 intro pins s σ H x y v u Q I rx ry h
 obtain ⟨i,j,rfl,rfl,q⟩ :=h
 obtain ⟨t,rfl⟩ :=rx
 obtain ⟨t',rfl⟩ :=ry
 exact rule i j t t' s _ _ ⟨.bl (g i j),H,I,rfl,q⟩
def CMul (i j:Int):Prop:=(-(2 ^ 64) < i∧i < 2 ^ 64)∨(-(2 ^ 64) < j∧j < 2 ^ 64)
theorem CMul.ok {i j:Int} (h:CMul i j):IntMulOk i j:=by
 rcases h with ⟨h1,h2⟩ | ⟨h1,h2⟩
 ·exact .of_left (intBits_le_64 h1 h2)
 ·exact .of_right (intBits_le_64 h1 h2)
theorem ZMg:OpR X (binaryOp .Add) (rI0 fun i j=>.int (i + j)):=opI0 fun _ _ _ _ _ _ _ q=>add_int q
theorem Zyt:OpR X (binaryOp .Sub) (rI0 fun i j=>.int (i - j)):=opI0 fun _ _ _ _ _ _ _ q=>sub_int q
theorem ZMl:OpR X (binaryOp .Mult) (rI CMul fun i j=>.int (i * j)):=opI fun _ _ _ _ _ _ _ hc q=>mul_int q hc.ok
theorem ZeU:OpR X (binaryOp .Mod) (rI (fun _ j=>0 < j) fun i j=>.int (i % j)):=opI fun i j _ _ _ _ _ hc q=>by
 have h1:(0:Int) < j:=hc
 exact mod_int' (by omega) (by rw [Int.fmod_eq_emod_of_nonneg i (by omega)]; exact q)
theorem unI {f:Value→Sem Value} {g:Int→Int}
  (rule:∀ (i:Int) (t:Tok) (s:Shared) (Q:Value→Shared→Prop) (E:Value→Shared→Prop),Q (.int (g i) s.toks) { s with toks:=s.toks + 1 }→wpAny (model X.prog X.w) X.A (f (.int i t)) Q E s) :
  UnR X f (rU fun i=>.int (g i)):=by
 intro pins s σ H x v Q I rx h
 obtain ⟨i,rfl,q⟩ :=h
 obtain ⟨t,rfl⟩ :=rx
 exact rule i t s _ _ ⟨.int (g i),H,I.tok _,⟨_,rfl⟩,q⟩
theorem ZyE:UnR X (unaryOp .USub) (rU fun i=>.int (-i)):=unI fun _ _ _ _ _ q=>neg_int q
end
def scal:V→V→Bool
 | .non,.non=>true | .non,.int _=>true | .int _,.non=>true | .non,.bl _=>true | .bl _,.non=>true | .non,.str _=>true | .str _,.non=>true
 | .int _,.int _=>true | .bl _,.bl _=>true | .str _,.str _=>true | .byt _,.byt _=>true
 | .int _,.str _=>true | .str _,.int _=>true | .bl _,.str _=>true | .str _,.bl _=>true
 | _,_=>false
def rEq:R2:=fun x y H Q=>scal x y=true∧Q (.bl (decide (x=y))) H
def rNe:R2:=fun x y H Q=>scal x y=true∧Q (.bl (!decide (x=y))) H
theorem ZF8 {i j:Int}:decide (V.int i=V.int j)=(i == j):=by
 rw [Bool.eq_iff_iff]
 simp
theorem ZJk {i j:Bool}:decide (V.bl i=V.bl j)=(i == j):=by
 rw [Bool.eq_iff_iff]
 simp
theorem ZF9 {i j:Str}:decide (V.str i=V.str j)=(i == j):=by
 rw [Bool.eq_iff_iff]
 simp
theorem ZF7 {i j:Array UInt8}:decide (V.byt i=V.byt j)=(i.toList == j.toList):=by
 rw [Bool.eq_iff_iff]
 cases i
 cases j
 simp
section
variable {X:Cx} {a b c:Expr} {ta tb tc:TE} {pos:Pos}
theorem ZbD {pins:List (Addr × Obj)} {σ:St} {H:Hp} {s:Shared} {Q:VK} {k k':Bool} (I:Inv X pins σ H s) (q:Q (.bl k) H) (e:k=k'):EP X pins σ Q (.bool k') s:=by
 subst e
 exact ⟨.bl k,H,I,rfl,q⟩
theorem ZNw:OpR X (compareOp .Eq) rEq:=by
 intro pins s σ H x y v u Q I rx ry h
 obtain ⟨hs,q⟩ :=h
 cases x with
 | non=>
  cases rx
  cases y with
  | non=>cases ry; exact PySem.EqNone.eq_none_none (ZbD I q (by simp))
  | bl j=>cases ry; exact PySem.EqNone.eq_none_bool (ZbD I q (by simp))
  | int j=>obtain ⟨t',rfl⟩ :=ry; exact PySem.EqNone.eq_none_int (ZbD I q (by simp))
  | str j=>obtain ⟨t',rfl⟩ :=ry; exact PySem.EqNone.eq_none_str (ZbD I q (by simp))
  | _=>exact absurd (show false=true from hs) Bool.false_ne_true
 | bl i=>
  cases rx
  cases y with
  | non=>cases ry; exact PySem.EqNone.eq_bool_none (ZbD I q (by simp))
  | bl j=>cases ry; exact eq_bool (ZbD I q ZJk)
  | str j=>obtain ⟨t',rfl⟩ :=ry; exact PySem.EqMixed.eq_bool_str (ZbD I q (by simp))
  | _=>exact absurd (show false=true from hs) Bool.false_ne_true
 | int i=>
  obtain ⟨t,rfl⟩ :=rx
  cases y with
  | non=>cases ry; exact PySem.EqNone.eq_int_none (ZbD I q (by simp))
  | int j=>obtain ⟨t',rfl⟩ :=ry; exact eq_int (ZbD I q ZF8)
  | str j=>obtain ⟨t',rfl⟩ :=ry; exact PySem.EqMixed.eq_int_str (ZbD I q (by simp))
  | _=>exact absurd (show false=true from hs) Bool.false_ne_true
 | str i=>
  obtain ⟨t,rfl⟩ :=rx
  cases y with
  | non=>cases ry; exact PySem.EqNone.eq_str_none (ZbD I q (by simp))
  | bl j=>cases ry; exact PySem.EqMixed.eq_str_bool (ZbD I q (by simp))
  | int j=>obtain ⟨t',rfl⟩ :=ry; exact PySem.EqMixed.eq_str_int (ZbD I q (by simp))
  | str j=>obtain ⟨t',rfl⟩ :=ry; exact eq_str (ZbD I q ZF9)
  | _=>exact absurd (show false=true from hs) Bool.false_ne_true
 | byt i=>
  obtain ⟨t,rfl⟩ :=rx
  cases y with
  | byt j=>obtain ⟨t',rfl⟩ :=ry; exact PySem.W.eq_bytes (ZbD I q ZF7)
  | _=>exact absurd (show false=true from hs) Bool.false_ne_true
 | _=>cases y <;> exact absurd (show false=true from hs) Bool.false_ne_true
theorem ZNx:OpR X (compareOp .NotEq) rNe:=by
 intro pins s σ H x y v u Q I rx ry h
 obtain ⟨hs,q⟩ :=h
 cases x with
 | non=>
  cases rx
  cases y with
  | non=>cases ry; exact PySem.EqNone.ne_none_none (ZbD I q (by simp))
  | bl j=>cases ry; exact PySem.EqNone.ne_none_bool (ZbD I q (by simp))
  | int j=>obtain ⟨t',rfl⟩ :=ry; exact PySem.EqNone.ne_none_int (ZbD I q (by simp))
  | str j=>obtain ⟨t',rfl⟩ :=ry; exact PySem.EqNone.ne_none_str (ZbD I q (by simp))
  | _=>exact absurd (show false=true from hs) Bool.false_ne_true
 | bl i=>
  cases rx
  cases y with
  | non=>cases ry; exact PySem.EqNone.ne_bool_none (ZbD I q (by simp))
  | bl j=>cases ry; exact ne_bool (ZbD I q (congrArg not ZJk))
  | str j=>obtain ⟨t',rfl⟩ :=ry; exact PySem.EqMixed.ne_bool_str (ZbD I q (by simp))
  | _=>exact absurd (show false=true from hs) Bool.false_ne_true
 | int i=>
  obtain ⟨t,rfl⟩ :=rx
  cases y with
  | non=>cases ry; exact PySem.EqNone.ne_int_none (ZbD I q (by simp))
  | int j=>obtain ⟨t',rfl⟩ :=ry; exact ne_int (ZbD I q (congrArg not ZF8))
  | str j=>obtain ⟨t',rfl⟩ :=ry; exact PySem.EqMixed.ne_int_str (ZbD I q (by simp))
  | _=>exact absurd (show false=true from hs) Bool.false_ne_true
 | str i=>
  obtain ⟨t,rfl⟩ :=rx
  cases y with
  | non=>cases ry; exact PySem.EqNone.ne_str_none (ZbD I q (by simp))
  | bl j=>cases ry; exact PySem.EqMixed.ne_str_bool (ZbD I q (by simp))
  | int j=>obtain ⟨t',rfl⟩ :=ry; exact PySem.EqMixed.ne_str_int (ZbD I q (by simp))
  | str j=>obtain ⟨t',rfl⟩ :=ry; exact ne_str (ZbD I q (congrArg not ZF9))
  | _=>exact absurd (show false=true from hs) Bool.false_ne_true
 | byt i=>
  obtain ⟨t,rfl⟩ :=rx
  cases y with
  | byt j=>obtain ⟨t',rfl⟩ :=ry; exact PySem.W.ne_bytes (ZbD I q (congrArg not ZF7))
  | _=>exact absurd (show false=true from hs) Bool.false_ne_true
 | _=>cases y <;> exact absurd (show false=true from hs) Bool.false_ne_true
theorem ZDw:OpR X (compareOp .Lt) (rI0 fun i j=>.bl (decide (i < j))):=opB0 fun _ _ _ _ _ _ _ q=>lt_int q
theorem ZKJ:OpR X (compareOp .Gt) (rI0 fun i j=>.bl (decide (j < i))):=opB0 fun _ _ _ _ _ _ _ q=>gt_int q
theorem ZMj:OpR X (compareOp .GtE) (rI0 fun i j=>.bl (decide (j≤i))):=opB0 fun _ _ _ _ _ _ _ q=>ge_int q
theorem ZHb:OpR X (compareOp .In) (fun x y H Q=>∃ i j,x=.str i∧y=.str j∧Q (.bl (!(Builtin.Str.occurrences j i 0 j.length 1).isEmpty)) H):=by
 intro pins s σ H x y v u Q I rx ry h
 obtain ⟨i,j,rfl,rfl,q⟩ :=h
 obtain ⟨t,rfl⟩ :=rx
 obtain ⟨t',rfl⟩ :=ry
 exact in_str (ZbD I q rfl)
theorem ZMk:OpR X (compareOp .Is) (fun x y H Q=>y=.non∧Q (.bl (decide (x=.non))) H):=by
 intro pins s σ H x y v u Q I rx ry h
 obtain ⟨rfl,q⟩ :=h
 cases ry
 refine is_none_gen (ZbD I q ?_)
 cases x <;> first
  | (cases rx; rfl)
  | (obtain ⟨t,rfl⟩ :=rx; rfl)
theorem ZB5:OpR X (compareOp .NotIn) (fun x y H Q=>∃ i j,x=.str i∧y=.str j∧Q (.bl (!(!(Builtin.Str.occurrences j i 0 j.length 1).isEmpty))) H):=by
 intro pins s σ H x y v u Q I rx ry h
 obtain ⟨i,j,rfl,rfl,q⟩ :=h
 obtain ⟨t,rfl⟩ :=rx
 obtain ⟨t',rfl⟩ :=ry
 exact notIn_str (ZbD I q rfl)
theorem OpR.or {f:Value→Value→Sem Value} {r r':R2} (h:OpR X f r) (h':OpR X f r'):OpR X f (fun x y H Q=>r x y H Q∨r' x y H Q):=by
 intro pins s σ H x y v u Q I rx ry q
 rcases q with q | q
 ·exact h pins s σ H x y v u Q I rx ry q
 ·exact h' pins s σ H x y v u Q I rx ry q
theorem ZaQ (b:Expr) {op:CmpOp} (h:op ≠ .In:=by decide) (h2:op ≠ .NotIn:=by decide):behindInMarks op b=false:=by
 have e1:(op == CmpOp.In)=false:=by cases op <;> first | rfl | exact absurd rfl h
 have e2:(op == CmpOp.NotIn)=false:=by cases op <;> first | rfl | exact absurd rfl h2
 cases b <;> simp [behindInMarks,e1,e2]
theorem ZHg {op:CmpOp} {r:R2} (ho:OpR X (compareOp op) r) (ha:PE X a ta) (hb:PE X b tb) (hm:behindInMarks op b=false):PE X (.Compare a [op] [b] pos) (tOp r ta tb):=by
 intro pins s σ H Q I h
 exact wpAny_Compare1 (binT ha hb I h fun v u s2 x y H2 I2 rx ry q=>ho pins s2 σ H2 x y v u Q I2 rx ry q) hm
def ZM3 (t:TE):TT:=fun σ H Q=>t σ H fun x H'=>∃ k,x=.bl k∧Q k H'
theorem Zav {op:CmpOp} {r:R2} (ho:OpR X (compareOp op) r) (ha:PE X a ta) (hb:PE X b tb) (hm:behindInMarks op b=false):PT X (.Compare a [op] [b] pos) (ZM3 (tOp r ta tb)):=by
 intro pins s σ H Q I h
 refine wpAny_isTrue_Compare1 (thn (ha pins s σ H _ I h) fun v s1 ⟨x,H1,I1,r1,q1⟩ =>thn (hb pins s1 σ H1 _ I1 q1) fun u s2 ⟨y,H2,I2,r2,q2⟩ =>
  thn (ho pins s2 σ H2 x y v u _ I2 r1 r2 q2) fun c s3 ⟨z,H3,I3,r3,k,e,q3⟩ =>?_) hm
 subst e
 cases r3
 exact wpAny_truthy_bool ⟨H3,I3,q3⟩
def TruV (K:PySem.W.Frag) (x:V) (H:Hp) (k:Bool):Prop:=
 match x with
 | .non=>k=false
 | .bl b=>k=b
 | .int i=>k=(i != 0)
 | .str y=>y.length≤sizeLine∧k=((y.length:Int) != 0)
 | .byt y=>y.size≤sizeLine∧k=((y.size:Int) != 0)
 | .ref p=>(∃ xs,SqL K H p xs∧k = !xs.isEmpty)∨(∃ xs,SqT K H p xs∧k = !xs.isEmpty)∨∃ kvs,H p=some (.dK kvs)∧k = !kvs.isEmpty
 | _=>False
theorem ZFd {κ:Type} {kvs:List (κ × V)} {vs:List (κ × Value)} (r:KV kvs vs):(!vs.isEmpty) = !kvs.isEmpty:=by
 cases r <;> rfl
theorem Zyh {xs:List V} {its:List Value} (r:Vals xs its):(!its.toArray.isEmpty) = !xs.isEmpty:=by
 cases r <;> simp
theorem ZBt:(sizeLine:Nat) < 2 ^ 63:=by rw [sizeLine_eq]; decide
theorem ZM5:TruR X (fun x H Q=>∃ k,TruV X.K x H k∧Q k H):=by
 intro pins s σ H x v Q I rx h
 obtain ⟨k,e,q⟩ :=h
 have hl:=ZBt
 have hs:sizeLine=16777216:=sizeLine_eq
 cases x with
 | non=>
  cases rx
  have e':k=false:=e
  subst e'
  exact truthy_none ⟨H,I,q⟩
 | bl b=>
  cases rx
  have e':k=b:=e
  subst e'
  exact wpAny_truthy_bool ⟨H,I,q⟩
 | int i=>
  obtain ⟨t,rfl⟩ :=rx
  have e':k=(i != 0):=e
  subst e'
  exact PySem.P.truthy_int ⟨H,I,q⟩
 | str y=>
  obtain ⟨t,rfl⟩ :=rx
  obtain ⟨hy,e'⟩ : y.length≤sizeLine∧k=((y.length:Int) != 0):=e
  subst e'
  exact PySem.P.truthy_str (by omega) ⟨H,I.tok _,q⟩
 | byt y=>
  obtain ⟨t,rfl⟩ :=rx
  obtain ⟨hy,e'⟩ : y.size≤sizeLine∧k=((y.size:Int) != 0):=e
  subst e'
  exact PySem.W.truthy_bytes (by omega) ⟨H,I.tok _,q⟩
 | ref p=>
  cases rx
  have e':(∃ xs,SqL X.K H p xs∧k = !xs.isEmpty)∨(∃ xs,SqT X.K H p xs∧k = !xs.isEmpty)∨∃ kvs,H p=some (.dK kvs)∧k = !kvs.isEmpty:=e
  rcases e' with ⟨xs,hx,e'⟩ | ⟨xs,hx,e'⟩ | ⟨kvs,hx,e'⟩
  ·subst e'
   obtain ⟨its,r,pl,hz⟩ :=I.list hx
   have hlen:=r.length
   exact wpAny_truthy_list pl.isList (by simp only [List.size_toArray]; omega) ⟨H,I.tok _,by rw [Zyh r]; exact q⟩
  ·subst e'
   obtain ⟨its,r,pl,hz⟩ :=I.tuple hx
   have hlen:=r.length
   exact truthy_tuple pl (by simp only [List.size_toArray]; omega) ⟨H,I.tok _,by rw [Zyh r]; exact q⟩
  ·subst e'
   obtain ⟨hz,hS,vs,r,m⟩ : kvs.length≤sizeLine∧(p == sysModules)=false∧∃ vs,KV kvs vs∧s.heap.DictOf (Zc7 X.prog X.w) p vs:=I.hok p _ hx
   have hlen:kvs.length=vs.length:=Paired.length r
   exact wpAny_truthy_dict hS m (by omega) ⟨H,I.tok _,by rw [ZFd r]; exact q⟩
 | _=>exact (show False from e).elim
theorem Zgj (ha:PE X a ta) (he:∀ whole,isTrue a X.env whole=(do let v ← whole; standAt a.pos; holding [v] (truthy v))) :
  PT X a (fun σ H Q=>ta σ H fun x H'=>∃ k,TruV X.K x H' k∧Q k H'):=by
 intro pins s σ H Q I h
 exact isTrue_plain (thn (ha pins s σ H _ I h) fun v s1 ⟨x,H1,I1,r1,q1⟩ =>ZM5 pins s1 σ H1 x v Q I1 r1 q1) (he _)
theorem ZFs:OpR X (binaryOp .Add) (fun x y H Q=>∃ i j,x=.str i∧y=.str j∧i.length + j.length≤sizeLine∧Q (.str (i ++ j)) H):=by
 intro pins s σ H x y v u Q I rx ry h
 obtain ⟨i,j,rfl,rfl,hz,q⟩ :=h
 obtain ⟨t,rfl⟩ :=rx
 obtain ⟨t',rfl⟩ :=ry
 exact add_str (fun t' tk=>⟨.str (i ++ j),H,I.tok _,⟨_,rfl⟩,q⟩) hz
theorem ZFE {x:V} {us:List Value} (r:Vals [x] us):∃ u,us=[u]∧RelV x u:=by
 cases r with
 | cons r1 r2=>cases r2; exact ⟨_,rfl,r1⟩
theorem ZLb {x y:V} {us:List Value} (r:Vals [x,y] us):∃ u w',us=[u,w']∧RelV x u∧RelV y w':=by
 cases r with
 | cons r1 r2=>
  cases r2 with
  | cons r3 r4=>cases r4; exact ⟨_,_,rfl,r1,r3⟩
theorem ZFW (hc:X.calm=true):Zr1 X (.builtin "max") (fun xs H Q=>∃ i j,xs=[.int i,.int j]∧Q (.int (if j > i then j else i)) H):=by
 intro pins s σ H xs us Q I r h
 obtain ⟨i,j,rfl,q⟩ :=h
 obtain ⟨u,w',rfl,⟨t,rfl⟩,⟨t',rfl⟩⟩ :=ZLb r
 refine max_two_ints (I.ok.hd hc) fun h' tk k=>⟨_,H,I.kept k,?_,q⟩
 by_cases hj:j > i
 ·rw [if_pos hj,if_pos hj]; exact ⟨_,rfl⟩
 ·rw [if_neg hj,if_neg hj]; exact ⟨_,rfl⟩
theorem ZFU:Zr1 X (.type "int") (fun xs H Q=>(∃ i,xs=[.int i]∧Q (.int i) H)∨∃ k,xs=[.bl k]∧Q (.int (if k then 1 else 0)) H):=by
 intro pins s σ H xs us Q I r h
 rcases h with ⟨i,rfl,q⟩ | ⟨k,rfl,q⟩
 ·obtain ⟨u,rfl,t,rfl⟩ :=ZFE r
  exact call_int_int ⟨.int i,H,I,⟨_,rfl⟩,q⟩
 ·obtain ⟨u,rfl,r1⟩ :=ZFE r
  cases r1
  exact call_int_bool ⟨.int (if k then 1 else 0),H,I.tok _,⟨_,rfl⟩,q⟩
def LenV (K:PySem.W.Frag) (x:V) (H:Hp) (n:Nat):Prop:=
 match x with
 | .str y=>y.length≤sizeLine∧n=y.length
 | .byt y=>y.size≤sizeLine∧n=y.size
 | .ref p=>(∃ xs,SqL K H p xs∧n=xs.length)∨∃ xs,SqT K H p xs∧n=xs.length
 | _=>False
theorem ZH7:Zr1 X (.builtin "len") (fun xs H Q=>∃ x n,xs=[x]∧LenV X.K x H n∧Q (.int n) H):=by
 intro pins s σ H xs us Q I r h
 obtain ⟨x,n,rfl,e,q⟩ :=h
 obtain ⟨u,rfl,rx⟩ :=ZFE r
 have hl:=ZBt
 have hs:sizeLine=16777216:=sizeLine_eq
 cases x with
 | str y=>
  obtain ⟨t,rfl⟩ :=rx
  obtain ⟨hy,e'⟩ : y.length≤sizeLine∧n=y.length:=e
  subst e'
  exact len_str (by omega) ⟨.int _,H,I.tok _,⟨_,rfl⟩,q⟩
 | byt y=>
  obtain ⟨t,rfl⟩ :=rx
  obtain ⟨hy,e'⟩ : y.size≤sizeLine∧n=y.size:=e
  subst e'
  exact PySem.W.len_bytes (by omega) ⟨.int _,H,I.tok _,⟨_,rfl⟩,q⟩
 | ref p=>
  cases rx
  have e':(∃ xs,SqL X.K H p xs∧n=xs.length)∨∃ xs,SqT X.K H p xs∧n=xs.length:=e
  rcases e' with ⟨xs,hx,e'⟩ | ⟨xs,hx,e'⟩
  ·subst e'
   obtain ⟨its,r',pl,hz⟩ :=I.list hx
   have hlen:=r'.length
   exact Calls.call_len_list pl.isList (by simp only [List.size_toArray]; omega) ⟨.int xs.length,H,I.tok _,⟨_,by simp only [List.size_toArray]; rw [hlen]⟩,q⟩
  ·subst e'
   obtain ⟨its,r',pl,hz⟩ :=I.tuple hx
   have hlen:=r'.length
   exact len_tuple pl (by simp only [List.size_toArray]; omega) ⟨.int xs.length,H,I.tok _,⟨_,by simp only [List.size_toArray]; rw [hlen]⟩,q⟩
 | _=>exact (show False from e).elim
end
end L2
namespace L2
open PySem PySem.Spec PyProof.Rows
structure ObjM (h:Heap) (x dx C:Addr) (mA:Str→Option Value):Prop where
 obj:h.get? x=some (PySem.W.instObj C dx)
 ns:h.Ns1 dx mA
 ne:dx ≠ x
theorem ZGL {h:Heap} {dx:Addr} {mA:Str→Option Value} (n:h.Ns1 dx mA):∃ od,h.get? dx=some od∧∀ name,PySem.W.lookIn name od=some (mA name):=by
 obtain ⟨o,es,ep,ho,hd,hk,_,hm⟩ :=n
 refine ⟨o,ho,fun name=>?_⟩
 have e:=hm name
 unfold nsFind findBy at e
 rw [← Array.find?_toList] at e
 unfold PySem.W.lookIn
 rw [hd]
 dsimp only
 split
 ·rename_i y q
  rw [q] at e
  exact congrArg some e
 ·rename_i q
  rw [q] at e
  have a:es.toList.any (·.refKey)=false:=by
   rw [List.any_eq_false]
   intro y hy
   obtain ⟨z,t,hkey⟩ :=hk y (Array.mem_toList_iff.mp hy)
   simp [DictEntry.refKey,hkey]
  have a' : ¬ es.toList.any (·.refKey)=true:=by rw [a]; exact Bool.false_ne_true
  rw [if_neg a']
  exact congrArg some e
theorem ObjM.look {h:Heap} {x dx C:Addr} {mA:Str→Option Value} (I:ObjM h x dx C mA):∃ od,PySem.W.InstAt h x (PySem.W.instObj C dx) C (some od)∧∀ name,PySem.W.lookIn name od=some (mA name):=
 let ⟨od,ho,hl⟩ :=ZGL I.ns
 ⟨od,⟨I.obj,rfl,rfl,ho⟩,hl⟩
section
variable {prog:Program} {w:World} {A:Around} {E:Value→Shared→Prop} {s:Shared} {K:PySem.W.Frag} {x dx C f:Addr} {mA:Str→Option Value} {name:Str} {v:Value}
theorem ZKh {expr:Bool} {Q:Value→Shared→Prop} (X:K.In s.heap) (I:ObjM s.heap x dx C mA) (hg:PySem.W.plainGet K C name=true) (hh:PySem.W.hasDictIn K C=true)
  (ha:PySem.W.findIn K (.ref C) name=some none) (hv:mA name=some v) (hv':PySem.W.handedIn v=true) (h:Q v { s with toks:=s.toks + 1 }) :
  wpAny (model prog w) A (getAttr (.ref x) name expr) Q E s:=by
 obtain ⟨od,J,hl⟩ :=I.look
 exact PySem.W.get_value X J (PySem.W.plainGet_of hg).1 (PySem.W.findObj_own hh ha rfl (by rw [hl,hv])) hv' h
theorem ZIb {pl:Sem Bool} {Q:Value × List Value→Shared→Prop} (X:K.In s.heap) (I:ObjM s.heap x dx C mA) (hg:PySem.W.plainGet K C name=true)
  (hf:PySem.W.findIn K (.ref C) name=some (some (.ref f))) (ht:PySem.W.isFn K (.ref f)=true) (hv:mA name=none) (h:Q (.ref f,[.ref x]) s) :
  wpAny (model prog w) A (getMethod (.ref x) name pl) Q E s:=by
 obtain ⟨od,J,hl⟩ :=I.look
 exact PySem.W.method_fn X J (PySem.W.plainGet_of hg).1 (PySem.W.plainGet_of hg).2 hf (beq_iff_eq.mp ht) (by show (PySem.W.lookIn name od).map (·.isSome)=some false; rw [hl,hv]; rfl) h
theorem ZKV {ns:List Str} {Q:Unit→Shared→Prop} (X:K.In s.heap) (I:ObjM s.heap x dx C mA)
  (hs:PySem.W.findIn K (.ref C) "__setattr__" = some (some (.builtin "object.__setattr__"))) (hp:PySem.W.plainOver K C=true) (ht:PySem.W.takerIn K C name=some none) (hh:PySem.W.hasDictIn K C=true)
  (hw:PySem.Within mA ns) (hsz:ns.length≤sizeLine)
  (h:∀ h',ObjM h' x dx C (fun y=>if y=name then some v else mA y)→Heap.SameBut dx s.heap h'→Q () { s with heap:=h',toks:=s.toks + 2 }) :
  wpAny (model prog w) A (setAttr (.ref x) name v) Q E s:=by
 obtain ⟨od,J,hl⟩ :=I.look
 refine PySem.W.set_plain X J hs (PySem.W.osa_open (s:={ s with toks:=s.toks + 1 }) (r:=none) X J hp ht fun b=>?_)
 obtain ⟨cd,hc,hd'⟩ :=PySem.W.any_some hh
 have hx:s.heap.get? x=some ⟨.ref C,some dx,.plain,#[]⟩ :=I.obj
 refine wpAny_bind (wpAny_pure (wpAny_bind (wpAny_bind (wpAny_loadPart hx (wpAny_bind (PySem.W.Looks.here (s:={ s with toks:=s.toks + 1 }) (PySem.W.looks_clsIn X hc) ?_))))))
 rw [hd']
 refine wpAny_pure (a:=some dx) (wpAny_bind (wpAny_pure (wpAny_bind ?_)))
 refine wpAny_nsSet1 (s:={ s with toks:=s.toks + 1 }) I.ns fun h' hn2 hs2=>?_
 obtain ⟨oD,esD,epD,hoD,hdD,hcD⟩ :=hn2.count (PySem.Within.cons name v hw)
 refine wpAny_bind (wpAny_lookBehind hoD (by rw [hdD]; exact pastItsLine_dict (Nat.le_trans hcD (by rw [List.length_cons]; omega))) ?_)
 exact wpAny_pure (h _ ⟨(hs2.2 _ (Ne.symm I.ne)).trans I.obj,hn2,I.ne⟩ hs2)
theorem ZIw {R:Result→Shared→Prop} {vs:List Value} {kw:List (Str × Value)} (X:K.In s.heap) (hm:PySem.W.makesIn K C=true)
  (hi:PySem.W.findIn K (.ref C) "__init__" = some (some (.ref f))) (hf:PySem.W.typeIn K (.ref f)=some (.type "function"))
  (h:codeAny (model prog w) (A.under (.builtin "type.__call__" ⟨.ref C :: vs,kw⟩)) (.call (.ref f) ⟨.ref (s.heap.objs.size + 1) :: vs,kw⟩) (PySem.W.InitBack (s.heap.objs.size + 1) R)
   { s with heap:=(s.heap.push PySem.W.emptyDict).push (PySem.W.instObj C s.heap.objs.size) }) :
  codeAny (model prog w) A (.call (.ref C) ⟨vs,kw⟩) R s:=by
 obtain ⟨hh,g,d,t,os⟩ :=s
 exact PySem.W.make_core (PySem.W.makes_of X hm) (PySem.W.looks_findIn X hi) (fun self=>PySem.W.bind_fn X self hf) (.inl rfl) h
end
def putF (f:Str) (v:V):List (Str × V)→List (Str × V)
 | []=>[(f,v)]
 | (g,x) :: r=>if g=f then (g,v) :: r else (g,x) :: putF f v r
theorem Za0 (f g:Str) (v:V):∀ fs:List (Str × V),(putF f v fs).lookup g=if g=f then some v else fs.lookup g
 | []=>by
  show List.lookup g [(f,v)]=_
  by_cases h:g=f
  ·have hb:(g == f)=true:=beq_iff_eq.mpr h
   simp only [List.lookup,hb,if_pos h]
  ·have hb:(g == f)=false:=beq_eq_false_iff_ne.mpr h
   simp only [List.lookup,hb,if_neg h]
 | (k,x) :: r=>by
  have ih:=Za0 f g v r
  rw [show putF f v ((k,x) :: r)=(if k=f then (k,v) :: r else (k,x) :: putF f v r) from rfl]
  by_cases hk:k=f
  ·rw [if_pos hk]
   by_cases h:g=k
   ·have hb:(g == k)=true:=beq_iff_eq.mpr h
    simp only [List.lookup,hb,if_pos (h.trans hk)]
   ·have hb:(g == k)=false:=beq_eq_false_iff_ne.mpr h
    simp only [List.lookup,hb,if_neg (fun e:g=f=>h (e.trans hk.symm))]
  ·rw [if_neg hk]
   by_cases h:g=k
   ·have hb:(g == k)=true:=beq_iff_eq.mpr h
    simp only [List.lookup,hb,if_neg (fun e:g=f=>hk (h.symm.trans e))]
   ·have hb:(g == k)=false:=beq_eq_false_iff_ne.mpr h
    simp only [List.lookup,hb]
    exact ih
theorem Zwh (f:Str) (v:V):∀ fs:List (Str × V),f ∈ (putF f v fs).map (·.1)∧∀ g,g ∈ fs.map (·.1)→g ∈ (putF f v fs).map (·.1)
 | []=>⟨by simp [putF],fun g h=>by simp at h⟩
 | (k,x) :: r=>by
  obtain ⟨i1,i2⟩ :=Zwh f v r
  rw [show putF f v ((k,x) :: r)=(if k=f then (k,v) :: r else (k,x) :: putF f v r) from rfl]
  by_cases hk:k=f
  ·rw [if_pos hk]
   subst hk
   exact ⟨by simp,fun g h=>by simpa using h⟩
  ·rw [if_neg hk]
   refine ⟨?_,fun g h=>?_⟩
   ·rw [List.map_cons]
    exact List.mem_cons_of_mem _ i1
   ·rw [List.map_cons] at h ⊢
    rcases List.mem_cons.mp h with e | e
    ·exact List.mem_cons.mpr (.inl e)
    ·exact List.mem_cons_of_mem _ (i2 g e)
theorem Zwk (f:Str) (v:V):∀ fs:List (Str × V),(putF f v fs).length≤fs.length + 1
 | []=>by simp [putF]
 | (k,x) :: r=>by
  have ih:=Zwk f v r
  rw [show putF f v ((k,x) :: r)=(if k=f then (k,v) :: r else (k,x) :: putF f v r) from rfl]
  by_cases hk:k=f
  ·rw [if_pos hk,List.length_cons,List.length_cons]; omega
  ·rw [if_neg hk,List.length_cons,List.length_cons]; omega
theorem RelO.some_of {v:V} {o:Option Value} (r:RelO (some v) o):∃ u,o=some u∧RelV v u:=by
 cases o with
 | none=>exact (show False from r).elim
 | some u=>exact ⟨u,rfl,r⟩
theorem RelO.none_of {o:Option Value} (r:RelO none o):o=none:=by
 cases o with
 | none=>rfl
 | some u=>exact (show False from r).elim
theorem ZGk {v:V} {u:Value} (r:RelV v u):PySem.W.handedIn u=true:=by
 cases v with
 | non=>cases (show u=Value.none from r); rfl
 | bl b=>cases (show u=Value.bool b from r); rfl
 | int i=>obtain ⟨t,e⟩ :=(show ∃ t,u=Value.int i t from r); cases e; rfl
 | str x=>obtain ⟨t,e⟩ :=(show ∃ t,u=Value.str x t from r); cases e; rfl
 | byt b=>obtain ⟨t,e⟩ :=(show ∃ t,u=Value.bytes b t from r); cases e; rfl
 | flt b=>obtain ⟨t,e⟩ :=(show ∃ t,u=Value.float b t from r); cases e; rfl
 | ref a=>cases (show u=Value.ref a from r); rfl
 | ty n=>cases (show u=Value.type n from r); rfl
section
variable {P:Program} {w:World} {H H':Hp} {h h':Heap} {a C dx:Addr} {fs fs':List (Str × V)}
theorem Zy5 (hok:HOk P w H h) (e:H a=some (.ins C dx fs)):∃ mA,ObjM h a dx C mA∧(∀ f,RelO (fs.lookup f) (mA f))∧PySem.Within mA (fs.map (·.1))∧fs.length≤1000∧H dx=some (.own a):=by
 obtain ⟨d,z,ne,ob,mA,n,r,q⟩ :=(show ZeB P w H h a (.ins C dx fs) from hok a _ e)
 exact ⟨mA,⟨ob,n,ne⟩,r,q,z,d⟩
end
structure Cls (K:PySem.W.Frag) (C:Addr):Prop where
 pg:PySem.W.plainGet K C Str.empty=true
 hd:PySem.W.hasDictIn K C=true
 po:PySem.W.plainOver K C=true
 sa:PySem.W.findIn K (.ref C) "__setattr__" = some (some (.builtin "object.__setattr__"))
theorem Cls.get {K:PySem.W.Frag} {C:Addr} (c:Cls K C) (f:Str):PySem.W.plainGet K C f=true:=c.pg
def Zag (K:PySem.W.Frag) (C:Addr) (f:Str):Prop:=PySem.W.findIn K (.ref C) f=some none
theorem Zag.taker {K:PySem.W.Frag} {C:Addr} {f:Str} (n:Zag K C f):PySem.W.takerIn K C f=some none:=by
 unfold PySem.W.takerIn
 rw [show PySem.W.findIn K (.ref C) f=some none from n]
 rfl
structure Meth (K:PySem.W.Frag) (C:Addr) (m:Str) (f:Addr):Prop where
 at_:PySem.W.findIn K (.ref C) m=some (some (.ref f))
 fn:PySem.W.isFn K (.ref f)=true
 kp:PySem.W.keepIn K (.ref f)=true
section
variable {X:Cx} {pins:List (Addr × Obj)} {σ:St} {H:Hp} {s:Shared} {a C dx:Addr} {fs:List (Str × V)} {f:Str} {v:V} {A:Around} {E:Value→Shared→Prop}
theorem ZE9 {b:Bool} {Q:Value→Shared→Prop} (I:Inv X pins σ H s) (e:H a=some (.ins C dx fs)) (c:Cls X.K C) (n:Zag X.K C f) (l:fs.lookup f=some v)
  (h:∀ u s',Inv X pins σ H s'→RelV v u→Q u s'):wpAny (model X.prog X.w) A (getAttr (.ref a) f b) Q E s:=by
 obtain ⟨mA,O,r,_,_,_⟩ :=Zy5 I.hok e
 obtain ⟨u,hu,ru⟩ :=RelO.some_of (v:=v) (o:=mA f) (by rw [← l]; exact r f)
 exact ZKh I.kIn O (c.get f) c.hd n hu (ZGk ru) (h u _ (I.tok _) ru)
theorem Zsi {m:Str} {g:Addr} {pl:Sem Bool} {Q:Value × List Value→Shared→Prop} (I:Inv X pins σ H s) (e:H a=some (.ins C dx fs)) (c:Cls X.K C) (k:Meth X.K C m g) (l:fs.lookup m=none)
  (h:Q (.ref g,[.ref a]) s):wpAny (model X.prog X.w) A (getMethod (.ref a) m pl) Q E s:=by
 obtain ⟨mA,O,r,_,_,_⟩ :=Zy5 I.hok e
 have hn:mA m=none:=RelO.none_of (by rw [← l]; exact r m)
 exact ZIb I.kIn O (c.get m) k.at_ k.fn hn h
theorem ZFy {y:V} {u:Value} {Q:Unit→Shared→Prop} (I:Inv X pins σ H s) (e:H a=some (.ins C dx fs)) (c:Cls X.K C) (n:Zag X.K C f) (hl:fs.length < 1000) (ry:RelV y u)
  (h:∀ s',Inv X pins σ (upd H a (.ins C dx (putF f y fs))) s'→Q () s'):wpAny (model X.prog X.w) A (setAttr (.ref a) f u) Q E s:=by
 obtain ⟨mA,O,r,wi,_,ho⟩ :=Zy5 I.hok e
 have hz:(fs.map (·.1)).length≤sizeLine:=by rw [List.length_map,sizeLine_eq]; omega
 refine ZKV I.kIn O c.sa c.po n.taker c.hd wi hz fun h' O' sb=>h _ ?_
 have hd:∃ o,h'.get? dx=some o:=let ⟨o,_,_,e',_⟩ :=O'.ns; ⟨o,e'⟩
 refine I.write (x:=a) (e:=dx) (by rw [e]; exact True.intro) (.inr ho) (fun b q hb z=>(sb.2 b hb).trans z) hd ?_
 refine ⟨by rw [ZaS O.ne]; exact ho,?_,O.ne,O'.obj,_,O'.ns,fun g=>?_,fun g hg=>?_⟩
 ·have:=Zwk f y fs; omega
 ·show RelO ((putF f y fs).lookup g) (if g=f then some u else mA g)
  rw [Za0]
  by_cases q:g=f
  ·rw [if_pos q,if_pos q]; exact ry
  ·rw [if_neg q,if_neg q]; exact r g
 ·by_cases q:g=f
  ·rw [q]; exact (Zwh f y fs).1
  ·refine (Zwh f y fs).2 g (wi g fun z=>hg ?_)
   show (if g=f then some u else mA g)=none
   rw [if_neg q]; exact z
theorem Inv.made (I:Inv X pins σ H s):Inv X pins σ (upd (upd H s.heap.objs.size (.own (s.heap.objs.size + 1))) (s.heap.objs.size + 1) (.ins C s.heap.objs.size []))
  { s with heap:=(s.heap.push PySem.W.emptyDict).push (PySem.W.instObj C s.heap.objs.size) }:=by
 have e1:(s.heap.push PySem.W.emptyDict).get? s.heap.objs.size=some PySem.W.emptyDict:=Heap.get?_push_size s.heap rfl
 have e2:((s.heap.push PySem.W.emptyDict).push (PySem.W.instObj C s.heap.objs.size)).get? (s.heap.objs.size + 1)=some (PySem.W.instObj C s.heap.objs.size):=by
  have:=Heap.get?_push_size (s.heap.push PySem.W.emptyDict) (o:=PySem.W.instObj C s.heap.objs.size) rfl
  rwa [Heap.size_push] at this
 have e3:(s.heap.push PySem.W.emptyDict).Ns s.heap.objs.size (fun _=>none):=⟨PySem.W.emptyDict,#[],_,e1,rfl,(fun e he=>absurd he (by simp)),fun _=>rfl⟩
 have I1:=I.laid (a:=s.heap.objs.size) (o:=.own (s.heap.objs.size + 1)) (h':=s.heap.push PySem.W.emptyDict) (t':=s.toks) (fun b u q=>Heap.get?_push_of_some _ q) (Nat.le_refl _) ⟨_,e1⟩
 refine I1.laid (a:=s.heap.objs.size + 1) (o:=.ins C s.heap.objs.size []) (t':=s.toks) (fun b u q=>Heap.get?_push_of_some _ q) (Nat.le_of_eq (Heap.size_push _ _)) ?_
 have ne:s.heap.objs.size ≠ s.heap.objs.size + 1:=Nat.ne_of_lt (Nat.lt_succ_self _)
 refine ⟨by rw [ZaS ne,Zaz],Nat.zero_le _,ne,e2,fun _=>none,(Heap.Ns1.of_empty e3).at fun o q=>Heap.get?_push_of_some _ q,fun _=>True.intro,fun y hy=>absurd rfl hy⟩
theorem ZKc {prog:Program} {w:World} {env:Env} {e:Expr} {f:Str} {pos:Pos} {s:Shared} {Q:Value→Shared→Prop} (hb:attributeBase e f env (eval e env)=eval e env)
  (h:wpAny (model prog w) A (eval e env) (fun o s₁=>wpAny (model prog w) A (getAttr o f true) Q E s₁) E s):wpAny (model prog w) A (eval (.Attribute e f pos) env) Q E s:=
 Attribute_any_ h (by rw [arm_eval_Attribute,hb])
end
def tFld (K:PySem.W.Frag) (ta:TE) (f:Str):TE:=fun σ H Q=>ta σ H fun x H1=>∃ a C dx fs v,x=.ref a∧H1 a=some (.ins C dx fs)∧Cls K C∧Zag K C f∧fs.lookup f=some v∧Q v H1
def sFld (K:PySem.W.Frag) (ta tv:TE) (f:Str):TS:=fun D σ H=>tv σ H fun y H1=>ta σ H1 fun x H2=>∃ a C dx fs,x=.ref a∧H2 a=some (.ins C dx fs)∧Cls K C∧Zag K C f∧fs.length < 1000∧
 D.nx σ (upd H2 a (.ins C dx (putF f y fs)))
section
variable {X:Cx} {o e value:Expr} {f:Str} {pos pos' tpos:Pos} {ta tv:TE}
theorem Zdf (he:PE X e ta) (hb:attributeBase e f X.env (eval e X.env)=eval e X.env):PE X (.Attribute e f pos) (tFld X.K ta f):=by
 intro pins s σ H Q I h
 refine ZKc hb (thn (he pins s σ H _ I h) fun u s1 ⟨x,H1,I1,rx,a,C,dx,fs,v,ex,ea,c,n,l,q⟩ =>?_)
 subst ex
 obtain rfl:u=Value.ref a:=rx
 exact ZE9 I1 ea c n l fun u' s2 I2 ru=>⟨v,H1,I2,ru,q⟩
theorem Zes (ha:PE X o ta) (hv:PE X value tv) (hs:swapsWith value (some (.Attribute o f pos')) pos.line X.env=pure false):PS X (.Assign [.Attribute o f pos'] value pos) (sFld X.K ta tv f):=by
 intro pins s σ H D I h
 refine plainObj_wpAny_Assign_Attribute (thn (hv pins s σ H _ I h) fun u s1 ⟨y,H1,I1,ry,q⟩ =>thn (ha pins s1 σ H1 _ I1 q) fun ov s2 ⟨x,H2,I2,rx,a,C,dx,fs,ex,ea,c,n,l,q2⟩ =>?_) hs
 subst ex
 obtain rfl:ov=Value.ref a:=rx
 exact ZFy I2 ea c n l ry fun s3 I3=>⟨σ,_,I3,q2⟩
end
section
variable {X:Cx} {pins:List (Addr × Obj)} {σ:St} {H:Hp} {s:Shared} {A:Around} {E:Value→Shared→Prop} {Q:Value→Shared→Prop} {c:Value} {b:Bool}
inductive TyOf (K:PySem.W.Frag) (H:Hp):V→Value→Prop where
 | non:TyOf K H .non (.type "NoneType")
 | bl (x:Bool):TyOf K H (.bl x) (.type "bool")
 | int (i:Int):TyOf K H (.int i) (.type "int")
 | str (x:Str):TyOf K H (.str x) (.type "str")
 | flt (x:UInt64):TyOf K H (.flt x) (.type "float")
 | lst {a:Addr} {xs:List V} (e:H a=some (.lst xs)):TyOf K H (.ref a) (.type "list")
 | frz {a:Addr} {o:Obj} {xs:List V} (e:H a=some (.frz o (.lst xs))):TyOf K H (.ref a) (.type "list")
 | tup {a:Addr} {xs:List V} (e:H a=some (.tup xs)):TyOf K H (.ref a) (.type "tuple")
 | dK {a:Addr} {kvs:List (Key × V)} (e:H a=some (.dK kvs)):TyOf K H (.ref a) (.type "dict")
 | dT {a:Addr} {kvs:List (List Key × V)} (e:H a=some (.dT kvs)):TyOf K H (.ref a) (.type "dict")
 | ins {a C dx:Addr} {fs:List (Str × V)} (e:H a=some (.ins C dx fs)) (cl:Cls K C) (ha:PySem.W.findIn K (.ref C) "__class__" = some (some (.builtin "object.__class__")))
   (hn:PySem.W.specialIn K (.builtin "object.__class__") "__get__" = some (some (.builtin "getset_descriptor.__get__"))) (htk:PySem.W.takesIn K (.builtin "object.__class__")=some true)
   (hm:PySem.W.mroIn K C (.type "object")=some true):TyOf K H (.ref a) (.ref C)
theorem ZBm {x:V} {u t:Value} (I:Inv X pins σ H s) (rx:RelV x u) (ty:TyOf X.K H x t) (e:PySem.W.kitOne X.K t c=some b) (h:∀ tk,Q (.bool b) { s with toks:=tk }) :
  wpAny (model X.prog X.w) A (call (.builtin "isinstance") [u,c]) Q E s:=by
 cases ty with
 | non=>cases (show u=Value.none from rx); exact PySem.W.kia_one PySem.W.kitx_none I.kIn True.intro e (fun z=>nomatch z) h
 | bl y=>cases (show u=Value.bool y from rx); exact PySem.W.kia_one PySem.W.kitx_bool I.kIn True.intro e (fun z=>nomatch z) h
 | int i=>obtain ⟨t,q⟩ :=(show ∃ t,u=Value.int i t from rx); cases q; exact PySem.W.kia_one PySem.W.kitx_int I.kIn True.intro e (fun z=>nomatch z) h
 | str y=>obtain ⟨t,q⟩ :=(show ∃ t,u=Value.str y t from rx); cases q; exact PySem.W.kia_one PySem.W.kitx_str I.kIn True.intro e (fun z=>nomatch z) h
 | flt y=>obtain ⟨t,q⟩ :=(show ∃ t,u=Value.float y t from rx); cases q; exact PySem.W.kia_one PySem.W.kitx_float I.kIn True.intro e (fun z=>nomatch z) h
 | @lst a xs ea=>
  cases (show u=Value.ref a from rx)
  obtain ⟨_,_,n,_,h1⟩ :=(show ZeB X.prog X.w H s.heap a (.lst xs) from I.hok a _ ea)
  exact PySem.W.kia_one PySem.W.kitx_list I.kIn ⟨_,h1,rfl⟩ e (fun z=>nomatch z) h
 | @frz a ob xs ea=>
  cases (show u=Value.ref a from rx)
  obtain ⟨_,_,_,n,_,h1⟩ :=(show ZeB X.prog X.w H s.heap a (.frz ob (.lst xs)) from I.hok a _ ea)
  exact PySem.W.kia_one PySem.W.kitx_list I.kIn ⟨_,h1,rfl⟩ e (fun z=>nomatch z) h
 | @tup a xs ea=>
  cases (show u=Value.ref a from rx)
  obtain ⟨_,_,_,p⟩ :=(show ZeB X.prog X.w H s.heap a (.tup xs) from I.hok a _ ea)
  obtain ⟨o,h1,h2,_⟩ :=p
  exact PySem.W.kia_one PySem.W.kitx_tuple I.kIn ⟨o,h1,h2⟩ e (fun z=>nomatch z) h
 | @dK a kvs ea=>
  cases (show u=Value.ref a from rx)
  obtain ⟨_,_,vs,_,p⟩ :=(show ZeB X.prog X.w H s.heap a (.dK kvs) from I.hok a _ ea)
  obtain ⟨o,es,ep,h1,h2,_⟩ :=p
  exact PySem.W.kia_one PySem.W.kitx_dict I.kIn ⟨o,h1,h2.1⟩ e (fun z=>nomatch z) h
 | @dT a kvs ea=>
  cases (show u=Value.ref a from rx)
  obtain ⟨_,_,xs,_,o,es,ep,h1,h2,_⟩ :=(show ZeB X.prog X.w H s.heap a (.dT kvs) from I.hok a _ ea)
  exact PySem.W.kia_one PySem.W.kitx_dict I.kIn ⟨o,h1,h2.1⟩ e (fun z=>nomatch z) h
 | @ins a C dx fs ea cl ha hn htk hm=>
  cases (show u=Value.ref a from rx)
  obtain ⟨mA,O,_⟩ :=Zy5 I.hok ea
  obtain ⟨od,J,_⟩ :=O.look
  exact PySem.W.kia_one (PySem.W.kitx_own (cl.get _) cl.hd ha hn htk hm) I.kIn J e (fun z=>nomatch z) h
end
end L2
namespace L2
open PySem PySem.Spec PyProof.Rows
structure Room (k:Nat) (A:Around):Prop where
 hd:A.handled=none
 dp:A.depth + 3 * k + 5 < recursionLimit
 un:A.units + 16 * k + 200 < cLine
theorem Room.mono {j k:Nat} {A:Around} (r:Room k A) (h:j≤k):Room j A:=⟨r.hd,by have:=r.dp; omega,by have:=r.un; omega⟩
theorem Room.deeper {k:Nat} {A:Around} (r:Room (k + 1) A) (env:Env):Room k (A.deeper env):=
 ⟨r.hd,by have:=r.dp; show A.depth + 1 + 3 * k + 5 < _; omega,by have:=r.un; show A.units + 3 + 16 * k + 200 < _; omega⟩
theorem ZFj {A:Around} {C:Addr} {us:List Value} {kw:List (Str × Value)}:(A.under (.builtin "type.__call__" ⟨.ref C :: us,kw⟩)).depth=A.depth + 1:=by
 first | rfl | simp [Around.under,Code.weight,Code.isCreation,Code.isGuard,Code.isCaller,Code.frames,Code.isFrame,guardIds]
theorem ZFk {A:Around} {C:Addr} {us:List Value} {kw:List (Str × Value)}:(A.under (.builtin "type.__call__" ⟨.ref C :: us,kw⟩)).units=A.units + 1:=by
 first | rfl | simp [Around.under,Code.cUnits,Code.frames,Code.isFrame]
theorem Room.make {k:Nat} {A:Around} (r:Room (k + 1) A) (C:Addr) (us:List Value) (kw:List (Str × Value)):Room k (A.under (.builtin "type.__call__" ⟨.ref C :: us,kw⟩)):=
 ⟨r.hd,by have:=r.dp; rw [ZFj]; omega,by have:=r.un; rw [ZFk]; omega⟩
theorem Room.depth {k:Nat} {A:Around} (r:Room k A):A.depth < recursionLimit:=by have:=r.dp; omega
theorem Room.units {k:Nat} {A:Around} (r:Room k A):A.units + 64 < cLine:=by have:=r.un; omega
def tNil:TA:=fun _ H Q=>Q [] H
def ZxM (ta:TE) (tr:TA):TA:=fun σ H Q=>ta σ H fun x H1=>tr σ H1 fun xs H2=>Q (x :: xs) H2
section
variable {X:Cx} {e:Expr} {es:List Expr} {te:TE} {t:TA} {pos:Pos}
theorem Zad:PA X [] tNil:=fun _ _ _ _ H Q I h=>Calls.spliced_nil ⟨[],H,I,.nil,h⟩
theorem Zaa (ha:PE X e te) (hr:PA X es t) (hs:starEach (e :: es) X.env=(false,eval e X.env) :: starEach es X.env:=by rfl):PA X (e :: es) (ZxM te t):=by
 intro pos pins s σ H Q I h
 rw [hs]
 show wpAny _ _ (spliced ((false,eval e X.env) :: backTo pos (starEach es X.env))) _ _ s
 refine Calls.spliced_cons (thn (ha pins s σ H _ I h) fun u s1 ⟨x,H1,I1,r1,q1⟩ =>?_)
 exact thn (hr pos pins s1 σ H1 _ I1 q1) fun us s2 ⟨xs,H2,I2,r2,q2⟩ =>⟨x :: xs,H2,I2,.cons r1 r2,q2⟩
def tTup (t:TA):TE:=fun σ H Q=>t σ H fun xs H1=>xs.length≤sizeLine∧∀ p,H1 p=none→Q (.ref p) (upd H1 p (.tup xs))
def tLst (t:TA):TE:=fun σ H Q=>t σ H fun xs H1=>xs.length≤sizeLine∧∀ p,H1 p=none→Q (.ref p) (upd H1 p (.lst xs))
theorem Zkd {x1} (h:PA X es t):PE X (.Tuple es x1 pos) (tTup t):=by
 intro pins s σ H Q I hq
 refine wpAny_Tuple_spliced (thn (h pos pins s σ H _ I hq) fun us s1 ⟨xs,H1,I1,r,z,q⟩ =>⟨by rw [← r.length]; exact z,?_⟩)
 have hf:H1 s1.heap.objs.size=none:=I1.hok.fresh (Nat.le_refl _)
 refine ⟨.ref s1.heap.objs.size,upd H1 s1.heap.objs.size (.tup xs),I1.laid (t':=s1.toks) (fun b u e=>Heap.get?_push_of_some _ e) (Nat.le_refl _) ?_,rfl,q _ hf⟩
 exact ⟨z,us,r,⟨_,Heap.get?_push_size _ rfl,rfl,_,rfl⟩⟩
theorem Zb0 (h:PA X es t):PE X (.List es pos) (tLst t):=by
 intro pins s σ H Q I hq
 refine wpAny_List_spliced (thn (h pos pins s σ H _ I hq) fun us s1 ⟨xs,H1,I1,r,z,q⟩ =>⟨by rw [← r.length]; exact z,?_⟩)
 have hf:H1 s1.heap.objs.size=none:=I1.hok.fresh (Nat.le_refl _)
 refine ⟨.ref s1.heap.objs.size,upd H1 s1.heap.objs.size (.lst xs),I1.laid (t':=s1.toks) (fun b u e=>Heap.get?_push_of_some _ e) (Nat.le_refl _) ?_,rfl,q _ hf⟩
 exact ⟨z,us,0,r,Heap.get?_push_size _ rfl⟩
end
abbrev Sp:=List V→Hp→VK→XK→Prop
abbrev CXT:=List Env→Hp→Shared→XK→Value→Shared→Prop
structure Env0 (P:Program) (w:World) (K:PySem.W.Frag) (mg:Str→Option Value) (base:Heap) (A:Around) (outer:List Env) (s:Shared) (H:Hp):Prop where
 frames:A.frames=some outer
 mod:Mod K mg base
 bs:∀ b o,base.get? b=some o→s.heap.get? b=some o∧H b=none
 bsz:base.objs.size≤s.heap.objs.size
 funs:s.heap.FunFrames base outer
 frf:∀ b ∈ frs outer,H b=none
 hok:HOk P w H s.heap
 bare:AllBare s.gens
def CE (outer:List Env) (P:Program) (w:World) (H:Hp) (s:Shared) (Q:VK) (u:Value) (s':Shared):Prop:=
 ∃ v H',s'.os=s.os∧AllBare s'.gens∧Un (frs outer) [] H H' s.heap s'.heap∧HOk P w H' s'.heap∧RelV v u∧Q v H'
def CR (CX:CXT) (outer:List Env) (P:Program) (w:World) (H:Hp) (s:Shared) (Q:VK) (E:XK) (r:Result) (s':Shared):Prop:=
 match r with
 | .ok (.ret u)=>CE outer P w H s Q u s'
 | .ok _=>False
 | .error e=>CX outer H s E e s'
structure FnOk (P:Program) (w:World) (K:PySem.W.Frag) (mg:Str→Option Value) (base:Heap) (CX:CXT) (k:Nat) (f:Addr) (fd:FuncData) (ps:List Str) (sp:Sp):Prop where
 len:∀ vs H Q E,sp vs H Q E→vs.length=ps.length
 run:∀ (A:Around) (outer:List Env) (s:Shared) (H:Hp) (args:Args) (us:List Value) (vs:List V) (Q:VK) (E:XK),Room k A→Env0 P w K mg base A outer s H→BindsTo s fd args (ps.zip us)→Vals vs us→sp vs H Q E→
  codeAny (model P w) A (.call (.ref f) args) (CR CX outer P w H s Q E) s
theorem Env0.make {P:Program} {w:World} {K:PySem.W.Frag} {mg:Str→Option Value} {base:Heap} {A:Around} {outer:List Env} {s:Shared} {H:Hp} (e:Env0 P w K mg base A outer s H) (C:Addr) (us:List Value) (kw:List (Str × Value)) :
  Env0 P w K mg base (A.under (.builtin "type.__call__" ⟨.ref C :: us,kw⟩)) outer s H:=⟨by first | exact e.frames | (simpa [Around.under,Code.envs,Code.isFrame,pushEnvs] using e.frames),e.mod,e.bs,e.bsz,e.funs,e.frf,e.hok,e.bare⟩
section
variable {X:Cx} {pins:List (Addr × Obj)} {σ:St} {H:Hp} {s s':Shared}
theorem Inv.env0 (I:Inv X pins σ H s):Env0 X.prog X.w X.K X.mg X.base X.A X.stack s H:=
 ⟨I.ok.frames,I.ok.mod,I.bs,Nat.le_trans I.ok.bsz I.sz,I.stack,I.stkFree,I.hok,I.bare⟩
theorem Inv.after {Q:VK} {u:Value} (I:Inv X pins σ H s) (h:CE X.stack X.prog X.w H s Q u s'):EP X pins σ Q u s':=by
 obtain ⟨v,H',os,bare,un,hok,r,q⟩ :=h
 obtain ⟨hh,g,d,t,os'⟩ :=s'
 obtain rfl:os'=s.os:=os
 exact ⟨v,H',I.call (h':=hh) (g':=g) (d':=d) (t':=t) (ch:=[]) un hok bare (fun b z=>absurd z (by simp)),r,q⟩
end
def ZK7 (sp:Sp) (dvs:List V) (E:XK) (t:TA):TE:=fun σ H Q=>t σ H fun vs H1=>sp (vs ++ dvs) H1 Q E
def ZI9 (C:Addr) (sp:Sp) (dvs:List V) (E:XK) (t:TA):TE:=fun σ H Q=>t σ H fun vs H1=>∀ x dx,H1 x=none→H1 dx=none→dx ≠ x→
 sp (.ref x :: (vs ++ dvs)) (upd (upd H1 dx (.own x)) x (.ins C dx [])) (fun v H2=>v=.non∧Q (.ref x) H2) E
def ZaZ (K:PySem.W.Frag) (fd:FuncData) (ps:List Str) (ds:List Value):Prop:=
 ∀ (s:Shared) (us:List Value),K.In s.heap→(us ++ ds).length=ps.length→BindsTo s fd ⟨us,[]⟩ (ps.zip (us ++ ds))
theorem ZaZ.all {K:PySem.W.Frag} {fd:FuncData} {ps:List Str} (h:∀ us:List Value,us.length=ps.length→bindArgs fd ⟨us,[]⟩=pure (ps.zip us)):ZaZ K fd ps []:=fun s us _ hl=>by
 rw [List.append_nil] at hl ⊢
 exact .of_eq (h us hl)
def Zoi (CX:CXT) (X:Cx) (E:XK):Prop:=∀ (pins:List (Addr × Obj)) (σ:St) (H:Hp) (s:Shared) (e:Value) (s':Shared),Inv X pins σ H s→CX X.stack H s E e s'→X.xe e s'
section
variable {X:Cx} {CX:CXT} {k:Nat} {f C:Addr} {fd:FuncData} {ps:List Str} {sp:Sp} {dvs:List V} {ds:List Value} {E:XK} {x m:Str} {p pos apos:Pos} {e o:Expr} {es:List Expr} {ta:TE} {t:TA}
theorem ZEO {pins:List (Addr × Obj)} {σ:St} {H:Hp} {s:Shared} {Q:VK} {us:List Value} {vs:List V} (F:FnOk X.prog X.w X.K X.mg X.base CX k f fd ps sp) (hr:Room k X.A) (hb:ZaZ X.K fd ps ds) (hd:Vals dvs ds) (hx:Zoi CX X E)
  (I:Inv X pins σ H s) (r:Vals vs us) (h:sp (vs ++ dvs) H Q E):wpAny (model X.prog X.w) X.A (call (.ref f) us) (EP X pins σ Q) X.xe s:=by
 have r2:Vals (vs ++ dvs) (us ++ ds):=r.append hd
 have hl:(us ++ ds).length=ps.length:=by rw [← r2.length]; exact F.len _ _ _ _ h
 refine wpAny_call (codeAny_mono (F.run X.A X.stack s H ⟨us,[]⟩ (us ++ ds) (vs ++ dvs) Q E hr I.env0 (hb s us I.kIn hl) r2 h) fun r s' hq=>?_)
 cases r with
 | error e=>exact hx pins σ H s e s' I hq
 | ok fl=>
  cases fl with
  | ret u=>exact I.after hq
  | next=>exact False.elim hq
  | brk=>exact False.elim hq
  | cont=>exact False.elim hq
theorem ZDy (F:FnOk X.prog X.w X.K X.mg X.base CX k f fd ps sp) (hr:Room k X.A) (hg:Gl X x) (hm:X.mg x=some (.ref f)) (hk:PySem.W.keepIn X.K (.ref f)=true) (hb:ZaZ X.K fd ps ds) (hd:Vals dvs ds) (hx:Zoi CX X E)
  (ha:PA X (e :: es) t) (hdb:(x == ("__debug__" : Str))=false:=by decide) (he:starEach (e :: es) X.env=(false,eval e X.env) :: starEach es X.env:=by rfl) (hpl:(backTo pos (starEach es X.env)).any (·.1)=false:=by rfl) :
  PE X (.Call (.Name x p) (e :: es) [] pos) (ZK7 sp dvs E t):=by
 intro pins s σ H Q I h
 refine wpAny_Call_Name_kw (Zwi I hg hm ?_ hdb)
 refine PySem.W.callWith_K (h₀:=X.base) I.ok.mod.kin hk (thn (ha pos pins s σ H _ I h) fun us s1 ⟨vs,H1,I1,r,q⟩ =>⟨I1.kIn,?_⟩) he hpl
 exact ZEO F hr hb hd hx I1 r q
structure Mk (K:PySem.W.Frag) (C f:Addr):Prop where
 makes:PySem.W.makesIn K C=true
 init:PySem.W.findIn K (.ref C) "__init__" = some (some (.ref f))
 fn:PySem.W.isFn K (.ref f)=true
 kp:PySem.W.keepIn K (.ref C)=true
theorem ZEP {pins:List (Addr × Obj)} {σ:St} {H:Hp} {s:Shared} {Q:VK} {us:List Value} {vs:List V} (M:Mk X.K C f) (F:FnOk X.prog X.w X.K X.mg X.base CX k f fd ps sp) (hr:Room (k + 1) X.A) (hb:ZaZ X.K fd ps ds) (hd:Vals dvs ds)
  (hx:Zoi CX X E) (I:Inv X pins σ H s) (r:Vals vs us)
  (h:∀ x dx,H x=none→H dx=none→dx ≠ x→sp (.ref x :: (vs ++ dvs)) (upd (upd H dx (.own x)) x (.ins C dx [])) (fun v H2=>v=.non∧Q (.ref x) H2) E) :
  wpAny (model X.prog X.w) X.A (call (.ref C) us) (EP X pins σ Q) X.xe s:=by
 have hq:=h (s.heap.objs.size + 1) s.heap.objs.size (I.hok.fresh (Nat.le_succ _)) (I.hok.fresh (Nat.le_refl _)) (Nat.ne_of_lt (Nat.lt_succ_self _))
 have I2:=Inv.made (C:=C) I
 have r2:Vals (V.ref (s.heap.objs.size + 1) :: (vs ++ dvs)) (Value.ref (s.heap.objs.size + 1) :: (us ++ ds)):=.cons rfl (r.append hd)
 have hl:(Value.ref (s.heap.objs.size + 1) :: us ++ ds).length=ps.length:=by
  have e:=r2.length
  rw [F.len _ _ _ _ hq] at e
  exact e.symm
 refine wpAny_call (ZIw (f:=f) I.kIn M.makes M.init (beq_iff_eq.mp M.fn) (codeAny_mono (F.run _ X.stack _ _ ⟨Value.ref (s.heap.objs.size + 1) :: us,[]⟩ (Value.ref (s.heap.objs.size + 1) :: (us ++ ds)) _ _ E (hr.make C us [])
  (I2.env0.make C us []) (hb _ (Value.ref (s.heap.objs.size + 1) :: us) I2.kIn hl) r2 hq) fun r s' hq'=>?_))
 cases r with
 | error e=>exact hx pins σ _ _ e s' I2 hq'
 | ok fl=>
  cases fl with
  | ret u=>
   obtain ⟨v,H',I3,rv,ev,q3⟩ :=I2.after hq'
   subst ev
   exact ⟨rv,⟨V.ref (s.heap.objs.size + 1),H',I3,rfl,q3⟩⟩
  | next=>exact False.elim hq'
  | brk=>exact False.elim hq'
  | cont=>exact False.elim hq'
theorem ZKO (M:Mk X.K C f) (F:FnOk X.prog X.w X.K X.mg X.base CX k f fd ps sp) (hr:Room (k + 1) X.A) (hg:Gl X x) (hm:X.mg x=some (.ref C)) (hb:ZaZ X.K fd ps ds) (hd:Vals dvs ds) (hx:Zoi CX X E)
  (ha:PA X (e :: es) t) (hdb:(x == ("__debug__" : Str))=false:=by decide) (he:starEach (e :: es) X.env=(false,eval e X.env) :: starEach es X.env:=by rfl) (hpl:(backTo pos (starEach es X.env)).any (·.1)=false:=by rfl) :
  PE X (.Call (.Name x p) (e :: es) [] pos) (ZI9 C sp dvs E t):=by
 intro pins s σ H Q I h
 refine wpAny_Call_Name_kw (Zwi I hg hm ?_ hdb)
 refine PySem.W.callWith_K (h₀:=X.base) I.ok.mod.kin M.kp (thn (ha pos pins s σ H _ I h) fun us s1 ⟨vs,H1,I1,r,q⟩ =>⟨I1.kIn,?_⟩) he hpl
 exact ZEP M F hr hb hd hx I1 r q
theorem ZIM (M:Mk X.K C f) (F:FnOk X.prog X.w X.K X.mg X.base CX k f fd ps sp) (hr:Room (k + 1) X.A) (hg:Gl X x) (hm:X.mg x=some (.ref C)) (hb:ZaZ X.K fd ps ds) (hd:Vals dvs ds) (hx:Zoi CX X E)
  (hdb:(x == ("__debug__" : Str))=false:=by decide):PE X (.Call (.Name x p) [] [] pos) (ZI9 C sp dvs E tNil):=by
 intro pins s σ H Q I h
 refine wpAny_Call_Name_kw (Zwi I hg hm ?_ hdb)
 exact PySem.W.callWith_K0 I.kIn M.kp (ZEP (us:=[]) M F hr hb hd hx I .nil h)
end
section
variable {X:Cx} {CX:CXT} {k:Nat} {f C:Addr} {fd:FuncData} {ps ks:List Str} {sp:Sp} {E:XK} {x m:Str} {p pos apos kpos:Pos} {e o:Expr} {es:List Expr} {kws:List Keyword} {te ta:TE} {t tk:TA} {nm:Option Str}
variable {g:List Value→List Value→List Value} {gV:List V→List V→List V}
end
structure FnScope (N P:List Str) (sc:Scope):Prop where
 kind:sc.kind=.function
 co:sc.isCoroutine=false
 gen:sc.isGenerator=false
 nd:N.Nodup
 pre:N.take P.length=P
 par:∀ x ∈ P,sc.names.lookup x=some .local∨sc.names.lookup x=some .cell
 nofree:∀ y ∈ sc.names,y.2 ≠ .free
theorem ZA1 {kindOf:Str→Option NameKind} {x:Str}:∀ {binds:List (Str × Value)} {m:Str→Option Value},(∀ v,(x,v) ∉ binds)→bindL kindOf binds m x=m x
 | [],_,_=>rfl
 | (n,v) :: r,m,h=>by
  unfold bindL
  rw [ZA1 fun w hw=>h w (List.mem_cons_of_mem _ hw)]
  split
  ·have:x ≠ n:=by rintro rfl; exact h v List.mem_cons_self
   simp [this]
  ·rfl
theorem ZAZ {kindOf:Str→Option NameKind} {x:Str}:∀ {binds:List (Str × Value)} {m:Str→Option Value},(∀ v,(x,v) ∉ binds)→bindC kindOf binds m x=m x
 | [],_,_=>rfl
 | (n,v) :: r,m,h=>by
  unfold bindC
  rw [ZAZ fun w hw=>h w (List.mem_cons_of_mem _ hw)]
  split
  ·rfl
  ·have:x ≠ n:=by rintro rfl; exact h v List.mem_cons_self
   simp [this]
theorem ZA0 {kindOf:Str→Option NameKind} {x:Str} {v:Value}:∀ {P:List Str} {vs:List Value} {i:Nat} {m:Str→Option Value},P.Nodup→P[i]?=some x→vs[i]?=some v→kindOf x=some .local→
  bindL kindOf (P.zip vs) m x=some v
 | [],_,_,_,_,h,_,_=>by simp at h
 | _ :: _,[],_,_,_,_,h,_=>by simp at h
 | p :: P,w :: vs,0,m,nd,h1,h2,hk=>by
  simp at h1 h2; subst h1; subst h2
  show bindL kindOf ((p,w) :: P.zip vs) m p=_
  unfold bindL
  rw [ZA1 fun v hv=>(List.nodup_cons.mp nd).1 (List.of_mem_zip hv).1,if_pos hk]
  simp
 | p :: P,w :: vs,i + 1,m,nd,h1,h2,hk=>by
  show bindL kindOf ((p,w) :: P.zip vs) m x=_
  unfold bindL
  exact ZA0 (i:=i) (List.nodup_cons.mp nd).2 (by simpa using h1) (by simpa using h2) hk
theorem ZAY {kindOf:Str→Option NameKind} {x:Str} {v:Value}:∀ {P:List Str} {vs:List Value} {i:Nat} {m:Str→Option Value},P.Nodup→P[i]?=some x→vs[i]?=some v→kindOf x ≠ some .local→
  bindC kindOf (P.zip vs) m x=some v
 | [],_,_,_,_,h,_,_=>by simp at h
 | _ :: _,[],_,_,_,_,h,_=>by simp at h
 | p :: P,w :: vs,0,m,nd,h1,h2,hk=>by
  simp at h1 h2; subst h1; subst h2
  show bindC kindOf ((p,w) :: P.zip vs) m p=_
  unfold bindC
  rw [ZAZ fun v hv=>(List.nodup_cons.mp nd).1 (List.of_mem_zip hv).1,if_neg hk]
  simp
 | p :: P,w :: vs,i + 1,m,nd,h1,h2,hk=>by
  show bindC kindOf ((p,w) :: P.zip vs) m x=_
  unfold bindC
  exact ZAY (i:=i) (List.nodup_cons.mp nd).2 (by simpa using h1) (by simpa using h2) hk
def start (N:List Str) (vs:List V):St:=vs.map some ++ List.replicate (N.length - vs.length) none
def cxOf (CX:CXT) (P:Program) (w:World) (K:PySem.W.Frag) (mg:Str→Option Value) (base:Heap) (N:List Str) (qual:Str) (scope:Scope) (f:Addr) (cd:Value) (A:Around) (outer:List Env) (s:Shared) (H:Hp) (E:XK):Cx where
 prog:=P
 w:=w
 K:=K
 mg:=mg
 base:=base
 A:=A.deeper (envOfC qual scope s.heap.objs.size f cd)
 N:=N
 s₀:=s
 H₀:=H
 env:=envOfC qual scope s.heap.objs.size f cd
 outer:=outer
 stack:=envOfC qual scope s.heap.objs.size f cd :: outer
 ex:=[]
 calm:=true
 fn:=fun _=>true
 pn:=[]
 xe:=fun e s'=>wpAny (model P w) (A.deeper (envOfC qual scope s.heap.objs.size f cd)) (leaving (envOfC qual scope s.heap.objs.size f cd) e) (fun _ s''=>CX outer H s E e s'') (fun e' s''=>CX outer H s E e' s'') s'
theorem ZDW {sc:Scope} {n:Nat} {x:Str} (h:sc.names.lookup x=some .cell):∃ c,(cellsFrom n sc.names []).lookup x=some c:=by
 have q:=PySem.W.cellsFrom_some sc.names n [] (.inl h)
 exact Option.isSome_iff_exists.mp q
theorem ZGv {CX:CXT} {P:Program} {w:World} {K:PySem.W.Frag} {mg:Str→Option Value} {base:Heap} {N ps:List Str} {qual:Str} {scope:Scope} {f:Addr} {cd:Value} {A:Around} {outer:List Env} {s s1:Shared} {H:Hp} {E:XK} {us:List Value} {vs:List V}
  (S:FnScope N ps scope) (hd:A.handled=none) (e0:Env0 P w K mg base A outer s H) (hl:vs.length=ps.length) (r:Vals vs us)
  (x:InCallC s s.heap.objs.size (bindL (envOfC qual scope s.heap.objs.size f cd).kindOf (ps.zip us) fun _=>none) (cellsFrom (s.heap.objs.size + 1) scope.names []) (bindC (envOfC qual scope s.heap.objs.size f cd).kindOf (ps.zip us) fun _=>none) s1) :
  Inv (cxOf CX P w K mg base N qual scope f cd A outer s H E) [] (start N vs) H s1:=by
 have hpl:ps.length≤N.length:=by have:=congrArg List.length S.pre; rw [List.length_take] at this; omega
 obtain ⟨h1,tk,rfl,hk⟩ :=x.done
 have noA:∀ b:Addr,b ∉ (cxOf CX P w K mg base N qual scope f cd A outer s H E).ex:=fun b z=>absurd (show b ∈ ([]:List Addr) from z) (by simp)
 refine ⟨⟨e0.mod,S.kind,rfl,rfl,Nat.le_refl _,fun y z c h1 h2=>?_,fun y hy=>?_,fun y c _ h=>?_,fun _=>hd,Around.frames_deeper e0.frames,.inr ⟨rfl,rfl⟩,fun b z=>absurd z (noA b),e0.bs,e0.bsz,fun b _ _=>noA b,fun b z=>absurd z (noA b),e0.funs,e0.frf⟩,
  rfl,e0.bare,Un.kept hk,⟨_,x.toInCall.ns,fun i y v h1 h2 h3=>?_⟩,fun y c h=>⟨_,x.cell y c h⟩,e0.hok.fresh (Nat.le_refl _),fun y c h=>?_,fun p hp=>absurd (show p ∈ ([]:List (Addr × Obj)) from hp) (by simp),e0.hok.kept hk,?_⟩
 ·exact name_of_addr x.apart (PySem.mem_of_lookup h1) (PySem.mem_of_lookup h2)
 ·have hy:scope.names.lookup y=some .cell∨scope.names.lookup y=some .free:=hy
  rcases hy with hy | hy
  ·exact ZDW hy
  ·exact absurd rfl (S.nofree _ (PySem.mem_of_lookup hy))
 ·exact Nat.le_of_lt (x.above y c (PySem.mem_of_lookup h))
 ·have hi:i < vs.length:=by
   unfold start at h2
   by_cases hi:i < vs.length
   ·exact hi
   ·rw [List.getElem?_append_right (by simpa using hi)] at h2
    rw [List.getElem?_replicate] at h2
    split at h2 <;> cases h2
  have ha:vs[i]?=some v:=by
   unfold start at h2
   rw [List.getElem?_append_left (by simpa using hi),List.getElem?_map] at h2
   cases e:vs[i]? with
   | none=>rw [e] at h2; cases h2
   | some a=>rw [e] at h2; cases h2; rfl
  obtain ⟨u,hu,rv⟩ :=r.get ha
  have hp:ps[i]?=some y:=by
   rw [← S.pre,List.getElem?_take_of_lt (by omega)]; exact h1
  have ndP:ps.Nodup:=by rw [← S.pre]; exact S.nd.sublist (List.take_sublist _ _)
  refine ⟨u,rv,?_⟩
  rcases S.par y (List.mem_of_getElem? hp) with k | k
  ·exact .inl ⟨k,ZA0 ndP hp hu k⟩
  ·obtain ⟨c,e⟩ :=ZDW (n:=s.heap.objs.size + 1) k
   refine .inr ⟨.inl k,c,e,?_⟩
   have q:=x.cell y c e
   rw [ZAY ndP hp hu (by show scope.names.lookup y ≠ _; rw [k]; decide)] at q
   exact q
 ·exact e0.hok.fresh (Nat.le_of_lt (x.above y c (PySem.mem_of_lookup h)))
 ·unfold start
  show _=N.length
  rw [List.length_append,List.length_map,List.length_replicate]
  omega
theorem ZLx {CX:CXT} {P:Program} {w:World} {K:PySem.W.Frag} {mg:Str→Option Value} {base:Heap} {k:Nat} {f:Addr} {name qual:Str} {params:Arguments} {body:List Stmt} {scope:Scope} {dV kV doc pm cdv ct oc:Value} {an od:Option Addr}
  {osl:Array (Option Value)} {N ps:List Str} {sp:Sp} (lk:K.lookup f=some ⟨oc,od,.func (PySem.W.fnOf name qual params body scope dV kV doc pm an cdv ct),osl⟩) (hcd:PySem.W.codeIn K cdv qual=true) (S:FnScope N ps scope)
  (len:∀ vs H Q E,sp vs H Q E→vs.length=ps.length)
  (hbody:∀ (A:Around) (outer:List Env) (s:Shared) (H:Hp) (vs:List V) (Q:VK) (E:XK),Room k (A.deeper (envOfC qual scope s.heap.objs.size f cdv))→sp vs H Q E→
   ∃ t,PSs (cxOf CX P w K mg base N qual scope f cdv A outer s H E) body t∧t { nx:=fun _ H'=>Q .non H',rt:=Q } (start N vs) H) :
  FnOk P w K mg base CX (k + 1) f (PySem.W.fnOf name qual params body scope dV kV doc pm an cdv ct) ps sp:=by
 refine ⟨len,fun A outer s H args us vs Q E hr e0 hb r hsp=>?_⟩
 have hl:=len _ _ _ _ hsp
 have KX:K.In s.heap:=e0.mod.kin.keeps fun b o e=>(e0.bs b o e).1
 have lim:s.heap.NoLimit:=e0.mod.nolimit.keeps fun b o e=>(e0.bs b o e).1
 have hkind:∀ y ∈ ps.zip us,scope.names.lookup y.1=some .local∨(scope.names.lookup y.1=some .cell∧((cellsFrom (s.heap.objs.size + 1) scope.names []).lookup y.1).isSome=true):=fun ⟨n,v⟩ hy=>by
  rcases S.par n (List.of_mem_zip hy).1 with q | q
  ·exact .inl q
  ·exact .inr ⟨q,PySem.W.cellsFrom_some _ _ _ (.inl q)⟩
 refine codeAny_call_function hr.depth (KX _ _ lk) rfl S.co S.gen rfl (PySem.W.codeRec_of KX hcd) (hb _ _ _ _ ?_)
 refine wpAny_newFunctionEnv_cells S.kind hkind fun env he s1 x=>?_
 subst he
 refine ⟨lim.keeps x.toInCall.keep,codeAny_func ?_⟩
 obtain ⟨t,ht,hq⟩ :=hbody A outer s H vs Q E (hr.deeper _) hsp
 have I:Inv (cxOf CX P w K mg base N qual scope f cdv A outer s H E) [] (start N vs) H s1:=ZGv S hr.hd e0 hl r x
 refine wpAny_mono (ht [] s1 (start N vs) H _ I hq) (fun fl s' hs=>?_) fun e s' hs=>hs
 have fin:∀ {σ':St} {H':Hp} {v:V} {u:Value},Inv (cxOf CX P w K mg base N qual scope f cdv A outer s H E) [] σ' H' s'→RelV v u→Q v H'→CE outer P w H s Q u s':=
  fun {σ' H' v u} J rv q=>⟨v,H',J.os,J.bare,J.base,J.hok,rv,q⟩
 cases fl with
 | ret u=>
  obtain ⟨v,σ',H',J,rv,q⟩ :=hs
  exact fin J rv q
 | next=>
  obtain ⟨σ',H',J,q⟩ :=hs
  exact fin (v:=V.non) (u:=Value.none) J rfl q
 | brk=>
  obtain ⟨_,_,_,q⟩ :=hs
  exact False.elim q
 | cont=>
  obtain ⟨_,_,_,q⟩ :=hs
  exact False.elim q
end L2
namespace L2
open PySem PySem.Spec PyProof.Rows
section
variable {X:Cx} {x:Str} {p pos:Pos} {e:Expr} {es:List Expr} {t:TA} {id T:String} {r:List V→Hp→VK→Prop}
def tCB (r:List V→Hp→VK→Prop) (t:TA):TE:=fun σ H Q=>t σ H fun vs H1=>r vs H1 Q
theorem Zbr (hc:Zr1 X (.builtin id) r) (hg:Gl X x) (hm:X.mg x=none) (hv:bootBuiltins x=some (.builtin id)) (ha:PA X (e :: es) t) (hn:x ≠ "__name__":=by decide) (hdb:(x == ("__debug__" : Str))=false:=by decide)
  (he:starEach (e :: es) X.env=(false,eval e X.env) :: starEach es X.env:=by rfl) (hpl:(backTo pos (starEach es X.env)).any (·.1)=false:=by rfl):PE X (.Call (.Name x p) (e :: es) [] pos) (tCB r t):=by
 intro pins s σ H Q I h
 refine wpAny_Call_Name_kw (Zyl I hg hm hv ?_ hn hdb)
 exact PyProof.Rows.callWith_builtin1 (thn (ha pos pins s σ H _ I h) fun us s1 ⟨vs,H1,I1,r1,q1⟩ =>hc pins s1 σ H1 vs us Q I1 r1 q1) he hpl
theorem Zeq (hc:Zr1 X (.type T) r) (hg:Gl X x) (hm:X.mg x=none) (hv:bootBuiltins x=some (.type T)) (ha:PA X (e :: es) t) (hn:x ≠ "__name__":=by decide) (hdb:(x == ("__debug__" : Str))=false:=by decide)
  (he:starEach (e :: es) X.env=(false,eval e X.env) :: starEach es X.env:=by rfl) (hpl:(backTo pos (starEach es X.env)).any (·.1)=false:=by rfl):PE X (.Call (.Name x p) (e :: es) [] pos) (tCB r t):=by
 intro pins s σ H Q I h
 refine wpAny_Call_Name_kw (Zyl I hg hm hv ?_ hn hdb)
 exact PyProof.Rows.callWith_type1 (thn (ha pos pins s σ H _ I h) fun us s1 ⟨vs,H1,I1,r1,q1⟩ =>hc pins s1 σ H1 vs us Q I1 r1 q1) he hpl
end
end L2
namespace HT
open PySem PyProof.Rows
section
open PySem.SeqAt
open PySem.AutoSeq1 (wpAny_loadPart')
open PySem.MeetsSeq PySem.MeetsSeq2 PySem.MeetsSeq3
end
section
variable {prog:Program} {w:World} {A:Around} {E:Value→Shared→Prop} {s:Shared}
def sIx (n d:Nat):Option Int→Nat
 | none=>d
 | some v=>if v < 0 then (v + (n:Int)).toNat else min v.toNat n
theorem sIx_none (n d:Nat):sIx n d none=d:=rfl
theorem sIx_nat (n d k:Nat):sIx n d (some (k:Int))=min k n:=by
 show (if (k:Int) < 0 then ((k:Int) + (n:Int)).toNat else min (k:Int).toNat n)=min k n
 rw [if_neg (by omega),Int.toNat_natCast]
theorem ZMI (n d:Nat) (hd:d≤n) (o:Option Int):sIx n d o≤n:=by
 cases o with
 | none=>exact hd
 | some v=>
  show (if v < 0 then (v + (n:Int)).toNat else min v.toNat n)≤n
  by_cases hv:v < 0
  ·rw [if_pos hv]; omega
  ·rw [if_neg hv]; exact Nat.min_le_right _ _
theorem ZFZ (v:Int) (n d:Nat):(if v < 0 then max (v + (n:Int)) 0 else min v (n:Int))=((sIx n d (some v):Nat):Int):=by
 show (if v < 0 then max (v + (n:Int)) 0 else min v (n:Int))=(((if v < 0 then (v + (n:Int)).toNat else min v.toNat n):Nat):Int)
 by_cases hv:v < 0
 ·simp only [if_pos hv]; omega
 ·simp only [if_neg hv]; omega
theorem ZE5 (lo hi:Option Int) (n:Nat):Builtin.Slice.sliceAdjust lo hi 1 (n:Int)=(((sIx n 0 lo:Nat):Int),((sIx n n hi:Nat):Int)):=by
 have h1 : ¬ ((1:Int) < 0):=by omega
 unfold Builtin.Slice.sliceAdjust
 simp only [h1,if_false]
 refine Prod.ext ?_ ?_
 ·cases lo with
  | none=>rfl
  | some v=>exact ZFZ v n 0
 ·cases hi with
  | none=>rfl
  | some v=>exact ZFZ v n n
theorem ZFx (i j:Nat):Builtin.Slice.slicePlaces (i:Int) (j:Int) 1=j - i:=by
 unfold Builtin.Slice.slicePlaces
 have h1:(1:Int) > 0:=by omega
 simp only [h1,if_true,Int.ediv_one]
 split <;> omega
theorem ZyD {v:Value} {o:Option Int} {Q:Option Int→Shared→Prop} (p:IsPart v o) (h:Q o s):wpAny (model prog w) A (Builtin.Slice.slicePartIndex v) Q E s:=by
 cases p with
 | none=>exact slicePart_none h
 | int i t=>exact slicePart_int h
theorem ZuJ {sl:Addr} {vl vu:Value} {lo hi:Option Int} {n:Nat} {Q:Int × Int × Nat→Shared→Prop} (hs:s.heap.IsSliceOf sl vl vu .none) (pl:IsPart vl lo) (pu:IsPart vu hi)
  (h:Q (((sIx n 0 lo:Nat):Int),1,sIx n n hi - sIx n 0 lo) s):wpAny (model prog w) A (Builtin.Slice.sliceApplied (.ref sl) (pure (n:Int))) Q E s:=by
 obtain ⟨os,hos,hcs,hds⟩ :=id hs
 unfold Builtin.Slice.sliceApplied Builtin.Slice.sliceFields
 refine wpAny_bind (wpAny_bind (wpAny_field hos hds (x:=vl) rfl (wpAny_bind (wpAny_field hos hds (x:=vu) rfl (wpAny_bind (wpAny_field hos hds (x:=.none) rfl (wpAny_pure ?_)))))))
 refine wpAny_bind (slicePart_none ?_)
 show wpAny _ _ (if ((1:Int) == 0)=true then _ else _) _ _ s
 rw [if_neg (by decide)]
 refine wpAny_bind (ZyD pl (wpAny_bind (ZyD pu (wpAny_bind (wpAny_pure ?_)))))
 show wpAny _ _ (match Builtin.Slice.sliceAdjust lo hi 1 (n:Int) with | (lo,hi)=>pure (lo,(1:Int),Builtin.Slice.slicePlaces lo hi 1)) _ _ s
 rw [ZE5 lo hi n]
 show wpAny _ _ (pure (((sIx n 0 lo:Nat):Int),(1:Int),Builtin.Slice.slicePlaces ((sIx n 0 lo:Nat):Int) ((sIx n n hi:Nat):Int) 1)) _ _ s
 rw [ZFx]
 exact wpAny_pure h
theorem ZIN (xs:Array Value) (i k:Nat):((List.range k).filterMap fun (m:Nat)=>xs[((i:Int) + (m:Int) * 1).toNat]?).toArray=((xs.toList.drop i).take k).toArray:=by
 have e:(fun (m:Nat)=>xs[((i:Int) + (m:Int) * 1).toNat]?)=fun m=>xs[i + m]?:=by
  funext m
  have:((i:Int) + (m:Int) * 1).toNat=i + m:=by omega
  rw [this]
 rw [e]
 have:=pick_run xs i k
 rw [List.filterMap_map] at this
 have e2:((fun x=>xs[x]?) ∘ fun x=>i + x)=fun m=>xs[i + m]?:=rfl
 rw [e2] at this
 rw [this]
theorem getItem_tuple_cut {t sl:Addr} {items:Array Value} {vl vu:Value} {lo hi:Option Int} {Q:Value→Shared→Prop} (ht:IsTup s.heap t items) (hs:s.heap.IsSliceOf sl vl vu .none) (pl:IsPart vl lo) (pu:IsPart vu hi)
  (hw : ¬ (sIx items.size 0 lo=0∧sIx items.size items.size hi=items.size))
  (h:Q (.ref s.heap.objs.size) { s with heap:=s.heap.push { cls:=.type "tuple",data:=.seq ((items.toList.drop (sIx items.size 0 lo)).take (sIx items.size items.size hi - sIx items.size 0 lo)).toArray } })
  (hsz:items.size≤sizeLine):wpAny (model prog w) A (getItem (.ref t) (.ref sl)) Q E s:=by
 have htake:sizeOk (.seq ((items.toList.drop (sIx items.size 0 lo)).take (sIx items.size items.size hi - sIx items.size 0 lo)).toArray):=by
  show ((items.toList.drop (sIx items.size 0 lo)).take (sIx items.size items.size hi - sIx items.size 0 lo)).toArray.size≤sizeLine
  rw [List.size_toArray,List.length_take,List.length_drop,Array.length_toList]
  omega
 have hj:sIx items.size items.size hi≤items.size:=ZMI _ _ (Nat.le_refl _) hi
 obtain ⟨os,hos,hcs,hds⟩ :=id hs
 have hTs:s.TypeIs (.ref sl) "slice":=⟨os,hos,hcs⟩
 unfold getItem
 try with_reducible refine wpAny_holding ?_
 first | refine wpAny_bind (wpAny_pure ?_) | skip
 refine wpAny_bind (wpAny_sequenceKey ht.typeIs (by decide) ?_)
 refine wpAny_bind (wpAny_callSpecial?_slot (name:=Str.ofString "__getitem__") ht.typeIs PyProof.Rows.slot_tuple_getitem
  (wpAny_call_entry PyProof.Rows.slot_tuple_getitem ht.typeIs entry_tuple_getitem ?_ (args_tuple_getitem _ _)))
 show wpAny _ _ (Builtin.Tuple.tupleItemsOf (.ref t) >>= _) _ _ s
 refine wpAny_bind (tupleItemsOf_ ht ?_)
 refine wpAny_bind (wpAny_typeOf hTs ?_)
 rw [if_pos (by decide)]
 refine wpAny_bind (ZuJ hs pl pu ?_)
 have hno : ¬ ((((sIx items.size 0 lo:Nat):Int) == 0 && (1:Int) == 1 && (sIx items.size items.size hi - sIx items.size 0 lo) == items.size)=true):=by
  intro q
  rw [Bool.and_eq_true,Bool.and_eq_true] at q
  have q1:((sIx items.size 0 lo:Nat):Int)=0:=eq_of_beq q.1.1
  have q2:sIx items.size items.size hi - sIx items.size 0 lo=items.size:=eq_of_beq q.2
  exact hw ⟨by omega,by omega⟩
 show wpAny _ _ (if (((sIx items.size 0 lo:Nat):Int) == 0 && (1:Int) == 1 && (sIx items.size items.size hi - sIx items.size 0 lo) == items.size)=true then _ else _) _ _ s
 rw [if_neg hno,ZIN]
 first
  | exact wpAny_bind (m:=Builtin.Tuple.tupleExact _) (wpAny_newObj_type (wpAny_pure ⟨_,rfl,wpAny_pure h⟩) htake)
  | exact wpAny_bind (m:=Builtin.Tuple.tupleExact _) (wpAny_newObj_type (wpAny_bind (wpAny_pure (wpAny_pure ⟨_,rfl,wpAny_pure h⟩))) htake)
  | exact wpAny_bind (wpAny_bind (m:=Builtin.Tuple.tupleExact _) (wpAny_newObj_type (wpAny_pure (wpAny_pure ⟨_,rfl,wpAny_pure h⟩)) htake))
  | exact wpAny_bind (wpAny_bind (m:=Builtin.Tuple.tupleExact _) (wpAny_newObj_type (wpAny_pure ⟨_,rfl,wpAny_pure h⟩) htake))
end
end HT
namespace L2
open PySem PySem.Spec PyProof.Rows
abbrev TO:=St→Hp→(Option Int→Hp→Prop)→Prop
def PO (X:Cx) (e:Option Expr) (t:TO):Prop:=
 ∀ (pins:List (Addr × Obj)) (s:Shared) (σ:St) (H:Hp) (Q:Option Int→Hp→Prop),Inv X pins σ H s→t σ H Q→
  wpAny (model X.prog X.w) X.A (evalPart e X.env) (fun u s'=>∃ o H',Inv X pins σ H' s'∧IsPart u o∧Q o H') X.xe s
def ZDH:TO:=fun _ H Q=>Q none H
def ZK9 (t:TE):TO:=fun σ H Q=>t σ H fun x H1=>∃ i,x=.int i∧Q (some i) H1
section
variable {X:Cx} {e:Expr} {te:TE} {lo hi:Option Expr} {tl th:TO} {pos p2:Pos}
theorem ZpJ:PO X none ZDH:=by
 intro pins s σ H Q I h
 rw [evalPart_none]
 exact wpAny_pure ⟨none,H,I,.none,h⟩
theorem Zie (h:PE X e te):PO X (some e) (ZK9 te):=by
 intro pins s σ H Q I hw
 rw [evalPart_some]
 refine thn (h pins s σ H _ I hw) fun u s1 ⟨x,H1,I1,r1,q1⟩ =>?_
 obtain ⟨i,rfl,q⟩ :=q1
 obtain ⟨t,rfl⟩ :=r1
 exact ⟨some i,H1,I1,.int i t,q⟩
def SlR (X:Cx) (r:V→Option Int→Option Int→Hp→VK→Prop):Prop:=
 ∀ (pins:List (Addr × Obj)) (s:Shared) (σ:St) (H:Hp) (x:V) (v vl vu:Value) (lo hi:Option Int) (sl:Addr) (Q:VK),Inv X pins σ H s→RelV x v→s.heap.IsSliceOf sl vl vu .none→IsPart vl lo→IsPart vu hi→r x lo hi H Q→
  ∃ T id,typeLookup (.type T) "__getitem__" = pure (some (.builtin id))∧s.TypeIs v T∧wpAny (model X.prog X.w) X.A (getItem v (.ref sl)) (EP X pins σ Q) X.xe s
theorem SlR.or {r r':V→Option Int→Option Int→Hp→VK→Prop} (h:SlR X r) (h':SlR X r'):SlR X (fun x lo hi H Q=>r x lo hi H Q∨r' x lo hi H Q):=by
 intro pins s σ H x v vl vu lo hi sl Q I rx hs pl pu q
 rcases q with q | q
 ·exact h pins s σ H x v vl vu lo hi sl Q I rx hs pl pu q
 ·exact h' pins s σ H x v vl vu lo hi sl Q I rx hs pl pu q
def tSl (r:V→Option Int→Option Int→Hp→VK→Prop) (te:TE) (tl th:TO):TE:=fun σ H Q=>te σ H fun x H1=>tl σ H1 fun l H2=>th σ H2 fun u H3=>r x l u H3 Q
theorem Zhh {r:V→Option Int→Option Int→Hp→VK→Prop} (hr:SlR X r) (he:PE X e te) (hl:PO X lo tl) (hu:PO X hi th):PE X (.Subscript e (.Slice lo hi none p2) pos) (tSl r te tl th):=by
 intro pins s σ H Q I h
 refine Subscript_ (thn (he pins s σ H _ I h) fun v s1 ⟨x,H1,I1,r1,q1⟩ =>?_)
 refine wpAny_Slice (thn (hl pins s1 σ H1 _ I1 q1) fun vl s2 ⟨l,H2,I2,pl,q2⟩ =>thn (hu pins s2 σ H2 _ I2 q2) fun vu s3 ⟨u,H3,I3,pu,q3⟩ =>?_)
 rw [evalPart_none]
 refine wpAny_pure ?_
 have I4:Inv X pins σ H3 { s3 with heap:=s3.heap.push { cls:=.type "slice",data:=.fields #[vl,vu,.none] } }:=I3.kept (t':=s3.toks) fun b ob q=>Heap.get?_push_of_some _ q
 obtain ⟨T,id,hT,ht,hg⟩ :=hr pins { s3 with heap:=s3.heap.push { cls:=.type "slice",data:=.fields #[vl,vu,.none] } } σ H3 x v vl vu l u s3.heap.objs.size Q I4 r1 (Heap.IsSliceOf.new ..) pl pu q3
 show wpAny (model X.prog X.w) X.A (subscriptTail e (.Slice lo hi none p2) v (.ref s3.heap.objs.size)) (EP X pins σ Q) X.xe { s3 with heap:=s3.heap.push { cls:=.type "slice",data:=.fields #[vl,vu,.none] } }
 exact tail_any (ops:=[.ref s3.heap.objs.size,v]) ht hT hg (by with_unfolding_all rfl)
def cutV (xs:List V) (lo hi:Option Int):List V:=(xs.drop (HT.sIx xs.length 0 lo)).take (HT.sIx xs.length xs.length hi - HT.sIx xs.length 0 lo)
theorem ZvE (xs:List V) (lo hi:Option Int):(cutV xs lo hi).length≤xs.length:=by
 unfold cutV
 rw [List.length_take,List.length_drop]
 omega
def rSlT (K:PySem.W.Frag):V→Option Int→Option Int→Hp→VK→Prop:=fun x lo hi H Q=>∃ a xs,x=.ref a∧SqT K H a xs∧
 ¬ (HT.sIx xs.length 0 lo=0∧HT.sIx xs.length xs.length hi=xs.length)∧∀ p,H p=none→Q (.ref p) (upd H p (.tup (cutV xs lo hi)))
theorem ZMM:SlR X (rSlT X.K):=by
 intro pins s σ H x v vl vu lo hi sl Q I rx hs pl pu h
 obtain ⟨a,xs,rfl,hx,hw,q⟩ :=h
 cases rx
 obtain ⟨its,r,ht,hz⟩ :=I.tuple hx
 have hlen:its.toArray.size=xs.length:=by rw [List.size_toArray]; exact r.length.symm
 refine ⟨"tuple",_,PyProof.Rows.slot_tuple_getitem.lookup,ht.typeIs,?_⟩
 refine HT.getItem_tuple_cut ht hs pl pu (by rw [hlen]; exact hw) ?_ (by rw [hlen]; exact hz)
 rw [hlen]
 refine ⟨.ref s.heap.objs.size,_,I.laid (t':=s.toks) (o:=.tup (cutV xs lo hi)) (fun b ob q=>Heap.get?_push_of_some _ q) (Nat.le_refl _) ?_,rfl,q _ (I.hok.fresh (Nat.le_refl _))⟩
 exact ⟨Nat.le_trans (ZvE xs lo hi) hz,_,(r.drop (HT.sIx xs.length 0 lo)).take (HT.sIx xs.length xs.length hi - HT.sIx xs.length 0 lo),IsTup.new _ _⟩
end
end L2
namespace L2
open PySem PySem.Spec PyProof.Rows
def ixN (n:Nat) (i:Int):Option Nat:=if 0≤i then (if i < n then some i.toNat else none) else if -(n:Int)≤i then some (i + n).toNat else none
def atI {α:Type} (xs:List α) (i:Int):Option α:=(ixN xs.length i).bind fun j=>xs[j]?
theorem ZKu {n:Nat} {i:Int} {j:Nat} (h:ixN n i=some j):seqIndex? i n=some j∧j < n∧-(n:Int)≤i∧i < n:=by
 unfold ixN at h
 by_cases h0:0≤i
 ·rw [if_pos h0] at h
  by_cases h1:i < n
  ·rw [if_pos h1] at h
   have e:i.toNat=j:=Option.some.inj h
   exact ⟨by rw [seqIndex_of h0 h1,e],by omega,by omega,h1⟩
  ·rw [if_neg h1] at h; cases h
 ·rw [if_neg h0] at h
  by_cases h1 : -(n:Int)≤i
  ·rw [if_pos h1] at h
   have e:(i + n).toNat=j:=Option.some.inj h
   exact ⟨by rw [seqIndex_neg (by omega) h1,e],by omega,h1,by omega⟩
  ·rw [if_neg h1] at h; cases h
theorem ZCS {α:Type} {xs:List α} {i:Int} {v:α} (h:atI xs i=some v):∃ j,seqIndex? i xs.length=some j∧xs[j]?=some v∧j < xs.length∧-(xs.length:Int)≤i∧i < xs.length:=by
 unfold atI at h
 cases e:ixN xs.length i with
 | none=>rw [e] at h; cases h
 | some j=>
  rw [e] at h
  obtain ⟨h1,h2,h3,h4⟩ :=ZKu e
  exact ⟨j,h1,h,h2,h3,h4⟩
theorem ZyQ {α:Type} {xs:List α} {j:Nat} {v:α} (h:xs[j]?=some v):atI xs (j:Int)=some v:=by
 have hj:j < xs.length:=(List.getElem?_eq_some_iff.mp h).1
 have e:ixN xs.length (j:Int)=some j:=by
  unfold ixN
  rw [if_pos (by omega),if_pos (by omega)]; simp
 unfold atI; rw [e]; exact h
def ZKb (b:Expr):Prop:=∀ o i,subscripted b false o i=operate [o,i] (getItem o i)
def IxR (X:Cx) (r:R2):Prop:=
 ∀ (value slice:Expr) (pins:List (Addr × Obj)) (s:Shared) (σ:St) (H:Hp) (x y:V) (v u:Value) (Q:VK),Inv X pins σ H s→RelV x v→RelV y u→r x y H Q→
  subscripted slice false v u=operate [v,u] (getItem v u)→wpAny (model X.prog X.w) X.A (subscriptTail value slice v u) (EP X pins σ Q) X.xe s
def MtR (X:Cx) (id:String) (r:V→List V→Hp→VK→Prop):Prop:=
 ∀ (pins:List (Addr × Obj)) (s:Shared) (σ:St) (H:Hp) (x:V) (xs:List V) (v:Value) (us:List Value) (Q:VK),Inv X pins σ H s→RelV x v→Vals xs us→r x xs H Q→
  wpAny (model X.prog X.w) X.A (call (.builtin id) (v :: us)) (EP X pins σ Q) X.xe s
section
variable {X:Cx} {a b:Expr} {ta tb:TE} {pos:Pos}
theorem IxR.or {r r':R2} (h:IxR X r) (h':IxR X r'):IxR X (fun x y H Q=>r x y H Q∨r' x y H Q):=by
 intro value slice pins s σ H x y v u Q I rx ry q hs
 rcases q with q | q
 ·exact h value slice pins s σ H x y v u Q I rx ry q hs
 ·exact h' value slice pins s σ H x y v u Q I rx ry q hs
theorem ZbE {r:R2} (hr:IxR X r) (ha:PE X a ta) (hb:PE X b tb) (hs:ZKb b):PE X (.Subscript a b pos) (tOp r ta tb):=by
 intro pins s σ H Q I h
 exact Subscript_ (binT ha hb I h fun v u s2 x y H2 I2 rx ry q=>hr a b pins s2 σ H2 x y v u Q I2 rx ry q (hs _ _))
def rIxL (K:PySem.W.Frag):R2:=fun x y H Q=>∃ p xs i v,x=.ref p∧y=.int i∧SqL K H p xs∧atI xs i=some v∧Q v H
def rIxT (K:PySem.W.Frag):R2:=fun x y H Q=>∃ p xs i v,x=.ref p∧y=.int i∧SqT K H p xs∧atI xs i=some v∧Q v H
def rIxS:R2:=fun x y H Q=>∃ z i c,x=.str z∧y=.int i∧z.length≤sizeLine∧atI z.cps.toList i=some c∧Q (.str ⟨#[c]⟩) H
theorem ZKv:IxR X (rIxL X.K):=by
 intro value slice pins s σ H x y v u Q I rx ry h hs
 obtain ⟨p,xs,i,z,rfl,rfl,hq,he,q⟩ :=h
 cases rx
 obtain ⟨t,rfl⟩ :=ry
 obtain ⟨its,r,pl,hz⟩ :=I.list hq
 obtain ⟨j,h1,h2,h3,h4,h5⟩ :=ZCS he
 obtain ⟨w,ew,rw'⟩ :=r.get h2
 have hl:=r.length
 have hn:=ZBt
 have fin:EP X pins σ Q w s:=⟨z,H,I,rw',q⟩
 by_cases h0:0≤i
 ·have hj:i.toNat=j:=by
   rw [seqIndex_of h0 h5] at h1
   exact Option.some.inj h1
  exact item_listR pl.isList h0 (by omega) (by rw [hj]; simpa using ew) fin hs
 ·have hj:(i + (its.toArray.size:Int)).toNat=j:=by
   rw [seqIndex_neg (by omega) h4] at h1
   rw [List.size_toArray,← hl]
   exact Option.some.inj h1
  exact subscriptTail_builtinR (x:=w) pl.isList.typeIs slot_list_getitem.lookup
   (wpAny_getItem_list_neg (Q:=fun r s'=>r=w∧EP X pins σ Q r s') pl.isList (by omega) (by rw [List.size_toArray] <;> omega) (by omega) (by rw [hj]; simpa using ew) ⟨rfl,fin⟩) hs
theorem ZL2:IxR X (rIxT X.K):=by
 intro value slice pins s σ H x y v u Q I rx ry h hs
 obtain ⟨p,xs,i,z,rfl,rfl,hq,he,q⟩ :=h
 cases rx
 obtain ⟨t,rfl⟩ :=ry
 obtain ⟨its,r,pl,hz⟩ :=I.tuple hq
 obtain ⟨j,h1,h2,h3,h4,h5⟩ :=ZCS he
 obtain ⟨w,ew,rw'⟩ :=r.get h2
 have hl:=r.length
 have hn:=ZBt
 have fin:EP X pins σ Q w s:=⟨z,H,I,rw',q⟩
 exact subscriptTail_builtinR (x:=w) pl.typeIs slot_tuple_getitem.lookup
  (getItem_tuple (j:=j) (Q:=fun r s'=>r=w∧EP X pins σ Q r s') pl (by omega) (by omega) (by rw [List.size_toArray,← hl]; exact h1) (by simpa using ew) ⟨rfl,fin⟩) hs
theorem ZL1:IxR X rIxS:=by
 intro value slice pins s σ H x y v u Q I rx ry h hs
 obtain ⟨z,i,c,rfl,rfl,hz,he,q⟩ :=h
 obtain ⟨t,rfl⟩ :=rx
 obtain ⟨t',rfl⟩ :=ry
 obtain ⟨j,h1,h2,h3,h4,h5⟩ :=ZCS he
 have hl:z.cps.toList.length=z.length:=by simp [Str.length]
 rw [hl] at h1 h4 h5
 have hn:=ZBt
 exact tail_any (typeIs_str s z t) slot_str_getitem.lookup (getItem_str (c:=c) (by
  have e1:decide (i < -(2 ^ 63:Int))=false:=decide_eq_false (by omega)
  have e2:decide (i ≥ 2 ^ 63)=false:=decide_eq_false (by omega)
  rw [e1,e2,Bool.or_false]) (by rw [h1]; simpa using h2) ⟨.str ⟨#[c]⟩,H,I.tok _,⟨_,rfl⟩,q⟩) hs
def rIx (K:PySem.W.Frag):R2:=fun x y H Q=>rIxL K x y H Q∨rIxT K x y H Q∨rIxS x y H Q
theorem ZaW:IxR X (rIx X.K):=ZKv.or (ZL2.or ZL1)
theorem ZCw (lo hi:Option Int) (n:Nat):(sliceBounds lo hi none n).1=((HT.sIx n 0 lo:Nat):Int)∧(sliceBounds lo hi none n).2.1=((HT.sIx n n hi:Nat):Int)∧(sliceBounds lo hi none n).2.2=1:=by
 refine ⟨?_,?_,rfl⟩
 ·cases lo with
  | none=>simp [sliceBounds,HT.sIx]
  | some i=>
   simp only [sliceBounds,HT.sIx,Option.getD_none,show (1:Int) > 0 by decide,if_true]
   by_cases h:i < 0
   ·simp only [h,if_true] <;> omega
   ·simp only [h,if_false] <;> omega
 ·cases hi with
  | none=>simp [sliceBounds,HT.sIx]
  | some i=>
   simp only [sliceBounds,HT.sIx,Option.getD_none,show (1:Int) > 0 by decide,if_true]
   by_cases h:i < 0
   ·simp only [h,if_true] <;> omega
   ·simp only [h,if_false] <;> omega
theorem ZAq (its:List Value) (lo hi:Option Int):slicePick its.toArray lo hi none=((its.drop (HT.sIx its.length 0 lo)).take (HT.sIx its.length its.length hi - HT.sIx its.length 0 lo)).toArray:=by
 obtain ⟨h1,h2,h3⟩ :=ZCw lo hi its.toArray.size
 unfold slicePick
 rw [h1,h2,h3]
 simp only [sliceRange_one,pick_run,List.size_toArray] <;> rfl
def rSlL (K:PySem.W.Frag):V→Option Int→Option Int→Hp→VK→Prop:=fun x lo hi H Q=>∃ a xs,x=.ref a∧SqL K H a xs∧∀ p,H p=none→Q (.ref p) (upd H p (.lst (cutV xs lo hi)))
theorem ZKW:SlR X (rSlL X.K):=by
 intro pins s σ H x v vl vu lo hi sl Q I rx hs pl pu h
 obtain ⟨a,xs,rfl,hx,q⟩ :=h
 cases rx
 obtain ⟨its,r,ht,hz⟩ :=I.list hx
 have hlen:=r.length
 refine ⟨"list",_,slot_list_getitem.lookup,ht.isList.typeIs,?_⟩
 refine wpAny_getItem_list_slice ht.isList hs pl pu .none (by simp) ?_ (by rw [List.size_toArray] <;> omega)
 rw [ZAq,← hlen]
 refine ⟨.ref s.heap.objs.size,_,I.laid (t':=s.toks) (o:=.lst (cutV xs lo hi)) (fun b ob q=>Heap.get?_push_of_some _ q) (Nat.le_refl _) ?_,rfl,q _ (I.hok.fresh (Nat.le_refl _))⟩
 exact ⟨Nat.le_trans (ZvE xs lo hi) hz,_,0,(r.drop (HT.sIx xs.length 0 lo)).take (HT.sIx xs.length xs.length hi - HT.sIx xs.length 0 lo),Heap.get?_push_size _ rfl⟩
def ZBe:V→Bool
 | .non=>true
 | .bl _=>true
 | .int _=>true
 | .str _=>true
 | _=>false
def eqV:V→V→Bool
 | .non,.non=>true
 | .bl a,.bl b=>a == b
 | .bl a,.int b=>(if a then 1 else 0) == b
 | .int a,.bl b=>a == (if b then 1 else 0)
 | .int a,.int b=>a == b
 | .str a,.str b=>a == b
 | _,_=>false
theorem ZLu {A:Around} {s:Shared} {y x:V} {u v:Value} (ry:RelV y u) (rx:RelV x v) (fy:ZBe y=true) (fx:ZBe x=true):SeqAt.EqAt A s u v (eqV y x):=by
 cases y with
 | non=>
  cases ry
  cases x with
  | non=>cases rx; exact SeqAt.EqAt.same _
  | bl b=>cases rx; exact SeqAt.EqAt.none_bool b
  | int b=>obtain ⟨t,rfl⟩ :=rx; exact SeqAt.EqAt.none_int b t
  | str b=>obtain ⟨t,rfl⟩ :=rx; exact SeqAt.EqAt.none_str b t
  | _=>exact absurd (show false=true from fx) Bool.false_ne_true
 | bl a=>
  cases ry
  cases x with
  | non=>cases rx; exact SeqAt.EqAt.bool_none a
  | bl b=>cases rx; exact SeqAt.EqAt.bool_bool a b
  | int b=>obtain ⟨t,rfl⟩ :=rx; exact SeqAt.EqAt.bool_int a b t
  | str b=>obtain ⟨t,rfl⟩ :=rx; exact SeqAt.EqAt.bool_str a b t
  | _=>exact absurd (show false=true from fx) Bool.false_ne_true
 | int a=>
  obtain ⟨t',rfl⟩ :=ry
  cases x with
  | non=>cases rx; exact SeqAt.EqAt.int_none a t'
  | bl b=>cases rx; exact SeqAt.EqAt.int_bool a t' b
  | int b=>obtain ⟨t,rfl⟩ :=rx; exact SeqAt.EqAt.int_int a t' b t
  | str b=>obtain ⟨t,rfl⟩ :=rx; exact SeqAt.EqAt.int_str a t' b t
  | _=>exact absurd (show false=true from fx) Bool.false_ne_true
 | str a=>
  obtain ⟨t',rfl⟩ :=ry
  cases x with
  | non=>cases rx; exact SeqAt.EqAt.str_none a t'
  | bl b=>cases rx; exact SeqAt.EqAt.str_bool a t' b
  | int b=>obtain ⟨t,rfl⟩ :=rx; exact SeqAt.EqAt.str_int a t' b t
  | str b=>obtain ⟨t,rfl⟩ :=rx; exact SeqAt.EqAt.str_str a t' b t
  | _=>exact absurd (show false=true from fx) Bool.false_ne_true
 | _=>exact absurd (show false=true from fy) Bool.false_ne_true
def eqU (x:V) (u:Value):Bool:=match u with
 | .none=>eqV .non x
 | .bool b=>eqV (.bl b) x
 | .int i _=>eqV (.int i) x
 | .str z _=>eqV (.str z) x
 | _=>false
theorem ZJm {x y:V} {u:Value} (r:RelV y u) (f:ZBe y=true):eqU x u=eqV y x:=by
 cases y with
 | non=>cases r; rfl
 | bl b=>cases r; rfl
 | int i=>obtain ⟨t,rfl⟩ :=r; rfl
 | str z=>obtain ⟨t,rfl⟩ :=r; rfl
 | _=>exact absurd (show false=true from f) Bool.false_ne_true
theorem Zvo {x:V}:∀ {xs:List V} {us:List Value},Vals xs us→xs.all ZBe=true→us.any (eqU x)=xs.any fun y=>eqV y x
 | _,_,.nil,_=>rfl
 | y :: xs,u :: us,.cons r t,f=>by
  rw [List.all_cons,Bool.and_eq_true] at f
  rw [List.any_cons,List.any_cons,ZJm r f.1,Zvo t f.2]
theorem Zrg {A:Around} {s:Shared} {x:V} {v:Value} (rx:RelV x v) (fx:ZBe x=true):∀ {xs:List V} {us:List Value},Vals xs us→xs.all ZBe=true→∀ u ∈ us,SeqAt.EqAt A s u v (eqU x u)
 | _,_,.nil,_=>fun u hu=>by cases hu
 | y :: xs,u :: us,.cons r t,f=>fun u' hu=>by
  rw [List.all_cons,Bool.and_eq_true] at f
  rcases List.mem_cons.mp hu with rfl | hu
  ·rw [ZJm r f.1]; exact ZLu r rx f.1 fx
  ·exact Zrg rx fx t f.2 u' hu
def inV (x:V) (xs:List V):Bool:=xs.any fun y=>eqV y x
def rIn (K:PySem.W.Frag) (neg:Bool):R2:=fun x y H Q=>∃ p xs,y=.ref p∧(SqL K H p xs∨SqT K H p xs)∧ZBe x=true∧xs.all ZBe=true∧Q (.bl (if neg then !inV x xs else inV x xs)) H
theorem ZHa:OpR X (compareOp .In) (rIn X.K false):=by
 intro pins s σ H x y v u Q I rx ry h
 obtain ⟨p,xs,rfl,hq,fx,fs,q⟩ :=h
 cases ry
 rcases hq with hq | hq
 ·obtain ⟨its,r,pl,hz⟩ :=I.list hq
  refine SeqAt.in_listAt (eqU x) pl.isList (fun w hw=>Zrg rx fx r fs w (by simpa using hw)) ⟨.bl _,H,I,rfl,?_⟩
  rw [show its.toArray.any (eqU x)=its.any (eqU x) by simp,Zvo r fs]
  exact q
 ·obtain ⟨its,r,pl,hz⟩ :=I.tuple hq
  refine SeqAt.in_tupleAt (eqU x) pl (fun w hw=>Zrg rx fx r fs w (by simpa using hw)) ⟨.bl _,H,I,rfl,?_⟩
  rw [show its.toArray.any (eqU x)=its.any (eqU x) by simp,Zvo r fs]
  exact q
theorem ZB4:OpR X (compareOp .NotIn) (rIn X.K true):=by
 intro pins s σ H x y v u Q I rx ry h
 obtain ⟨p,xs,rfl,hq,fx,fs,q⟩ :=h
 cases ry
 rcases hq with hq | hq
 ·obtain ⟨its,r,pl,hz⟩ :=I.list hq
  refine SeqAt.notIn_listAt (eqU x) pl.isList (fun w hw=>Zrg rx fx r fs w (by simpa using hw)) ⟨.bl _,H,I,rfl,?_⟩
  rw [show its.toArray.any (eqU x)=its.any (eqU x) by simp,Zvo r fs]
  exact q
 ·obtain ⟨its,r,pl,hz⟩ :=I.tuple hq
  refine SeqAt.notIn_tupleAt (eqU x) pl (fun w hw=>Zrg rx fx r fs w (by simpa using hw)) ⟨.bl _,H,I,rfl,?_⟩
  rw [show its.toArray.any (eqU x)=its.any (eqU x) by simp,Zvo r fs]
  exact q
theorem ZA4:Zr1 X (.type "list") (fun xs H Q=>∃ p ys,xs=[.ref p]∧(SqL X.K H p ys∨SqT X.K H p ys)∧∀ l,H l=none→Q (.ref l) (upd H l (.lst ys))):=by
 intro pins s σ H xs us Q I r h
 obtain ⟨p,ys,rfl,hq,q⟩ :=h
 obtain ⟨u,rfl,rx⟩ :=ZFE r
 cases rx
 have fin:∀ (its:List Value),Vals ys its→ys.length≤sizeLine→∀ (h':Heap) (c':Nat),(∀ b o',s.heap.get? b=some o'→h'.get? b=some o')→
   h'.get? s.heap.objs.size=some { cls:=.type "list",dict:=none,data:=.seq its.toArray c',slots:=#[] }→EP X pins σ Q (.ref s.heap.objs.size) { s with heap:=h' }:=fun its r' hz h' c' kp e=>
  ⟨.ref s.heap.objs.size,_,I.laid (t':=s.toks) kp (Nat.le_refl _) (show ZeB X.prog X.w _ h' _ (.lst ys) from ⟨hz,its,c',r',e⟩),rfl,q _ (I.hok.fresh (Nat.le_refl _))⟩
 rcases hq with hq | hq
 ·obtain ⟨its,r',pl,hz⟩ :=I.list hq
  have hlen:=r'.length
  obtain ⟨o,ho,hc,n,hd⟩ :=pl.isList
  exact call_list_seq p (.inl rfl) ho hc hd (fun h' c' kp e=>fin its r' hz h' c' kp e) (by simp only [List.size_toArray] <;> omega)
 ·obtain ⟨its,r',pl,hz⟩ :=I.tuple hq
  have hlen:=r'.length
  obtain ⟨o,ho,hc,n,hd⟩ :=pl
  exact call_list_seq p (.inr rfl) ho hc hd (fun h' c' kp e=>fin its r' hz h' c' kp e) (by simp only [List.size_toArray] <;> omega)
theorem ZyX:Zr1 X (.type "tuple") (fun xs H Q=>∃ p ys,xs=[.ref p]∧((SqL X.K H p ys∧∀ l,H l=none→Q (.ref l) (upd H l (.tup ys)))∨(SqT X.K H p ys∧Q (.ref p) H))):=by
 intro pins s σ H xs us Q I r h
 obtain ⟨p,ys,rfl,h⟩ :=h
 obtain ⟨u,rfl,rx⟩ :=ZFE r
 cases rx
 rcases h with ⟨hq,q⟩ | ⟨hq,q⟩
 ·obtain ⟨its,r',pl,hz⟩ :=I.list hq
  have hlen:=r'.length
  refine call_tuple_list pl.isList (fun h' kp=>?_) (by simp only [List.size_toArray] <;> omega)
  have I1:Inv X pins σ H { s with heap:=h' }:=I.kept (t':=s.toks) kp
  have I2:Inv X pins σ (upd H h'.objs.size (.tup ys)) { s with heap:=h'.push { cls:=.type "tuple",data:=.seq its.toArray } }:=
   I1.laid (t':=s.toks) (fun b o e=>Heap.get?_push_of_some _ e) (Nat.le_refl _) (show ZeB X.prog X.w _ _ _ (.tup ys) from ⟨hz,its,r',IsTup.new _ _⟩)
  exact ⟨.ref h'.objs.size,_,I2,rfl,q _ (I1.hok.fresh (Nat.le_refl _))⟩
 ·obtain ⟨its,r',pl,hz⟩ :=I.tuple hq
  exact call_tuple_same pl ⟨.ref p,H,I,rfl,q⟩
def tyV (K:PySem.W.Frag) (T:String) (x:V) (H:Hp):Prop:=match x with
 | .str _=>T = "str"
 | .int _=>T = "int"
 | .ref p=>(T = "list"∧∃ xs,SqL K H p xs)∨(T = "tuple"∧∃ o,K.lookup p=some o∧o.cls=.type "tuple"∧o.dict=none)∨
   (T = "dict"∧((∃ kvs,H p=some (.dK kvs))∨∃ kvs,H p=some (.dT kvs)))∨(T = "set"∧∃ S n,H p=some (.set S n))
 | _=>False
theorem ZHR {pins:List (Addr × Obj)} {σ:St} {H:Hp} {s:Shared} {T:String} {x:V} {v:Value} (I:Inv X pins σ H s) (r:RelV x v) (ty:tyV X.K T x H) :
  s.TypeIs v T∧∀ a,v=.ref a→∃ ob,s.heap.get? a=some ob∧ob.dict=none:=by
 cases x with
 | str z=>
  obtain ⟨t,rfl⟩ :=r
  cases (show T = "str" from ty)
  exact ⟨typeIs_str s z t,fun _ e=>nomatch e⟩
 | int i=>
  obtain ⟨t,rfl⟩ :=r
  cases (show T = "int" from ty)
  exact ⟨typeIs_int s i t,fun _ e=>nomatch e⟩
 | ref p=>
  cases r
  rcases ty with ⟨rfl,xs,hq⟩ | ⟨rfl,o,hk,hc,hd⟩ | ⟨rfl,hk⟩ | ⟨rfl,S,n,hk⟩
  ·obtain ⟨its,_,pl,_⟩ :=I.list hq
   refine ⟨pl.isList.typeIs,fun a e=>?_⟩
   cases e
   obtain ⟨o,n,e,c,hd,_⟩ :=pl
   exact ⟨o,e,hd⟩
  ·refine ⟨⟨o,I.kIn p o hk,hc⟩,fun a e=>?_⟩
   cases e
   exact ⟨o,I.kIn _ o hk,hd⟩
  ·have z:∃ o,s.heap.get? p=some o∧o.ExactDict:=by
    rcases hk with ⟨kvs,hk⟩ | ⟨kvs,hk⟩
    ·obtain ⟨_,_,_,_,o,_,_,e,ex,_⟩ :=I.hok p _ hk
     exact ⟨o,e,ex⟩
    ·obtain ⟨_,_,_,_,o,_,_,e,ex,_⟩ :=I.hok p _ hk
     exact ⟨o,e,ex⟩
   obtain ⟨o,e,ex⟩ :=z
   refine ⟨⟨o,e,ex.1⟩,fun a e2=>?_⟩
   cases e2
   exact ⟨o,e,ex.2.1⟩
  ·obtain ⟨o,_,_,_,e,ex,_⟩ :=I.hok p _ hk
   refine ⟨⟨o,e,ex.1⟩,fun a e2=>?_⟩
   cases e2
   exact ⟨o,e,ex.2.1⟩
 | _=>exact False.elim ty
def tBM0 (K:PySem.W.Frag) (T:String) (r:V→List V→Hp→VK→Prop) (to:TE):TE:=fun σ H Q=>to σ H fun x H1=>tyV K T x H1∧r x [] H1 Q
def tBM (K:PySem.W.Frag) (T:String) (r:V→List V→Hp→VK→Prop) (to:TE) (t:TA):TE:=fun σ H Q=>to σ H fun x H1=>tyV K T x H1∧t σ H1 fun xs H2=>r x xs H2 Q
variable {o e:Expr} {es:List Expr} {to:TE} {t:TA} {name:Str} {apos cpos:Pos} {T id:String} {r:V→List V→Hp→VK→Prop}
theorem ZB7 (pa:PlainAttrs T) (slot:Slot T name id) (hty:typeOf (.builtin id)=pure (.type "method_descriptor")) (hm:MtR X id r) (ho:PE X o to)
  (hbase:attributeBase o name X.env (eval o X.env)=eval o X.env:=by rfl) (hline:(apos.endLine == cpos.line)=true:=by rfl):PE X (.Call (.Attribute o name apos) [] [] cpos) (tBM0 X.K T r to):=by
 intro pins s σ H Q I h
 refine wpAny_Call_method0_late hbase hline (thn (ho pins s σ H _ I h) fun v s1 ⟨x,H1,I1,r1,ty,q1⟩ =>?_)
 obtain ⟨h1,h2⟩ :=ZHR I1 r1 ty
 exact ⟨T,id,pa,slot,hty,h1,h2,Calls.callWith_builtin rfl (PySem.evalArgs_none (hm pins s1 σ H1 x [] v [] Q I1 r1 .nil q1))⟩
theorem Zc8 (pa:PlainAttrs T) (slot:Slot T name id) (hty:typeOf (.builtin id)=pure (.type "method_descriptor")) (hm:MtR X id r) (ho:PE X o to) (ha:PA X (e :: es) t)
  (hbase:attributeBase o name X.env (eval o X.env)=eval o X.env:=by rfl)
  (hfew:((backTo cpos (starEach (e :: es) X.env)).all (fun x=>!x.1) && (backToKw cpos (keywordEach [] X.env)).all (fun x=>x.1.isSome)
   && decide ((e :: es).length + ([]:List Keyword).length + (if ([]:List Keyword).isEmpty then 0 else 1) < 30))=true:=by rfl)
  (hline:(apos.endLine == cpos.line)=true:=by rfl) (hs:starEach (e :: es) X.env=(false,eval e X.env) :: starEach es X.env:=by rfl) (hplain:(backTo cpos (starEach es X.env)).any (·.1)=false:=by rfl) :
  PE X (.Call (.Attribute o name apos) (e :: es) [] cpos) (tBM X.K T r to t):=by
 intro pins s σ H Q I h
 refine wpAny_Call_method_late hbase hfew hline rfl (thn (ho pins s σ H _ I h) fun v s1 ⟨x,H1,I1,r1,ty,q1⟩ =>?_)
 obtain ⟨h1,h2⟩ :=ZHR I1 r1 ty
 refine ⟨T,id,pa,slot,hty,h1,h2,?_⟩
 have hA:=ha cpos pins s1 σ H1 _ I1 q1
 rw [hs] at hA ⊢
 refine Calls.callWith_builtin (by show (false || (backTo cpos (starEach es X.env)).any (·.1))=false; rw [hplain] <;> rfl) (Calls.evalArgs_plain ?_)
 exact thn hA fun us s2 ⟨vs,H2,I2,r2,q2⟩ =>hm pins s2 σ H2 x vs v us Q I2 r1 r2 q2
end
end L2
namespace L2
open PySem PySem.Spec PyProof.Rows
def MtM (X:Cx) (id:String) (r:V→List V→Hp→VK→Prop):Prop:=
 ∀ (pins:List (Addr × Obj)) (s:Shared) (σ:St) (H:Hp) (x:V) (xs:List V) (v:Value) (us:List Value) (Q:VK),Inv X pins σ H s→RelV x v→Vals xs us→r x xs H Q→
  wpAny (model X.prog X.w) X.A (call (.builtin id) (v :: us)) (EP X pins σ Q) X.xe s
theorem Vals.one:∀ {x:V} {us:List Value},Vals [x] us→∃ u,us=[u]∧RelV x u
 | _,_,.cons r .nil=>⟨_,rfl,r⟩
theorem Vals.zero:∀ {us:List Value},Vals [] us→us=[]
 | _,.nil=>rfl
theorem Vals.dropLast {xs:List V} {us:List Value} (h:Vals xs us):Vals xs.dropLast us.dropLast:=by
 induction h with
 | nil=>exact .nil
 | cons r t ih=>
  cases t with
  | nil=>exact .nil
  | cons q t'=>exact .cons r ih
theorem ZE7 {α:Type} (l:List α):l.eraseIdx (l.length - 1)=l.dropLast:=by
 induction l with
 | nil=>rfl
 | cons a r ih=>
  cases r with
  | nil=>rfl
  | cons b r=>
   have e:(a :: b :: r).length - 1=((b :: r).length - 1) + 1:=by
    have h1:(a :: b :: r).length=r.length + 2:=rfl
    have h2:(b :: r).length=r.length + 1:=rfl
    omega
   rw [e,List.eraseIdx_cons_succ,ih]
   all_goals rfl
section
variable {X:Cx} {pins:List (Addr × Obj)} {σ:St} {H:Hp} {s:Shared} {l b:Addr} {xs ys zs:List V}
theorem Inv.lset {its its':List Value} {n:Nat} {f:Array Value→Array Value} {t':Nat} (I:Inv X pins σ H s) (hH:H l=some (.lst xs))
  (e:s.heap.get? l=some { cls:=.type "list",data:=.seq its.toArray n }) (hf:f its.toArray=its'.toArray) (hv:Vals ys its') (hz:ys.length≤sizeLine) :
  Inv X pins σ (upd H l (.lst ys)) { s with heap:=s.heap.update l (Obj.mapSeq f),toks:=t' }:=by
 have q:=PySem.IsL.update e f
 rw [hf] at q
 refine I.write (x:=l) (e:=l) (by rw [hH]; exact trivial) (.inl rfl) (fun b' u hb hu=>(Heap.get?_update_other s.heap (Obj.mapSeq f) (Ne.symm hb)).trans hu) ⟨_,q⟩ ?_
 exact ⟨hz,its',_,hv,q⟩
theorem Inv.lnew {its:List Value} {t':Nat} (I:Inv X pins σ H s) (hv:Vals ys its) (hz:ys.length≤sizeLine) :
  Inv X pins σ (upd H s.heap.objs.size (.lst ys)) { s with heap:=s.heap.push { cls:=.type "list",data:=.seq its.toArray },toks:=t' }:=
 I.laid (fun _ _ q=>Heap.get?_push_of_some _ q) (Nat.le_refl _) ⟨hz,its,0,hv,Heap.get?_push_size _ rfl⟩
theorem Inv.fresh (I:Inv X pins σ H s):H s.heap.objs.size=none:=I.hok.fresh (Nat.le_refl _)
theorem Inv.lstM (I:Inv X pins σ H s) (hH:H l=some (.lst xs)):xs.length≤sizeLine∧∃ (its:List Value) (n:Nat),Vals xs its∧xs.length=its.length∧s.heap.get? l=some { cls:=.type "list",data:=.seq its.toArray n }:=by
 obtain ⟨z,its,n,r,e⟩ :=I.hok l _ hH
 exact ⟨z,its,n,r,r.length,e⟩
end
section
variable {X:Cx}
def Zz2:V→List V→Hp→VK→Prop:=fun x vs H Q=>∃ l xs y,x=.ref l∧vs=[y]∧H l=some (.lst xs)∧xs.length < sizeLine∧Q .non (upd H l (.lst (xs ++ [y])))
theorem ZaK:MtM X "list.append" Zz2:=by
 intro pins s σ H x vs v us Q I rx rv h
 obtain ⟨l,xs,y,rfl,rfl,hH,hz,q⟩ :=h
 cases rx
 obtain ⟨u,rfl,ru⟩ :=rv.one
 obtain ⟨z,its,n,r,hl,e⟩ :=I.lstM hH
 refine call_meets F.slot_list_append ⟨_,e,rfl⟩ F.entry_list_append (F.args_list_append_2 _ _) (PySem.list_append l its.toArray n u (by rw [List.size_toArray]; omega)) ⟨e,?_⟩
 refine ⟨.non,_,I.lset (its':=its ++ [u]) hH e (by simp) (r.append (.cons ru .nil)) ?_,rfl,q⟩
 rw [List.length_append,List.length_singleton]
 omega
def rPop:V→List V→Hp→VK→Prop:=fun x vs H Q=>∃ l xs y,x=.ref l∧vs=[]∧H l=some (.lst xs)∧xs[xs.length - 1]?=some y∧Q y (upd H l (.lst xs.dropLast))
theorem ZMa:MtM X "list.pop" rPop:=by
 intro pins s σ H x vs v us Q I rx rv h
 obtain ⟨l,xs,y,rfl,rfl,hH,hy,q⟩ :=h
 cases rx
 have hus:=rv.zero
 subst hus
 obtain ⟨z,its,n,r,hl,e⟩ :=I.lstM hH
 obtain ⟨u,hu,ru⟩ :=r.get hy
 have hy':its.toArray[its.toArray.size - 1]?=some u:=by
  show its.toArray[its.length - 1]?=some u
  rw [← Array.getElem?_toList,← hl]
  exact hu
 refine call_meets F.slot_list_pop ⟨_,e,rfl⟩ F.entry_list_pop (F.args_list_pop_1 _) (MeetsSeq.list_pop_last l its.toArray n u hy' (by rw [List.size_toArray]; omega)) ⟨e,?_⟩
 refine ⟨y,_,I.lset (its':=its.dropLast) hH e ?_ r.dropLast ?_,ru,q⟩
 ·show its.toArray.eraseIdxIfInBounds (its.toArray.size - 1)=its.dropLast.toArray
  rw [List.size_toArray,List.eraseIdxIfInBounds_toArray,ZE7]
 ·rw [List.length_dropLast]
  omega
def ZHq:V→List V→Hp→VK→Prop:=fun x vs H Q=>∃ l xs,x=.ref l∧vs=[]∧H l=some (.lst xs)∧Q .non (upd H l (.lst []))
theorem Zzg:MtM X "list.clear" ZHq:=by
 intro pins s σ H x vs v us Q I rx rv h
 obtain ⟨l,xs,rfl,rfl,hH,q⟩ :=h
 cases rx
 have hus:=rv.zero
 subst hus
 obtain ⟨z,its,n,r,hl,e⟩ :=I.lstM hH
 refine call_meets F.slot_list_clear ⟨_,e,rfl⟩ F.entry_list_clear (F.args_list_clear_1 _) (AutoSeq1.list_clear_list_0 l its.toArray n (by rw [List.size_toArray]; omega)) ⟨e,?_⟩
 exact ⟨.non,_,I.lset (its':=[]) (ys:=[]) hH e rfl .nil (Nat.zero_le _),rfl,q⟩
def rCat:R2:=fun x y H Q=>∃ l b xs zs,x=.ref l∧y=.ref b∧H l=some (.lst xs)∧H b=some (.lst zs)∧xs.length + zs.length≤sizeLine∧∀ p,H p=none→Q (.ref p) (upd H p (.lst (xs ++ zs)))
theorem ZMh:OpR X (binaryOp .Add) rCat:=by
 intro pins s σ H x y v u Q I rx ry h
 obtain ⟨l,b,xs,zs,rfl,rfl,hH,hB,hz,q⟩ :=h
 cases rx
 cases ry
 obtain ⟨z,its,n,r,hl,e⟩ :=I.lstM hH
 obtain ⟨z2,its2,n2,r2,hl2,e2⟩ :=I.lstM hB
 refine PySem.P.add_list e e2 ?_ (by rw [List.size_toArray,List.size_toArray]; omega)
 have ea:its.toArray ++ its2.toArray=(its ++ its2).toArray:=by simp
 rw [ea]
 exact ⟨.ref _,_,I.lnew (t':=s.toks) (r.append r2) (by rw [List.length_append]; omega),rfl,q _ I.fresh⟩
end
section
variable {prog:Program} {w:World} {A:Around} {E:Value→Shared→Prop} {s:Shared}
end
section
variable {X:Cx}
end
end L2
namespace L2
open PySem PySem.Spec PyProof.Rows
section
variable {κ:Type} [DecidableEq κ]
def valV (kvs:List (κ × V)) (k:κ):Option V:=(kvs.find? fun kv=>decide (kv.1=k)).map (·.2)
def putK (kvs:List (κ × V)) (k:κ) (v:V):List (κ × V):=
 if (kvs.any fun kv=>decide (kv.1=k))=true then kvs.map (fun kv=>if kv.1=k then (kv.1,v) else kv) else kvs ++ [(k,v)]
theorem ZAw {p:κ × V} {r:List (κ × V)} {k:κ} (e:p.1=k):valV (p :: r) k=some p.2:=by simp [valV,List.find?_cons,e]
theorem ZAv {p:κ × V} {r:List (κ × V)} {k:κ} (e : ¬ p.1=k):valV (p :: r) k=valV r k:=by simp [valV,List.find?_cons,e]
theorem ZEX (k:κ):∀ kvs:List (κ × V),(kvs.any fun kv=>decide (kv.1=k))=(valV kvs k).isSome
 | []=>rfl
 | p :: r=>by
  rw [List.any_cons]
  by_cases e:p.1=k
  ·simp only [ZAw e,decide_eq_true e,Bool.true_or,Option.isSome_some]
  ·rw [ZAv e,decide_eq_false e,Bool.false_or]; exact ZEX k r
theorem ZpB (kvs:List (κ × V)) (k:κ) (v:V):(putK kvs k v).length≤kvs.length + 1:=by
 unfold putK
 split
 ·rw [List.length_map]; omega
 ·rw [List.length_append,List.length_cons,List.length_nil]; omega
theorem RelO.isSome_eq {o:Option V} {u:Option Value} (r:RelO o u):o.isSome=u.isSome:=by
 cases o with
 | none=>cases u with
  | none=>rfl
  | some _=>exact (show False from r).elim
 | some _=>cases u with
  | none=>exact (show False from r).elim
  | some _=>rfl
theorem RelO.getD {o:Option V} {u:Option Value} {d:V} {d':Value} (r:RelO o u) (rd:RelV d d'):RelV (o.getD d) (u.getD d'):=by
 cases o with
 | none=>cases u with
  | none=>exact rd
  | some _=>exact (show False from r).elim
 | some _=>cases u with
  | none=>exact (show False from r).elim
  | some _=>exact r
theorem KV.val {kvs:List (κ × V)} {vs:List (κ × Value)} (r:KV kvs vs) (k:κ):RelO (valV kvs k) (valueAt vs k):=by
 unfold KV at r
 induction r with
 | nil=>exact True.intro
 | @cons p q ps qs h t ih=>
  obtain ⟨h1,h2⟩ :=h
  by_cases e:p.1=k
  ·have e':q.1=k:=h1.symm.trans e
   have b:valueAt (q :: qs) k=some q.2:=by simp [valueAt,List.find?_cons,e']
   rw [ZAw e,b]; exact h2
  ·have e' : ¬ q.1=k:=fun z=>e (h1.trans z)
   have b:valueAt (q :: qs) k=valueAt qs k:=by simp [valueAt,List.find?_cons,e']
   rw [ZAv e,b]; exact ih
theorem KV.any {kvs:List (κ × V)} {vs:List (κ × Value)} (r:KV kvs vs) (k:κ):(kvs.any fun kv=>decide (kv.1=k))=vs.any fun kv=>decide (kv.1=k):=by
 unfold KV at r
 induction r with
 | nil=>rfl
 | cons h t ih=>rw [List.any_cons,List.any_cons,ih,h.1]
theorem KV.repl {kvs:List (κ × V)} {vs:List (κ × Value)} (r:KV kvs vs) (k:κ) {y:V} {u:Value} (ry:RelV y u) :
  KV (kvs.map fun kv=>if kv.1=k then (kv.1,y) else kv) (vs.map fun kv=>if kv.1=k then (kv.1,u) else kv):=by
 unfold KV at r ⊢
 induction r with
 | nil=>exact .nil
 | @cons p q ps qs h t ih=>
  rw [List.map_cons,List.map_cons]
  refine .cons ?_ ih
  obtain ⟨h1,h2⟩ :=h
  by_cases e:p.1=k
  ·rw [if_pos e,if_pos (h1.symm.trans e)]; exact ⟨h1,ry⟩
  ·rw [if_neg e,if_neg (fun z=>e (h1.trans z))]; exact ⟨h1,h2⟩
theorem KV.put {kvs:List (κ × V)} {vs:List (κ × Value)} (r:KV kvs vs) (k:κ) {y:V} {u:Value} (ry:RelV y u):KV (putK kvs k y) (stored vs k u):=by
 unfold putK stored
 rw [r.any k]
 by_cases e:(vs.any fun kv=>decide (kv.1=k))=true
 ·rw [if_pos e,if_pos e]; exact r.repl k ry
 ·rw [if_neg e,if_neg e]; exact Paired.snoc r ⟨rfl,ry⟩
theorem KV.length {kvs:List (κ × V)} {vs:List (κ × Value)} (r:KV kvs vs):kvs.length=vs.length:=Paired.length r
end
theorem ZGB {P:Program} {w:World} {k:Key} {u:Value} (r:RelV (kV k) u):(Zc7 P w).is k u=true:=by
 cases k with
 | inl i=>obtain ⟨t,e⟩ :=(show ∃ t,u=Value.int i t from r); subst e; exact ZDe P w i t
 | inr x=>obtain ⟨t,e⟩ :=(show ∃ t,u=Value.str x t from r); subst e; exact ZDf P w x t
theorem ZBn {P:Program} {w:World}:∀ {ks:List Key} {us:List Value},Vals (ks.map kV) us→ItemsAre (Zc7 P w) ks us
 | [],_,r=>by rw [List.map_nil] at r; cases r; exact .nil
 | k :: ks,_,r=>by
  rw [List.map_cons] at r
  cases r with
  | cons h t=>exact .cons (ZGB h) (ZBn t)
abbrev KT (H:Hp):List (List Key × V)→List (List Key × Addr × Value)→Prop:=Paired fun p q=>p.1=q.1∧H q.2.1=some (.tup (p.1.map kV))∧RelV p.2 q.2.2
theorem KT.val {H:Hp} {kvs:List (List Key × V)} {xs:List (List Key × Addr × Value)} (r:KT H kvs xs) (k:List Key):RelO (valV kvs k) ((atKey xs k).map (·.2)):=by
 induction r with
 | nil=>exact True.intro
 | @cons p q ps qs h t ih=>
  obtain ⟨h1,_,h2⟩ :=h
  by_cases e:p.1=k
  ·have e':q.1=k:=h1.symm.trans e
   have b:atKey (q :: qs) k=some q.2:=by simp [atKey,List.find?_cons,e']
   rw [ZAw e,b]; exact h2
  ·have e' : ¬ q.1=k:=fun z=>e (h1.trans z)
   have b:atKey (q :: qs) k=atKey qs k:=by simp [atKey,List.find?_cons,e']
   rw [ZAv e,b]; exact ih
theorem KT.repl {H:Hp} {kvs:List (List Key × V)} {xs:List (List Key × Addr × Value)} (r:KT H kvs xs) (k:List Key) {y:V} {u:Value} (ry:RelV y u) :
  KT H (kvs.map fun kv=>if kv.1=k then (kv.1,y) else kv) (xs.map (putAt k u)):=by
 induction r with
 | nil=>exact .nil
 | @cons p q ps qs h t ih=>
  rw [List.map_cons,List.map_cons]
  refine .cons ?_ ih
  obtain ⟨h1,h2,h3⟩ :=h
  unfold putAt
  by_cases e:p.1=k
  ·rw [if_pos e,if_pos (h1.symm.trans e)]; exact ⟨h1,h2,ry⟩
  ·rw [if_neg e,if_neg (fun z=>e (h1.trans z))]; exact ⟨h1,h2,h3⟩
theorem KT.put {H:Hp} {kvs:List (List Key × V)} {xs:List (List Key × Addr × Value)} (r:KT H kvs xs) (k:List Key) {b:Addr} {y:V} {u:Value} (hb:H b=some (.tup (k.map kV))) (ry:RelV y u) :
  KT H (putK kvs k y) (storedH xs k b u):=by
 have e:(kvs.any fun kv=>decide (kv.1=k))=(atKey xs k).isSome:=by
  rw [ZEX,(r.val k).isSome_eq,Option.isSome_map]
 unfold putK storedH
 rw [e]
 by_cases q:(atKey xs k).isSome=true
 ·rw [if_pos q,if_pos q]; exact r.repl k ry
 ·rw [if_neg q,if_neg q]; exact Paired.snoc r ⟨rfl,hb,ry⟩
theorem KT.keeps {H H':Hp} {kvs:List (List Key × V)} {xs:List (List Key × Addr × Value)} (r:KT H kvs xs) (ht:∀ b ys,H b=some (.tup ys)→H' b=some (.tup ys)):KT H' kvs xs:=
 Paired.mapP r fun _ _ z=>⟨z.1,ht _ _ z.2.1,z.2.2⟩
section
variable {P:Program} {w:World} {H:Hp} {h:Heap} {a:Addr}
theorem ZMC {u:HO} (ok:HOk P w H h) (e:Rd H a u):ZeB P w H h a u:=e.ok ok
theorem ZGa {kvs:List (Key × V)} (ok:HOk P w H h) (e:Rd H a (.dK kvs)):kvs.length≤sizeLine∧(a == sysModules)=false∧∃ vs,KV kvs vs∧h.DictOf (Zc7 P w) a vs:=
 show ZeB P w H h a (.dK kvs) from ZMC ok e
theorem ZLt {kvs:List (Key × V)} (ok:HOk P w H h) (e:H a=some (.dK kvs)):kvs.length≤sizeLine∧(a == sysModules)=false∧∃ vs,KV kvs vs∧h.DictOf (Zc7 P w) a vs:=ZGa ok (.inl e)
theorem ZEp {ks:List Key} (ok:HOk P w H h) (e:H a=some (.tup (ks.map kV))):(tupleKind (Zc7 P w)).is h ks a:=by
 obtain ⟨_,its,r,o,h1,h2,n,h3⟩ :=(show ZeB P w H h a (.tup (ks.map kV)) from ok a _ e)
 exact ⟨o,its.toArray,n,h1,h2,h3,by simpa using ZBn r⟩
theorem ZGb {kvs:List (List Key × V)} (ok:HOk P w H h) (e:Rd H a (.dT kvs)):kvs.length≤sizeLine∧(a == sysModules)=false∧
  ∃ xs,KT H kvs xs∧h.DictOfH (tupleKind (Zc7 P w)) a xs:=by
 obtain ⟨z,y,xs,r,o,es,ep,h1,h2,h3,h4,h5⟩ :=(show ZeB P w H h a (.dT kvs) from ZMC ok e)
 refine ⟨z,y,xs,r,o,es,ep,h1,h2,h3,h4,fun x hx=>?_,h5⟩
 have all:∀ {l:List (List Key × V)} {m:List (List Key × Addr × Value)},KT H l m→∀ x ∈ m,(tupleKind (Zc7 P w)).is h x.1 x.2.1:=by
  intro l m q
  induction q with
  | nil=>intro x hx; exact nomatch hx
  | @cons p q ps qs hq t ih=>
   intro x hx
   rcases List.mem_cons.mp hx with e | hx
   ·subst e
    exact ZEp ok (by rw [← hq.1]; exact hq.2.1)
   ·exact ih x hx
 exact all r x hx
theorem ZNh {kvs:List (List Key × V)} (ok:HOk P w H h) (e:H a=some (.dT kvs)):kvs.length≤sizeLine∧(a == sysModules)=false∧
  ∃ xs,KT H kvs xs∧h.DictOfH (tupleKind (Zc7 P w)) a xs:=ZGb ok (.inl e)
end
def DGet (H:Hp) (a:Addr) (y:V) (r:Option V):Prop:=
 (∃ kvs k,Rd H a (.dK kvs)∧y=kV k∧r=valV kvs k)∨∃ kvs k b,Rd H a (.dT kvs)∧y=.ref b∧H b=some (.tup (k.map kV))∧r=valV kvs k
def DPut (H:Hp) (a:Addr) (y v:V) (H':Hp):Prop:=
 (∃ kvs k,H a=some (.dK kvs)∧y=kV k∧kvs.length < sizeLine∧H'=upd H a (.dK (putK kvs k v)))∨
 ∃ kvs k b,H a=some (.dT kvs)∧y=.ref b∧H b=some (.tup (k.map kV))∧kvs.length < sizeLine∧H'=upd H a (.dT (putK kvs k v))
theorem DGet.k {H:Hp} {a:Addr} {kvs:List (Key × V)} {k:Key} (e:H a=some (.dK kvs)):DGet H a (kV k) (valV kvs k):=.inl ⟨kvs,k,.inl e,rfl,rfl⟩
theorem DPut.k {H:Hp} {a:Addr} {kvs:List (Key × V)} {k:Key} {v:V} (e:H a=some (.dK kvs)) (hl:kvs.length < sizeLine):DPut H a (kV k) v (upd H a (.dK (putK kvs k v))):=.inl ⟨kvs,k,e,rfl,hl,rfl⟩
section
variable {X:Cx} {pins:List (Addr × Obj)} {σ:St} {H:Hp} {s:Shared} {a:Addr} {y v:V} {u r:Value} {o:Option V} {A:Around} {E:Value→Shared→Prop}
theorem Inv.big (I:Inv X pins σ H s):sysModules < s.heap.objs.size:=by
 have h:mainGlobals < s.heap.objs.size:=(I.mod.glob.keeps I.bk).lt
 exact Nat.lt_trans (by decide) h
theorem ZF3 {Q:Value→Shared→Prop} (hu:A.units + 1 < cLine) (I:Inv X pins σ H s) (g:DGet H a y (some v)) (ry:RelV y u) (h:∀ w' s',Inv X pins σ H s'→RelV v w'→Q w' s') :
  wpAny (model X.prog X.w) A (getItem (.ref a) u) Q E s:=by
 rcases g with ⟨kvs,k,e,ey,l⟩ | ⟨kvs,k,b,e,ey,eb,l⟩
 ·subst ey
  obtain ⟨z,hd,vs,rel,dd⟩ :=ZGa I.hok e
  obtain ⟨w',hw,rw'⟩ :=RelO.some_of (v:=v) (o:=valueAt vs k) (by rw [l]; exact rel.val k)
  exact wpAny_getItem_of (ZGB ry) dd.mapOf hw (h w' _ (I.tok _) rw')
 ·subst ey
  cases (show u=Value.ref b from ry)
  obtain ⟨z,hd,xs,rel,dd⟩ :=ZGb I.hok e
  obtain ⟨w',hw,rw'⟩ :=RelO.some_of (v:=v) (o:=(atKey xs k).map (·.2)) (by rw [l]; exact rel.val k)
  obtain ⟨p,hp,hp2⟩ :=Option.map_eq_some_iff.mp hw
  refine wpAny_getItem_heap (tupleKind_room_in1 hu) (ZEp I.hok eb) dd hp ?_
  rw [hp2]
  exact h w' _ (I.tok _) rw'
theorem ZCW {h':Heap} {t':Nat} {ob:HO} (I:Inv X pins σ H s) (mu:Mut (H a)) (hs:Heap.SameBut a s.heap h') (he:∃ q,h'.get? a=some q) (new:ZeB X.prog X.w (upd H a ob) h' a ob) :
  Inv X pins σ (upd H a ob) { s with heap:=h',toks:=t' }:=
 I.write (x:=a) (e:=a) mu (.inl rfl) (fun b q hb z=>(hs.2 b hb).trans z) he new
theorem ZJl {P:Program} {w:World} {H':Hp} {h':Heap} {kvs:List (Key × V)} {vs:List (Key × Value)} (z:kvs.length≤sizeLine) (hd:(a == sysModules)=false) (rel:KV kvs vs) (dd:h'.DictOf (Zc7 P w) a vs) :
  ZeB P w H' h' a (.dK kvs):=⟨z,hd,vs,rel,dd⟩
theorem ZF5 {H':Hp} {Q:Unit→Shared→Prop} (hu:A.units + 1 < cLine) (I:Inv X pins σ H s) (g:DPut H a y v H') (ry:RelV y u) (rv:RelV v r) (h:∀ s',Inv X pins σ H' s'→Q () s') :
  wpAny (model X.prog X.w) A (setItem (.ref a) u r) Q E s:=by
 rcases g with ⟨kvs,k,e,ey,l,eH⟩ | ⟨kvs,k,b,e,ey,eb,l,eH⟩
 ·subst ey eH
  obtain ⟨z,hd,vs,rel,dd⟩ :=ZLt I.hok e
  have hz:vs.length≤sizeLine:=by rw [← rel.length]; exact z
  have hl:(putK kvs k v).length≤sizeLine:=by have:=ZpB kvs k v; omega
  refine wpAny_setItem_pairs (hsz:=hz) (ZGB ry) dd fun h' dd' hs=>h _ ?_
  have he:∃ q,h'.get? a=some q:=let ⟨q,_,_,hq,_⟩ :=dd'; ⟨q,hq⟩
  exact ZCW I (by rw [e]; exact True.intro) hs he (ZJl hl hd (rel.put k rv) dd')
 ·subst ey eH
  cases (show u=Value.ref b from ry)
  obtain ⟨z,hd,xs,rel,dd⟩ :=ZNh I.hok e
  have hz:xs.length≤sizeLine:=by rw [← Paired.length rel]; exact z
  have hl:(putK kvs k v).length≤sizeLine:=by have:=ZpB kvs k v; omega
  refine wpAny_setItem_heap (hsz:=hz) (tupleKind_room_in1 hu) (ZEp I.hok eb) dd fun h' dd' hs=>h _ ?_
  obtain ⟨q,es,ep,hq,h2,h3,h4,_,h5⟩ :=dd'
  refine ZCW I (by rw [e]; exact True.intro) hs ⟨q,hq⟩ ⟨hl,hd,_,(rel.put k eb rv).keeps fun c ys ec=>?_,q,es,ep,hq,h2,h3,h4,h5⟩
  rw [ZaS (Zdg ec e (fun z=>nomatch z))]
  exact ec
end
section
variable {X:Cx} {pins:List (Addr × Obj)} {σ:St} {H:Hp} {s:Shared} {a:Addr} {kvs:List (Key × V)} {k:Key} {u:Value} {A:Around} {E:Value→Shared→Prop}
end
def NoSl (i:Expr):Prop:=∀ ov iv,subscripted i false ov iv=operate [ov,iv] (getItem ov iv)
theorem ZK6 {prog:Program} {w:World} {A:Around} {E:Value→Shared→Prop} {s:Shared} {env:Env} {value slice:Expr} {pos:Pos} {T id:String} {Q:Value→Shared→Prop}
  (hl:typeLookup (.type T) "__getitem__" = pure (some (.builtin id))) (hs:NoSl slice)
  (h:wpAny (model prog w) A (eval value env) (fun o s₁=>wpAny (model prog w) A (eval slice env) (fun i s₂=>s₂.TypeIs o T∧wpAny (model prog w) A (getItem o i) Q E s₂) E s₁) E s) :
  wpAny (model prog w) A (eval (.Subscript value slice pos) env) Q E s:=by
 refine Subscript_ (wpAny_mono h (fun o s₁ h₁=>wpAny_mono h₁ (fun i s₂ h₂=>?_) fun _ _ x=>x) fun _ _ x=>x)
 obtain ⟨hT,h₂⟩ :=h₂
 unfold subscriptTail
 refine wpAny_bind ?_
 rw [getitemInPython_of_ne hT.not_modules]
 refine wpAny_bind (wpAny_specialOf hT hl ?_)
 have fin:wpAny (model prog w) A (subscripted slice false o i) (fun r s₃=>wpAny (model prog w) A (letTemporaryGo value o r >>= fun _=>pure r) Q E s₃) E s₂:=by
  rw [hs o i]
  exact wpAny_operating (wpAny_mono h₂ (fun r s₃ h₃=>wpAny_bind (wpAny_letTemporaryGo (wpAny_pure h₃))) fun _ _ x=>x)
 first
  | exact wpAny_pure (wpAny_bind fin)
  | exact wpAny_bind (wpAny_pure (wpAny_bind fin))
  | exact wpAny_bind fin
theorem ZCX {X:Cx} {pins:List (Addr × Obj)} {σ:St} {H:Hp} {s:Shared} {a:Addr} {y:V} {o:Option V} (I:Inv X pins σ H s) (g:DGet H a y o):s.TypeIs (.ref a) "dict":=by
 rcases g with ⟨kvs,k,e,_,_⟩ | ⟨kvs,k,b,e,_,_,_⟩
 ·obtain ⟨_,_,vs,_,dd⟩ :=ZGa I.hok e
  exact dd.typeIs
 ·obtain ⟨_,_,xs,_,dd⟩ :=ZGb I.hok e
  exact dd.typeIs
def ZMX (td ty:TE):TE:=fun σ H Q=>td σ H fun x H1=>ty σ H1 fun y H2=>∃ a v,x=.ref a∧DGet H2 a y (some v)∧Q v H2
def ZMH (td ty tv:TE):TS:=fun D σ H=>tv σ H fun v H1=>td σ H1 fun x H2=>ty σ H2 fun y H3=>∃ a H4,x=.ref a∧DPut H3 a y v H4∧D.nx σ H4
section
variable {X:Cx} {o i e value:Expr} {pos pos' tpos:Pos} {td ty tv:TE}
theorem ZzQ (hu:X.A.units + 1 < cLine) (ho:PE X o td) (hi:PE X i ty) (hs:NoSl i):PE X (.Subscript o i pos) (ZMX td ty):=by
 intro pins s σ H Q I h
 refine ZK6 PySem.F.slot_dict_getitem.lookup hs (thn (ho pins s σ H _ I h) fun u s1 ⟨x,H1,I1,rx,q1⟩ =>thn (hi pins s1 σ H1 _ I1 q1) fun iv s2 ⟨y,H2,I2,ry,a,v,ex,g,q2⟩ =>?_)
 subst ex
 obtain rfl:u=Value.ref a:=rx
 exact ⟨ZCX I2 g,ZF3 hu I2 g ry fun w' s3 I3 rw'=>⟨v,H2,I3,rw',q2⟩⟩
theorem ZKS (hu:X.A.units + 1 < cLine) (ho:PE X o td) (hi:PE X i ty) (hv:PE X value tv) (hs:swapsWith value (some (.Subscript o i pos')) pos.line X.env=pure false) :
  PS X (.Assign [.Subscript o i pos'] value pos) (ZMH td ty tv):=by
 intro pins s σ H D I h
 refine wpAny_Assign_Subscript (thn (hv pins s σ H _ I h) fun r s1 ⟨v,H1,I1,rv,q1⟩ =>thn (ho pins s1 σ H1 _ I1 q1) fun u s2 ⟨x,H2,I2,rx,q2⟩ =>thn (hi pins s2 σ H2 _ I2 q2) fun iv s3 ⟨y,H3,I3,ry,a,H4,ex,g,q3⟩ =>?_) hs
 subst ex
 obtain rfl:u=Value.ref a:=rx
 exact ZF5 hu I3 g ry rv fun s4 I4=>⟨σ,H4,I4,q3⟩
end
theorem ZD8 {P:Program} {w:World} {H:Hp} (h:Heap) (hb:sysModules < h.objs.size):ZeB P w H (h.push { cls:=.type "dict",data:=.dict #[] }) h.objs.size (.dK []):=
 ⟨Nat.zero_le _,beq_eq_false_iff_ne.mpr (Ne.symm (Nat.ne_of_lt hb)),[],.nil,Heap.DictOf.new h⟩
def ZJ3:TE:=fun _ H Q=>∀ p,H p=none→Q (.ref p) (upd H p (.dK []))
section
variable {X:Cx} {pos:Pos}
theorem ZIL:PE X (.Dict [] [] pos) ZJ3:=fun pins s σ H Q I h=>
 wpAny_Dict_empty ⟨.ref s.heap.objs.size,_,I.laid (a:=s.heap.objs.size) (o:=.dK []) (t':=s.toks) (fun _ _ q=>Heap.get?_push_of_some _ q) (Nat.le_refl _) (ZD8 s.heap I.big),rfl,h _ (I.hok.fresh (Nat.le_refl _))⟩
end
def ZCA:List (TE × TE)→St→Hp→(List (V × V)→Hp→Prop)→Prop
 | [],_,H,Q=>Q [] H
 | (tk,tv) :: r,σ,H,Q=>tk σ H fun x H1=>tv σ H1 fun y H2=>ZCA r σ H2 fun ps H3=>Q ((x,y) :: ps) H3
abbrev VV:List (V × V)→List (Value × Value)→Prop:=Paired fun p q=>RelV p.1 q.1∧RelV p.2 q.2
def PPs (X:Cx) (pos:Pos) (keys:List (Option Expr)) (values:List Expr) (trs:List (TE × TE)):Prop:=
 ∀ (pins:List (Addr × Obj)) (s:Shared) (σ:St) (H:Hp) (Q:List (V × V)→Hp→Prop),Inv X pins σ H s→ZCA trs σ H Q→
  wpAny (model X.prog X.w) X.A (evalPairs (pairTrees keys values X.env pos)) (fun vs s'=>∃ ps H',Inv X pins σ H' s'∧VV ps vs∧Q ps H') X.xe s
theorem ZKR {X:Cx} {pos:Pos}:PPs X pos [] [] []:=fun pins s σ H Q I h=>pairTrees_nil_walk ⟨[],H,I,.nil,h⟩
theorem ZzZ {X:Cx} {pos:Pos} {k v:Expr} {ks:List (Option Expr)} {vs:List Expr} {tk tv:TE} {trs:List (TE × TE)} (hk:PE X k tk) (hv:PE X v tv) (hr:PPs X pos ks vs trs) :
  PPs X pos (some k :: ks) (v :: vs) ((tk,tv) :: trs):=fun pins s σ H Q I h=>
 pairTrees_cons_walk (thn (hk pins s σ H _ I h) fun u s1 ⟨x,H1,I1,rx,q1⟩ =>thn (hv pins s1 σ H1 _ I1 q1) fun w2 s2 ⟨y,H2,I2,ry,q2⟩ =>
  thn (hr pins s2 σ H2 _ I2 q2) fun ws s3 ⟨ps,H3,I3,rel,q3⟩ =>⟨(x,y) :: ps,H3,I3,.cons ⟨rx,ry⟩ rel,q3⟩)
def Zwu (kvs more:List (Key × V)):List (Key × V):=more.foldl (fun acc kv=>putK acc kv.1 kv.2) kvs
theorem KV.merge:∀ {more:List (Key × V)} {rs:List (Key × Value)} {kvs:List (Key × V)} {vs:List (Key × Value)},KV more rs→KV kvs vs→KV (Zwu kvs more) (merged vs rs):=by
 intro more rs kvs vs r
 unfold KV at r
 induction r generalizing kvs vs with
 | nil=>intro q; exact q
 | @cons p q ps qs h t ih=>
  intro r0
  have e:KV (putK kvs p.1 p.2) (stored vs q.1 q.2):=by
   have:=r0.put p.1 h.2
   rw [← h.1]; exact this
  exact ih e
theorem Zrc:∀ (more kvs:List (Key × V)),(Zwu kvs more).length≤kvs.length + more.length
 | [],kvs=>by show kvs.length≤kvs.length + 0; omega
 | p :: r,kvs=>by
  have h1:=Zrc r (putK kvs p.1 p.2)
  have h2:=ZpB kvs p.1 p.2
  show (Zwu (putK kvs p.1 p.2) r).length≤_
  rw [List.length_cons]; omega
theorem Zx5 {P:Program} {w:World}:∀ {kvs:List (Key × V)} {ws:List (Value × Value)},VV (kvs.map fun kv=>(kV kv.1,kv.2)) ws→∃ rs,Carries (Zc7 P w) ws rs∧KV kvs rs
 | [],_,r=>by rw [List.map_nil] at r; cases r; exact ⟨[],True.intro,.nil⟩
 | p :: kvs,_,r=>by
  rw [List.map_cons] at r
  cases r with
  | @cons a b as bs h t=>
   obtain ⟨rs,c,q⟩ :=Zx5 (P:=P) (w:=w) t
   obtain ⟨b1,b2⟩ :=b
   exact ⟨(p.1,b2) :: rs,⟨ZGB h.1,rfl,c⟩,.cons ⟨rfl,h.2⟩ q⟩
def ZMY (trs:List (TE × TE)):TE:=fun σ H Q=>∀ p,H p=none→ZCA trs σ (upd H p (.dK [])) fun ps H2=>H2 p=some (.dK [])∧∃ kvs:List (Key × V),ps=kvs.map (fun kv=>(kV kv.1,kv.2))∧kvs.length≤15∧Q (.ref p) (upd H2 p (.dK (Zwu [] kvs)))
theorem ZKM {X:Cx} {pos:Pos} {keys:List (Option Expr)} {values:List Expr} {trs:List (TE × TE)} (h:PPs X pos keys values trs) (hall:keys.all (·.isSome)=true) (hl:keys.length=values.length) (h0:keys ≠ [])
  (h15:keys.length≤15):PE X (.Dict keys values pos) (ZMY trs):=by
 intro pins s σ H Q I q
 have hn:=I.hok.fresh (Nat.le_refl s.heap.objs.size)
 have I1:=I.laid (a:=s.heap.objs.size) (o:=.dK []) (h':=s.heap.push { cls:=.type "dict",data:=.dict #[] }) (t':=s.toks) (fun _ _ q=>Heap.get?_push_of_some _ q) (Nat.le_refl _) (ZD8 s.heap I.big)
 refine wpAny_Dict_walk (knd:=Zc7 X.prog X.w) hall hl h0 h15 (thn (h pins _ σ _ _ I1 (q _ hn)) fun ws s2 ⟨ps,H2,I2,rel,e,kvs,ep,lk,q2⟩ =>?_)
 subst ep
 obtain ⟨rs,c,rk⟩ :=Zx5 (P:=X.prog) (w:=X.w) rel
 obtain ⟨z,hd,vs0,r0,dd⟩ :=ZLt I2.hok e
 cases r0
 refine ⟨rs,c,dd,fun h' dd' hs=>⟨.ref s.heap.objs.size,_,?_,rfl,q2⟩⟩
 have hz:(Zwu [] kvs).length≤sizeLine:=by
  have h1:=Zrc kvs []
  rw [List.length_nil] at h1
  rw [sizeLine_eq]; omega
 have he:∃ q,h'.get? s.heap.objs.size=some q:=let ⟨q,_,_,hq,_⟩ :=dd'; ⟨q,hq⟩
 exact ZCW I2 (by rw [e]; exact True.intro) hs he (ZJl hz hd (rk.merge .nil) dd')
structure M2 (X:Cx) (o:Expr) (m:Str) (apos:Pos) (e f:Expr) (cpos:Pos):Prop where
 base:attributeBase o m X.env (eval o X.env)=eval o X.env
 few:((backTo cpos (starEach [e,f] X.env)).all (fun x=>!x.1) && (backToKw cpos (keywordEach [] X.env)).all (fun x=>x.1.isSome)
  && decide (([e,f]:List Expr).length + ([]:List Keyword).length + (if ([]:List Keyword).isEmpty then 0 else 1) < 30))=true
 line:(apos.endLine == cpos.line)=true
 trees:backTo cpos (starEach [e,f] X.env)=[(false,eval e X.env),(false,eval f X.env)]
def IsD (H:Hp) (a:Addr):Prop:=(∃ kvs,Rd H a (.dK kvs))∨∃ kvs,Rd H a (.dT kvs)
theorem ZL0 {X:Cx} {pins:List (Addr × Obj)} {σ:St} {H:Hp} {s:Shared} {a:Addr} (I:Inv X pins σ H s) (d:IsD H a) :
  s.TypeIs (.ref a) "dict"∧(∀ b,Value.ref a=.ref b→∃ ob,s.heap.get? b=some ob∧ob.dict=none)∧(a == sysModules)=false:=by
 rcases d with ⟨kvs,e⟩ | ⟨kvs,e⟩
 ·obtain ⟨_,hd,vs,_,dd⟩ :=ZGa I.hok e
  refine ⟨dd.typeIs,fun b q=>?_,hd⟩
  cases q
  obtain ⟨ob,_,_,h1,h2,_⟩ :=dd
  exact ⟨ob,h1,h2.2.1⟩
 ·obtain ⟨_,hd,xs,_,dd⟩ :=ZGb I.hok e
  refine ⟨dd.typeIs,fun b q=>?_,hd⟩
  cases q
  obtain ⟨ob,_,_,h1,h2,_⟩ :=dd
  exact ⟨ob,h1,h2.2.1⟩
section
variable {X:Cx} {pins:List (Addr × Obj)} {σ:St} {H:Hp} {s:Shared} {a:Addr} {y d:V} {u r:Value} {o:Option V} {A:Around} {E:Value→Shared→Prop}
theorem ZLs {Q:Value→Shared→Prop} (hu:A.units + 1 < cLine) (I:Inv X pins σ H s) (g:DGet H a y o) (ry:RelV y u) (rd:RelV d r) (h:∀ w' s',Inv X pins σ H s'→RelV (o.getD d) w'→Q w' s') :
  wpAny (model X.prog X.w) A (call (.builtin "dict.get") [.ref a,u,r]) Q E s:=by
 rcases g with ⟨kvs,k,e,ey,l⟩ | ⟨kvs,k,b,e,ey,eb,l⟩
 ·subst ey
  obtain ⟨z,hd,vs,rel,dd⟩ :=ZGa I.hok e
  refine call_meetsIn PySem.F.slot_dict_get dd.typeIs PySem.F.entry_dict_get (PySem.F.args_dict_get_3 _ _ _) (meets_dict_get_default (Zc7 X.prog X.w) a (ZGB ry) hd r) ⟨_,dd.mapOf,h _ _ (I.tok _) ?_⟩
  rw [l]
  exact (rel.val k).getD rd
 ·subst ey
  cases (show u=Value.ref b from ry)
  obtain ⟨z,hd,xs,rel,dd⟩ :=ZGb I.hok e
  refine call_meetsIn PySem.F.slot_dict_get dd.typeIs PySem.F.entry_dict_get (PySem.F.args_dict_get_3 _ _ _) (meetsH_dict_get_default (tupleKind (Zc7 X.prog X.w)) a b hd r) ⟨tupleKind_room_in1 hu,k,xs,ZEp I.hok eb,dd,h _ _ (I.tok _) ?_⟩
  rw [l]
  exact (rel.val k).getD rd
end
def ZJ2 (td ty tx:TE):TE:=fun σ H Q=>td σ H fun x H1=>∃ a,x=.ref a∧IsD H1 a∧ty σ H1 fun y H2=>tx σ H2 fun z H3=>∃ o,DGet H3 a y o∧Q (o.getD z) H3
section
variable {X:Cx} {o e f:Expr} {apos cpos:Pos} {td ty tx:TE}
theorem ZIK (hu:X.A.units + 1 < cLine) (ho:PE X o td) (he:PE X e ty) (hf:PE X f tx) (m:M2 X o "get" apos e f cpos):PE X (.Call (.Attribute o "get" apos) [e,f] [] cpos) (ZJ2 td ty tx):=by
 intro pins s σ H Q I h
 refine wpAny_Call_method m.base m.few m.line PySem.F.plainAttrs_dict PySem.F.slot_dict_get PySem.F.type_dict_get (thn (ho pins s σ H _ I h) fun u s1 ⟨x,H1,I1,rx,a,ex,d,q1⟩ =>?_)
 subst ex
 obtain rfl:u=Value.ref a:=rx
 obtain ⟨t1,t2,_⟩ :=ZL0 I1 d
 refine ⟨t1,t2,?_⟩
 rw [m.trees]
 refine Calls.callWith_builtin rfl (Calls.evalArgs_plain (Calls.spliced_cons (thn (he pins s1 σ H1 _ I1 q1) fun iv s2 ⟨y,H2,I2,ry,q2⟩ =>
  Calls.spliced_cons (thn (hf pins s2 σ H2 _ I2 q2) fun fv s3 ⟨z,H3,I3,rz,ov,g,q3⟩ =>Calls.spliced_nil ?_))))
 exact ZLs hu I3 g ry rz fun w' s4 I4 rw'=>⟨_,H3,I4,rw',q3⟩
end
section
variable {X:Cx} {pins:List (Addr × Obj)} {σ:St} {H:Hp} {s:Shared} {a:Addr} {kvs:List (Key × V)} {A:Around} {E:Value→Shared→Prop}
end
section
variable {X:Cx} {pins:List (Addr × Obj)} {σ:St} {H:Hp} {s:Shared} {a:Addr} {y:V} {u:Value} {A:Around} {E:Value→Shared→Prop}
end
end L2
namespace Att
open PySem PySem.W PySem.Calls PyProof.Rows
theorem Zv9 {P:Params} {h:Heap}:∀ (ns:List Int) (vs:List Value),WellAll P h vs (ns.map WData.int)→IntsAre vs ns:=by
 intro ns
 induction ns with
 | nil=>
  intro vs w
  rw [List.map_nil] at w
  cases w
  exact .nil
 | cons n ns ih=>
  intro vs w
  rw [List.map_cons] at w
  cases w with
  | cons a b=>
   cases a
   exact .cons _ _ (ih _ b)
theorem ZHy {l:OpenLaw} {n:Nat} (hn:l.most=some n) {P:Params} {h:Heap} {args:List WData} {vals:List Value}
  (hpre:l.row.toRowW.claim.pre args=true) (hwl:WellAll P h vals args) :
  ∃ a vs ns,vals=[Value.ref a]∧args=[WData.list (ns.map WData.int)]∧h.get? a=some { cls:=.type "list",data:=.seq vs.toArray }∧IntsAre vs ns∧ns.length≤n:=by
 have hsh:WShape.hasAll [] args [.list .int]=true:=(pre_splitW hpre).1
 have hc:l.pre.holds [] { args:=args } = true:=(pre_splitW hpre).2
 obtain ⟨d,r,rfl,h1,h2⟩ :=hasAllW_cons hsh
 obtain rfl:=hasAllW_nil h2
 obtain ⟨xs,rfl,h3⟩ :=hasW_list h1
 obtain ⟨ns,rfl⟩ :=items_int h3
 have hlen:ns.length≤n:=by
  unfold OpenLaw.pre at hc
  have h4:(WTm.not (.lt (.lit (.int (n:Int))) (.len (.arg 0)))).holds [] { args:=[.list (ns.map .int)] } = true:=by
   have h4:=(holds_andW hc).1
   rw [hn] at h4
   exact h4
  have h5:=condW_of h4 (w_not (w_lt w_lit (w_len_list (w_arg rfl))))
  rw [List.length_map] at h5
  refine Nat.le_of_not_lt fun q=>?_
  have q':(n:Int) < ((ns.length:Nat):Int):=by omega
  first
   | (rw [decide_eq_true q'] at h5; exact absurd h5 (by decide))
   | (simp at h5; omega)
 cases hwl with
 | cons w1 w2=>
  cases w2
  cases w1 with
  | list ho hall=>exact ⟨_,_,ns,rfl,rfl,ho,Zv9 ns _ hall,hlen⟩
theorem ZHm (l:OpenLaw) (args:List WData):l.row.toRowW.claim.post args (.bool true) args=true:=
 postW_of (r:=l.row.toRowW) (X:=(true == true))
  (show WShape.has [] (.bool true) .bool=true by first | rfl | decide | simp [WShape.has,WShape.arms,WShape.armsAll])
  (show (WTm.eq .res (.lit (.bool true))).value [] { args:=args,res:=some (.bool true),after:=args } = some (.bool (true == true)) from w_eq_bool (w_res rfl) w_lit) rfl
theorem attach_call {l:OpenLaw} {n:Nat} {q:Program} {loose:List Str} {XP:(Str→Option Value)→Heap→Prop} {YP:World→Heap→Prop} {d:DefRec}
  (hn:l.most=some n) (hdf:d.params.defaults=[])
  (call:∀ (w:World) (s₀ s₁:Shared) (mg mb:Str→Option Value) (fa:Addr) (o:Obj) (pm cd doc:Value) (a:Addr) (vs:List Value) (ns:List Int),
   Ground q loose [] XP w s₀ mg mb s₁.heap→YP w s₁.heap→
   s₁.heap.get? fa=some o→o.data=.func (docDef d.name d.params d.body d.scope pm cd doc)→s₁.heap.CodeRec cd d.name→mg d.name=some (.ref fa)→
   s₁.heap.get? a=some { cls:=.type "list",data:=.seq vs.toArray }→IntsAre vs ns→ns.length≤n→s₁.gens = #[]→
   codeAny (model l.prog w) callerA (.call (.ref fa) ⟨[.ref a],[]⟩) (fun r s'=>r=.ok (.ret (.bool true))∧OldK s₁.heap s'.heap∧s'.os=s₁.os∧AllBare s'.gens) s₁) :
  WalkO q loose XP YP l.row.toRowW d [] (fun f vs=>PySem.call f vs):=by
 intro w s₀ s₁ mg mb G Y fa o pm cd doc dV kV ho hd hcd hD hmg hg args vals as hpre hlay hrd hwl hlo
 obtain rfl:dV=.none:=Dflts.none hD hdf
 obtain rfl:kV=.none:=Dflts.noKw hD
 obtain ⟨a,vs,ns,rfl,rfl,hobj,hints,hlen⟩ :=ZHy hn hpre hwl
 refine enter_call (codeAny_mono (call w s₀ s₁ mg mb fa o pm cd doc a vs ns G Y ho (fd_plain hd) hcd hmg hobj hints hlen hg) fun r s' hq=>?_)
 obtain ⟨rfl,h2,h3,h4⟩ :=hq
 exact ⟨.inl ⟨.bool true,.bool true,[],rfl,fun _=>rfl,.bool true,ZHm l _,fun _=>⟨List.Pairwise.nil,fun _ hm=>(nomatch hm)⟩⟩,h2,h3,h4⟩
section
variable {prog:Program} {w:World} {A:Around} {E:Value→Shared→Prop} {s:Shared} {K:Frag}
end
end Att
namespace L2
open PySem PySem.Spec PyProof.Rows
theorem ZCC:∀ {vs:List Value} {ns:List Int},IntsAre vs ns→Vals (ns.map V.int) vs
 | _,_,.nil=>.nil
 | _,_,.cons n t h=>.cons ⟨t,rfl⟩ (ZCC h)
def Only (H:Hp):Prop:=∀ b,H b=none∨∃ o xs,H b=some (.frz o (.lst xs))
theorem ZIn {P:Program} {w:World} {K:PySem.W.Frag} {mg mb:Str→Option Value} {CX:CXT} {k:Nat} {fa a:Addr} {fd:FuncData} {x:Str} {sp:Sp} {s₁:Shared} {vs:List Value} {ns:List Int}
  (KX:K.In s₁.heap) (hns:s₁.heap.Ns mainGlobals mg) (hb:s₁.heap.Ns builtinsNs mb) (hbb:∀ x:Str,x ≠ "__name__"→mb x=bootBuiltins x) (hlim:s₁.heap.NoLimit) (hg:s₁.gens = #[])
  (ha:s₁.heap.get? a=some { cls:=.type "list",data:=.seq vs.toArray }) (hi:IntsAre vs ns) (hl:ns.length≤sizeLine) (hr:Room k callerA)
  (F:∀ base:Heap,K.In base→base.Ns mainGlobals mg→FnOk P w K mg base CX k fa fd [x] sp) (hbind:∀ (s:Shared) (u:Value),BindsTo s fd ⟨[u],[]⟩ [(x,u)])
  (hsp:∀ H:Hp,Only H→SqL K H a (ns.map V.int)→sp [.ref a] H (fun v _=>v=.bl true) fun _ _ _=>False)
  (hCX:∀ H e s',CX [] H s₁ (fun _ _ _=>False) e s'→False) :
  codeAny (model P w) callerA (.call (.ref fa) ⟨[.ref a],[]⟩) (fun r s'=>r=.ok (.ret (.bool true))∧OldK s₁.heap s'.heap∧s'.os=s₁.os∧AllBare s'.gens) s₁:=by
 have rv:=ZCC hi
 have lenV:=hi.length
 have core:∀ H:Hp,Only H→SqL K H a (ns.map V.int)→HOk P w H s₁.heap→(∀ b,H b ≠ none→b=a)→(H a ≠ none→K.lookup a=none)→
   codeAny (model P w) callerA (.call (.ref fa) ⟨[.ref a],[]⟩) (fun r s'=>r=.ok (.ret (.bool true))∧OldK s₁.heap s'.heap∧s'.os=s₁.os∧AllBare s'.gens) s₁:=by
  intro H hO hS hok hA hK
  have base_of:∀ {b:Addr} {o:Obj},s₁.heap.get? b=some o→H b=none→(hidT s₁.heap H).get? b=some o:=fun e n=>ZIf e n
  have noA:∀ {b:Addr} {o:Obj} {es:Array DictEntry} {ep:Nat},s₁.heap.get? b=some o→o.data=.dict es ep→H b=none:=fun {b o es ep} e d=>by
   cases q:H b with
   | none=>rfl
   | some u=>
    have e':b=a:=hA b (by rw [q]; simp)
    subst e'
    rw [ha] at e; cases e
    have d':Data.seq vs.toArray _=Data.dict es ep:=d
    cases d'
  have nsK:∀ {b:Addr} {m:Str→Option Value},s₁.heap.Ns b m→(hidT s₁.heap H).Ns b m:=fun {b m} ⟨o,es,ep,e,d,r⟩ =>⟨o,es,ep,base_of e (noA e d),d,r⟩
  have hKb:K.In (hidT s₁.heap H):=fun b o e=>base_of (KX b o e) (by
   cases q:H b with
   | none=>rfl
   | some u=>
    have e':b=a:=hA b (by rw [q]; simp)
    subst e'
    rw [hK (by rw [q]; simp)] at e; cases e)
  have hM:Mod K mg (hidT s₁.heap H):=⟨hKb,nsK hns,⟨mb,nsK hb,hbb⟩,let ⟨mc,h1,h2⟩ :=hlim; ⟨mc,nsK h1,h2⟩⟩
  have e0:Env0 P w K mg (hidT s₁.heap H) callerA [] s₁ H:=⟨rfl,hM,fun b o e=>ZKG e,Nat.le_of_eq (ZGl _ _),trivial,fun b hb=>absurd (show b ∈ ([]:List Addr) from hb) (by simp),hok,.of_eq hg⟩
  refine codeAny_mono ((F _ hKb (nsK hns)).run callerA [] s₁ H ⟨[.ref a],[]⟩ [.ref a] [.ref a] _ _ hr e0 (hbind s₁ (.ref a)) (.cons rfl .nil) (hsp H hO hS)) fun r s' h=>?_
  cases r with
  | error e=>exact (hCX H e s' h).elim
  | ok fl=>
   cases fl with
   | next=>exact False.elim h
   | brk=>exact False.elim h
   | cont=>exact False.elim h
   | ret u=>
    obtain ⟨v,H',os,bare,un,hok',r',q⟩ :=h
    have q':v=.bl true:=q
    subst q'
    obtain rfl:u=Value.bool true:=r'
    refine ⟨rfl,OldK.of_keep fun b o e=>?_,os,bare⟩
    cases q:H b with
    | none=>exact un.keep b o e q (by intro z; exact absurd (show b ∈ ([]:List Addr) from z) (by simp)) (by simp)
    | some u=>
     rcases hO b with z | ⟨ob,xs,z⟩
     ·rw [q] at z; cases z
     ·have z2:=un.frzs b ob _ z
      obtain ⟨e1,_⟩ :=hok b _ z
      obtain ⟨e2,_⟩ :=hok' b _ z2
      rw [e] at e1; cases e1
      exact e2
 cases hk:K.lookup a with
 | some o=>
  have e:=KX a o hk
  rw [ha] at e
  cases e
  refine core (fun _=>none) (fun _=>.inl rfl) (.inr ⟨_,vs.toArray,_,hk,rfl,rfl,rfl,by rw [List.size_toArray,lenV]; exact hl,by simpa using rv⟩) (fun b u z=>by have z':(none:Option HO)=some u:=z; cases z') (fun b z=>absurd rfl z) fun z=>absurd rfl z
 | none=>
  refine core (fun b=>if b=a then some (.frz { cls:=.type "list",data:=.seq vs.toArray } (.lst (ns.map V.int))) else none) (fun b=>?_) (.inl (.inr ⟨{ cls:=.type "list",data:=.seq vs.toArray },if_pos rfl⟩)) (fun b u z=>?_) (fun b z=>?_) fun _=>hk
  ·by_cases hb:b=a
   ·exact .inr ⟨_,_,if_pos hb⟩
   ·exact .inl (if_neg hb)
  ·by_cases hb:b=a
   ·have z':=(if_pos hb).symm.trans z
    cases z'
    subst hb
    exact ⟨ha,by rw [List.length_map]; exact hl,vs,_,rv,ha⟩
   ·have z':=(if_neg hb).symm.trans z
    cases z'
  ·by_cases hb:b=a
   ·exact hb
   ·exact absurd (if_neg hb) z
end L2
namespace L2
open PySem PySem.Spec PyProof.Rows
abbrev KOf {K:PySem.W.Frag} {h:Heap} (_:K.In h):PySem.W.Frag:=K
theorem ZLc {l:PySem.W.OpenLaw} {n k:Nat} {q:Program} {loose:List Str} {XP:(Str→Option Value)→Heap→Prop} {YP:World→Heap→Prop} {d:DefRec} {K:Params→PySem.W.Frag} {CX:World→CXT} {sp:World→Sp} {x:Str}
  (hn:l.most=some n) (hn2:n≤sizeLine) (hdf:d.params.defaults=[]) (hr:Room k callerA)
  (hY:∀ (w:World) (h:Heap),YP w h→(K w.params).In h)
  (F:∀ (w:World) (mg:Str→Option Value) (fa:Addr) (h:Heap),(K w.params).In h→h.Ns mainGlobals mg→mg d.name=some (.ref fa)→
   ∃ fd:FuncData,(∀ (s:Shared) (u:Value),BindsTo s fd ⟨[u],[]⟩ [(x,u)])∧
    ∀ base:Heap,(K w.params).In base→base.Ns mainGlobals mg→FnOk l.prog w (K w.params) mg base (CX w) k fa fd [x] (sp w))
  (hsp:∀ (w:World) (H:Hp) (a:Addr) (ns:List Int),ns.length≤n→Only H→SqL (K w.params) H a (ns.map V.int)→sp w [.ref a] H (fun v _=>v=.bl true) fun _ _ _=>False)
  (hCX:∀ (w:World) (H:Hp) (s:Shared) (e:Value) (s':Shared),CX w [] H s (fun _ _ _=>False) e s'→False) :
  PySem.W.WalkO q loose XP YP l.row.toRowW d [] (fun f vs=>PySem.call f vs):=by
 refine Att.attach_call hn hdf fun w s₀ s₁ mg mb fa o pm cd doc a vs ns G Y ho hd hcd hmg hobj hints hlen hg=>?_
 have KX:=hY w _ Y
 obtain ⟨fd,hb,hF⟩ :=F w mg fa _ KX G.T.g hmg
 exact ZIn KX G.T.g G.T.b G.T.builtins G.T.nolimit hg hobj hints (Nat.le_trans hlen hn2) hr hF hb (fun H hO hS=>hsp w H a ns hlen hO hS) fun H e s'=>hCX w H s₁ e s'
theorem walk_ofK {l:PySem.W.OpenLaw} {n k:Nat} {q:Program} {loose:List Str} {XP:(Str→Option Value)→Heap→Prop} {YP:World→Heap→Prop} {d:DefRec} {K:Params→PySem.W.Frag} {CX:CXT} {sp:PySem.W.Frag→Sp} {x:Str}
  (hn:l.most=some n) (hn2:n≤sizeLine) (hdf:d.params.defaults=[]) (hr:Room k callerA)
  (hY:∀ (w:World) (h:Heap),YP w h→(K w.params).In h)
  (F:∀ (w:World) (mg:Str→Option Value) (fa:Addr) (h:Heap),(K w.params).In h→h.Ns mainGlobals mg→mg d.name=some (.ref fa)→
   ∃ fd:FuncData,(∀ (s:Shared) (u:Value),BindsTo s fd ⟨[u],[]⟩ [(x,u)])∧
    ∀ base:Heap,(K w.params).In base→base.Ns mainGlobals mg→FnOk l.prog w (K w.params) mg base CX k fa fd [x] (sp (K w.params)))
  (hsp:∀ (K:PySem.W.Frag) (H:Hp) (a:Addr) (ns:List Int),ns.length≤n→Only H→SqL K H a (ns.map V.int)→sp K [.ref a] H (fun v _=>v=.bl true) fun _ _ _=>False)
  (hCX:∀ (H:Hp) (s:Shared) (e:Value) (s':Shared),CX [] H s (fun _ _ _=>False) e s'→False) :
  PySem.W.WalkO q loose XP YP l.row.toRowW d [] (fun f vs=>PySem.call f vs):=
 ZLc (K:=K) (CX:=fun _=>CX) (sp:=fun w=>sp (K w.params)) hn hn2 hdf hr hY F (fun w H a ns h1 h2 h3=>hsp (K w.params) H a ns h1 h2 h3) fun _ H s e s'=>hCX H s e s'
end L2
namespace L2
open PySem PySem.Spec PyProof.Rows
def Zbz (s:Stmt) (j:Nat):Stmt:=match s with
 | .ClassDef _ _ _ body _ _ _ _ _ _ _=>body.getD j (.Pass ⟨0,0,0,0⟩)
 | _=>.Pass ⟨0,0,0,0⟩
def Zaj (s:Stmt):Arguments:=match s with
 | .FunctionDef _ a _ _ _ _ _ _ _ _=>a
 | _=>{ posonlyargs:=[],args:=[],vararg:=none,kwonlyargs:=[],kw_defaults:=[],kwarg:=none,defaults:=[] }
def Zai (s:Stmt):List Stmt:=match s with
 | .FunctionDef _ _ b _ _ _ _ _ _ _=>b
 | _=>[]
def Zab (s:Stmt):Scope:=match s with
 | .FunctionDef _ _ _ _ _ _ sc _ _ _=>sc
 | _=>{ kind:=.function,names:=[],isGenerator:=false,isCoroutine:=false }
abbrev CX0:CXT:=fun _ _ _ _ _ _=>False
abbrev E0:XK:=fun _ _ _=>False
theorem ZHe {X:Cx}:Zoi CX0 X E0:=fun _ _ _ _ _ _ _ h=>h.elim
structure Fun (K:PySem.W.Frag) (x qual:Str) (st:Stmt) (f:Addr) (fd:FuncData):Prop where
 ex:∃ (oc:Value) (od:Option Addr) (kV doc pm:Value) (an:Option Addr) (cdv ct:Value) (osl:Array (Option Value)),
  fd=PySem.W.fnOf x qual (Zaj st) (Zai st) (Zab st) .none kV doc pm an cdv ct∧K.lookup f=some ⟨oc,od,.func fd,osl⟩ ∧PySem.W.codeIn K cdv qual=true
 kp:PySem.W.keepIn K (.ref f)=true
section
variable {P:Program} {w:World} {K:PySem.W.Frag} {mg:Str→Option Value} {base:Heap}
theorem Fun.ok {x qual:Str} {st:Stmt} {f:Addr} {fd:FuncData} {N ps:List Str} {k:Nat} {sp:Sp} (F:Fun K x qual st f fd) (S:FnScope N ps (Zab st)) (len:∀ vs H Q E,sp vs H Q E→vs.length=ps.length)
  (hbody:∀ (cdv:Value) (A:Around) (outer:List Env) (s:Shared) (H:Hp) (vs:List V) (Q:VK) (E:XK),Room k (A.deeper (envOfC qual (Zab st) s.heap.objs.size f cdv))→sp vs H Q E→
   ∃ t,PSs (cxOf CX0 P w K mg base N qual (Zab st) f cdv A outer s H E).nox (Zai st) t∧t { nx:=fun _ H'=>Q .non H',rt:=Q } (start N vs) H):FnOk P w K mg base CX0 (k + 1) f fd ps sp:=by
 obtain ⟨oc,od,kV,doc,pm,an,cdv,ct,osl,rfl,lk,hcd⟩ :=F.ex
 refine ZLx lk hcd S len fun A outer s H vs Q E hr hsp=>?_
 obtain ⟨t,h,q⟩ :=hbody cdv A outer s H vs Q E hr hsp
 exact ⟨t,h.nox,q⟩
theorem Fun.binds {x qual:Str} {st:Stmt} {f:Addr} {fd:FuncData} {ps:List Str} (F:Fun K x qual st f fd)
  (h:∀ (kV doc pm:Value) (an:Option Addr) (cdv ct:Value) (us:List Value),us.length=ps.length→bindArgs (PySem.W.fnOf x qual (Zaj st) (Zai st) (Zab st) .none kV doc pm an cdv ct) ⟨us,[]⟩=pure (ps.zip us)):ZaZ K fd ps []:=by
 obtain ⟨oc,od,kV,doc,pm,an,cdv,ct,osl,rfl,lk,hcd⟩ :=F.ex
 exact .all (h kV doc pm an cdv ct)
theorem Zao {x qual:Str} {st:Stmt} {f:Addr} {oc:Value} {od an:Option Addr} {osl:Array (Option Value)} {kV doc pm cdv ct:Value} (l:K.lookup f=some ⟨oc,od,.func (PySem.W.fnOf x qual (Zaj st) (Zai st) (Zab st) .none kV doc pm an cdv ct),osl⟩)
  (c:PySem.W.codeIn K cdv qual=true) (k:PySem.W.keepIn K (.ref f)=true):Fun K x qual st f (PySem.W.fnOf x qual (Zaj st) (Zai st) (Zab st) .none kV doc pm an cdv ct):=⟨⟨oc,od,kV,doc,pm,an,cdv,ct,osl,rfl,l,c⟩,k⟩
end
section
variable {X:Cx}
theorem pv (i:Nat) {x:Str} {pos:Pos} (hN:X.N[i]?=some x:=by rfl) (hv:Vis X.env.scope x:=by first | exact Or.inl rfl | exact Or.inr (Or.inl rfl) | exact Or.inr (Or.inr rfl)) (hd:(x == ("__debug__" : Str))=false:=by decide)
  (hcd:(x == ("__classdict__" : Str))=false:=by decide):PE X (.Name x pos) (tVar i):=ZMu hN hv hd hcd
end
abbrev Same (H H':Hp):Prop:=∀ b o,H b=some o→H' b=some o
theorem Same.refl (H:Hp):Same H H:=fun _ _ h=>h
theorem Same.trans {H H1 H2:Hp} (a:Same H H1) (b:Same H1 H2):Same H H2:=fun c o h=>b c o (a c o h)
theorem Same.free {H H':Hp} (e:Same H H') {l:Addr} (h:H' l=Option.none):H l=Option.none:=by
 cases q:H l with
 | none=>rfl
 | some o=>
  rw [e l o q] at h
  cases h
theorem Same.seq {K:PySem.W.Frag} {H H':Hp} {a:Addr} {xs:List V} (e:Same H H') (h:SqL K H a xs):SqL K H' a xs:=by
 rcases h with (h | ⟨o,h⟩) | h
 ·exact .inl (.inl (e _ _ h))
 ·exact .inl (.inr ⟨o,e _ _ h⟩)
 ·exact .inr h
section
variable {X:Cx}
end
section
variable {κ:Type} [DecidableEq κ]
end
end L2
namespace EM
end EM
namespace EM
inductive W3 where
 | a | e | o
 deriving DecidableEq
inductive Fm where
 | lamp (k:Nat)
 | sure (b:Bool)
 | neg (f:Fm)
 | join (w:W3) (fs:List Fm)
mutual
def Fm.low (m:Nat):Fm→Bool
 | .lamp k=>decide (k < m)
 | .sure _=>true
 | .neg f=>f.low m
 | .join _ fs=>Fm.lowL m fs
def Fm.lowL (m:Nat):List Fm→Bool
 | []=>true
 | f :: fs=>f.low m && Fm.lowL m fs
end
theorem ZGM (m:Nat):∀ fs:List Fm,Fm.lowL m fs=fs.all (Fm.low m)
 | []=>by simp [Fm.lowL]
 | f :: fs=>by simp [Fm.lowL,ZGM m fs]
theorem ZEt (m:Nat) (w:W3) (fs:List Fm):(Fm.join w fs).low m=fs.all (Fm.low m):=by
 simp [Fm.low,ZGM]
end EM
set_option maxRecDepth 100000
set_option maxHeartbeats 4000000
namespace L2
open PySem PySem.Spec PyProof.Rows
section
variable {σ:St} {H:Hp} {Q:VK} {D:Ends} {K:PySem.W.Frag} {BQ:Bool→Hp→Prop}
theorem ZLX {i:Nat} {v:V} (h:σ[i]?=some (some v)) (k:Q v H):tVar i σ H Q:=⟨v,h,k⟩
theorem i_c {v:V} (k:Q v H):tC v σ H Q:=k
theorem i_op {r:R2} {ta tb:TE} (h:ta σ H fun x H1=>tb σ H1 fun y H2=>r x y H2 Q):tOp r ta tb σ H Q:=h
theorem i_un {r:V→Hp→VK→Prop} {ta:TE} (h:ta σ H fun x H1=>r x H1 Q):tUn r ta σ H Q:=h
theorem ZLT {g:Int→Int→V} {i j:Int} (h:Q (g i j) H):rI0 g (.int i) (.int j) H Q:=⟨i,j,rfl,rfl,h⟩
theorem i_rI {C:Int→Int→Prop} {g:Int→Int→V} {i j:Int} (c:C i j) (h:Q (g i j) H):rI C g (.int i) (.int j) H Q:=⟨i,j,rfl,rfl,c,h⟩
theorem i_rU {g:Int→V} {i:Int} (h:Q (g i) H):rU g (.int i) H Q:=⟨i,rfl,h⟩
theorem ZKn {i j:Int} (h:Q (.bl (decide (i=j))) H):rEq (.int i) (.int j) H Q:=by
 refine ⟨rfl,?_⟩
 have e:decide (V.int i=V.int j)=decide (i=j):=by simp
 rw [e]; exact h
theorem ZKo {i j:Str} (h:Q (.bl (decide (i=j))) H):rEq (.str i) (.str j) H Q:=by
 refine ⟨rfl,?_⟩
 have e:decide (V.str i=V.str j)=decide (i=j):=by simp
 rw [e]; exact h
theorem ZKr {i j:Int} (h:Q (.bl (!decide (i=j))) H):rNe (.int i) (.int j) H Q:=by
 refine ⟨rfl,?_⟩
 have e:decide (V.int i=V.int j)=decide (i=j):=by simp
 rw [e]; exact h
theorem ZKs {i j:Str} (h:Q (.bl (!decide (i=j))) H):rNe (.str i) (.str j) H Q:=by
 refine ⟨rfl,?_⟩
 have e:decide (V.str i=V.str j)=decide (i=j):=by simp
 rw [e]; exact h
theorem ZJG {t:TE} (h:t σ H fun x H'=>∃ k,x=.bl k∧BQ k H'):ZM3 t σ H BQ:=h
theorem ZLG {b:Bool} {R:Bool→Prop} (h:R b):∃ k,V.bl b=V.bl k∧R k:=⟨b,rfl,h⟩
theorem ZLz {t u:TT} (h:t σ H fun c H1=>if c=true then u σ H1 BQ else BQ false H1):tAnd t u σ H BQ:=h
theorem i_or {t u:TT} (h:t σ H fun c H1=>if c=true then BQ true H1 else u σ H1 BQ):tOr t u σ H BQ:=h
theorem ZLS {t:TT} (h:t σ H fun c H1=>BQ (!c) H1):tNot t σ H BQ:=h
theorem i_if {t:TT} {ta tb:TE} (h:t σ H fun c H1=>if c=true then ta σ H1 Q else tb σ H1 Q):tIf t ta tb σ H Q:=h
theorem ZBk {t u:TS} (h:t { D with nx:=u D } σ H):tSeq t u D σ H:=h
theorem ZJC (h:D.nx σ H):ZM1 D σ H:=h
theorem ZJp {te:TE} (h:te σ H fun _ H1=>D.nx σ H1):ZK8 te D σ H:=h
theorem ZLV {te:TE} (h:te σ H D.rt):tRet te D σ H:=h
theorem ZLK {c:TT} {t u:TS} (h:c σ H fun b H1=>if b=true then t D σ H1 else u D σ H1):tIfS c t u D σ H:=h
theorem ZLA {te:TE} {g:TG} (h:te σ H fun x H1=>g x σ H1 D.nx):tAsg te g D σ H:=h
theorem ZJz {i:Nat} {v:V} {R:St→Hp→Prop} (h:R (σ.set i (some v)) H):Zv0 i v σ H R:=h
theorem ZLP {R:List V→Hp→Prop} (h:R [] H):tNil σ H R:=h
theorem ZJo {ta:TE} {tr:TA} {R:List V→Hp→Prop} (h:ta σ H fun x H1=>tr σ H1 fun xs H2=>R (x :: xs) H2):ZxM ta tr σ H R:=h
theorem i_cb {r:List V→Hp→VK→Prop} {t:TA} (h:t σ H fun vs H1=>r vs H1 Q):tCB r t σ H Q:=h
abbrev NewL (xs:List V) (H:Hp) (Q:VK):Prop:=xs.length≤sizeLine∧∀ p,H p=none→Q (.ref p) (upd H p (.lst xs))
abbrev NewT (xs:List V) (H:Hp) (Q:VK):Prop:=xs.length≤sizeLine∧∀ p,H p=none→Q (.ref p) (upd H p (.tup xs))
theorem ZLW {t:TA} (h:t σ H fun xs H1=>NewT xs H1 Q):tTup t σ H Q:=h
theorem ZLN {t:TA} (h:t σ H fun xs H1=>NewL xs H1 Q):tLst t σ H Q:=h
theorem i_bm {T:String} {r:V→List V→Hp→VK→Prop} {to:TE} {t:TA} (h:to σ H fun x H1=>tyV K T x H1∧t σ H1 fun xs H2=>r x xs H2 Q):tBM K T r to t σ H Q:=h
theorem ZLB {T:String} {r:V→List V→Hp→VK→Prop} {to:TE} (h:to σ H fun x H1=>tyV K T x H1∧r x [] H1 Q):tBM0 K T r to σ H Q:=h
theorem ZLI {ta:TE} {f:Str} (h:ta σ H fun x H1=>∃ a C dx fs v,x=.ref a∧H1 a=some (.ins C dx fs)∧Cls K C∧Zag K C f∧fs.lookup f=some v∧Q v H1):tFld K ta f σ H Q:=h
theorem ZJF {ta tv:TE} {f:Str} (h:tv σ H fun y H1=>ta σ H1 fun x H2=>∃ a C dx fs,x=.ref a∧H2 a=some (.ins C dx fs)∧Cls K C∧Zag K C f∧fs.length < 1000∧D.nx σ (upd H2 a (.ins C dx (putF f y fs)))):sFld K ta tv f D σ H:=h
theorem i_sl {r:V→Option Int→Option Int→Hp→VK→Prop} {te:TE} {tl th:TO} (h:te σ H fun x H1=>tl σ H1 fun l H2=>th σ H2 fun u H3=>r x l u H3 Q):tSl r te tl th σ H Q:=h
theorem ZJE {t:TE} {R:Option Int→Hp→Prop} (h:t σ H fun x H1=>∃ i,x=.int i∧R (some i) H1):ZK9 t σ H R:=h
theorem ZLH {b:Int} {R:Int→Prop} (h:R b):∃ k,V.int b=V.int k∧R k:=⟨b,rfl,h⟩
theorem ZEh {R:Option Int→Hp→Prop} (h:R none H):ZDH σ H R:=h
theorem ZJH {b:Bool} {R:Bool→Prop} (h:R b):∃ k,TruV K (.bl b) H k∧R k:=⟨b,rfl,h⟩
theorem ZhG {c A B:Prop} [Decidable c] (h1:c→A) (h2 : ¬ c→B):if decide c=true then A else B:=by
 by_cases h:c
 ·rw [if_pos (decide_eq_true h)]; exact h1 h
 ·rw [if_neg (by simp [h])]; exact h2 h
theorem ZNk {b:Bool} {A B:Prop} (h1:b=true→A) (h2:b=false→B):if b=true then A else B:=by
 cases b
 ·rw [if_neg Bool.false_ne_true]; exact h2 rfl
 ·rw [if_pos rfl]; exact h1 rfl
theorem Zgm {b:Bool} {A B:Prop} (h:b=true) (k:A):if b=true then A else B:=by rw [if_pos h]; exact k
theorem Zbm {b:Bool} {A B:Prop} (h:b=false) (k:B):if b=true then A else B:=by rw [if_neg (by rw [h]; exact Bool.false_ne_true)]; exact k
end
def ZLh (lo:Int) (n:Nat) (g:TG) (tb:TS) (D:Ends) (σ:St) (H:Hp):Prop:=
 ∃ W:Nat→Nat→St→Hp→Prop,(∃ m,W 0 m σ H)∧∀ i m σ H,W i m σ H→
   ((Itr lo n).stop i H∧D.nx σ H)∨((Itr lo n).go i H∧∃ N:St→Hp→Prop,(∀ σ' H',N σ' H'→∃ m',m' < m∧W (i + 1) m' σ' H')∧∀ x H',(Itr lo n).yld i H x H'→g x σ H' fun σ2 H2=>tb { D with nx:=N,ct:=N,bk:=D.nx } σ2 H2)
def ZLg (K:PySem.W.Frag) (a:Addr) (g:TG) (tb:TS) (D:Ends) (σ:St) (H:Hp):Prop:=
 ∃ W:Nat→Nat→St→Hp→Prop,(∃ m,W 0 m σ H)∧∀ i m σ H,W i m σ H→
   ((Itl K a).stop i H∧D.nx σ H)∨((Itl K a).go i H∧∃ N:St→Hp→Prop,(∀ σ' H',N σ' H'→∃ m',m' < m∧W (i + 1) m' σ' H')∧∀ x H',(Itl K a).yld i H x H'→g x σ H' fun σ2 H2=>tb { D with nx:=N,ct:=N,bk:=D.nx } σ2 H2)
def ZLi (K:PySem.W.Frag) (a:Addr) (g:TG) (tb:TS) (D:Ends) (σ:St) (H:Hp):Prop:=
 ∃ W:Nat→Nat→St→Hp→Prop,(∃ m,W 0 m σ H)∧∀ i m σ H,W i m σ H→
   ((Itt K a).stop i H∧D.nx σ H)∨((Itt K a).go i H∧∃ N:St→Hp→Prop,(∀ σ' H',N σ' H'→∃ m',m' < m∧W (i + 1) m' σ' H')∧∀ x H',(Itt K a).yld i H x H'→g x σ H' fun σ2 H2=>tb { D with nx:=N,ct:=N,bk:=D.nx } σ2 H2)
section
variable {σ:St} {H:Hp} {D:Ends} {K:PySem.W.Frag} {g:TG} {tb:TS}
theorem ZGp {ta:TA} (h:ta σ H fun vs H1=>∃ j:Int,vs=[.int j]∧-(2 ^ 62)≤j∧j < 2 ^ 62∧ZLh 0 j.toNat g tb D σ H1):tFor (ZKk ta) g tb D σ H:=h
theorem Zwm {n:Nat} (Pv:Nat→St→Hp→Prop) (h0:Pv 0 σ H) (hs:∀ (i:Nat) σ H,i < n→Pv i σ H→g (.int (i:Int)) σ H fun σ2 H2=>tb { D with nx:=Pv (i + 1),ct:=Pv (i + 1),bk:=D.nx } σ2 H2) (hd:∀ σ H,Pv n σ H→D.nx σ H):ZLh 0 n g tb D σ H:=ZGd Pv h0 (fun i σ H hi p=>by rw [Int.zero_add]; exact hs i σ H hi p) hd
theorem ZNs {a:Addr} {xs:List V} (Pv:Nat→St→Hp→Prop) (h0:Pv 0 σ H) (hl:∀ i σ H,i≤xs.length→Pv i σ H→SqL K H a xs) (hs:∀ i x σ H,xs[i]?=some x→Pv i σ H→g x σ H fun σ2 H2=>tb { D with nx:=Pv (i + 1),ct:=Pv (i + 1),bk:=D.nx } σ2 H2) (hd:∀ σ H,Pv xs.length σ H→D.nx σ H):ZLg K a g tb D σ H:=ZH9 Pv h0 hl hs hd
theorem ZNt {a:Addr} {xs:List V} (Pv:Nat→St→Hp→Prop) (h0:Pv 0 σ H) (hl:∀ i σ H,i≤xs.length→Pv i σ H→SqT K H a xs) (hs:∀ i x σ H,xs[i]?=some x→Pv i σ H→g x σ H fun σ2 H2=>tb { D with nx:=Pv (i + 1),ct:=Pv (i + 1),bk:=D.nx } σ2 H2) (hd:∀ σ H,Pv xs.length σ H→D.nx σ H):ZLi K a g tb D σ H:=ZKe Pv h0 hl hs hd
end
def Its (x:Str):It:=⟨fun i _=>i < x.cps.size,fun i H v H'=>H'=H∧∃ c,x.cps[i]?=some c∧v=.str ⟨#[c]⟩,fun i _=>x.cps.size≤i⟩
theorem ZHP {P:Program} {w:World} {K:PySem.W.Frag} {tg:Expr} (x:Str) (t:Tok) (it:Addr):Turn P w K tg (Its x) [it] it (fun i h=>h.IsStrIter it "str_ascii_iterator" x t i) where
 mem:=by simp
 obj:=fun i h st b hb=>by
  have e:b=it:=by simpa using hb
  subst e
  obtain ⟨o,e,c,d⟩ :=st
  exact ⟨o,e,fun v z=>by rw [d] at z; cases z⟩
 keep:=fun i h h' st k=>let ⟨o,ho,r⟩ :=st; ⟨o,k it (by simp) o ho,r⟩
 item:=by
  intro X hP hw hK hc i pins s σ H E I hf st hg
  subst hP hw hK
  obtain ⟨f0,f1,f2,f3,f4,f5⟩ :=hf it (by simp)
  have hg:i < x.cps.size:=hg
  refine wpAny_pyNext_ascii_item st (c:=x.cps[i]) (by simp [hg]) fun h' st' sb=>?_
  have I1:Inv X pins σ H { s with heap:=h',toks:=s.toks + 1 }:=I.turned (fun b o hb e=>(sb.2 b hb).trans e) f0 f1 f3 f4 f5
  obtain ⟨o,e,c,d⟩ :=id st'
  exact ⟨_,rfl,ZFa (s:={ s with heap:=h',toks:=s.toks + 1 }) e c d (by decide) ⟨.str ⟨#[x.cps[i]]⟩,H,I1,⟨_,rfl⟩,⟨rfl,_,by simp [hg],rfl⟩,st',fun b hb=>(hf b hb).1⟩⟩
 done:=by
  intro X hP hw hK hc i pins s σ H E I hf st hg
  subst hP hw hK
  obtain ⟨f0,f1,f2,f3,f4,f5⟩ :=hf it (by simp)
  have hg:x.cps.size≤i:=hg
  exact wpAny_pyNext_ascii_end (I.ok.hd hc) st (by simp [hg]) fun h' eb=>⟨rfl,I.turned (t':=s.toks) (fun b o hb e=>eb b o hb e) f0 f1 f3 f4 f5⟩
 self:=fun _ _ _ _ _ st h=>wpAny_pyIter_striter_ascii st h
theorem ZHQ {P:Program} {w:World} {K:PySem.W.Frag} {tg:Expr} (x:Str) (t:Tok) (it:Addr):Turn P w K tg (Its x) [it] it (fun i h=>h.IsStrIter it "str_iterator" x t i) where
 mem:=by simp
 obj:=fun i h st b hb=>by
  have e:b=it:=by simpa using hb
  subst e
  obtain ⟨o,e,c,d⟩ :=st
  exact ⟨o,e,fun v z=>by rw [d] at z; cases z⟩
 keep:=fun i h h' st k=>let ⟨o,ho,r⟩ :=st; ⟨o,k it (by simp) o ho,r⟩
 item:=by
  intro X hP hw hK hc i pins s σ H E I hf st hg
  subst hP hw hK
  obtain ⟨f0,f1,f2,f3,f4,f5⟩ :=hf it (by simp)
  have hg:i < x.cps.size:=hg
  refine wpAny_pyNext_wide_item st (c:=x.cps[i]) (by simp [hg]) fun h' st' sb=>?_
  have I1:Inv X pins σ H { s with heap:=h',toks:=s.toks + 1 }:=I.turned (fun b o hb e=>(sb.2 b hb).trans e) f0 f1 f3 f4 f5
  obtain ⟨o,e,c,d⟩ :=id st'
  exact ⟨_,rfl,ZFa (s:={ s with heap:=h',toks:=s.toks + 1 }) e c d (by decide) ⟨.str ⟨#[x.cps[i]]⟩,H,I1,⟨_,rfl⟩,⟨rfl,_,by simp [hg],rfl⟩,st',fun b hb=>(hf b hb).1⟩⟩
 done:=by
  intro X hP hw hK hc i pins s σ H E I hf st hg
  subst hP hw hK
  obtain ⟨f0,f1,f2,f3,f4,f5⟩ :=hf it (by simp)
  have hg:x.cps.size≤i:=hg
  exact wpAny_pyNext_wide_end (I.ok.hd hc) st (by simp [hg]) fun h' eb=>⟨rfl,I.turned (t':=s.toks) (fun b o hb e=>eb b o hb e) f0 f1 f3 f4 f5⟩
 self:=fun _ _ _ _ _ st h=>wpAny_pyIter_striter_wide st h
def iSeq (K:PySem.W.Frag) (tl:TE):TI:=fun σ H R=>tl σ H fun x H1=>(∃ a xs,x=.ref a∧SqL K H1 a xs∧R (Itl K a) H1)∨(∃ a xs,x=.ref a∧SqT K H1 a xs∧R (Itt K a) H1)∨(∃ z,x=.str z∧R (Its z) H1)
theorem ZdK {X:Cx} {tg:Expr} {l:Expr} {tl:TE} (hl:PE X l tl):PI X tg l (iSeq X.K tl):=by
 intro pins s σ H R I h
 refine thn (hl pins s σ H _ I h) fun v s1 ⟨x,H1,I1,r1,q1⟩ =>?_
 have fp:∀ b ∈ [s1.heap.objs.size],FpOk X pins H1 b:=fun b hb=>by
  have e:b=s1.heap.objs.size:=by simpa using hb
  subst e
  exact I1.fpOk (Nat.le_refl _) (I1.hok.fresh (Nat.le_refl _))
 rcases q1 with ⟨a,xs,e,hq,q⟩ | ⟨a,xs,e,hq,q⟩ | ⟨z,e,q⟩
 ·subst e
  cases r1
  obtain ⟨its,rv,p,hz⟩ :=I1.list hq
  refine wpAny_pyIter_list p.isList ?_
  exact ⟨s1.heap.objs.size,[s1.heap.objs.size],_,_,H1,rfl,I1.kept (t':=s1.toks) fun b o e=>Heap.get?_push_of_some _ e,ZHO a _,⟨_,Heap.get?_push_size _ rfl,rfl,rfl⟩,fp,q⟩
 ·subst e
  cases r1
  obtain ⟨its,rv,p,hz⟩ :=I1.tuple hq
  refine wpAny_pyIter_tuple (show s1.heap.IsTuple a its.toArray from p) ?_
  exact ⟨s1.heap.objs.size,[s1.heap.objs.size],_,_,H1,rfl,I1.kept (t':=s1.toks) fun b o e=>Heap.get?_push_of_some _ e,ZFD a _,⟨_,Heap.get?_push_size _ rfl,rfl,rfl⟩,fp,q⟩
 ·subst e
  obtain ⟨t,rfl⟩ :=r1
  cases ha:z.cps.all (· < 128) with
  | false=>
   refine wpAny_pyIter_wide ha ?_
   exact ⟨s1.heap.objs.size,[s1.heap.objs.size],_,_,H1,rfl,I1.kept (t':=s1.toks) fun b o e=>Heap.get?_push_of_some _ e,ZHQ z t _,⟨_,Heap.get?_push_size _ rfl,rfl,rfl⟩,fp,q⟩
  | true=>
   refine wpAny_pyIter_ascii ha ?_
   exact ⟨s1.heap.objs.size,[s1.heap.objs.size],_,_,H1,rfl,I1.kept (t':=s1.toks) fun b o e=>Heap.get?_push_of_some _ e,ZHP z t _,⟨_,Heap.get?_push_size _ rfl,rfl,rfl⟩,fp,q⟩
def ZNe (x:Str) (g:TG) (tb:TS) (D:Ends) (σ:St) (H:Hp):Prop:=
 ∃ W:Nat→Nat→St→Hp→Prop,(∃ m,W 0 m σ H)∧∀ i m σ H,W i m σ H→
   ((Its x).stop i H∧D.nx σ H)∨((Its x).go i H∧∃ N:St→Hp→Prop,(∀ σ' H',N σ' H'→∃ m',m' < m∧W (i + 1) m' σ' H')∧∀ x' H',(Its x).yld i H x' H'→g x' σ H' fun σ2 H2=>tb { D with nx:=N,ct:=N,bk:=D.nx } σ2 H2)
def SeqW (K:PySem.W.Frag) (x:V) (g:TG) (tb:TS) (D:Ends) (σ:St) (H1:Hp):Prop:=
 (∃ a xs,x=.ref a∧SqL K H1 a xs∧ZLg K a g tb D σ H1)∨(∃ a xs,x=.ref a∧SqT K H1 a xs∧ZLi K a g tb D σ H1)∨(∃ z,x=.str z∧ZNe z g tb D σ H1)
section
variable {σ:St} {H:Hp} {D:Ends} {K:PySem.W.Frag} {g:TG} {tb:TS}
theorem ZJu {tl:TE} (h:tl σ H fun x H1=>SeqW K x g tb D σ H1):tFor (iSeq K tl) g tb D σ H:=h
theorem seqL {a:Addr} {xs:List V} (Pv:Nat→St→Hp→Prop) (h0:Pv 0 σ H) (hl:∀ i σ H,i≤xs.length→Pv i σ H→SqL K H a xs) (hs:∀ i x σ H,xs[i]?=some x→Pv i σ H→g x σ H fun σ2 H2=>tb { D with nx:=Pv (i + 1),ct:=Pv (i + 1),bk:=D.nx } σ2 H2) (hd:∀ σ H,Pv xs.length σ H→D.nx σ H):SeqW K (.ref a) g tb D σ H:=.inl ⟨a,xs,rfl,hl 0 σ H (Nat.zero_le _) h0,ZNs Pv h0 hl hs hd⟩
theorem seqT {a:Addr} {xs:List V} (Pv:Nat→St→Hp→Prop) (h0:Pv 0 σ H) (hl:∀ i σ H,i≤xs.length→Pv i σ H→SqT K H a xs) (hs:∀ i x σ H,xs[i]?=some x→Pv i σ H→g x σ H fun σ2 H2=>tb { D with nx:=Pv (i + 1),ct:=Pv (i + 1),bk:=D.nx } σ2 H2) (hd:∀ σ H,Pv xs.length σ H→D.nx σ H):SeqW K (.ref a) g tb D σ H:=.inr (.inl ⟨a,xs,rfl,hl 0 σ H (Nat.zero_le _) h0,ZNt Pv h0 hl hs hd⟩)
theorem seqX {x:Str} (Pv:Nat→St→Hp→Prop) (h0:Pv 0 σ H) (hs:∀ (i:Nat) (c:Nat) σ H,x.cps[i]?=some c→Pv i σ H→g (.str ⟨#[c]⟩) σ H fun σ2 H2=>tb { D with nx:=Pv (i + 1),ct:=Pv (i + 1),bk:=D.nx } σ2 H2) (hd:∀ σ H,Pv x.cps.size σ H→D.nx σ H):SeqW K (.str x) g tb D σ H:=by
 refine .inr (.inr ⟨x,rfl,fun i m σ H=>m=x.cps.size - i∧i≤x.cps.size∧Pv i σ H,⟨x.cps.size,by simp,Nat.zero_le _,h0⟩,?_⟩)
 rintro i m σ H ⟨rfl,hi,p⟩
 by_cases hlt:i < x.cps.size
 ·refine .inr ⟨hlt,Pv (i + 1),fun σ' H' p'=>⟨x.cps.size - (i + 1),by omega,rfl,hlt,p'⟩,fun x' H' y=>?_⟩
  obtain ⟨e,c,hc,y⟩ :=y
  subst e y
  exact hs i c σ _ hc p
 ·have e:i=x.cps.size:=by omega
  subst e
  exact .inl ⟨Nat.le_refl _,hd σ H p⟩
end
section
variable (P:Program) (w:World) (K:PySem.W.Frag) (mg:Str→Option Value) (base:Heap)
def FnS (k:Nat) (x:Str) (ps:List Str) (sp:Sp):Prop:=∃ f fd,FnOk P w K mg base CX0 k f fd ps sp∧ZaZ K fd ps []∧PySem.W.keepIn K (.ref f)=true∧mg x=some (.ref f)
def MeS (k:Nat) (C:Addr) (m:Str) (ps:List Str) (sp:Sp):Prop:=Cls K C∧∃ f fd,FnOk P w K mg base CX0 k f fd ps sp∧ZaZ K fd ps []∧Meth K C m f
def MkS (k:Nat) (x:Str) (C:Addr) (ps:List Str) (sp:Sp):Prop:=mg x=some (.ref C)∧∃ f fd,Mk K C f∧FnOk P w K mg base CX0 k f fd ps sp∧ZaZ K fd ps []
end
def tFn (sp:Sp) (t:TA):TE:=fun σ H Q=>t σ H fun vs H1=>sp vs H1 Q E0
def MkG (C:Addr) (sp:Sp) (vs:List V) (H1:Hp) (Q:VK):Prop:=∀ x dx,H1 x=none→H1 dx=none→dx ≠ x→
 sp (.ref x :: vs) (upd (upd H1 dx (.own x)) x (.ins C dx [])) (fun v H2=>v=.non∧Q (.ref x) H2) E0
def tMk (C:Addr) (sp:Sp) (t:TA):TE:=fun σ H Q=>t σ H fun vs H1=>MkG C sp vs H1 Q
def tDy (D:Addr→Prop) (m:Str) (sp:Sp) (ta:TE) (t:TA):TE:=fun σ H Q=>ta σ H fun x H1=>∃ a C dx fs,x=.ref a∧H1 a=some (.ins C dx fs)∧D C∧fs.lookup m=none∧
 t σ H1 fun vs H2=>H2 a=some (.ins C dx fs)∧sp (x :: vs) H2 Q E0
def spAt (sp:Sp) (C:Addr):Sp:=fun vs H Q E=>sp vs H Q E∧∃ a dx fs r,vs=V.ref a :: r∧H a=some (.ins C dx fs)
theorem i_fn {sp:Sp} {t:TA} {σ:St} {H:Hp} {Q:VK} (h:t σ H fun vs H1=>sp vs H1 Q E0):tFn sp t σ H Q:=h
theorem i_mk {C:Addr} {sp:Sp} {t:TA} {σ:St} {H:Hp} {Q:VK} (h:t σ H fun vs H1=>MkG C sp vs H1 Q):tMk C sp t σ H Q:=h
theorem i_dy {D:Addr→Prop} {m:Str} {sp:Sp} {ta:TE} {t:TA} {σ:St} {H:Hp} {Q:VK} (h:ta σ H fun x H1=>∃ a C dx fs,x=.ref a∧H1 a=some (.ins C dx fs)∧D C∧fs.lookup m=none∧
 t σ H1 fun vs H2=>H2 a=some (.ins C dx fs)∧sp (x :: vs) H2 Q E0):tDy D m sp ta t σ H Q:=h
theorem ZCy (sp:Sp) (t:TA):ZK7 sp [] E0 t=tFn sp t:=by
 funext σ H Q
 unfold ZK7 tFn
 have e:(fun (vs:List V) (H1:Hp)=>sp (vs ++ []) H1 Q E0)=fun vs H1=>sp vs H1 Q E0:=by
  funext vs H1; rw [List.append_nil]
 rw [e]
theorem ZCz (C:Addr) (sp:Sp) (t:TA):ZI9 C sp [] E0 t=tMk C sp t:=by
 funext σ H Q
 unfold ZI9 tMk MkG
 congr 1
 funext vs H1
 rw [List.append_nil]
section
variable {X:Cx} {k k':Nat} {x m:Str} {C:Addr} {ps:List Str} {sp:Sp} {e o:Expr} {es:List Expr} {ta:TE} {t:TA} {p pos apos:Pos}
theorem Zbq (G:FnS X.prog X.w X.K X.mg X.base k x ps sp) (hr:Room k' X.A) (ha:PA X (e :: es) t) (hk:k≤k':=by omega) (hg:Gl X x:=by rfl) (hdb:(x == ("__debug__" : Str))=false:=by decide)
  (he:starEach (e :: es) X.env=(false,eval e X.env) :: starEach es X.env:=by rfl) (hpl:(backTo pos (starEach es X.env)).any (·.1)=false:=by rfl):PE X (.Call (.Name x p) (e :: es) [] pos) (tFn sp t):=by
 obtain ⟨f,fd,F,hb,kp,hm⟩ :=G
 rw [← ZCy]
 exact ZDy F (hr.mono hk) hg hm kp hb .nil ZHe ha hdb he hpl
theorem Zng (G:MkS X.prog X.w X.K X.mg X.base k x C ps sp) (hr:Room k' X.A) (ha:PA X (e :: es) t) (hk:k + 1≤k':=by omega) (hg:Gl X x:=by rfl) (hdb:(x == ("__debug__" : Str))=false:=by decide)
  (he:starEach (e :: es) X.env=(false,eval e X.env) :: starEach es X.env:=by rfl) (hpl:(backTo pos (starEach es X.env)).any (·.1)=false:=by rfl):PE X (.Call (.Name x p) (e :: es) [] pos) (tMk C sp t):=by
 obtain ⟨hm,f,fd,M,F,hb⟩ :=G
 rw [← ZCz]
 exact ZKO M F (hr.mono hk) hg hm hb .nil ZHe ha hdb he hpl
theorem ZJV (G:MkS X.prog X.w X.K X.mg X.base k x C ps sp) (hr:Room k' X.A) (hk:k + 1≤k':=by omega) (hg:Gl X x:=by rfl) (hdb:(x == ("__debug__" : Str))=false:=by decide):PE X (.Call (.Name x p) [] [] pos) (tMk C sp tNil):=by
 obtain ⟨hm,f,fd,M,F,hb⟩ :=G
 rw [← ZCz]
 exact ZIM M F (hr.mono hk) hg hm hb .nil ZHe hdb
theorem ZxB {pl:Sem Bool} {D:Addr→Prop} (hD:∀ C,D C→MeS X.prog X.w X.K X.mg X.base k C m ps (spAt sp C)) (hr:Room k' X.A) (ho:PE X o ta) (ha:PA X (e :: es) t) (hk:k≤k':=by omega)
  (hst:starEach (e :: es) X.env=(false,eval e X.env) :: starEach es X.env:=by rfl) (hpl:(backTo pos (starEach es X.env)).any (·.1)=false:=by rfl)
  (ht:eval (.Call (.Attribute o m apos) (e :: es) [] pos) X.env=(do
   let ov ← eval o X.env
   standAt apos.atName
   let (f,first) ← holding [ov] (getMethod ov m pl)
   callWith pos f first (backTo pos (starEach (e :: es) X.env)) (backToKw pos (keywordEach [] X.env))):=by rfl) :
  PE X (.Call (.Attribute o m apos) (e :: es) [] pos) (tDy D m sp ta t):=by
 intro pins s σ H Q I h
 refine PySem.W.methodCall_KW (pl:=pl) (thn (ho pins s σ H _ I h) fun u s1 ⟨x,H1,I1,rx,a,C,dx,fs,ex,ea,hC,l,q⟩ =>?_) ht
 subst ex
 obtain rfl:u=Value.ref a:=rx
 obtain ⟨c,f,fd,F,hb,hm⟩ :=hD C hC
 refine Zsi I1 ea c hm l ?_
 refine PySem.W.callWith_K (first:=[.ref a]) (h₀:=X.base) I.ok.mod.kin hm.kp (thn (ha pos pins s1 σ H1 _ I1 q) fun us s2 ⟨vs,H2,I2,r,eb,q2⟩ =>⟨I2.kIn,?_⟩) hst hpl
 exact ZEO (us:=.ref a :: us) (vs:=.ref a :: vs) (dvs:=[]) (E:=E0) F (hr.mono hk) hb .nil ZHe I2 (.cons rfl r) (by rw [List.append_nil]; exact ⟨q2,a,dx,fs,vs,rfl,eb⟩)
theorem ZB8 {pl:Sem Bool} {D:Addr→Prop} (hD:∀ C,D C→MeS X.prog X.w X.K X.mg X.base k C m ps (spAt sp C)) (hr:Room k' X.A) (ho:PE X o ta) (hk:k≤k':=by omega)
  (ht:eval (.Call (.Attribute o m apos) [] [] pos) X.env=(do
   let ov ← eval o X.env
   standAt apos.atName
   let (f,first) ← holding [ov] (getMethod ov m pl)
   callWith pos f first (backTo pos (starEach [] X.env)) (backToKw pos (keywordEach [] X.env))):=by rfl) :
  PE X (.Call (.Attribute o m apos) [] [] pos) (tDy D m sp ta tNil):=by
 intro pins s σ H Q I h
 refine PySem.W.methodCall_KW (pl:=pl) (thn (ho pins s σ H _ I h) fun u s1 ⟨x,H1,I1,rx,a,C,dx,fs,ex,ea,hC,l,eb,q⟩ =>?_) ht
 subst ex
 obtain rfl:u=Value.ref a:=rx
 obtain ⟨c,f,fd,F,hb,hm⟩ :=hD C hC
 refine Zsi I1 ea c hm l ?_
 exact PySem.W.callWith_K0 (first:=[.ref a]) I1.kIn hm.kp (ZEO (us:=[.ref a]) (vs:=[.ref a]) (dvs:=[]) (E:=E0) F (hr.mono hk) hb .nil ZHe I1 (.cons rfl .nil) (by rw [List.append_nil]; exact ⟨q,a,dx,fs,[],rfl,eb⟩))
theorem ss (i:Nat) {x:Str} {e:Expr} {te:TE} {pos pos':Pos} (hN:X.N.Nodup) (he:PE X e te) (hi:X.N[i]?=some x:=by rfl) (hx:Loc X.env.scope x:=by first | exact Or.inl rfl | exact Or.inr rfl)
  (hs:swapsWith e (some (.Name x pos')) pos.line X.env=pure false:=by rfl) (hf:X.fn x=true∨X.env.scope.names.lookup x=some .local:=by first | exact .inl rfl | exact .inr rfl):PS X (.Assign [.Name x pos'] e pos) (tAsg te (Zv0 i)):=
 ZMw hN hi hx he hs hf
theorem sg (i:Nat) {x:Str} {pos:Pos} (hN:X.N.Nodup) (hi:X.N[i]?=some x:=by rfl) (hx:Loc X.env.scope x:=by first | exact Or.inl rfl | exact Or.inr rfl) (hf:X.fn x=true∨X.env.scope.names.lookup x=some .local:=by first | exact .inl rfl | exact .inr rfl):PG X (.Name x pos) (Zv0 i):=ZzU hN hi hx hf
def rIsi (K:PySem.W.Frag):List V→Hp→VK→Prop:=fun xs H Q=>∃ x t b,TyOf K H x t∧((∃ n,xs=[x,.ty n]∧PySem.W.kitOne K t (.type n)=some b)∨(∃ c,xs=[x,.ref c]∧PySem.W.kitOne K t (.ref c)=some b))∧Q (.bl b) H
theorem ZDV:Zr1 X (.builtin "isinstance") (rIsi X.K):=by
 intro pins s σ H xs us Q I r h
 obtain ⟨x,t,b,ty,h,q⟩ :=h
 rcases h with ⟨n,rfl,e⟩ | ⟨c,rfl,e⟩
 ·obtain ⟨u,v,rfl,ru,rv⟩ :=ZLb r
  obtain rfl:v=Value.type n:=rv
  exact ZBm I ru ty e fun tk=>⟨.bl b,H,I.tok tk,rfl,q⟩
 ·obtain ⟨u,v,rfl,ru,rv⟩ :=ZLb r
  obtain rfl:v=Value.ref c:=rv
  exact ZBm I ru ty e fun tk=>⟨.bl b,H,I.tok tk,rfl,q⟩
theorem ZJx {K:PySem.W.Frag} {x:V} {n:String} {t:Value} {b:Bool} {H:Hp} {Q:VK} (ty:TyOf K H x t) (e:PySem.W.kitOne K t (.type n)=some b) (h:Q (.bl b) H):rIsi K [x,.ty n] H Q:=⟨x,t,b,ty,.inl ⟨n,rfl,e⟩,h⟩
def ZHp:R2:=fun x y H Q=>rI0 (fun i j=>V.int (i + j)) x y H Q∨(∃ i j,x=.str i∧y=.str j∧i.length + j.length≤sizeLine∧Q (.str (i ++ j)) H)∨rCat x y H Q
theorem ZaC:OpR X (binaryOp .Add) ZHp:=OpR.or ZMg (OpR.or ZFs ZMh)
theorem ZJn {i j:Int} {H:Hp} {Q:VK} (h:Q (.int (i + j)) H):ZHp (.int i) (.int j) H Q:=.inl ⟨i,j,rfl,rfl,h⟩
theorem ZcR {i j:Str} {H:Hp} {Q:VK} (z:i.length + j.length≤sizeLine) (h:Q (.str (i ++ j)) H):ZHp (.str i) (.str j) H Q:=.inr (.inl ⟨i,j,rfl,rfl,z,h⟩)
end
section
variable {X:Cx} {K:PySem.W.Frag} {H:Hp} {Q:VK} {a:Expr} {ta:TE} {pos:Pos}
theorem ZfG:bootBuiltins "len" = some (.builtin "len"):=by decide +kernel
theorem Zqc:bootBuiltins "isinstance" = some (.builtin "isinstance"):=by decide +kernel
theorem ZLm:bootBuiltins "max" = some (.builtin "max"):=by decide +kernel
theorem ZLl:bootBuiltins "int" = some (.type "int"):=by decide +kernel
theorem ZLn:bootBuiltins "str" = some (.type "str"):=by decide +kernel
theorem ZyT:bootBuiltins "list" = some (.type "list"):=by decide +kernel
theorem ZnE:bootBuiltins "tuple" = some (.type "tuple"):=by decide +kernel
theorem ZA2:bootBuiltins "enumerate" = some (.type "enumerate"):=by decide +kernel
theorem ZLo:bootBuiltins "zip" = some (.type "zip"):=by decide +kernel
def GC (mg:Str→Option Value) (x:Str) (v:V):Prop:=∃ u,mg x=some u∧RelV v u
theorem ZxC {x:Str} {v:V} (hg:Gl X x) (h:GC X.mg x v) (hd:(x == ("__debug__" : Str))=false:=by decide):PE X (.Name x pos) (tC v):=by
 obtain ⟨u,e,r⟩ :=h
 exact ZKN hg e r hd
def rLen (K:PySem.W.Frag):List V→Hp→VK→Prop:=fun xs H Q=>∃ x n,xs=[x]∧LenV K x H n∧Q (.int n) H
theorem Zbl:Zr1 X (.builtin "len") (rLen X.K):=ZH7
theorem ZGq {p:Addr} {xs:List V} (h:SqL K H p xs) (k:Q (.int xs.length) H):rLen K [.ref p] H Q:=⟨_,_,rfl,.inl ⟨xs,h,rfl⟩,k⟩
theorem ZJy {p:Addr} {xs:List V} (h:H p=some (.lst xs)) (k:Q (.int xs.length) H):rLen K [.ref p] H Q:=⟨_,_,rfl,.inl ⟨xs,SqL.of h,rfl⟩,k⟩
theorem ZLM {x:Str} (z:x.length≤sizeLine) (k:Q (.int x.length) H):rLen K [.str x] H Q:=⟨_,_,rfl,⟨z,rfl⟩,k⟩
def ZMz:List V→Hp→VK→Prop:=fun xs H Q=>∃ i j,xs=[.int i,.int j]∧Q (.int (if j > i then j else i)) H
theorem ZFX (hc:X.calm=true):Zr1 X (.builtin "max") ZMz:=ZFW hc
theorem ZLO {i j:Int} (h:Q (.int (max i j)) H):ZMz [.int i,.int j] H Q:=by
 refine ⟨i,j,rfl,?_⟩
 have e:(if j > i then j else i)=max i j:=by split <;> omega
 rw [e]; exact h
def ZMy:List V→Hp→VK→Prop:=fun xs H Q=>(∃ i,xs=[.int i]∧Q (.int i) H)∨∃ k,xs=[.bl k]∧Q (.int (if k then 1 else 0)) H
theorem ZFV:Zr1 X (.type "int") ZMy:=ZFU
theorem ZJw {b:Bool} (h:Q (.int (if b then 1 else 0)) H):ZMy [.bl b] H Q:=.inr ⟨b,rfl,h⟩
def ZHt (K:PySem.W.Frag):List V→Hp→VK→Prop:=fun xs H Q=>∃ p ys,xs=[.ref p]∧(SqL K H p ys∨SqT K H p ys)∧∀ l,H l=none→Q (.ref l) (upd H l (.lst ys))
theorem Zsa:Zr1 X (.type "list") (ZHt X.K):=ZA4
def ZJY (K:PySem.W.Frag):List V→Hp→VK→Prop:=fun xs H Q=>∃ p ys,xs=[.ref p]∧((SqL K H p ys∧∀ l,H l=none→Q (.ref l) (upd H l (.tup ys)))∨(SqT K H p ys∧Q (.ref p) H))
theorem ZfK:Zr1 X (.type "tuple") (ZJY X.K):=ZyX
theorem Zyg {p:Addr} {ys:List V} (h:H p=some (.lst ys)) (k:∀ l,H l=none→Q (.ref l) (upd H l (.tup ys))):ZJY K [.ref p] H Q:=⟨p,ys,rfl,.inl ⟨SqL.of h,k⟩⟩
theorem ZNl {p:Addr} {xs:List V} {j:Nat} {v:V} (h:SqL K H p xs) (e:xs[j]?=some v) (k:Q v H):rIx K (.ref p) (.int (j:Int)) H Q:=.inl ⟨p,xs,j,v,rfl,rfl,h,ZyQ e,k⟩
theorem ZdP {p:Addr} {xs:List V} {j:Nat} {v:V} (h:H p=some (.lst xs)) (e:xs[j]?=some v) (k:Q v H):rIx K (.ref p) (.int (j:Int)) H Q:=.inl ⟨p,xs,j,v,rfl,rfl,SqL.of h,ZyQ e,k⟩
theorem ZEg {p:Addr} {xs:List V} {i:Int} {v:V} (h:H p=some (.lst xs)) (e:atI xs i=some v) (k:Q v H):rIx K (.ref p) (.int i) H Q:=.inl ⟨p,xs,i,v,rfl,rfl,SqL.of h,e,k⟩
theorem ZkW {p:Addr} {xs:List V} {i:Int} {v:V} (h:H p=some (.tup xs)) (e:atI xs i=some v) (k:Q v H):rIx K (.ref p) (.int i) H Q:=.inr (.inl ⟨p,xs,i,v,rfl,rfl,SqT.of h,e,k⟩)
theorem ZKq {x:Str} {i:Int} {c:Nat} (z:x.length≤sizeLine) (e:atI x.cps.toList i=some c) (k:Q (.str ⟨#[c]⟩) H):rIx K (.str x) (.int i) H Q:=.inr (.inr ⟨x,i,c,rfl,rfl,z,e,k⟩)
def rSlG (K:PySem.W.Frag):V→Option Int→Option Int→Hp→VK→Prop:=fun x lo hi H Q=>rSlL K x lo hi H Q∨rSlT K x lo hi H Q
theorem ZMK:SlR X (rSlG X.K):=SlR.or ZKW ZMM
theorem ZNn {p:Addr} {xs:List V} {lo hi:Option Int} (h:SqL K H p xs) (k:∀ l,H l=none→Q (.ref l) (upd H l (.lst (cutV xs lo hi)))):rSlG K (.ref p) lo hi H Q:=.inl ⟨p,xs,rfl,h,k⟩
def ZMA:R2:=rI CMul fun i j=>V.int (i * j)
theorem Zsz:OpR X (binaryOp .Mult) ZMA:=ZMl
theorem ZBj {i j:Int} (c:CMul i j) (h:Q (.int (i * j)) H):ZMA (.int i) (.int j) H Q:=⟨i,j,rfl,rfl,c,h⟩
def rInG (K:PySem.W.Frag):R2:=fun x y H Q=>(∃ i j,x=.str i∧y=.str j∧Q (.bl (!(Builtin.Str.occurrences j i 0 j.length 1).isEmpty)) H)∨rIn K false x y H Q
def ZDA (K:PySem.W.Frag):R2:=fun x y H Q=>(∃ i j,x=.str i∧y=.str j∧Q (.bl (!(!(Builtin.Str.occurrences j i 0 j.length 1).isEmpty))) H)∨rIn K true x y H Q
theorem ZwN:OpR X (compareOp .In) (rInG X.K):=OpR.or ZHb ZHa
theorem Zrt:OpR X (compareOp .NotIn) (ZDA X.K):=OpR.or ZB5 ZB4
theorem ZIg {l:Addr} {xs:List V} {y:V} (h:H l=some (.lst xs)) (z:xs.length < sizeLine) (k:Q .non (upd H l (.lst (xs ++ [y])))):Zz2 (.ref l) [y] H Q:=⟨l,xs,y,rfl,rfl,h,z,k⟩
theorem ZKl {l:Addr} {xs:List V} (h:H l=some (.lst xs)) (k:Q .non (upd H l (.lst []))):ZHq (.ref l) [] H Q:=⟨l,xs,rfl,rfl,h,k⟩
theorem ZNm {l:Addr} {xs:List V} {y:V} (h:H l=some (.lst (xs ++ [y]))) (k:Q y (upd H l (.lst xs))):rPop (.ref l) [] H Q:=⟨l,xs ++ [y],y,rfl,rfl,h,by simp,by rw [List.dropLast_concat]; exact k⟩
theorem tyL {l:Addr} {xs:List V} (h:H l=some (.lst xs)):tyV K "list" (.ref l) H:=.inl ⟨rfl,xs,SqL.of h⟩
end
theorem Zbn {n:Nat} (h:n≤1000000):n≤sizeLine:=Nat.le_trans h (by decide)
theorem ZET {n:Nat} (h:n < 1000000):n < sizeLine:=Nat.lt_of_lt_of_le h (by decide)
theorem Zbp {l:List Addr} (h:l.Nodup) {i j:Nat} {a b:Addr} (ha:l[i]?=some a) (hb:l[j]?=some b) (hij:i ≠ j):a ≠ b:=by
 intro e
 subst e
 obtain ⟨h1,e1⟩ :=List.getElem?_eq_some_iff.mp ha
 obtain ⟨h2,e2⟩ :=List.getElem?_eq_some_iff.mp hb
 exact hij ((List.getElem_inj h).mp (e1.trans e2.symm))
theorem ZEq (K:PySem.W.Frag) (n:String):PySem.W.kitOne K (.type n) (.type n)=some true:=by
 unfold PySem.W.kitOne
 rw [if_pos (by simp)]
theorem ZdU {H:Hp} {p:Addr} (h:H p=none) (o:HO):Same H (upd H p o):=fun b u q=>by rw [ZaS (Zaf q h)]; exact q
theorem Znq {H:Hp} {p q:Addr} (hp:H p=none) (hq:H q=none) (o u:HO):Same H (upd (upd H q u) p o):=fun b v e=>by rw [ZaS (Zaf e hp),ZaS (Zaf e hq)]; exact e
theorem ZGH (K:PySem.W.Frag) (D:Addr):PySem.W.kitOne K (.ref D) (.ref D)=some true:=by
 unfold PySem.W.kitOne
 rw [if_pos (by simp)]
def ZAr (C:Addr) (f:Str):Sp:=fun vs H Q _=>∃ p dx v,vs=[.ref p,v]∧H p=some (.ins C dx [])∧Q .non (upd H p (.ins C dx [(f,v)]))
theorem ZpA {C:Addr} {f:Str} {v:V} {H:Hp} {Q:VK} (h:∀ (x dx:Addr) (H':Hp),Same H H'→H x=none→H' x=some (.ins C dx [(f,v)])→Q (.ref x) H') :
  MkG C (ZAr C f) [v] H Q:=by
 intro x dx hx hdx ne
 refine ⟨x,dx,v,rfl,Zaz,rfl,?_⟩
 rw [ZLa]
 exact h x dx _ (Znq hx hdx _ _) hx Zaz
theorem lk1 (f:Str) (v:V):List.lookup f [(f,v)]=some v:=by
 have h:=Za0 f f v []
 rw [if_pos rfl] at h
 exact h
theorem lk0 {f g:Str} (v:V) (h : ¬ g=f):List.lookup g [(f,v)]=none:=by
 have e:=Za0 f g v []
 rw [if_neg h] at e
 exact e
structure Bt (mg:Str→Option Value):Prop where
 len:mg "len" = none
 range:mg "range" = none
 isinstance:mg "isinstance" = none
 int:mg "int" = none
 bool:mg "bool" = none
 str:mg "str" = none
 list:mg "list" = none
 tuple:mg "tuple" = none
 dict:mg "dict" = none
 set:mg "set" = none
 sorted:mg "sorted" = none
 max:mg "max" = none
 min:mg "min" = none
 sum:mg "sum" = none
 any:mg "any" = none
 all:mg "all" = none
 abs:mg "abs" = none
 reversed:mg "reversed" = none
 enumerate:mg "enumerate" = none
 zip:mg "zip" = none
def Ext (H H':Hp):Prop:=∀ b o,H b=some o→(∀ xs,o ≠ .lst xs)→H' b=some o
theorem Ext.of {H H':Hp} (a:Same H H'):Ext H H':=fun b o h _=>a b o h
theorem Ext.lst {H:Hp} {l:Addr} {xs:List V} (h:H l=some (.lst xs)) (o:HO):Ext H (upd H l o):=fun b u e n=>by
 rw [ZaS (Zdg e h (n xs))]; exact e
theorem ZLq {xs:List V} {k:Nat} (h:k≤xs.length):cutV xs none (some (k:Int))=xs.take k:=by
 unfold cutV
 rw [HT.sIx_none,HT.sIx_nat,Nat.min_eq_left h]
 simp
theorem ZnL {xs:List V} {k:Nat} (h:k≤xs.length):cutV xs (some (k:Int)) none=xs.drop k:=by
 unfold cutV
 rw [HT.sIx_none,HT.sIx_nat,Nat.min_eq_left h]
 rw [List.take_of_length_le (by rw [List.length_drop]; omega)]
theorem ZF2 (xs:List V) (i j:Nat):cutV xs (some (i:Int)) (some (j:Int))=(xs.drop i).take (j - i):=by
 unfold cutV
 rw [HT.sIx_nat,HT.sIx_nat]
 by_cases hi:i≤xs.length
 ·rw [Nat.min_eq_left hi]
  by_cases hj:j≤xs.length
  ·rw [Nat.min_eq_left hj]
  ·rw [Nat.min_eq_right (by omega),List.take_of_length_le (by rw [List.length_drop]; omega),List.take_of_length_le (by rw [List.length_drop]; omega)]
 ·rw [Nat.min_eq_right (show xs.length≤i by omega),List.drop_eq_nil_of_le (Nat.le_refl _),List.drop_eq_nil_of_le (show xs.length≤i by omega)]
  simp
theorem ZDd (ns:List Int) (i j:Nat):((ns.map V.int).drop i).take j=((ns.drop i).take j).map V.int:=by
 rw [List.map_take,List.map_drop]
section
variable {K:PySem.W.Frag} {H:Hp} {Q:VK}
theorem ZfD {xs:List V} (z:xs.length≤1000000) (h:∀ (p:Addr) (H':Hp),Same H H'→H p=none→H' p=some (.lst xs)→Q (.ref p) H'):NewL xs H Q:=
 ⟨Zbn z,fun p hp=>h p _ (ZdU hp _) hp Zaz⟩
theorem Zxp {xs:List V} (z:xs.length≤1000000) (h:∀ (p:Addr) (H':Hp),Same H H'→H p=none→H' p=some (.tup xs)→Q (.ref p) H'):NewT xs H Q:=
 ⟨Zbn z,fun p hp=>h p _ (ZdU hp _) hp Zaz⟩
theorem j_sl {p:Addr} {xs ys:List V} {lo hi:Option Int} (h:SqL K H p xs) (e:cutV xs lo hi=ys) (k:∀ (l:Addr) (H':Hp),Same H H'→H l=none→H' l=some (.lst ys)→Q (.ref l) H'):rSlG K (.ref p) lo hi H Q:=
 ZNn h fun l hl=>by rw [e]; exact k l _ (ZdU hl _) hl Zaz
theorem ZGx {p:Addr} {ys:List V} (h:SqL K H p ys∨SqT K H p ys) (k:∀ (l:Addr) (H':Hp),Same H H'→H l=none→H' l=some (.lst ys)→Q (.ref l) H'):ZHt K [.ref p] H Q:=
 ⟨p,ys,rfl,h,fun l hl=>k l _ (ZdU hl _) hl Zaz⟩
def But (l:Addr) (H H':Hp):Prop:=∀ b o,b ≠ l→H b=some o→H' b=some o
theorem But.ext {l:Addr} {H H':Hp} {xs:List V} (h:H l=some (.lst xs)) (s:But l H H'):Ext H H':=fun b o e n=>s b o (Zdg e h (n xs)) e
theorem But.same {l:Addr} {H0 H H':Hp} (s:But l H H') (h0:H0 l=none) (s0:Same H0 H):Same H0 H':=fun b o e=>s b o (Zaf e h0) (s0 b o e)
theorem Zpd {l:Addr} {H:Hp} {o:HO}:But l H (upd H l o):=fun b u n e=>by rw [ZaS n]; exact e
theorem Za5 {l:Addr} {xs:List V} {y:V} (h:H l=some (.lst xs)) (z:xs.length < 1000000) (k:∀ H':Hp,But l H H'→H' l=some (.lst (xs ++ [y]))→Q .non H'):Zz2 (.ref l) [y] H Q:=ZIg h (ZET z) (k _ Zpd Zaz)
theorem ZC7 {l:Addr} {xs:List V} (h:H l=some (.lst xs)) (k:∀ H':Hp,But l H H'→H' l=some (.lst [])→Q .non H'):ZHq (.ref l) [] H Q:=ZKl h (k _ Zpd Zaz)
theorem ZNq {l:Addr} {xs:List V} {y:V} (h:H l=some (.lst (xs ++ [y]))) (k:∀ H':Hp,But l H H'→H' l=some (.lst xs)→Q y H'):rPop (.ref l) [] H Q:=ZNm h (k _ Zpd Zaz)
end
end L2
set_option maxRecDepth 100000
set_option maxHeartbeats 4000000
namespace L2
open PySem PySem.Spec PyProof.Rows
def ZeQ (X:Cx) (x:Str) (ns:List Str) (scope:Scope) (cl:List (Str × Addr)) (s:Shared) (H:Hp) (ex:List Addr):Cx where
 prog:=X.prog
 w:=X.w
 K:=X.K
 mg:=X.mg
 base:=X.base
 A:=X.A
 N:=x :: ns
 s₀:=s
 H₀:=H
 env:=compEnvC scope cl s.heap.objs.size X.env
 outer:=X.stack
 stack:=X.stack
 ex:=ex
 fn:=fun _=>false
 calm:=X.calm
 pn:=[]
 xe:=fun _ _=>False
def subS (σ:St) (ix:List Nat):St:=ix.map fun k=>(σ[k]?).join
def ZxV (sc:Scope) (N:List Str) (x:Str) (ns:List Str) (ix:List Nat) (scope:Scope):Prop:=
 scope.kind=.function∧(∀ y ∈ scope.names,y.2 ≠ .cell∧(y.2=.local→scope.names.lookup y.1=some .local)∧(y.2=.free→sc.names.lookup y.1=some .cell∨sc.names.lookup y.1=some .free))∧
 scope.names.lookup x=some .local∧(∀ y ∈ ns,scope.names.lookup y=some .free)∧(ix.map fun k=>N[k]?)=ns.map some∧(x :: ns).Nodup
instance (sc:Scope) (N:List Str) (x:Str) (ns:List Str) (ix:List Nat) (scope:Scope):Decidable (ZxV sc N x ns ix scope):=by unfold ZxV; infer_instance
def ZAI (J:It) (ix:List Nat) (tc:TT) (te:TE) (σ:St) (Q:VK) (H1:Hp):Prop:=∀ acc,H1 acc=none→∃ W:Nat→Nat→List V→Hp→Prop,(∃ m,W 0 m [] (upd H1 acc (.lst [])))∧
 ∀ i m ys H,W i m ys H→(J.stop i H∧Q (.ref acc) H)∨(J.go i H∧∀ x H',J.yld i H x H'→tc (some x :: subS σ ix) H' fun b H2=>
  if b=true then te (some x :: subS σ ix) H2 fun y H3=>H3 acc=some (.lst ys)∧ys.length < sizeLine∧∃ m',m' < m∧W (i + 1) m' (ys ++ [y]) (upd H3 acc (.lst (ys ++ [y]))) else ∃ m',m' < m∧W (i + 1) m' ys H2)
def ZI8 (wi:TI) (ix:List Nat) (tc:TT) (te:TE):TE:=fun σ H Q=>wi σ H fun J H1=>ZAI J ix tc te σ Q H1
theorem ZdT {α β:Type} [BEq α] [LawfulBEq α]:∀ {l:List (α × β)} {a:α} {b:β},l.lookup a=some b→(a,b) ∈ l
 | [],_,_,h=>by simp at h
 | (k,v) :: r,a,b,h=>by
  rw [List.lookup_cons] at h
  cases e:a == k with
  | true=>
   rw [e] at h
   have:a=k:=by simpa using e
   subst this
   cases h
   exact List.mem_cons_self
  | false=>
   rw [e] at h
   exact List.mem_cons_of_mem _ (ZdT h)
theorem Zsd {env:Env}:∀ (names:List (Str × NameKind)) (acc:List (Str × Addr)),(∀ y ∈ names,y.2=.free→∃ c,env.cells.lookup y.1=some c)→(∀ y c,acc.lookup y=some c→env.cells.lookup y=some c)→
  ∃ cl,(forIn names acc fun x r=>match x with | (name,kind)=>if (kind == NameKind.free)=true then (do let a ← cellOf env name; pure (ForInStep.yield ((name,a) :: r))) else pure (ForInStep.yield r):Sem (List (Str × Addr)))=pure cl∧
   (∀ y c,cl.lookup y=some c→env.cells.lookup y=some c)∧(∀ y,(∃ c,acc.lookup y=some c)→∃ c,cl.lookup y=some c)∧∀ y ∈ names,y.2=.free→∃ c,cl.lookup y.1=some c
 | [],acc,_,ha=>⟨acc,rfl,ha,fun _ h=>h,fun _ h=>nomatch h⟩
 | (name,kind) :: r,acc,hn,ha=>by
  cases hk:kind == NameKind.free with
  | false=>
   obtain ⟨cl,e,h1,h2,h3⟩ :=Zsd r acc (fun y hy=>hn y (List.mem_cons_of_mem _ hy)) ha
   refine ⟨cl,?_,h1,h2,fun y hy hf=>?_⟩
   ·rw [List.forIn_cons]
    simp only [hk,Bool.false_eq_true,if_false]
    exact e
   ·rcases List.mem_cons.mp hy with rfl | hy
    ·have:kind=.free:=hf
     subst this
     simp at hk
    ·exact h3 y hy hf
  | true=>
   have hkf:kind=.free:=by simpa using hk
   obtain ⟨c,hc⟩ :=hn (name,kind) List.mem_cons_self hkf
   have hc:env.cells.lookup name=some c:=hc
   obtain ⟨cl,e,h1,h2,h3⟩ :=Zsd r ((name,c) :: acc) (fun y hy=>hn y (List.mem_cons_of_mem _ hy)) (fun y c' hy=>by
    rw [List.lookup_cons] at hy
    cases e:y == name with
    | true=>
     rw [e] at hy
     have:y=name:=by simpa using e
     subst this
     cases hy
     exact hc
    | false=>
     rw [e] at hy
     exact ha y c' hy)
   refine ⟨cl,?_,h1,fun y hy=>h2 y ?_,fun y hy hf=>?_⟩
   ·rw [List.forIn_cons]
    simp only [hk,if_true]
    have:cellOf env name=pure c:=by unfold cellOf; rw [hc]
    rw [this]
    exact e
   ·obtain ⟨c',hc'⟩ :=hy
    rw [List.lookup_cons]
    cases y == name
    ·exact ⟨c',hc'⟩
    ·exact ⟨c,rfl⟩
   ·rcases List.mem_cons.mp hy with rfl | hy
    ·exact h2 _ ⟨c,by rw [List.lookup_cons]; simp⟩
    ·exact h3 y hy hf
theorem ZnK {env:Env} (scope:Scope) (h:∀ y ∈ scope.names,y.2=.free→∃ c,env.cells.lookup y.1=some c) :
  ∃ cl,closureFor scope env=pure cl∧(∀ y c,cl.lookup y=some c→env.cells.lookup y=some c)∧∀ y ∈ scope.names,y.2=.free→∃ c,cl.lookup y.1=some c:=by
 obtain ⟨cl,e,h1,_,h3⟩ :=Zsd (env:=env) scope.names [] h (fun _ _ z=>by simp at z)
 refine ⟨cl,?_,h1,h3⟩
 show ((forIn scope.names [] fun x r=>match x with | (name,kind)=>if (kind == NameKind.free)=true then (do let a ← cellOf env name; pure (ForInStep.yield ((name,a) :: r))) else pure (ForInStep.yield r):Sem (List (Str × Addr))) >>= fun s=>pure s)=pure cl
 rw [e]
 rfl
theorem Znn {env:Env}:∀ (names:List (Str × NameKind)) (y:Str),(names.map fun (n,k)=>if (k == NameKind.free && env.scope.kind == .function && env.kindOf n == some .cell) then (n,NameKind.cell) else (n,k)).lookup y =
  (names.lookup y).map fun k=>if (k == NameKind.free && env.scope.kind == .function && env.kindOf y == some .cell)=true then NameKind.cell else k
 | [],y=>by simp
 | (n,k) :: r,y=>by
  have ih:=Znn (env:=env) r y
  rw [List.map_cons,List.lookup_cons]
  cases e:y == n with
  | true=>
   have ey:y=n:=by simpa using e
   subst ey
   by_cases hc:(k == NameKind.free && env.scope.kind == .function && env.kindOf y == some .cell)=true
   ·simp only [hc,if_true,List.lookup_cons,beq_self_eq_true,Option.map_some]
   ·simp only [hc,if_false,List.lookup_cons,beq_self_eq_true,Option.map_some,Bool.false_eq_true]
  | false=>
   by_cases hc:(k == NameKind.free && env.scope.kind == .function && env.kindOf n == some .cell)=true
   ·simp only [hc,if_true,List.lookup_cons,e]; exact ih
   ·simp only [hc,if_false,List.lookup_cons,e,Bool.false_eq_true]; exact ih
section
variable {X:Cx} {pins:List (Addr × Obj)} {σ:St} {H:Hp} {s:Shared} {cl:List (Str × Addr)} {x:Str} {ns:List Str} {ix:List Nat} {sc scope:Scope} {N:List Str} {fp:List Addr}
theorem ZKf (I:Inv X pins σ H s) (f:∀ b ∈ fp,FpOk X pins H b) (hlt:∀ b ∈ fp,b < s.heap.objs.size) (hcl:∀ y c,cl.lookup y=some c→X.env.cells.lookup y=some c) {H':Hp} (hn:∀ b ∈ fp,H' b=none):∀ b ∈ fp,FpOk (ZeQ X x ns scope cl s H fp) [] H' b:=fun b hb=>by
 obtain ⟨f0,f1,f2,f3,f4,f5⟩ :=f b hb
 refine ⟨hn b hb,Nat.ne_of_lt (hlt b hb),fun z=>?_,.inl hb,fun y c e=>f4 y c (hcl y c e),fun p hp=>?_⟩
 ·rcases List.mem_cons.mp (I.stkSub b z) with z | z
  ·exact f1 z
  ·exact f2 z
 ·exact absurd (show p ∈ ([]:List (Addr × Obj)) from hp) (by simp)
theorem ZIj {h1:Heap} {m:Str→Option Value} {t':Nat} (I:Inv X pins σ H s) (hsc:X.env.scope=sc) (hN:X.N=N) (C:ZxV sc N x ns ix scope) (hcl:∀ y c,cl.lookup y=some c→X.env.cells.lookup y=some c)
  (hcla:∀ y ∈ scope.names,y.2=.free→∃ c,cl.lookup y.1=some c) (f:∀ b ∈ fp,FpOk X pins H b) (hlt:∀ b ∈ fp,b < s.heap.objs.size) (hn:h1.Ns s.heap.objs.size m) (hk:∀ b o,s.heap.get? b=some o→h1.get? b=some o) :
  Inv (ZeQ X x ns scope cl s H fp) [] (none :: subS σ ix) H { s with heap:=h1,toks:=t' }:=by
 obtain ⟨c1,c2,c3,c4,c5,c6⟩ :=C
 have kind:∀ y,(relabel scope X.env).names.lookup y=(scope.names.lookup y).map fun k=>if (k == NameKind.free && X.env.scope.kind == .function && X.env.kindOf y == some .cell)=true then NameKind.cell else k:=fun y=>Znn scope.names y
 have fr:∀ y,((relabel scope X.env).names.lookup y=some .cell∨(relabel scope X.env).names.lookup y=some .free)→scope.names.lookup y=some .free:=fun y h=>by
  rw [kind y] at h
  cases e:scope.names.lookup y with
  | none=>rw [e] at h; simp at h
  | some k=>
   rw [e] at h
   have hm:=ZdT e
   cases k with
   | free=>rfl
   | cell=>exact absurd rfl (c2 _ hm).1
   | «local»=>simp at h
   | globalExplicit=>simp at h
   | globalImplicit=>simp at h
 have fr':∀ y,scope.names.lookup y=some .free→(relabel scope X.env).names.lookup y=some .cell∨(relabel scope X.env).names.lookup y=some .free:=fun y h=>by
  rw [kind y,h]
  by_cases hc:(NameKind.free == NameKind.free && X.env.scope.kind == .function && X.env.kindOf y == some .cell)=true
  ·left; rw [Option.map_some,if_pos hc]
  ·right; rw [Option.map_some,if_neg hc]
 have noC:∀ p:Addr × Obj,p ∉ (ZeQ X x ns scope cl s H fp).pn ++ []:=fun p hp=>absurd (show p ∈ ([]:List (Addr × Obj)) from hp) (by simp)
 have lenE:ix.length=ns.length:=by
  have:=congrArg List.length c5
  rwa [List.length_map,List.length_map] at this
 refine ⟨⟨I.ok.mod,c1,I.ok.glob,I.ok.blt,Nat.le_refl _,fun y z c h1 h2=>I.ok.inj y z c (hcl y c h1) (hcl z c h2),fun y hy=>?_,fun y c hy=>absurd hy (by simp [ZeQ]),I.ok.hd,I.ok.frames,.inl rfl,fun b hb=>?_,I.bs,
  Nat.le_trans I.ok.bsz I.sz,fun b o e hb=>?_,fun b hb=>?_,I.stack,I.stkFree⟩,rfl,I.bare,Un.kept hk,⟨m,hn,fun i y v e1 e2 e3=>?_⟩,fun y c e=>?_,I.hok.fresh (Nat.le_refl _),fun y c e=>I.freeC y c (hcl y c e),fun p hp=>absurd hp (noC p),I.hok.kept hk,?_⟩
 ·exact hcla _ (ZdT (fr y hy)) rfl
 ·obtain ⟨f0,f1,f2,f3,f4,f5⟩ :=f b hb
  exact ⟨Nat.ne_of_lt (hlt b hb),fun y c e=>f4 y c (hcl y c e)⟩
 ·obtain ⟨f0,f1,f2,f3,f4,f5⟩ :=f b hb
  rcases f3 with z | z
  ·exact I.ok.noex b o e z
  ·exact absurd (Nat.lt_of_lt_of_le (Heap.lt_size (I.ok.bs b o e).1) z) (Nat.lt_irrefl _)
 ·obtain ⟨f0,f1,f2,f3,f4,f5⟩ :=f b hb
  intro z
  rcases List.mem_cons.mp (I.stkSub b z) with z | z
  ·exact f1 z
  ·exact f2 z
 ·cases i with
  | zero=>cases e2
  | succ j=>
   have e1':ns[j]?=some y:=e1
   have e2':(ix.map fun k=>(σ[k]?).join)[j]?=some (some v):=e2
   have e5:=congrArg (fun l=>l[j]?) c5
   simp only [List.getElem?_map,e1',Option.map_some] at e5 e2'
   cases ek:ix[j]? with
   | none=>rw [ek] at e5; cases e5
   | some k=>
    rw [ek] at e5 e2'
    have eN:N[k]?=some y:=by simpa using e5
    have eσ:(σ[k]?).join=some v:=by simpa using e2'
    have eσ':σ[k]?=some (some v):=by
     cases q:σ[k]? with
     | none=>rw [q] at eσ; cases eσ
     | some w=>rw [q] at eσ; have:w=some v:=eσ; rw [this]
    have hy:=c4 y (List.mem_of_getElem? e1')
    have hk':=(c2 _ (ZdT hy)).2.2 rfl
    rw [← hsc] at hk'
    obtain ⟨m0,hn0,hl⟩ :=I.loc
    obtain ⟨u,r,l⟩ :=hl k y v (by rw [hN]; exact eN) eσ' (.inr hk')
    refine ⟨u,r,?_⟩
    rcases l with ⟨kl,_⟩ | ⟨_,c,ec,z⟩
    ·exfalso
     have kl:X.env.scope.names.lookup y=some .local:=kl
     rw [kl] at hk'
     rcases hk' with z | z <;> cases z
    ·obtain ⟨c',ec'⟩ :=hcla _ (ZdT hy) rfl
     have ee:c'=c:=by
      have:=hcl y c' ec'
      rw [ec] at this
      exact (Option.some.inj this).symm
     subst ee
     obtain ⟨o,ho,hd⟩ :=z
     exact .inr ⟨fr' y hy,c',ec',⟨o,hk _ _ ho,hd⟩⟩
 ·obtain ⟨v,o,ho,hd⟩ :=I.cell y c (hcl y c e)
  exact ⟨v,o,hk _ _ ho,hd⟩
 ·show (none :: subS σ ix).length=(x :: ns).length
  rw [List.length_cons,List.length_cons]
  unfold subS
  rw [List.length_map,lenE]
end
theorem ZFF {α β:Type} {M:Model} {A:Around} {a:α} {P:α→Shared→Prop} {E E':Value→Shared→Prop} {s s':Shared} {t:Sem β} {Q:β→Shared→Prop} (h:wpAny M A (pure a) P E s) (k:P a s→wpAny M A t Q E' s'):wpAny M A t Q E' s':=
 fun Γ p hi=>k (h Γ p hi) Γ p hi
def PTs (X:Cx) (ifs:List Expr) (t:TT):Prop:=
 ∀ (pins:List (Addr × Obj)) (s:Shared) (σ:St) (H:Hp) (Q:Bool→Hp→Prop),Inv X pins σ H s→t σ H Q→
  wpAny (model X.prog X.w) X.A (forIn ifs true fun c r=>if r=true then do let ok ← isTrue c X.env (eval c X.env); pure (ForInStep.yield ok) else pure (ForInStep.yield r)) (TP X pins σ Q) X.xe s
def ZM2:TT:=fun _ H Q=>Q true H
theorem ZsD {X:Cx}:PTs X [] ZM2:=fun _ _ _ H _ I h=>wpAny_tests_nil ⟨H,I,h⟩
section
variable {X:Cx} {pins:List (Addr × Obj)} {σ:St} {H:Hp} {s:Shared} {cl:List (Str × Addr)} {x:Str} {ns:List Str} {ix:List Nat} {sc scope:Scope} {N:List Str} {fp:List Addr} {elt iter:Expr} {px pos:Pos} {ifs:List Expr} {tc:TT} {te:TE} {wi:TI}
theorem ZD0 {E:Value→Shared→Prop} {J:It} {it:Addr} {tn:Nat→Heap→Prop} {Q:VK} {RR:Value→Addr→Result→Shared→Prop} (hsc:X.env.scope=sc) (hN:X.N=N) (C:ZxV sc N x ns ix scope) (hc:X.calm=true)
  (ht:∀ cl s H ex,PTs (ZeQ X x ns scope cl s H ex) ifs tc) (he:∀ cl s H ex,PE (ZeQ X x ns scope cl s H ex) elt te) (I:Inv X pins σ H s) (hcl:∀ y c,cl.lookup y=some c→X.env.cells.lookup y=some c)
  (hcla:∀ y ∈ scope.names,y.2=.free→∃ c,cl.lookup y.1=some c) (T:Turn X.prog X.w X.K (.Name x px) J fp it tn) (st:tn 0 s.heap) (f:∀ b ∈ fp,FpOk X pins H b) (h:ZAI J ix tc te σ Q H)
  (fin:∀ D C m s' H',Inv X pins σ H' s'→s'.heap.Ns C m→FpOk X pins H' C→Q (.ref D) H'→RR (.ref D) C (.ok .next) s') :
  wpAny (model X.prog X.w) X.A (newList []) (fun ja s3=>wpAny (model X.prog X.w) X.A (newFunctionEnv scope X.env.globals cl [] X.env.qual none .none (some X.env)) (fun ce s4=>
   codeAny (model X.prog X.w) X.A (.compStart (.ListComp elt [⟨.Name x px,iter,ifs,0⟩] scope pos) 0 (.ref it) ja { ce with scope:=relabel scope X.env }) (RR ja ce.locals) s4) E s3) E s:=by
 have hC:=C
 obtain ⟨c1,c2,c3,c4,c5,c6⟩ :=C
 have hfr:H s.heap.objs.size=none:=I.hok.fresh (Nat.le_refl _)
 obtain ⟨W,⟨m0,w0⟩,turn⟩ :=h _ hfr
 refine wpAny_newObj_type (wpAny_newFunctionEnv (fun y hy=>(c2 y hy).1) (by intro y hy; simp at hy) (fun h1 hn1 hs1=>?_) c1)
 have I3:=I.lnew (its:=[]) (ys:=[]) (t':=s.toks) .nil (Nat.zero_le _)
 have hlt0:∀ b ∈ fp,b < s.heap.objs.size:=fun b hb=>by
  obtain ⟨o,ho,_⟩ :=T.obj _ _ st b hb
  exact Heap.lt_size ho
 generalize hs3:({ s with heap:=s.heap.push { cls:=.type "list",data:=.seq ([]:List Value).toArray },toks:=s.toks }:Shared)=s3 at I3
 have e3:s3.heap=s.heap.push { cls:=.type "list",data:=.seq ([]:List Value).toArray }:=by rw [← hs3]
 have sz3:s3.heap.objs.size=s.heap.objs.size + 1:=by rw [e3,Heap.size_push]
 have f3:∀ b ∈ fp,FpOk X pins (upd H s.heap.objs.size (.lst [])) b:=fun b hb=>⟨by rw [ZaS (Nat.ne_of_lt (hlt0 b hb))]; exact (f b hb).1,(f b hb).2⟩
 have hlt:∀ b ∈ fp,b < s3.heap.objs.size:=fun b hb=>by rw [sz3]; exact Nat.lt_succ_of_lt (hlt0 b hb)
 have hk:∀ b o,s3.heap.get? b=some o→h1.get? b=some o:=fun b o e=>by
  refine (hs1.2 b ?_).trans (Heap.get?_push_of_some _ ?_)
  ·have:=Heap.lt_size e
   rw [sz3] at this
   show b ≠ (s.heap.push _).objs.size
   rw [Heap.size_push]
   exact Nat.ne_of_lt this
  ·rw [e3] at e; exact e
 have hn3:h1.Ns s3.heap.objs.size (fun y=>([]:List (Str × Value)).reverse.lookup y):=by rw [e3]; exact hn1
 have I4:=ZIj (t':=s3.toks + ([]:List (Str × Value)).length) I3 hsc hN hC hcl hcla f3 hlt hn3 hk
 have st4:tn 0 h1:=T.keep _ _ _ st fun b hb o e=>hk b o (by rw [e3]; exact Heap.get?_push_of_some _ e)
 have stat:∀ {H':Hp},(∀ b ∈ fp,H' b=none)→∀ b ∈ fp,FpOk (ZeQ X x ns scope cl s3 (upd H s.heap.objs.size (.lst [])) fp) [] H' b:=fun {H'} hn=>ZKf I3 f3 hlt hcl hn
 have loop:∀ s4:Shared,s4 = { s3 with heap:=h1,toks:=s3.toks + ([]:List (Str × Value)).length }→
   codeAny (model X.prog X.w) X.A (.compLoop (.ListComp elt [⟨.Name x px,iter,ifs,0⟩] scope pos) 0 (.ref it) (.ref s.heap.objs.size) (compEnvC scope cl s3.heap.objs.size X.env)) (RR (.ref s.heap.objs.size) s3.heap.objs.size) s4:=by
  rintro s4 rfl
  refine codeAny_compLoop_tests (fun n s'=>∃ i v0 ys H',Inv (ZeQ X x ns scope cl s3 (upd H s.heap.objs.size (.lst [])) fp) [] (v0 :: subS σ ix) H' s'∧tn i s'.heap∧(∀ b ∈ fp,H' b=none)∧W i n ys H') ?_ m0 ⟨0,none,[],_,I4,st4,fun b hb=>(f3 b hb).1,w0⟩
  rintro n s5 ⟨i,v0,ys,H5,I5,st5,fr5,w5⟩
  rcases turn i n ys H5 w5 with ⟨stop,q⟩ | ⟨go,step⟩
  ·refine wpAny_mono (T.done (ZeQ X x ns scope cl s3 (upd H s.heap.objs.size (.lst [])) fp) rfl rfl rfl hc i [] s5 _ H5 _ I5 (stat fr5) st5 stop) (fun r s6 hr=>?_) fun _ _ e=>e
   obtain ⟨hr,I6⟩ :=hr
   subst hr
   obtain ⟨m6,hn6,_⟩ :=id I6.loc
   refine fin _ _ m6 s6 H5 (I3.call' I6.os I6.base I6.hok I6.bare fun b hb=>?_) hn6 (I3.fpOk (Nat.le_refl _) I6.free) q
   obtain ⟨g0,g1,g2,g3,g4,g5⟩ :=f3 b hb
   exact ⟨g3,g1,g4,g5⟩
  ·refine wpAny_mono (T.item (ZeQ X x ns scope cl s3 (upd H s.heap.objs.size (.lst [])) fp) rfl rfl rfl hc i [] s5 _ H5 _ I5 (stat fr5) st5 go) (fun r s6 hr=>?_) fun _ _ e=>e
   obtain ⟨u,hr,h6⟩ :=hr
   subst hr
   refine ZFF (a:=()) h6 fun q6=>?_
   obtain ⟨xv,H6,I6,r6,y6,st6,fr6⟩ :=q6
   have I6':=I6.pinned (stat fr6) (T.obj _ _ st6)
   have again:∀ {m':Nat} {ys':List V} {H7:Hp} {s7:Shared},Inv (ZeQ X x ns scope cl s3 (upd H s.heap.objs.size (.lst [])) fp) ([] ++ Zyy fp s6.heap) (some xv :: subS σ ix) H7 s7→W (i + 1) m' ys' H7→
     ∃ i v0 ys H',Inv (ZeQ X x ns scope cl s3 (upd H s.heap.objs.size (.lst [])) fp) [] (v0 :: subS σ ix) H' s7∧tn i s7.heap∧(∀ b ∈ fp,H' b=none)∧W i m' ys H':=fun {m' ys' H7 s7} I7 w7=>by
    refine ⟨i + 1,some xv,ys',H7,I7.unpinned,T.keep _ _ _ st6 fun b hb o e=>(I7.pin (b,o) (List.mem_append_right _ (List.mem_append_right _ (ZfX hb e)))).1,fun b hb=>?_,w7⟩
    obtain ⟨o,e,d⟩ :=T.obj _ _ st6 b hb
    exact (I7.pin (b,o) (List.mem_append_right _ (List.mem_append_right _ (ZfX hb e)))).2.1
   have lx:(relabel scope X.env).names.lookup x=some .local:=lookup_relabel_local c3
   refine wpAny_mono (ZzU (X:=ZeQ X x ns scope cl s3 (upd H s.heap.objs.size (.lst [])) fp) (i:=0) (x:=x) (pos:=px) c6 rfl (.inl lx) (.inr lx) _ s6 _ H6 xv u (fun σ' H'=>σ'=some xv :: subS σ ix∧H'=H6) I6' r6 ⟨rfl,rfl⟩) (fun _ s7 h7=>?_) fun _ _ e=>e.elim
   obtain ⟨σ7,H7,I7,rfl,rfl⟩ :=h7
   refine wpAny_mono (ht cl s3 _ fp _ s7 _ _ _ I7 (step xv _ y6)) (fun b s8 h8=>?_) fun _ _ e=>e.elim
   obtain ⟨H8,I8,q8⟩ :=h8
   cases b with
   | false=>
    rw [if_neg Bool.false_ne_true] at q8 ⊢
    obtain ⟨m',hm,w8⟩ :=q8
    exact ⟨m',hm,again I8 w8⟩
   | true=>
    rw [if_pos rfl] at q8 ⊢
    refine wpAny_mono (he cl s3 _ fp _ s8 _ _ _ I8 q8) (fun uy s9 h9=>?_) fun _ _ e=>e.elim
    obtain ⟨y,H9,I9,r9,hacc,hz,m',hm,w9⟩ :=h9
    refine wpAny_mono (ZaK (X:=ZeQ X x ns scope cl s3 (upd H s.heap.objs.size (.lst [])) fp) _ s9 _ H9 (.ref s.heap.objs.size) [y] _ [uy] (fun v H'=>H'=upd H9 s.heap.objs.size (.lst (ys ++ [y]))) I9 rfl (.cons r9 .nil) ⟨_,ys,y,rfl,rfl,hacc,hz,rfl⟩) (fun _ s10 h10=>?_) fun _ _ e=>e.elim
    obtain ⟨v,H10,I10,_,rfl⟩ :=h10
    exact ⟨m',hm,again I10 w9⟩
 exact codeAny_compStart_list (loop _ rfl) (T.self _ 0 _ _ _ st4 (loop _ rfl))
theorem ZHh (hsc:X.env.scope=sc) (hN:X.N=N) (C:ZxV sc N x ns ix scope) (hc:X.calm=true) (hi:PI X (.Name x px) iter wi) (ht:∀ cl s H ex,PTs (ZeQ X x ns scope cl s H ex) ifs tc) (he:∀ cl s H ex,PE (ZeQ X x ns scope cl s H ex) elt te)
  (hs:∀ v,foldedSetIterable iter X.env v=pure v:=by intro _; rfl):PE X (.ListComp elt [⟨.Name x px,iter,ifs,0⟩] scope pos) (ZI8 wi ix tc te):=by
 intro pins s σ H Q I h
 obtain ⟨cl,hclos,hcl,hcla⟩ :=ZnK (env:=X.env) scope fun y hy hf=>I.ok.has y.1 (by
  have:=(C.2.1 y hy).2.2 hf
  rw [← hsc] at this
  exact this)
 rw [eval_ListComp]
 refine wpAny_comprehension_free (use:=none) rfl hs hclos C.1 (fun y hy=>(C.2.1 y hy).2.1) (thn (hi pins s σ H _ I h) fun v s1 h1=>thn h1 fun itv s2 h2=>?_)
 obtain ⟨it,fp,tn,J,H2,rfl,I2,T,st2,f2,hg⟩ :=h2
 refine ZD0 (RR:=fun ja C=>compPost (model X.prog X.w) X.A X.xe none (EP X pins σ Q) ja C) hsc hN C hc ht he I2 hcl hcla T st2 f2 hg ?_
 intro D C' m s' H' I' hn' fC q
 obtain ⟨g0,g1,g2,g3,g4,g5⟩ :=fC
 exact ⟨m,hn',fun h' hs'=>⟨.ref D,H',I'.turned (t':=s'.toks) (fun b o hb e=>hs'.extBut b o hb e) g0 (Ne.symm (Ne.symm g1)) g3 g4 g5,rfl,q⟩⟩
theorem ZHn {y:Str} {py spos:Pos} (i:Nat) (hNd:X.N.Nodup) (hsc:X.env.scope=sc) (hN:X.N=N) (C:ZxV sc N x ns ix scope) (hc:X.calm=true) (hi:PI X (.Name x px) iter wi) (ht:∀ cl s H ex,PTs (ZeQ X x ns scope cl s H ex) ifs tc) (he:∀ cl s H ex,PE (ZeQ X x ns scope cl s H ex) elt te)
  (hs:∀ v,foldedSetIterable iter X.env v=pure v:=by intro _; rfl) (hy:X.N[i]?=some y:=by rfl) (hl:X.env.scope.names.lookup y=some .local:=by rfl)
  (hsw:swapsWith (.ListComp elt [⟨.Name x px,iter,ifs,0⟩] scope pos) (some (.Name y py)) spos.line X.env=pure true:=by rfl) :
  PS X (.Assign [.Name y py] (.ListComp elt [⟨.Name x px,iter,ifs,0⟩] scope pos) spos) (tAsg (ZI8 wi ix tc te) (Zv0 i)):=by
 intro pins s σ H D I h
 obtain ⟨cl,hclos,hcl,hcla⟩ :=ZnK (env:=X.env) scope fun y hy hf=>I.ok.has y.1 (by
  have:=(C.2.1 y hy).2.2 hf
  rw [← hsc] at this
  exact this)
 rw [exec_Assign_Name_used _ _ _ _ hsw]
 refine wpAny_bind (wpAny_standAt (wpAny_bind ?_))
 show wpAny _ X.A (do let _ ← comprehension (.ListComp elt [⟨.Name x px,iter,ifs,0⟩] scope pos) scope X.env _ (newList []) false (eval iter X.env) (some (assign (.Name y py) X.env))) _ _ s
 refine wpAny_bind (wpAny_mono (wpAny_comprehension_free (use:=some (assign (.Name y py) X.env)) (Q:=fun _ s'=>SP X pins D .next s') rfl hs hclos C.1 (fun y hy=>(C.2.1 y hy).2.1)
  (thn (hi pins s σ H _ I h) fun v s1 h1=>thn h1 fun itv s2 h2=>?_)) (fun _ s' hq=>wpAny_pure (wpAny_pure hq)) fun _ _ e=>e)
 obtain ⟨it,fp,tn,J,H2,rfl,I2,T,st2,f2,hg⟩ :=h2
 refine ZD0 (RR:=fun ja C=>compPost (model X.prog X.w) X.A X.xe (some (assign (.Name y py) X.env)) (fun _ s'=>SP X pins D .next s') ja C) hsc hN C hc ht he I2 hcl hcla T st2 f2 hg ?_
 intro D' C' m s' H' I' hn' fC q
 obtain ⟨g0,g1,g2,g3,g4,g5⟩ :=fC
 refine wpAny_assign_Name (Zw6 I' hNd hy (.inl hl) (v:=.ref D') rfl (fun s'' I'' hs''=>?_) (.inr hl))
 obtain ⟨a,sb,ha⟩ :=hs''
 have hne:C' ≠ a:=by
  rcases ha with ha | ha
  ·rw [ha]; exact g1
  ·intro z; exact g4 y a ha z.symm
 exact ⟨m,hn'.sameBut sb hne,fun h' hs'=>⟨_,H',I''.turned (t':=s''.toks) (fun b o hb e=>hs'.extBut b o hb e) g0 g1 g3 g4 g5,q⟩⟩
end
section
variable {wi:TI} {ix:List Nat} {tc:TT} {te:TE} {σ:St} {H:Hp} {Q:VK} {K:PySem.W.Frag}
theorem ZEd {ta:TA} (h:ta σ H fun vs H1=>∃ j:Int,vs=[.int j]∧-(2 ^ 62)≤j∧j < 2 ^ 62∧ZAI (Itr 0 j.toNat) ix tc te σ Q H1):ZI8 (ZKk ta) ix tc te σ H Q:=h
def ZNc (K:PySem.W.Frag) (x:V) (ix:List Nat) (tc:TT) (te:TE) (σ:St) (Q:VK) (H1:Hp):Prop:=
 (∃ a xs,x=.ref a∧SqL K H1 a xs∧ZAI (Itl K a) ix tc te σ Q H1)∨(∃ a xs,x=.ref a∧SqT K H1 a xs∧ZAI (Itt K a) ix tc te σ Q H1)∨(∃ z,x=.str z∧ZAI (Its z) ix tc te σ Q H1)
theorem ZGo {tl:TE} (h:tl σ H fun x H1=>ZNc K x ix tc te σ Q H1):ZI8 (iSeq K tl) ix tc te σ H Q:=h
theorem ZJD {BQ:Bool→Hp→Prop} (h:BQ true H):ZM2 σ H BQ:=h
def Wk (J:It) (xs:List V) (H1:Hp):Prop:=∀ H',Same H1 H'→(∀ i,i < xs.length→J.go i H'∧∀ x H2,J.yld i H' x H2→H2=H'∧xs[i]?=some x)∧J.stop xs.length H'
theorem ZE0 (lo:Int) (n:Nat) (H:Hp):Wk (Itr lo n) ((List.range n).map fun i:Nat=>V.int (lo + (i:Int))) H:=fun H' _=>by
 refine ⟨fun i hi=>?_,?_⟩
 ·rw [List.length_map,List.length_range] at hi
  refine ⟨hi,fun x H2 y=>?_⟩
  obtain ⟨e,y⟩ :=y
  refine ⟨e,?_⟩
  rw [List.getElem?_map,List.getElem?_range hi,y]
  rfl
 ·rw [List.length_map,List.length_range]
  exact Nat.le_refl n
theorem ZAx {a:Addr} {xs:List V} (h:SqL K H a xs):Wk (Itl K a) xs H:=fun H' s=>by
 have h':=s.seq h
 refine ⟨fun i hi=>⟨⟨xs,xs[i],h',by simp [hi]⟩,fun x H2 y=>?_⟩,⟨xs,h',Nat.le_refl _⟩⟩
 obtain ⟨e,y⟩ :=y
 exact ⟨e,y xs h'⟩
end
section
variable {X:Cx} {K:PySem.W.Frag} {a o:Expr} {ta:TE} {pos:Pos}
theorem ZKw (hK:X.K=K):IxR X (rIx K):=by subst hK; exact ZaW
end
end L2
set_option maxRecDepth 100000
set_option maxHeartbeats 4000000
namespace L2
open PySem PySem.Spec PyProof.Rows
section
variable {X:Cx} {K:PySem.W.Frag} {σ:St} {H:Hp} {Q:VK} {a:Expr} {ta:TE} {pos:Pos}
def rSlX:V→Option Int→Option Int→Hp→VK→Prop:=fun x lo hi H Q=>∃ z,x=.str z∧z.length≤sizeLine∧Q (.str (Txt.slice z lo hi)) H
theorem ZML:SlR X rSlX:=by
 intro pins s σ H x v vl vu lo hi sl Q I rx hs pl pu h
 obtain ⟨z,rfl,hz,q⟩ :=h
 obtain ⟨t,rfl⟩ :=rx
 refine ⟨"str",_,F.slot_str_getitem.lookup,typeIs_str _ _ _,?_⟩
 obtain ⟨o,ho,hc,hd⟩ :=hs
 have fin:∀ (l u:Option (Int × Tok)),vl=partValue l→vu=partValue u→l.map (·.1)=lo→u.map (·.1)=hi→wpAny (model X.prog X.w) X.A (getItem (.str z t) (.ref sl)) (EP X pins σ Q) X.xe s:=fun l u e1 e2 e3 e4=>by
  subst e1 e2 e3 e4
  exact wpAny_getItem_str_slice (l:=l) (u:=u) (st:=none) ⟨o,ho,hc,hd⟩ rfl
   (post_val_or_str ⟨Nat.le_trans (Txt.slice_le z _ _) hz,fun t' k=>⟨.str _,H,I.tok k,⟨t',rfl⟩,q⟩⟩)
 have pv:∀ {v:Value} {o:Option Int},IsPart v o→∃ l:Option (Int × Tok),v=partValue l∧l.map (·.1)=o:=fun {v o} h=>by
  cases h <;> first | exact ⟨none,rfl,rfl⟩ | exact ⟨some (_,_),rfl,rfl⟩
 obtain ⟨l,e1,e3⟩ :=pv pl
 obtain ⟨u,e2,e4⟩ :=pv pu
 exact fin l u e1 e2 e3 e4
def rSlA (K:PySem.W.Frag):V→Option Int→Option Int→Hp→VK→Prop:=fun x lo hi H Q=>rSlG K x lo hi H Q∨rSlX x lo hi H Q
theorem ZrZ:SlR X (rSlA X.K):=SlR.or ZMK ZML
theorem ZNo {z:Str} {lo hi:Option Int} (hz:z.length≤1000000) (k:Q (.str (Txt.slice z lo hi)) H):rSlA K (.str z) lo hi H Q:=.inr ⟨z,rfl,Zbn hz,k⟩
theorem Zy6 {p:Addr} {xs ys:List V} {lo hi:Option Int} (h:SqL K H p xs) (e:cutV xs lo hi=ys) (k:∀ (l:Addr) (H':Hp),Same H H'→H l=none→H' l=some (.lst ys)→Q (.ref l) H'):rSlA K (.ref p) lo hi H Q:=.inl (j_sl h e k)
def ZMx:V→List V→Hp→VK→Prop:=fun x vs H Q=>∃ z y,x=.str z∧vs=[.str y]∧Q (.int (Txt.find z y)) H
theorem ZKD:MtM X "str.find" ZMx:=by
 intro pins s σ H x vs v us Q I rx rv h
 obtain ⟨z,y,rfl,rfl,q⟩ :=h
 obtain ⟨t,rfl⟩ :=rx
 obtain ⟨u,rfl,t',rfl⟩ :=rv.one
 exact SC.find ⟨.int _,H,I.tok _,⟨_,rfl⟩,q⟩
theorem ZCD:∀ {ts:List Str} {us:List Value},Vals (ts.map V.str) us→∃ l:List (Str × Tok),us=strValues l∧l.map (·.1)=ts
 | [],_,r=>by cases r; exact ⟨[],rfl,rfl⟩
 | t :: ts,_,r=>by
  cases r with
  | cons r1 r2=>
   obtain ⟨k,rfl⟩ :=r1
   obtain ⟨l,rfl,rfl⟩ :=ZCD r2
   exact ⟨(t,k) :: l,rfl,rfl⟩
def ZNA (K:PySem.W.Frag):V→List V→Hp→VK→Prop:=fun x vs H Q=>∃ z l ts,x=.str z∧vs=[.ref l]∧SqL K H l (ts.map V.str)∧JoinOk z ts=true∧Q (.str (Txt.join z ts)) H
theorem Zwx:MtM X "str.join" (ZNA X.K):=by
 intro pins s σ H x vs v us Q I rx rv h
 obtain ⟨z,l,ts,rfl,rfl,hq,hj,q⟩ :=h
 obtain ⟨t,rfl⟩ :=rx
 obtain ⟨u,rfl,ru⟩ :=rv.one
 cases ru
 obtain ⟨its,r',pl,hz⟩ :=I.list hq
 obtain ⟨ls,rfl,rfl⟩ :=ZCD r'
 exact SC.join pl.isList rfl hj fun t' k=>⟨.str _,H,I.tok k,⟨t',rfl⟩,q⟩
theorem tyS {z:Str}:tyV K "str" (.str z) H:=by
 unfold tyV
 first
  | exact .inr (.inl ⟨rfl,_,rfl⟩)
  | exact .inr (.inr (.inl ⟨rfl,_,rfl⟩))
  | exact .inr (.inr ⟨rfl,_,rfl⟩)
  | simp
abbrev TJ:=St→Hp→Str→VK→Prop
def PJ (X:Cx) (es:List Expr) (t:TJ):Prop:=
 ∀ (out:Str) (pins:List (Addr × Obj)) (s:Shared) (σ:St) (H:Hp) (Q:VK),Inv X pins σ H s→t σ H out Q→wpAny (model X.prog X.w) X.A (joinParts out (evalEach es X.env)) (EP X pins σ Q) X.xe s
def tJn:TJ:=fun _ H out Q=>out.length≤sizeLine∧Q (.str out) H
def tJc (te:TE) (tr:TJ):TJ:=fun σ H out Q=>te σ H fun x H1=>∃ y,x=.str y∧(out ++ y).length≤sizeLine∧tr σ H1 (out ++ y) Q
theorem ZEH:PJ X [] tJn:=fun out pins s σ H Q I h=>joinParts_nil ⟨.str out,H,I.tok _,⟨_,rfl⟩,h.2⟩ h.1
theorem Zln {e:Expr} {es:List Expr} {te:TE} {tr:TJ} (he:PE X e te) (hr:PJ X es tr):PJ X (e :: es) (tJc te tr):=by
 intro out pins s σ H Q I h
 show wpAny _ _ (joinParts out (eval e X.env :: evalEach es X.env)) _ _ s
 refine joinParts_cons (thn (he pins s σ H _ I h) fun v s1 ⟨x,H1,I1,r1,y,ex,hz,q⟩ =>?_)
 subst ex
 obtain ⟨t,rfl⟩ :=r1
 exact ⟨hz,hr _ pins s1 σ H1 Q I1 q⟩
def tFs (t:TJ):TE:=fun σ H Q=>t σ H Str.empty Q
theorem Zrw {e1 e2:Expr} {es:List Expr} {t:TJ} (h:PJ X (e1 :: e2 :: es) t):PE X (.JoinedStr (e1 :: e2 :: es) pos) (tFs t):=by
 intro pins s σ H Q I q
 exact JoinedStr_many (h Str.empty pins s σ H Q I q)
def tFmt (ta:TE):TE:=fun σ H Q=>ta σ H fun x H1=>∃ z,x=.str z∧z.length≤sizeLine∧Q (.str z) H1
theorem ZHi (ha:PE X a ta):PE X (.FormattedValue a (-1) none pos) (tFmt ta):=by
 intro pins s σ H Q I h
 refine FormattedValue_plain (thn (ha pins s σ H _ I h) fun v s1 ⟨x,H1,I1,r1,z,ex,hz,q⟩ =>?_)
 subst ex
 obtain ⟨t,rfl⟩ :=r1
 exact formatField_str (fun t' k=>⟨.str z,H1,I1.tok k,⟨t',rfl⟩,q⟩) hz
theorem i_fs {t:TJ} (h:t σ H Str.empty Q):tFs t σ H Q:=h
theorem i_jn {out:Str} (z:out.length≤1000000) (h:Q (.str out) H):tJn σ H out Q:=⟨Zbn z,h⟩
theorem i_jc {te:TE} {tr:TJ} {out:Str} (h:te σ H fun x H1=>∃ y,x=.str y∧(out ++ y).length≤sizeLine∧tr σ H1 (out ++ y) Q):tJc te tr σ H out Q:=h
theorem ZLJ (h:ta σ H fun x H1=>∃ z,x=.str z∧z.length≤sizeLine∧Q (.str z) H1):tFmt ta σ H Q:=h
end
end L2
set_option maxRecDepth 100000
set_option maxHeartbeats 4000000
namespace L2
open PySem PySem.Spec PyProof.Rows
mutual
def DV (H:Hp):PyData→V→Prop
 | .none,v=>v=.non
 | .bool b,v=>v=.bl b
 | .int i,v=>v=.int i
 | .str x,v=>v=.str x
 | .list ds,v=>∃ p xs,v=.ref p∧H p=some (.lst xs)∧DVs H ds xs
 | .tuple ds,v=>∃ p xs,v=.ref p∧H p=some (.tup xs)∧DVs H ds xs
 | .dict _,_=>False
def DVs (H:Hp):List PyData→List V→Prop
 | [],xs=>xs=[]
 | d :: ds,xs=>∃ v r,xs=v :: r∧DV H d v∧DVs H ds r
end
section
variable {X:Cx} {pins:List (Addr × Obj)} {σ:St} {H:Hp} {s:Shared}
mutual
theorem Zlp (I:Inv X pins σ H s):∀ (d:PyData) (v:V) (u:Value),DV H d v→RelV v u→∃ as,Reads s.heap u d as
 | .none,v,u,h,r=>by
  rw [DV] at h; subst h; cases r; exact ⟨_,.none⟩
 | .bool b,v,u,h,r=>by
  rw [DV] at h; subst h; cases r; exact ⟨_,.bool b⟩
 | .int i,v,u,h,r=>by
  rw [DV] at h; subst h; obtain ⟨t,rfl⟩ :=r; exact ⟨_,.int i t⟩
 | .str x,v,u,h,r=>by
  rw [DV] at h; subst h; obtain ⟨t,rfl⟩ :=r; exact ⟨_,.str x t⟩
 | .list ds,v,u,h,r=>by
  rw [DV] at h
  obtain ⟨p,xs,rfl,e,hs⟩ :=h
  cases r
  obtain ⟨z,its,n,r',e'⟩ :=I.hok p _ e
  obtain ⟨as,ra⟩ :=ZwT I ds xs its hs r'
  exact ⟨_,.list e' rfl rfl (by simpa using ra)⟩
 | .tuple ds,v,u,h,r=>by
  rw [DV] at h
  obtain ⟨p,xs,rfl,e,hs⟩ :=h
  cases r
  obtain ⟨z,its,r',o,e',hc,n,hd⟩ :=I.hok p _ e
  obtain ⟨as,ra⟩ :=ZwT I ds xs its hs r'
  exact ⟨_,.tuple e' hc hd (by simpa using ra)⟩
 | .dict _,v,u,h,r=>by rw [DV] at h; exact h.elim
theorem ZwT (I:Inv X pins σ H s):∀ (ds:List PyData) (xs:List V) (us:List Value),DVs H ds xs→Vals xs us→∃ as,ReadsAll s.heap us ds as
 | [],xs,us,h,r=>by
  rw [DVs] at h; subst h; cases r; exact ⟨_,.nil⟩
 | d :: ds,xs,us,h,r=>by
  rw [DVs] at h
  obtain ⟨v,r0,rfl,h1,h2⟩ :=h
  cases r with
  | cons r1 r2=>
   obtain ⟨a1,q1⟩ :=Zlp I d v _ h1 r1
   obtain ⟨a2,q2⟩ :=ZwT I ds r0 _ h2 r2
   exact ⟨_,.cons q1 q2⟩
end
def rEqD:R2:=fun x y H Q=>∃ d1 d2,DV H d1 x∧DV H d2 y∧d1.canLay0=true∧d2.canLay0=true∧d1.depth≤60∧Q (.bl (PyData.eqv d1 d2)) H
theorem ZMi (hu:X.A.units + 64 < cLine):OpR X (compareOp .Eq) rEqD:=by
 intro pins s σ H x y v u Q I rx ry h
 obtain ⟨d1,d2,h1,h2,c1,c2,hd,q⟩ :=h
 obtain ⟨a1,q1⟩ :=Zlp I d1 x v h1 rx
 obtain ⟨a2,q2⟩ :=Zlp I d2 y u h2 ry
 exact SeqAt.compareEq_reads q1 q2 c1 c2 (Nat.lt_of_le_of_lt (Nat.add_le_add_left (Nat.le_trans (Nat.min_le_left _ _) hd) _) (by omega)) ⟨.bl _,H,I,rfl,q⟩
def rEqA:R2:=fun x y H Q=>rEq x y H Q∨rEqD x y H Q
theorem ZbZ (hu:X.A.units + 64 < cLine):OpR X (compareOp .Eq) rEqA:=OpR.or ZNw (ZMi hu)
def rNeD:R2:=fun x y H Q=>∃ d1 d2,DV H (.list d1) x∧DV H (.list d2) y∧PyData.canLayAll0 d1=true∧PyData.canLayAll0 d2=true∧PyData.depthAll d1≤60∧Q (.bl (!PyData.eqvAll d1 d2)) H
theorem ZMm (hu:X.A.units + 64 < cLine):OpR X (compareOp .NotEq) rNeD:=by
 intro pins s σ H x y v u Q I rx ry h
 obtain ⟨d1,d2,h1,h2,c1,c2,hd,q⟩ :=h
 obtain ⟨a1,q1⟩ :=Zlp I (.list d1) x v h1 rx
 obtain ⟨a2,q2⟩ :=Zlp I (.list d2) y u h2 ry
 cases q1 with
 | @list b1 o vs n _ as1 g1 g2 g3 g4=>
  cases q2 with
  | @list b2 o' vs' n' _ as2 k1 k2 k3 k4=>
   have hl:s.heap.IsList _ vs:=⟨_,g1,g2,_,g3⟩
   have hl':s.heap.IsList _ vs':=⟨_,k1,k2,_,k3⟩
   have n1:vs.size=d1.length:=by simpa using SeqAt.ReadsAll.length _ _ _ g4
   have n2:vs'.size=d2.length:=by simpa using SeqAt.ReadsAll.length _ _ _ k4
   have fin:EP X pins σ Q (.bool (!PyData.eqvAll d1 d2)) s:=⟨.bl _,H,I,rfl,q⟩
   by_cases hz:vs.size=vs'.size
   ·refine SeqAt.RcNeAt.lists hl hl' hz (by omega) (e:=SeqAt.pairEq d1 d2) (fun j j1 j2=>?_) _ _ _ _ ?_
    ·have:=SeqAt.eqAt_readsAll d1 d2 X.A.in1 s vs.toList vs'.toList _ _ g4 k4 c1 c2 (by
      have:X.A.in1.units=X.A.units + 1∨X.A.in1.units=X.A.units:=by first | exact .inl rfl | exact .inr rfl
      have h3:=Nat.min_le_left (PyData.depthAll d1) (PyData.depthAll d2)
      omega) j (by simpa using j1) (by simpa using j2)
     simpa using this
    ·have e:=SeqAt.eqvAll_eq d1 d2
     rw [← n1,← n2,← hz,Nat.min_self,beq_self_eq_true,Bool.and_true] at e
     rw [e]; exact fin
   ·refine SeqAt.RcNeAt.lists_lengths hl hl' (by simpa using hz) (by omega) _ _ _ _ ?_
    have e:=SeqAt.eqvAll_eq d1 d2
    have hb:(d1.length == d2.length)=false:=by
     rw [← n1,← n2]; simpa using hz
    rw [hb,Bool.and_false] at e
    rw [← e] at fin
    exact fin
def rNeT:R2:=fun x y H Q=>∃ d1 d2,DV H (.tuple d1) x∧DV H (.tuple d2) y∧PyData.canLayAll0 d1=true∧PyData.canLayAll0 d2=true∧PyData.depthAll d1≤60∧Q (.bl (!PyData.eqvAll d1 d2)) H
theorem ZMn (hu:X.A.units + 64 < cLine):OpR X (compareOp .NotEq) rNeT:=by
 intro pins s σ H x y v u Q I rx ry h
 obtain ⟨d1,d2,h1,h2,c1,c2,hd,q⟩ :=h
 obtain ⟨a1,q1⟩ :=Zlp I (.tuple d1) x v h1 rx
 obtain ⟨a2,q2⟩ :=Zlp I (.tuple d2) y u h2 ry
 cases q1 with
 | @tuple b1 o vs n _ as1 g1 g2 g3 g4=>
  cases q2 with
  | @tuple b2 o' vs' n' _ as2 k1 k2 k3 k4=>
   have hl:s.heap.IsTuple _ vs:=⟨_,g1,g2,_,g3⟩
   have hl':s.heap.IsTuple _ vs':=⟨_,k1,k2,_,k3⟩
   have n1:vs.size=d1.length:=by simpa using SeqAt.ReadsAll.length _ _ _ g4
   have n2:vs'.size=d2.length:=by simpa using SeqAt.ReadsAll.length _ _ _ k4
   refine SeqAt.RcNeAt.tuples hl hl' (by omega) (e:=SeqAt.pairEq d1 d2) (fun j j1 j2=>?_) _ _ _ _ ?_
   ·have:=SeqAt.eqAt_readsAll d1 d2 X.A.in1 s vs.toList vs'.toList _ _ g4 k4 c1 c2 (by
     have:X.A.in1.units=X.A.units + 1∨X.A.in1.units=X.A.units:=by first | exact .inl rfl | exact .inr rfl
     have h3:=Nat.min_le_left (PyData.depthAll d1) (PyData.depthAll d2)
     omega) j (by simpa using j1) (by simpa using j2)
    simpa using this
   ·rw [n1,n2,SeqAt.eqvAll_eq d1 d2]
    exact ⟨.bl _,H,I,rfl,q⟩
def rNeA:R2:=fun x y H Q=>rNe x y H Q∨rNeD x y H Q∨rNeT x y H Q
theorem Zuh (hu:X.A.units + 64 < cLine):OpR X (compareOp .NotEq) rNeA:=OpR.or ZNx (OpR.or (ZMm hu) (ZMn hu))
end
section
variable {K:PySem.W.Frag} {H:Hp} {Q:VK}
theorem ZJq {i j:Int} (h:Q (.bl (decide (i=j))) H):rEqA (.int i) (.int j) H Q:=.inl (ZKn h)
theorem ZJr {i j:Str} (h:Q (.bl (decide (i=j))) H):rEqA (.str i) (.str j) H Q:=.inl (ZKo h)
theorem ZJA {i j:Int} (h:Q (.bl (!decide (i=j))) H):rNeA (.int i) (.int j) H Q:=.inl (ZKr h)
theorem ZJB {i j:Str} (h:Q (.bl (!decide (i=j))) H):rNeA (.str i) (.str j) H Q:=.inl (ZKs h)
end
end L2
set_option maxRecDepth 100000
namespace PySem
open Sem (wp)
open AutoSeq1 (wpAny_loadPart')
theorem ZBz (a:Addr) (vs:Array Value) (m:Nat) (dc:Option Addr) (sc:Array (Option Value)):Meets (Builtin.«enumerate.__new__» ⟨[.type "enumerate",.ref a],[]⟩) (fun _ R z=>
    z.heap.get? a=some { cls:=.type "tuple",dict:=dc,data:=.seq vs m,slots:=sc }∧
    R (.ok (.ret (.ref (z.heap.push { cls:=.type "tuple_iterator",data:=.fields #[.ref a,.int 0 0] }).objs.size)))
      { z with heap:=(z.heap.push { cls:=.type "tuple_iterator",data:=.fields #[.ref a,.int 0 0] }).push { cls:=.type "enumerate",data:=.fields #[.none,.bool false,.ref z.heap.objs.size,rawInt 0,.none,.none] } }):=
  .of_wp fun pr wo ar R z hz=>by
    obtain ⟨hp,gg,dd,tt,ss⟩ :=z
    obtain ⟨ha,hR⟩ :=hz
    have hsubE:=sub_enumerate
    have hT:Heap.IsTuple (Shared.heap ⟨hp,gg,dd,tt,ss⟩) a vs:=⟨_,ha,rfl,m,rfl⟩
    wp_walk using wpAny_loadPart' ha
    refine wpAny_stack_any fun stk=>wpAny_pure ?_
    split
    · rename_i cc _ _ _ _ _
      cases (cc == Value.type "enumerate") <;>
        (wp_walk using wpAny_loadPart' ha,wpAny_pyIter_tuple hT
         exact ⟨_,rfl,hR⟩)
    · wp_walk using wpAny_loadPart' ha,wpAny_pyIter_tuple hT
      exact ⟨_,rfl,hR⟩
section
variable {prog:Program} {w:World} {A:Around} {E:Value→Shared→Prop} {s:Shared}
theorem ZyW {a:Addr} {vs:Array Value} {Q:Value→Shared→Prop} (hT:s.heap.IsTuple a vs)
  (q:∀ h',IsEnum h' (s.heap.objs.size + 1) s.heap.objs.size 0 .none→h'.IsTupleIter s.heap.objs.size a 0→(∀ b o,s.heap.get? b=some o→h'.get? b=some o)→Q (.ref (s.heap.objs.size + 1)) { s with heap:=h' }) :
  wpAny (model prog w) A (call (.type "enumerate") [.ref a]) Q E s:=by
 obtain ⟨⟨c,dc,dt,sc⟩,ha,hc,m,hd⟩ :=hT
 replace hc:c=.type "tuple":=hc
 replace hd:dt=.seq vs m:=hd
 subst hc hd
 refine callType_new F.called_enumerate (by decide) (F.typeCall_enumerate_1 _) (F.newCall_enumerate_1 _) (fun z=>F.args_object_init_2 z _) F.entry_enumerate_new (ZBz a vs m dc sc) ⟨ha,?_⟩
 have hz:(s.heap.push { cls:=.type "tuple_iterator",data:=.fields #[.ref a,.int 0 0] }).objs.size=s.heap.objs.size + 1:=Heap.size_push ..
 show _∧_
 rw [hz]
 have he:IsEnum ((s.heap.push { cls:=.type "tuple_iterator",data:=.fields #[.ref a,.int 0 0] }).push { cls:=.type "enumerate",data:=.fields #[.none,.bool false,.ref s.heap.objs.size,rawInt 0,.none,.none] }) (s.heap.objs.size + 1) s.heap.objs.size 0 .none:=by
  have e:=Heap.get?_push_size (s.heap.push { cls:=.type "tuple_iterator",data:=.fields #[.ref a,.int 0 0] }) (o:={ cls:=.type "enumerate",data:=.fields #[.none,.bool false,.ref s.heap.objs.size,rawInt 0,.none,.none] }) rfl
  rw [hz] at e
  exact e
 exact ⟨⟨_,he,rfl⟩,q _ he ⟨_,Heap.get?_push_of_some _ (Heap.get?_push_size _ rfl),rfl,rfl⟩ fun b o e=>Heap.get?_push_of_some _ (Heap.get?_push_of_some _ e)⟩
theorem Zwz {it t:Addr} {i:Nat} {vs} {x:Value} {Q:Value→Shared→Prop} (hi:s.heap.IsTupleIter it t i) (ht:s.heap.IsTuple t vs) (hx:vs[i]?=some x)
  (q:∀ h',h'.IsTupleIter it t (i + 1)→Heap.SameBut it s.heap h'→Q x { s with heap:=h' }):wpAny (model prog w) A (Builtin.SmallTypes.nextOf (.ref it)) Q E s:=by
 obtain ⟨o,ho,hc,hd⟩ :=id hi
 obtain ⟨ot,hot,_,nt,hdt⟩ :=ht
 unfold Builtin.SmallTypes.nextOf
 refine wpAny_bind (wpAny_callSpecial?_slot (name:=Str.ofString "__next__") hi.typeIs F.slot_tuple_iterator_next (wpAny_call_entry F.slot_tuple_iterator_next hi.typeIs F.entry_tuple_iterator_next ?_ (F.args_tuple_iterator_next_1 _)))
 show wpAny _ _ (field (.ref it) 0 >>= _) _ _ s
 refine wpAny_bind (wpAny_field ho hd (x:=.ref t) rfl ?_)
 show wpAny _ _ (if (Value.ref t == Value.none)=true then _ else _) _ _ s
 rw [if_neg (show ¬ ((Value.ref t == Value.none)=true) from Bool.false_ne_true)]
 show wpAny _ _ (field (.ref it) 1 >>= _) _ _ s
 refine wpAny_bind (wpAny_field ho hd (x:=.int i 0) rfl ?_)
 show wpAny _ _ (seqItems? (.ref t) >>= _) _ _ s
 refine wpAny_bind (wpAny_seqItems hot hdt ?_)
 simp only [Int.toNat_natCast,hx]
 refine wpAny_bind (wpAny_setField ho hd (by simp) (wpAny_pure ⟨x,rfl,wpAny_pure (q _ ?_ (Heap.SameBut.update ..))⟩))
 exact ⟨_,Heap.get?_update_self _ ho (Obj.isFreed_of_fields (Obj.data_mapFields hd _)),(Obj.cls_mapFields ..).trans hc,by rw [Obj.data_mapFields hd]; simp [rawInt]⟩
theorem Zxq {it t:Addr} {i:Nat} {vs} {Q:Value→Shared→Prop} (hh:A.handled=none) (hi:s.heap.IsTupleIter it t i) (ht:s.heap.IsTuple t vs) (hx:vs[i]?=none)
  (q:∀ h' e,Heap.ExtBut it s.heap h'→(∃ o,h'.get? e=some o∧o.cls=.type "StopIteration")→E (.ref e) { s with heap:=h' }):wpAny (model prog w) A (Builtin.SmallTypes.nextOf (.ref it)) Q E s:=by
 obtain ⟨o,ho,hc,hd⟩ :=id hi
 obtain ⟨ot,hot,_,nt,hdt⟩ :=ht
 unfold Builtin.SmallTypes.nextOf
 refine wpAny_bind (wpAny_callSpecial?_slot (name:=Str.ofString "__next__") hi.typeIs F.slot_tuple_iterator_next (wpAny_call_entry F.slot_tuple_iterator_next hi.typeIs F.entry_tuple_iterator_next ?_ (F.args_tuple_iterator_next_1 _)))
 show wpAny _ _ (field (.ref it) 0 >>= _) _ _ s
 refine wpAny_bind (wpAny_field ho hd (x:=.ref t) rfl ?_)
 show wpAny _ _ (if (Value.ref t == Value.none)=true then _ else _) _ _ s
 rw [if_neg (show ¬ ((Value.ref t == Value.none)=true) from Bool.false_ne_true)]
 show wpAny _ _ (field (.ref it) 1 >>= _) _ _ s
 refine wpAny_bind (wpAny_field ho hd (x:=.int i 0) rfl ?_)
 show wpAny _ _ (seqItems? (.ref t) >>= _) _ _ s
 refine wpAny_bind (wpAny_seqItems hot hdt ?_)
 simp only [Int.toNat_natCast,hx]
 refine wpAny_bind (wpAny_rule (wpAny_bind (wpAny_setField ho hd (by simp) ?_)))
 show wpAny _ _ (newExc (.type "StopIteration") [] >>= _) _ _ _
 refine wpAny_bind ?_
 simp only [newExc,newTuple]
 refine wpAny_bind (wpAny_newObj_type ?_ (by size_fits))
 refine wpAny_bind (m:=firstArgMember _ _) (wpAny_of_eq (a:=Value.none) (by first | rfl | (simp only [firstArgMember]; rfl)) ?_)
 refine wpAny_newObj_type ?_ (by size_fits)
 simp only [raiseNew]
 refine wpAny_bind (wpAny_handled ?_)
 first | rw [show A.in1.handled=none from hh] | rw [hh]
 refine wpAny_bind (wpAny_pure (wpAny_throw ?_))
 exact q _ _ (((Heap.SameBut.update ..).extBut.push _).push _) ⟨_,Heap.get?_push_size _ rfl,rfl⟩
end
theorem Draws.tup {prog:Program} {w:World} {A:Around} (hh:A.handled=none) (it t:Addr) (hne:t ≠ it) (vs:Array Value):Draws prog w A it [it,t] vs.size (fun i v=>vs[i]?=some v) (fun i h=>h.IsTupleIter it t i∧h.IsTuple t vs) where
 live:=fun _ _ z=>let ⟨o,ho,_⟩ :=z.1; ⟨o,ho⟩
 frame:=fun _ _ _ z hk=>⟨(let ⟨o,ho,r⟩ :=z.1; ⟨o,hk it (by simp) o ho,r⟩),(let ⟨o,ho,r⟩ :=z.2; ⟨o,hk t (by simp) o ho,r⟩)⟩
 item:=fun i s Q E hi z q=>Zwz z.1 z.2 (x:=vs[i]) (by simp [hi]) fun h' hi' hs'=>q _ h' s.toks (by simp [hi]) ⟨hi',z.2.extBut hs'.extBut hne⟩ hs'
 done:=fun s Q E z q=>Zxq hh z.1 z.2 (by simp) q
theorem ZIQ {h:Heap} {o o':Obj} {b:Addr} (e:(h.push o).get? b=some o'):b=h.objs.size∧o'=o∨h.get? b=some o':=by
 obtain ⟨e1,e2⟩ :=Heap.get?_some_iff.mp e
 have e1:(h.objs.push o)[b]?=some o':=by simpa [Heap.push] using e1
 rw [Array.getElem?_push] at e1
 split at e1
 ·rename_i z
  exact .inl ⟨z,(Option.some.inj e1).symm⟩
 ·exact .inr (Heap.get?_some_iff.mpr ⟨e1,e2⟩)
end PySem
namespace L2
open PySem PySem.Spec PyProof.Rows
section
variable {X:Cx} {pins:List (Addr × Obj)} {σ:List (Option V)} {H:Hp} {s:Shared} {h':Heap}
theorem Inv.turnedL {t':Nat} {ch:List Addr} (I:Inv X pins σ H s) (k:∀ b o,b ∉ ch→s.heap.get? b=some o→h'.get? b=some o) (hf:∀ b ∈ ch,FpOk X pins H b):Inv X pins σ H { s with heap:=h',toks:=t' }:=by
 have nit:∀ b u,H b=some u→b ∉ ch:=fun b u e z=>by rw [(hf b z).1] at e; cases e
 have hL:X.env.locals ∉ ch:=fun z=>(hf _ z).2.1 rfl
 refine I.step (g':=s.gens) (d':=s.drawn) (ch:=ch) (fun b hb=>?_) (fun b o _ _ hc e _=>k b o hc e) (fun b o _ _ hc e _=>⟨o.slots,k b o hc e⟩) (fun _ _ _ _ n=>n) (fun b o hc e=>⟨o,k b o hc e⟩) (fun _ _ e=>e) (fun _ _ _ e=>e) (fun b ps e=>⟨#[],by rw [e]; simp⟩) (fun m hm=>?_) (fun b u e=>?_) I.bare
 ·obtain ⟨f0,f1,f2,f3,f4,f5⟩ :=hf b hb
  exact ⟨f3,f1,f4,f5⟩
 ·obtain ⟨o,es,ep,ho,r⟩ :=hm
  exact ⟨o,es,ep,k _ o hL ho,r⟩
 ·refine (I.hok b u e).stay (fun c v hc q=>k c v ?_ q) (fun _ q=>q) fun _ _ q=>q
  rcases hc with z | z
  ·rw [z]; exact nit b u e
  ·exact nit c _ z
theorem Inv.pairTurn {t':Nat} {ch:List Addr} {x y:V} {u v:Value} (I:Inv X pins σ H s) (rx:RelV x u) (ry:RelV y v) (hf:∀ b ∈ ch,FpOk X pins H b) (hch:∀ b ∈ ch,b ≠ s.heap.objs.size)
  (k:∀ b o,b ∉ ch→s.heap.get? b=some o→h'.get? b=some o) (hT:h'.get? s.heap.objs.size=some { cls:=.type "tuple",data:=.seq #[u,v] }) :
  Inv X pins σ (upd H s.heap.objs.size (.tup [x,y])) { s with heap:=h',toks:=t' }:=by
 have I1:Inv X pins σ (upd H s.heap.objs.size (.tup [x,y])) { s with heap:=s.heap.push { cls:=.type "tuple",data:=.seq #[u,v] } }:=
  I.laid (t':=s.toks) (fun b o e=>Heap.get?_push_of_some _ e) (Nat.le_refl _) (show ZeB X.prog X.w _ _ _ (.tup [x,y]) from ⟨Nat.le_of_ble_eq_true rfl,[u,v],.cons rx (.cons ry .nil),IsTup.new _ _⟩)
 refine Inv.turnedL (s:={ s with heap:=s.heap.push { cls:=.type "tuple",data:=.seq #[u,v] } }) (ch:=ch) I1 (fun b o hb e=>?_) fun b hb=>?_
 ·rcases ZIQ e with ⟨e1,e2⟩ | e
  ·rw [e1,e2]; exact hT
  ·exact k b o hb e
 ·obtain ⟨f0,f1,f2,f3,f4,f5⟩ :=hf b hb
  exact ⟨by rw [ZaS (hch b hb)]; exact f0,f1,f2,f3,f4,f5⟩
end
def Ite (sq:Hp→Prop) (xs:List V):It:=⟨fun i H=>i < xs.length∧sq H,fun i H x H'=>∃ T v,xs[i]?=some v∧H T=none∧x=.ref T∧H'=upd H T (.tup [.int (i:Int),v]),fun i H=>i=xs.length∧sq H⟩
theorem ZCB {P:Program} {w:World} {K:PySem.W.Frag} {elts:List Expr} {kk:Nat} {ps:Pos} {sq:Hp→Prop} {xs:List V} {e it:Addr} {stI:Nat→Heap→Prop} (hei:e ≠ it)
  (hobj:∀ i h,stI i h→∃ o,h.get? it=some o∧∀ v,o.data ≠ .cell v) (hkeep:∀ i h h',stI i h→(∀ o,h.get? it=some o→h'.get? it=some o)→stI i h')
  (hD:∀ (X:Cx),X.prog=P→X.w=w→X.K=K→X.calm=true→∀ (pins:List (Addr × Obj)) (σ:St) (H:Hp) (s:Shared) (i:Nat),Inv X pins σ H s→sq H→(∃ old,IsEnum s.heap e it i old)→stI i s.heap→
   ∃ (its:List Value) (fp:List Addr) (S:Nat→Heap→Prop),Vals xs its∧Draws P w X.A.in1 it fp its.length (fun j v=>its[j]?=some v) S∧S i s.heap∧(∀ j h,S j h→stI j h)∧e ∉ fp) :
  Turn P w K (.Tuple elts kk ps) (Ite sq xs) [e,it] e (fun i h=>(∃ old,IsEnum h e it i old)∧stI i h) where
 mem:=by simp
 obj:=fun i h st b hb=>by
  obtain ⟨⟨old,he⟩,hs⟩ :=st
  rcases List.mem_cons.mp hb with rfl | hb
  ·exact ⟨_,he,fun v z=>by cases z⟩
  ·rw [List.mem_singleton.mp hb]; exact hobj i h hs
 keep:=fun i h h' st k=>by
  obtain ⟨⟨old,he⟩,hs⟩ :=st
  exact ⟨⟨old,k e (by simp) _ he⟩,hkeep i h h' hs fun o z=>k it (by simp) o z⟩
 item:=by
  intro X hP hw hK hc i pins s σ H E I hf st hg
  obtain ⟨⟨old,he⟩,hs⟩ :=st
  obtain ⟨its,fp,S,rv,D,hS,hst,hef⟩ :=hD X hP hw hK hc pins σ H s i I hg.2 ⟨old,he⟩ hs
  subst hP hw hK
  have hi:i < its.length:=by rw [← rv.length]; exact hg.1
  refine wpAny_pyNext_enum_itemD D he hS hi hei hef fun u h1 tk hu ho hs1 hT hsz hk=>?_
  have hel:e < s.heap.objs.size:=Heap.lt_size he
  have hil:it < s.heap.objs.size:=by obtain ⟨o,q,_⟩ :=hobj i _ hs; exact Heap.lt_size q
  refine ⟨_,rfl,wpAny_letOwnedTupleGo_enum ho fun h2 he2 hs2=>?_⟩
  obtain ⟨v,hv⟩ : ∃ v,xs[i]?=some v:=⟨xs[i]'hg.1,List.getElem?_eq_getElem hg.1⟩
  obtain ⟨u',hu',ru⟩ :=rv.get hv
  have eu:u'=u:=Option.some.inj (hu'.symm.trans hu)
  subst eu
  have I2:Inv X pins σ (upd H s.heap.objs.size (.tup [.int (i:Int),v])) { s with heap:=h2,toks:=tk + 1 }:=
   I.pairTurn (ch:=[e,it]) (u:=.int i tk) ⟨tk,rfl⟩ ru hf (fun b hb=>by
    rcases List.mem_cons.mp hb with rfl | hb
    ·exact Nat.ne_of_lt hel
    ·rw [List.mem_singleton.mp hb]; exact Nat.ne_of_lt hil) (fun b o hb z=>by
    have hb1:b ≠ e:=fun q=>hb (by simp [q])
    have hb2:b ≠ it:=fun q=>hb (by simp [q])
    exact (hs2.2 b hb1).trans (hk b o hb1 hb2 z)) ((hs2.2 _ (Nat.ne_of_gt hel)).trans hT)
  refine ⟨.ref s.heap.objs.size,_,I2,rfl,⟨_,v,hv,I.hok.fresh (Nat.le_refl _),rfl,rfl⟩,⟨⟨_,by simpa using he2⟩,hst _ _ (D.frame _ _ _ hs1 fun b hb o z=>(hs2.2 b fun q=>hef (q ▸ hb)).trans z)⟩,fun b hb=>?_⟩
  have hne:b ≠ s.heap.objs.size:=by
   rcases List.mem_cons.mp hb with rfl | hb
   ·exact Nat.ne_of_lt hel
   ·rw [List.mem_singleton.mp hb]; exact Nat.ne_of_lt hil
  rw [ZaS hne]
  exact (hf b hb).1
 done:=by
  intro X hP hw hK hc i pins s σ H E I hf st hg
  obtain ⟨⟨old,he⟩,hs⟩ :=st
  obtain ⟨its,fp,S,rv,D,hS,hst,hef⟩ :=hD X hP hw hK hc pins σ H s i I hg.2 ⟨old,he⟩ hs
  subst hP hw hK
  have hi:i=its.length:=by rw [← rv.length]; exact hg.1
  rw [hi] at hS
  obtain ⟨f0,f1,f2,f3,f4,f5⟩ :=hf it (by simp)
  exact wpAny_pyNext_enum_endD D he hS fun h1 eb=>⟨rfl,I.turned (t':=s.toks) (fun b o hb z=>eb b o hb z) f0 f1 f3 f4 f5⟩
 self:=fun _ _ _ _ _ st h=>by
  obtain ⟨⟨old,he⟩,_⟩ :=st
  exact wpAny_pyIter_enum he h
section
variable {X:Cx}
def ZLy (K:PySem.W.Frag) (tl:TE):TI:=fun σ H R=>tl σ H fun x H1=>(∃ a xs,x=.ref a∧SqL K H1 a xs∧R (Ite (fun H=>SqL K H a xs) xs) H1)∨(∃ a xs,x=.ref a∧SqT K H1 a xs∧R (Ite (fun H=>SqT K H a xs) xs) H1)
theorem ZKP {elts:List Expr} {kk:Nat} {ps:Pos} {l:Expr} {tl:TE} {p pos:Pos} (hg:Gl X "enumerate") (hm:X.mg "enumerate" = none) (ha:PE X l tl) (he:starEach [l] X.env=(false,eval l X.env) :: starEach [] X.env:=by rfl) :
  PI X (.Tuple elts kk ps) (.Call (.Name "enumerate" p) [l] [] pos) (ZLy X.K tl):=by
 intro pins s σ H R I h
 refine wpAny_Call_Name_kw (Zyl I hg hm ZA2 ?_)
 let R':List V→Hp→Prop:=fun vs H1=>match vs with | [x]=>((∃ a xs,x=V.ref a∧SqL X.K H1 a xs∧R (Ite (fun H=>SqL X.K H a xs) xs) H1)∨(∃ a xs,x=V.ref a∧SqT X.K H1 a xs∧R (Ite (fun H=>SqT X.K H a xs) xs) H1)) | _=>False
 have h':ZxM tl tNil σ H R':=h
 refine PyProof.Rows.callWith_type1 (thn (Zaa ha Zad he pos pins s σ H R' I h') fun us s1 ⟨vs,H1,I1,r1,q1⟩ =>?_) he rfl
 have fpk:∀ b ∈ [s1.heap.objs.size + 1,s1.heap.objs.size],FpOk X pins H1 b:=fun b hb=>by
  rcases List.mem_cons.mp hb with rfl | hb
  ·exact I1.fpOk (Nat.le_succ _) (I1.hok.fresh (Nat.le_succ _))
  ·rw [List.mem_singleton.mp hb]; exact I1.fpOk (Nat.le_refl _) (I1.hok.fresh (Nat.le_refl _))
 match vs,r1,q1 with
 | [x],r1,q1=>
  obtain ⟨u,rfl,rx⟩ :=ZFE r1
  rcases q1 with ⟨a,xs,rfl,hq,q⟩ | ⟨a,xs,rfl,hq,q⟩
  ·cases rx
   obtain ⟨its,rv,pl,hz⟩ :=I1.list hq
   refine call_enumerate_list pl.isList fun h2 he2 hi2 hsz hk=>?_
   refine wpAny_pyIter_enum he2 ⟨s1.heap.objs.size + 1,_,_,_,H1,rfl,I1.kept (t':=s1.toks) hk,ZCB (e:=s1.heap.objs.size + 1) (it:=s1.heap.objs.size) (stI:=fun i h=>h.IsListIter s1.heap.objs.size a i) (Nat.succ_ne_self _) ?_ ?_ ?_,⟨⟨_,he2⟩,hi2⟩,fpk,q⟩
   ·rintro i h ⟨o,e,c,d⟩
    exact ⟨o,e,fun v z=>by rw [d] at z; cases z⟩
   ·exact fun i h h' z k=>z.at k
   ·intro Y hP hw hK hc pins' σ' H' s' i I' hs ⟨old,hen⟩ hit
    have hs:SqL Y.K H' a xs:=by rw [hK]; exact hs
    obtain ⟨its',rv',pl',hz'⟩ :=I'.list hs
    have na:a ≠ s1.heap.objs.size:=fun z=>by
     obtain ⟨o,e,c,d⟩ :=hit
     obtain ⟨o',e',c',d'⟩ :=pl'.isList
     rw [z,e] at e'
     cases e'
     rw [c] at c'
     exact absurd c' (by decide)
    have nb:s1.heap.objs.size + 1 ∉ [s1.heap.objs.size,a]:=fun z=>by
     rcases List.mem_cons.mp z with z | z
     ·exact Nat.succ_ne_self _ z
     ·obtain ⟨o',e',c',d'⟩ :=pl'.isList
      rw [← List.mem_singleton.mp z,hen] at e'
      cases e'
      have c2:Value.type "enumerate" = Value.type "list":=c'
      exact absurd c2 (by decide)
    have D:=Draws.list (prog:=Y.prog) (w:=Y.w) (A:=Y.A.in1) (I'.ok.hd hc) s1.heap.objs.size a na its'.toArray
    rw [hP,hw] at D
    exact ⟨its',[s1.heap.objs.size,a],fun i h=>h.IsListIter s1.heap.objs.size a i∧h.IsList a its'.toArray,rv',by simpa using D,⟨hit,pl'.isList⟩,fun j h z=>z.1,nb⟩
  ·cases rx
   obtain ⟨its,rv,pl,hz⟩ :=I1.tuple hq
   refine ZyW (show s1.heap.IsTuple a its.toArray from pl) fun h2 he2 hi2 hk=>?_
   refine wpAny_pyIter_enum he2 ⟨s1.heap.objs.size + 1,_,_,_,H1,rfl,I1.kept (t':=s1.toks) hk,ZCB (e:=s1.heap.objs.size + 1) (it:=s1.heap.objs.size) (stI:=fun i h=>h.IsTupleIter s1.heap.objs.size a i) (Nat.succ_ne_self _) ?_ ?_ ?_,⟨⟨_,he2⟩,hi2⟩,fpk,q⟩
   ·rintro i h ⟨o,e,c,d⟩
    exact ⟨o,e,fun v z=>by rw [d] at z; cases z⟩
   ·exact fun i h h' z k=>let ⟨o,e,r⟩ :=z; ⟨o,k o e,r⟩
   ·intro Y hP hw hK hc pins' σ' H' s' i I' hs ⟨old,hen⟩ hit
    have hs:SqT Y.K H' a xs:=by rw [hK]; exact hs
    obtain ⟨its',rv',pl',hz'⟩ :=I'.tuple hs
    have na:a ≠ s1.heap.objs.size:=fun z=>by
     obtain ⟨o,e,c,d⟩ :=hit
     obtain ⟨o',e',c',d'⟩ :=pl'
     rw [z,e] at e'
     cases e'
     rw [c] at c'
     exact absurd c' (by decide)
    have nb:s1.heap.objs.size + 1 ∉ [s1.heap.objs.size,a]:=fun z=>by
     rcases List.mem_cons.mp z with z | z
     ·exact Nat.succ_ne_self _ z
     ·obtain ⟨o',e',c',d'⟩ :=pl'
      rw [← List.mem_singleton.mp z,hen] at e'
      cases e'
      have c2:Value.type "enumerate" = Value.type "tuple":=c'
      exact absurd c2 (by decide)
    have D:=Draws.tup (prog:=Y.prog) (w:=Y.w) (A:=Y.A.in1) (I'.ok.hd hc) s1.heap.objs.size a na its'.toArray
    rw [hP,hw] at D
    exact ⟨its',[s1.heap.objs.size,a],fun i h=>h.IsTupleIter s1.heap.objs.size a i∧h.IsTuple a its'.toArray,rv',by simpa using D,⟨hit,pl'⟩,fun j h z=>z.1,nb⟩
end
section
variable {σ:St} {H:Hp} {Q:VK} {D:Ends} {K:PySem.W.Frag} {g:TG} {tb:TS}
def ZJ9 (sq:Hp→Prop) (xs:List V) (g:TG) (tb:TS) (D:Ends) (σ:St) (H:Hp):Prop:=
 ∃ W:Nat→Nat→St→Hp→Prop,(∃ m,W 0 m σ H)∧∀ i m σ H,W i m σ H→
   ((Ite sq xs).stop i H∧D.nx σ H)∨((Ite sq xs).go i H∧∃ N:St→Hp→Prop,(∀ σ' H',N σ' H'→∃ m',m' < m∧W (i + 1) m' σ' H')∧∀ x H',(Ite sq xs).yld i H x H'→g x σ H' fun σ2 H2=>tb { D with nx:=N,ct:=N,bk:=D.nx } σ2 H2)
def SeqE (K:PySem.W.Frag) (x:V) (g:TG) (tb:TS) (D:Ends) (σ:St) (H1:Hp):Prop:=(∃ a xs,x=.ref a∧SqL K H1 a xs∧ZJ9 (fun H=>SqL K H a xs) xs g tb D σ H1)∨(∃ a xs,x=.ref a∧SqT K H1 a xs∧ZJ9 (fun H=>SqT K H a xs) xs g tb D σ H1)
theorem ZJt {tl:TE} (h:tl σ H fun x H1=>SeqE K x g tb D σ H1):tFor (ZLy K tl) g tb D σ H:=h
theorem ZNr {sq:Hp→Prop} {xs:List V} (Pv:Nat→St→Hp→Prop) (h0:Pv 0 σ H) (hl:∀ i σ H,i≤xs.length→Pv i σ H→sq H)
  (hs:∀ (i:Nat) (v:V) (T:Addr) σ H H',xs[i]?=some v→Pv i σ H→Same H H'→H T=none→H' T=some (.tup [.int (i:Int),v])→g (.ref T) σ H' fun σ2 H2=>tb { D with nx:=Pv (i + 1),ct:=Pv (i + 1),bk:=D.nx } σ2 H2) (hd:∀ σ H,Pv xs.length σ H→D.nx σ H):ZJ9 sq xs g tb D σ H:=by
 refine ⟨fun i m σ H=>m=xs.length - i∧i≤xs.length∧Pv i σ H,⟨xs.length,by simp,Nat.zero_le _,h0⟩,?_⟩
 rintro i m σ H ⟨rfl,hi,p⟩
 by_cases hlt:i < xs.length
 ·refine .inr ⟨⟨hlt,hl i σ H hi p⟩,Pv (i + 1),fun σ' H' p'=>⟨xs.length - (i + 1),by omega,rfl,hlt,p'⟩,fun x H' y=>?_⟩
  obtain ⟨T,v,hv,hT,rfl,rfl⟩ :=y
  exact hs i v T σ H _ hv p (ZdU hT _) hT Zaz
 ·have e:i=xs.length:=by omega
  subst e
  exact .inl ⟨⟨rfl,hl _ σ H hi p⟩,hd σ H p⟩
theorem ZNC {a:Addr} {xs:List V} (Pv:Nat→St→Hp→Prop) (h0:Pv 0 σ H) (hl:∀ i σ H,i≤xs.length→Pv i σ H→SqL K H a xs)
  (hs:∀ (i:Nat) (v:V) (T:Addr) σ H H',xs[i]?=some v→Pv i σ H→Same H H'→H T=none→H' T=some (.tup [.int (i:Int),v])→g (.ref T) σ H' fun σ2 H2=>tb { D with nx:=Pv (i + 1),ct:=Pv (i + 1),bk:=D.nx } σ2 H2) (hd:∀ σ H,Pv xs.length σ H→D.nx σ H):SeqE K (.ref a) g tb D σ H:=.inl ⟨a,xs,rfl,hl 0 σ H (Nat.zero_le _) h0,ZNr Pv h0 hl hs hd⟩
theorem ZFc {T:Addr} {x y:V} {i j:Nat} {R:St→Hp→Prop} (e:H T=some (.tup [x,y])) (h:R ((σ.set i (some x)).set j (some y)) H):gTup K 2 (ZKg (Zv0 i) (ZKg (Zv0 j) gNil)) (.ref T) σ H R:=
 ⟨T,[x,y],rfl,SqT.of e,rfl,x,[y],rfl,y,[],rfl,rfl,h⟩
end
end L2
set_option maxRecDepth 100000
namespace L2
open PySem PySem.Spec PyProof.Rows
def Itz (K:PySem.W.Frag) (a b:Addr) (xs ys:List V):It:=⟨fun i H=>(i < xs.length∧i < ys.length)∧SqL K H a xs∧SqL K H b ys,
 fun i H x H'=>∃ T v u,xs[i]?=some v∧ys[i]?=some u∧H T=none∧x=.ref T∧H'=upd H T (.tup [v,u]),fun i H=>(xs.length≤i∨ys.length≤i)∧SqL K H a xs∧SqL K H b ys⟩
theorem Zg1 {h:Heap} {a b:Addr} {o o':Obj} (e:h.get? a=some o) (e':h.get? b=some o') (n:o.cls ≠ o'.cls):a ≠ b:=fun z=>by
 rw [z,e'] at e
 cases e
 exact n rfl
theorem Zob {m n:String} (h:m ≠ n):Value.type m ≠ Value.type n:=fun e=>h (by injection e)
theorem ZJa {P:Program} {w:World} {K:PySem.W.Frag} {elts:List Expr} {kk:Nat} {ps:Pos} {a b z TI TO i1 i2:Addr} {xs ys:List V} (d1:TI ≠ z) (d2:TO ≠ z) (d3:i1 ≠ z) (d4:i2 ≠ z) (d5:TI ≠ TO) (d6:TI ≠ i1) (d7:TI ≠ i2) (d8:TO ≠ i1) (d9:TO ≠ i2) (d10:i1 ≠ i2) :
  Turn P w K (.Tuple elts kk ps) (Itz K a b xs ys) [z,TI,TO,i1,i2] z (fun i h=>IsZip h z TI TO .none∧IsPair h TI (.ref i1) (.ref i2)∧(∃ u v,IsPair h TO u v)∧h.IsListIter i1 a i∧h.IsListIter i2 b i) where
 mem:=by simp
 obj:=fun i h st c hc=>by
  obtain ⟨hz,hTI,⟨u,v,hTO⟩,⟨o1,e1,_,g1⟩,⟨o2,e2,_,g2⟩⟩ :=st
  simp at hc
  rcases hc with rfl | rfl | rfl | rfl | rfl
  ·exact ⟨_,hz,fun v z=>by cases z⟩
  ·exact ⟨_,hTI,fun v z=>by cases z⟩
  ·exact ⟨_,hTO,fun v z=>by cases z⟩
  ·exact ⟨_,e1,fun v z=>by rw [g1] at z; cases z⟩
  ·exact ⟨_,e2,fun v z=>by rw [g2] at z; cases z⟩
 keep:=fun i h h' st k=>by
  obtain ⟨hz,hTI,⟨u,v,hTO⟩,h1,h2⟩ :=st
  exact ⟨k z (by simp) _ hz,k TI (by simp) _ hTI,⟨u,v,k TO (by simp) _ hTO⟩,h1.at fun o e=>k i1 (by simp) o e,h2.at fun o e=>k i2 (by simp) o e⟩
 item:=by
  intro X hP hw hK hc i pins s σ H E I hf st hg
  subst hP hw hK
  obtain ⟨hz,hTI,⟨u0,v0,hTO⟩,h1,h2⟩ :=st
  obtain ⟨⟨hi1,hi2⟩,hq1,hq2⟩ :=hg
  obtain ⟨its,rv,pl,hzz⟩ :=I.list hq1
  obtain ⟨jts,rw',pm,hzw⟩ :=I.list hq2
  obtain ⟨x,hx⟩ : ∃ v,xs[i]?=some v:=⟨xs[i]'hi1,List.getElem?_eq_getElem hi1⟩
  obtain ⟨y,hy⟩ : ∃ v,ys[i]?=some v:=⟨ys[i]'hi2,List.getElem?_eq_getElem hi2⟩
  obtain ⟨u,hu,ru⟩ :=rv.get hx
  obtain ⟨v,hv,rvv⟩ :=rw'.get hy
  obtain ⟨oa,ea,ca,_⟩ :=id pl.isList
  obtain ⟨ob,eb,cb,_⟩ :=id pm.isList
  obtain ⟨o1,e1,c1,_⟩ :=id h1
  obtain ⟨o2,e2,c2,_⟩ :=id h2
  have D:ZipApart z TI TO i1 i2 a b:=⟨d1,d2,d3,d4,d5,d6,d7,d8,d9,d10,Zg1 ea hz (by rw [ca]; exact Zob (m:="list") (n:="zip") (by decide)),Zg1 ea hTO (by rw [ca]; exact Zob (m:="list") (n:="tuple") (by decide)),Zg1 ea e1 (by rw [ca,c1]; exact Zob (m:="list") (n:="list_iterator") (by decide)),Zg1 ea e2 (by rw [ca,c2]; exact Zob (m:="list") (n:="list_iterator") (by decide)),
   Zg1 eb hz (by rw [cb]; exact Zob (m:="list") (n:="zip") (by decide)),Zg1 eb hTO (by rw [cb]; exact Zob (m:="list") (n:="tuple") (by decide)),Zg1 eb e1 (by rw [cb,c1]; exact Zob (m:="list") (n:="list_iterator") (by decide)),Zg1 eb e2 (by rw [cb,c2]; exact Zob (m:="list") (n:="list_iterator") (by decide))⟩
  refine wpAny_pyNext_zip_item D hz hTI hTO h1 h2 pl.isList pm.isList (x:=u) (y:=v) (by simpa using hu) (by simpa using hv) fun h' q1 q2 q3 q4 q5 q6 hk=>?_
  refine ⟨_,rfl,wpAny_letOwnedTupleGo_zip q1 fun h2' hz' hs'=>?_⟩
  have lts:∀ c ∈ [z,TI,TO,i1,i2],c ≠ s.heap.objs.size:=fun c hc=>by
   simp at hc
   rcases hc with rfl | rfl | rfl | rfl | rfl
   ·exact Nat.ne_of_lt (Heap.lt_size hz)
   ·exact Nat.ne_of_lt (Heap.lt_size hTI)
   ·exact Nat.ne_of_lt (Heap.lt_size hTO)
   ·exact Nat.ne_of_lt (Heap.lt_size e1)
   ·exact Nat.ne_of_lt (Heap.lt_size e2)
  have hzT:s.heap.objs.size ≠ z:=(lts z (by simp)).symm
  have I2:Inv X pins σ (upd H s.heap.objs.size (.tup [x,y])) { s with heap:=h2' }:=I.pairTurn (t':=s.toks) (ch:=[z,TI,TO,i1,i2]) ru rvv hf lts (fun c o hc e=>by
   have n1:c ≠ z:=fun q=>hc (by simp [q])
   exact hs'.extBut _ _ n1 (hk c o n1 (fun q=>hc (by simp [q])) (fun q=>hc (by simp [q])) (fun q=>hc (by simp [q])) e)) (hs'.extBut _ _ hzT q5)
  refine ⟨.ref s.heap.objs.size,_,I2,rfl,⟨_,x,y,hx,hy,I.hok.fresh (Nat.le_refl _),rfl,rfl⟩,⟨hz',hs'.extBut _ _ d1 (hk _ _ d1 d5 d6 d7 hTI),⟨_,_,hs'.extBut _ _ d2 q2⟩,q3.extBut hs'.extBut d3,q4.extBut hs'.extBut d4⟩,fun c hc=>?_⟩
  rw [ZaS (lts c hc)]
  exact (hf c hc).1
 done:=by
  intro X hP hw hK hc i pins s σ H E I hf st hg
  subst hP hw hK
  obtain ⟨hz,hTI,⟨u0,v0,hTO⟩,h1,h2⟩ :=st
  obtain ⟨hend,hq1,hq2⟩ :=hg
  obtain ⟨its,rv,pl,hzz⟩ :=I.list hq1
  obtain ⟨jts,rw',pm,hzw⟩ :=I.list hq2
  obtain ⟨oa,ea,ca,_⟩ :=id pl.isList
  obtain ⟨ob,eb,cb,_⟩ :=id pm.isList
  obtain ⟨o1,e1,c1,_⟩ :=id h1
  obtain ⟨o2,e2,c2,_⟩ :=id h2
  have l1:=rv.length
  have l2:=rw'.length
  have D:ZipApart z TI TO i1 i2 a b:=⟨d1,d2,d3,d4,d5,d6,d7,d8,d9,d10,Zg1 ea hz (by rw [ca]; exact Zob (m:="list") (n:="zip") (by decide)),Zg1 ea hTO (by rw [ca]; exact Zob (m:="list") (n:="tuple") (by decide)),Zg1 ea e1 (by rw [ca,c1]; exact Zob (m:="list") (n:="list_iterator") (by decide)),Zg1 ea e2 (by rw [ca,c2]; exact Zob (m:="list") (n:="list_iterator") (by decide)),
   Zg1 eb hz (by rw [cb]; exact Zob (m:="list") (n:="zip") (by decide)),Zg1 eb hTO (by rw [cb]; exact Zob (m:="list") (n:="tuple") (by decide)),Zg1 eb e1 (by rw [cb,c1]; exact Zob (m:="list") (n:="list_iterator") (by decide)),Zg1 eb e2 (by rw [cb,c2]; exact Zob (m:="list") (n:="list_iterator") (by decide))⟩
  refine wpAny_pyNext_zip_end (I.ok.hd hc) D hz hTI hTO h1 h2 pl.isList pm.isList (hend.imp (fun q=>by simp; omega) fun q=>by simp; omega) fun h' hk=>⟨rfl,?_⟩
  exact I.turnedL (t':=s.toks) (ch:=[z,TI,TO,i1,i2]) (fun c o hc e=>hk c o (fun q=>hc (by simp [q])) (fun q=>hc (by simp [q])) (fun q=>hc (by simp [q])) (fun q=>hc (by simp [q])) e) hf
 self:=fun _ _ _ _ _ st h=>wpAny_pyIter_zip st.1 h
section
variable {X:Cx}
def iZip (K:PySem.W.Frag) (ta:TA):TI:=fun σ H R=>ta σ H fun vs H1=>∃ a b xs ys,vs=[.ref a,.ref b]∧SqL K H1 a xs∧SqL K H1 b ys∧R (Itz K a b xs ys) H1
theorem ZMv {elts:List Expr} {kk:Nat} {ps:Pos} {a b:Expr} {ta:TA} {p pos:Pos} (hg:Gl X "zip") (hm:X.mg "zip" = none) (ha:PA X [a,b] ta) (hs:starEach [a,b] X.env=[(false,eval a X.env),(false,eval b X.env)]:=by rfl) (hs2:starEach [b] X.env=[(false,eval b X.env)]:=by rfl) :
  PI X (.Tuple elts kk ps) (.Call (.Name "zip" p) [a,b] [] pos) (iZip X.K ta):=by
 intro pins s σ H R I h
 refine Call_ (Zyl I hg hm ZLo (PyProof.Rows.callWith_type1 (thn (ha pos pins s σ H _ I h) fun us s1 ⟨vs,H1,I1,r1,q1⟩ =>?_) (by rw [hs,hs2]) (by rw [hs2]; rfl)))
 obtain ⟨a1,b1,xs,ys,rfl,hq1,hq2,q⟩ :=q1
 cases r1 with
 | cons r rr=>
  cases rr with
  | cons r' rr=>
   cases rr
   cases r
   cases r'
   obtain ⟨its,rv,pl,hzz⟩ :=I1.list hq1
   obtain ⟨jts,rw',pm,hzw⟩ :=I1.list hq2
   refine call_zip_2 pl.isList pm.isList fun h' hz hTI hTO h1 h2 hsz hk=>?_
   refine wpAny_pyIter_zip hz ⟨_,_,_,_,H1,rfl,I1.kept (t':=s1.toks) hk,ZJa (i1:=s1.heap.objs.size) (i2:=s1.heap.objs.size + 1) (TI:=s1.heap.objs.size + 2) (TO:=s1.heap.objs.size + 3) (z:=s1.heap.objs.size + 4) (a:=a1) (b:=b1) (xs:=xs) (ys:=ys) (by simp) (by simp) (by simp) (by simp) (by simp) (by simp) (by simp) (by simp) (by simp) (by simp),⟨hz,hTI,⟨_,_,hTO⟩,h1,h2⟩,fun c hc=>?_,q⟩
   have le:s1.heap.objs.size≤c:=by
    simp at hc
    rcases hc with rfl | rfl | rfl | rfl | rfl <;> simp
   exact I1.fpOk le (I1.hok.fresh le)
end
section
open PySem.SeqAt
open PySem.AutoSeq1 (wpAny_loadPart')
open PySem.MeetsSeq PySem.MeetsSeq2 PySem.MeetsSeq3
end
def ZLe (i j:Int):Prop:=0 < j∧j≤18446744073709551616
theorem Zde {X:Cx}:OpR X (binaryOp .FloorDiv) (rI ZLe fun i j=>.int (i / j)):=opI fun i j _ _ _ _ _ hc q=>by
 have h1:(0:Int) < j:=hc.1
 have h2:j≤18446744073709551616:=hc.2
 refine floordiv_int (by omega) (by rw [Int.fdiv_eq_ediv_of_nonneg i (by omega)]; exact q) (.inl (PyProof.noPylong_of_log2 ?_))
 have h3:j.natAbs.log2 < 65:=(Nat.log2_lt (by omega)).mpr (by omega)
 omega
section
variable {σ:St} {H:Hp} {Q:VK} {D:Ends} {K:PySem.W.Frag} {g:TG} {tb:TS}
def ZLj (K:PySem.W.Frag) (a b:Addr) (xs ys:List V) (g:TG) (tb:TS) (D:Ends) (σ:St) (H:Hp):Prop:=
 ∃ W:Nat→Nat→St→Hp→Prop,(∃ m,W 0 m σ H)∧∀ i m σ H,W i m σ H→
   ((Itz K a b xs ys).stop i H∧D.nx σ H)∨((Itz K a b xs ys).go i H∧∃ N:St→Hp→Prop,(∀ σ' H',N σ' H'→∃ m',m' < m∧W (i + 1) m' σ' H')∧∀ x H',(Itz K a b xs ys).yld i H x H'→g x σ H' fun σ2 H2=>tb { D with nx:=N,ct:=N,bk:=D.nx } σ2 H2)
theorem ZJv {ta:TA} (h:ta σ H fun vs H1=>∃ a b xs ys,vs=[.ref a,.ref b]∧SqL K H1 a xs∧SqL K H1 b ys∧ZLj K a b xs ys g tb D σ H1):tFor (iZip K ta) g tb D σ H:=h
theorem ZNu {a b:Addr} {xs ys:List V} (n:Nat) (hn:n=min xs.length ys.length) (Pv:Nat→St→Hp→Prop) (h0:Pv 0 σ H) (hl:∀ i σ H,i≤n→Pv i σ H→SqL K H a xs∧SqL K H b ys)
  (hs:∀ (i:Nat) (v u:V) (T:Addr) σ H H',xs[i]?=some v→ys[i]?=some u→Pv i σ H→Same H H'→H T=none→H' T=some (.tup [v,u])→g (.ref T) σ H' fun σ2 H2=>tb { D with nx:=Pv (i + 1),ct:=Pv (i + 1),bk:=D.nx } σ2 H2) (hd:∀ σ H,Pv n σ H→D.nx σ H):ZLj K a b xs ys g tb D σ H:=by
 refine ⟨fun i m σ H=>m=n - i∧i≤n∧Pv i σ H,⟨n,by simp,Nat.zero_le _,h0⟩,?_⟩
 rintro i m σ H ⟨rfl,hi,p⟩
 by_cases hlt:i < n
 ·refine .inr ⟨⟨⟨by omega,by omega⟩,hl i σ H hi p⟩,Pv (i + 1),fun σ' H' p'=>⟨n - (i + 1),by omega,rfl,hlt,p'⟩,fun x H' y=>?_⟩
  obtain ⟨T,v,u,hv,hu,hT,rfl,rfl⟩ :=y
  exact hs i v u T σ H _ hv hu p (ZdU hT _) hT Zaz
 ·have e:i=n:=by omega
  subst e
  exact .inl ⟨⟨by omega,hl _ σ H hi p⟩,hd σ H p⟩
theorem ZDY {ix:List Nat} {tc:TT} {te:TE} {J:It} {xs:List V} (Pv:Nat→List V→Hp→Prop) (hw:Wk J xs H) (hz:xs.length≤1000000) (h0:∀ H',Same H H'→Pv 0 [] H')
  (hm:∀ i ys H1 H2,Ext H1 H2→Pv i ys H1→Pv i ys H2)
  (hs:∀ (i:Nat) (x:V) (ys:List V) (acc:Addr) (H':Hp),xs[i]?=some x→Same H H'→H acc=none→H' acc=some (.lst ys)→Pv i ys H'→ys.length≤i→
   ∀ R:Bool→Hp→Prop,(∀ b H2,Same H' H2→(b=false→Pv (i + 1) ys H2)→(b=true→∀ R2:V→Hp→Prop,(∀ y H3,Same H2 H3→Pv (i + 1) (ys ++ [y]) H3→R2 y H3)→te (some x :: subS σ ix) H2 R2)→R b H2)→tc (some x :: subS σ ix) H' R)
  (hd:∀ (acc:Addr) (ys:List V) (H':Hp),H acc=none→Same H H'→H' acc=some (.lst ys)→Pv xs.length ys H'→Q (.ref acc) H'):ZAI J ix tc te σ Q H:=by
 intro acc hacc
 have sU:∀ {H2:Hp} (o:HO),Same H H2→Same H (upd H2 acc o):=fun o s b u e=>by rw [ZaS (Zaf e hacc)]; exact s b u e
 refine ⟨fun i m ys H'=>m=xs.length - i∧i≤xs.length∧Same H H'∧H' acc=some (.lst ys)∧Pv i ys H'∧ys.length≤i,⟨xs.length,by simp,Nat.zero_le _,ZdU hacc _,Zaz,h0 _ (ZdU hacc _),Nat.le_refl _⟩,?_⟩
 rintro i m ys H' ⟨rfl,hi,sm,ea,pv,hy⟩
 by_cases hlt:i < xs.length
 ·obtain ⟨go,yl⟩ :=(hw H' sm).1 i hlt
  refine .inr ⟨go,fun x H2 y=>?_⟩
  obtain ⟨rfl,hx⟩ :=yl x H2 y
  refine hs i x ys acc _ hx sm hacc ea pv hy _ fun b H3 s3 pf pt=>?_
  cases b with
  | false=>
   rw [if_neg Bool.false_ne_true]
   exact ⟨xs.length - (i + 1),by omega,rfl,hlt,sm.trans s3,s3 _ _ ea,pf rfl,Nat.le_succ_of_le hy⟩
  | true=>
   rw [if_pos rfl]
   refine pt rfl _ fun y H4 s4 py=>⟨s4 _ _ (s3 _ _ ea),ZET (by omega),xs.length - (i + 1),by omega,rfl,hlt,sU _ (sm.trans (s3.trans s4)),Zaz,hm _ _ _ _ (But.ext (l:=acc) (s4 _ _ (s3 _ _ ea)) Zpd) py,?_⟩
   rw [List.length_append,List.length_singleton]
   omega
 ·have e:i=xs.length:=by omega
  subst e
  exact .inl ⟨(hw H' sm).2,hd acc ys H' hacc sm ea pv⟩
end
end L2
set_option maxRecDepth 100000
namespace PySem
open Sem (wp)
theorem Obj.dict_mapFields (o:Obj) (f:Array Value→Array Value):(Obj.mapFields f o).dict=o.dict:=by unfold Obj.mapFields; split <;> rfl
def ZGe (l:List Env):List Addr:=l.filterMap (·.frame)
def Heap.Tr (h:Heap) (e:Addr) (cls:Value) (T:Addr):Prop:=∃ oe vs oT ts,h.get? e=some oe∧oe.cls=cls∧oe.dict=none∧oe.data=.fields vs∧vs[1]?=some (.ref T)∧T ≠ e∧h.get? T=some oT∧oT.data=.fields ts∧ts[3]?=some .none
structure Heap.Gone (fs own:List Addr) (h h':Heap):Prop where
 kept:∀ b o,b ∉ fs→b ∉ own→h.get? b=some o→h'.get? b=some o
 slot:∀ b o,b ∈ fs→b ∉ own→h.get? b=some o→∃ sl,h'.get? b=some { o with slots:=sl }
section
variable {M:Model} {A:Around} {E:Value→Shared→Prop} {s:Shared}
theorem Zwj {base:Heap} {env:Env} {outer:List Env} {L e:Addr} {oe:Obj} {vs:Array Value} {head:Value} {nx:Bool} {Q:Unit→Shared→Prop} (hfr:A.frames=some (env :: outer)) (hl:s.heap.FunFrames base (env :: outer)) (hf:env.frame=some L)
  (he:s.heap.get? e=some oe) (hdi:oe.dict=none) (hd:oe.data=.fields vs) (hsz:1 < vs.size)
  (q:∀ h' T,Heap.Gone (ZGe (env :: outer)) [e] s.heap h'→s.heap.get? T=none→s.heap.objs.size≤T→h'.Tr e oe.cls T→Q () { s with heap:=h' }) :
  wpAny M A (do let a ← frameOf env; let pl ← entryPlaceOf L nx; let b ← EntryCells.newEntry head a .none (rawInt L) .none pl; setField (.ref e) 1 b) (fun _ s'=>wpAny M A (setFlight (.ref e) none) Q E s') E s:=by
 have hene:e ∉ ZGe (env :: outer):=fun hm=>by
  obtain ⟨_,o,ho,hnf⟩ :=hl.mem hm
  rw [he] at ho; injection ho with ho; subst ho; exact hnf vs hd
 refine wpAny_bind (wpAny_frameOf_fun hfr hl hf fun h₁ hs₁=>?_)
 refine wpAny_bind (wpAny_entryPlaceOf fun pl hpl=>?_)
 unfold EntryCells.newEntry newFields
 refine wpAny_bind (wpAny_newObj_type ?_ (hpl.sizeOk5 _ _ _ _ _))
 have he₁:h₁.get? e=some oe:=(hs₁.2.1 e hene).trans he
 generalize hrec:({ cls:=.type "traceback",dict:=none,data:=.fields ([head,.ref L,.none,rawInt L,.none] ++ (if pl.isEmpty then List.replicate 6 Value.none else pl)).toArray }:Obj)=rec
 have hfree:rec.isFreed=false:=by subst hrec; rfl
 have hrd:rec.data=.fields ([head,.ref L,.none,rawInt L,.none] ++ (if pl.isEmpty then List.replicate 6 Value.none else pl)).toArray:=by subst hrec; rfl
 have he₂:=Heap.get?_push_of_some (h:=h₁) rec he₁
 refine wpAny_setField he₂ hd hsz ?_
 have hTe:h₁.objs.size ≠ e:=Nat.ne_of_gt (Heap.lt_size he₁)
 have hd₃:=Obj.data_mapFields hd (·.setIfInBounds 1 (Value.ref h₁.objs.size))
 have he₃:=Heap.get?_update_self (Obj.mapFields (·.setIfInBounds 1 (Value.ref h₁.objs.size))) he₂ (Obj.isFreed_of_fields hd₃)
 have hT₃:=(Heap.get?_update_other (h₁.push rec) (Obj.mapFields (·.setIfInBounds 1 (Value.ref h₁.objs.size))) (Ne.symm hTe)).trans (Heap.get?_push_size h₁ hfree)
 unfold setFlight
 refine wpAny_bind (wpAny_field he₃ hd₃ (x:=.ref h₁.objs.size) (by simp [hsz]) ?_)
 rw [if_pos (show (Value.ref h₁.objs.size != Value.none)=true from by simp)]
 refine wpAny_setField hT₃ hrd (by simp only [List.size_toArray,List.length_append,List.length_cons,List.length_nil] <;> omega) ?_
 have keep:∀ b o,b ≠ e→h₁.get? b=some o→(((h₁.push rec).update e (Obj.mapFields (·.setIfInBounds 1 (Value.ref h₁.objs.size)))).update h₁.objs.size (Obj.mapFields (·.setIfInBounds 3 ((none:Option Addr).elim Value.none fun f=>rawInt f)))).get? b=some o:=fun b o hbe hb=>by
  have hbT:h₁.objs.size ≠ b:=Nat.ne_of_gt (Heap.lt_size hb)
  rw [Heap.get?_update_other _ _ hbT,Heap.get?_update_other _ _ (Ne.symm hbe)]
  exact Heap.get?_push_of_some _ hb
 refine q _ h₁.objs.size ⟨fun b o hb ho e'=>?_,fun b o hb ho e'=>?_⟩ (Heap.get?_none_of_le (by rw [hs₁.1]; exact Nat.le_refl _)) (by rw [hs₁.1]; exact Nat.le_refl _) ?_
 ·exact keep b o (fun z=>ho (by rw [z]; exact List.mem_singleton.mpr rfl)) ((hs₁.2.1 b hb).trans e')
 ·obtain ⟨sl,e2⟩ :=hs₁.2.2 b o e'
  exact ⟨sl,keep b _ (fun z=>ho (by rw [z]; exact List.mem_singleton.mpr rfl)) e2⟩
 ·refine ⟨_,_,_,_,?_,Obj.cls_mapFields _ _,(Obj.dict_mapFields _ _).trans hdi,hd₃,by simp [hsz],hTe,Heap.get?_update_self _ hT₃ (Obj.isFreed_of_fields (Obj.data_mapFields hrd _)),Obj.data_mapFields hrd _,by first | (simp; done) | (rcases hpl with rfl | ⟨_,_,_,_,_,_,_,rfl⟩ <;> simp)⟩
  rw [Heap.get?_update_other _ _ hTe]; exact he₃
theorem ZDc {base:Heap} {env:Env} {outer:List Env} {L e:Addr} {oe:Obj} {vs:Array Value} {Q:Unit→Shared→Prop} (hfr:A.frames=some (env :: outer)) (hl:s.heap.FunFrames base (env :: outer)) (hf:env.frame=some L)
  (he:s.heap.get? e=some oe) (hdi:oe.dict=none) (hd:oe.data=.fields vs) (h1:vs[1]?=some .none)
  (q:∀ h' T,Heap.Gone (ZGe (env :: outer)) [e] s.heap h'→s.heap.get? T=none→s.heap.objs.size≤T→h'.Tr e oe.cls T→Q () { s with heap:=h' }):wpAny M A (leaving env (.ref e)) Q E s:=by
 unfold leaving noteFrame
 simp only [hf]
 refine wpAny_bind (wpAny_bind (wpAny_field he hd h1 ?_))
 rw [if_neg (by decide)]
 exact Zwj hfr hl hf he hdi hd (Array.getElem?_eq_some_iff.mp h1).1 q
theorem ZGY {base:Heap} {env:Env} {outer:List Env} {L e T:Addr} {cls:Value} {Q:Unit→Shared→Prop} (hfr:A.frames=some (env :: outer)) (hl:s.heap.FunFrames base (env :: outer)) (hf:env.frame=some L) (ht:s.heap.Tr e cls T)
  (q:∀ h' T',Heap.Gone (ZGe (env :: outer)) [e,T] s.heap h'→s.heap.get? T'=none→s.heap.objs.size≤T'→h'.Tr e cls T'→Q () { s with heap:=h' }):wpAny M A (noteFrame (.ref e) env) (fun _ s'=>wpAny M A (setFlight (.ref e) none) Q E s') E s:=by
 obtain ⟨oe,vs,oT,ts,he,hcls,hdi,hd,h1,hTe,hT,hdT,h3⟩ :=ht
 subst hcls
 unfold noteFrame
 simp only [hf]
 refine wpAny_bind (wpAny_field he hd h1 ?_)
 rw [if_pos (show (Value.ref T != Value.none)=true from by simp)]
 refine wpAny_bind (wpAny_field hT hdT h3 ?_)
 rw [if_neg (show ¬ ((Value.none == rawInt L)=true) from by simp [rawInt])]
 refine wpAny_bind (wpAny_setField hT hdT (Array.getElem?_eq_some_iff.mp h3).1 ?_)
 have other:∀ b,b ≠ T→(s.heap.update T (Obj.mapFields (·.setIfInBounds 3 Value.none))).get? b=s.heap.get? b:=fun b hb=>Heap.get?_update_other _ _ (Ne.symm hb)
 have noRec:∀ b o,s.heap.get? b=some o→(∀ vs,o.data ≠ .fields vs)→b ≠ T:=fun b o hb hnf z=>by
  rw [z,hT] at hb; injection hb with hb; subst hb; exact hnf ts hdT
 have hsz:(s.heap.update T (Obj.mapFields (·.setIfInBounds 3 Value.none))).objs.size=s.heap.objs.size:=Heap.size_after_update ..
 refine Zwj (s:={ s with heap:=s.heap.update T (Obj.mapFields (·.setIfInBounds 3 Value.none)) }) hfr (hl.of_keeps fun b o hb hnf=>⟨o,(other b (noRec b o hb hnf)).trans hb,rfl⟩) hf ((other e (Ne.symm hTe)).trans he) hdi hd (Array.getElem?_eq_some_iff.mp h1).1 fun h' T' g n le tr=>?_
 have le':s.heap.objs.size≤T':=by rw [← hsz]; exact le
 refine q h' T' ⟨fun b o hb ho e'=>?_,fun b o hb ho e'=>?_⟩ (Heap.get?_none_of_le le') le' tr
 ·have hbT:b ≠ T:=fun z=>ho (by simp [z])
  exact g.kept b o hb (fun z=>ho (by simp [List.mem_singleton.mp z])) ((other b hbT).trans e')
 ·have hbT:b ≠ T:=fun z=>ho (by simp [z])
  exact g.slot b o hb (fun z=>ho (by simp [List.mem_singleton.mp z])) ((other b hbT).trans e')
theorem ZFh {base:Heap} {env:Env} {outer:List Env} {L e T:Addr} {cls:Value} {Q:Unit→Shared→Prop} (hfr:A.frames=some (env :: outer)) (hl:s.heap.FunFrames base (env :: outer)) (hf:env.frame=some L) (ht:s.heap.Tr e cls T)
  (q:∀ h' T',Heap.Gone (ZGe (env :: outer)) [e,T] s.heap h'→s.heap.get? T'=none→s.heap.objs.size≤T'→h'.Tr e cls T'→Q () { s with heap:=h' }):wpAny M A (leaving env (.ref e)) Q E s:=by
 unfold leaving
 exact wpAny_bind (ZGY hfr hl hf ht q)
end
end PySem
namespace L2
open PySem PySem.Spec PyProof.Rows
section
variable {P:Program} {w:World} {H H':Hp} {h h' h1 h2:Heap} {a:Addr} {o:HO} {fs own:List Addr}
theorem ZeB.at (x:ZeB P w H h a o):∃ u,h.get? a=some u:=by
 cases o with
 | lst xs=>obtain ⟨_,_,_,_,e⟩ :=x; exact ⟨_,e⟩
 | tup xs=>obtain ⟨_,_,_,⟨_,e,_⟩⟩ :=x; exact ⟨_,e⟩
 | dK kvs=>obtain ⟨_,_,_,_,o,_,_,e,_⟩ :=x; exact ⟨_,e⟩
 | dT kvs=>obtain ⟨_,_,_,_,o,_,_,e,_⟩ :=x; exact ⟨_,e⟩
 | set S n=>obtain ⟨o,_,_,_,e,_⟩ :=x; exact ⟨_,e⟩
 | ins C dx fs=>obtain ⟨_,_,_,e,_⟩ :=x; exact ⟨_,e⟩
 | own y=>obtain ⟨_,e⟩ :=x; exact ⟨_,e⟩
 | xd fs=>obtain ⟨_,⟨_,_,_,e,_⟩,_⟩ :=x; exact ⟨_,e⟩
 | rng lo hi=>obtain ⟨_,_,_,e⟩ :=x; exact ⟨_,e⟩
 | frz ob u=>obtain ⟨e,_⟩ :=x; exact ⟨_,e⟩
 | tbl ps=>exact ⟨_,(show h.get? a=some _ from x)⟩
 | met f y=>exact ⟨_,(show h.get? a=some _ from x)⟩
 | ext φ=>obtain ⟨_,⟨_,e⟩,_⟩ :=x; exact ⟨_,e⟩
theorem HOk.out (x:HOk P w H h) (e:h.get? a=none):H a=none:=by
 cases q:H a with
 | none=>rfl
 | some u=>obtain ⟨v,z⟩ :=ZeB.at (x a u q); rw [e] at z; cases z
theorem ZGh (u:Un fs [] H H' h h1) (g:Heap.Gone fs own h1 h2) (hn:∀ b ∈ own,h.get? b=none):Un fs [] H H' h h2:=by
 have no:∀ b o,h.get? b=some o→b ∉ own:=fun b o e z=>by rw [hn b z] at e; cases e
 refine ⟨fun b o e n hf hx=>g.kept b o hf (no b o e) (u.keep b o e n hf hx),fun b o e n hf hx=>?_,u.free,fun b o e hx=>?_,u.tups,u.frzs,u.tbls⟩
 ·obtain ⟨sl,q⟩ :=u.slot b o e n hf hx
  obtain ⟨sl',q'⟩ :=g.slot b _ hf (no b o e) q
  exact ⟨sl',q'⟩
 ·obtain ⟨o',q⟩ :=u.there b o e hx
  by_cases hf:b ∈ fs
  ·obtain ⟨sl',q'⟩ :=g.slot b _ hf (no b o e) q
   exact ⟨_,q'⟩
  ·exact ⟨_,g.kept b _ hf (no b o e) q⟩
theorem ZEa (x:HOk P w H h) (g:Heap.Gone fs own h h2) (hf:∀ b ∈ fs,H b=none) (ho:∀ b ∈ own,H b=none):HOk P w H h2:=fun b u e=>by
 refine (x b u e).stay (fun c v hc q=>?_) (fun _ q=>q) fun _ _ q=>q
 have hs:∃ z,H c=some z:=by
  rcases hc with z | z
  ·rw [z]; exact ⟨_,e⟩
  ·exact ⟨_,z⟩
 obtain ⟨z,hz⟩ :=hs
 exact g.kept c v (fun m=>by rw [hf c m] at hz; cases hz) (fun m=>by rw [ho c m] at hz; cases hz) q
end
def CX1 (P:Program) (w:World):CXT:=fun outer H s E e s'=>∃ ea T C H',e=.ref ea∧s'.os=s.os∧AllBare s'.gens∧Un (frs outer) [] H H' s.heap s'.heap∧HOk P w H' s'.heap∧H' ea=none∧H' T=none∧
 s.heap.get? ea=none∧s.heap.get? T=none∧s'.heap.Tr ea (.ref C) T∧E (.ref C) none H'
def Lets (X:Cx) (E:XK):Prop:=∀ (pins:List (Addr × Obj)) (σ:St) (H:Hp) (s:Shared) (h':Heap) (e C:Addr) (args:List Value),Inv X pins σ H s→Heap.MadeExcOf s.heap h' e (.ref C) args→E (.ref C) none H→X.xe (.ref e) { s with heap:=h' }
section
variable {P:Program} {w:World} {K:PySem.W.Frag} {mg:Str→Option Value} {base:Heap} {N:List Str} {qual:Str} {scope:Scope} {f:Addr} {cd:Value} {A:Around} {outer:List Env} {s:Shared} {H:Hp} {E:XK}
theorem ZKA:Lets (cxOf (CX1 P w) P w K mg base N qual scope f cd A outer s H E) E:=by
 intro pins σ H1 s1 h' e C args I hm hE
 obtain ⟨t,ho,_,_⟩ :=hm.there
 have I1:Inv (cxOf (CX1 P w) P w K mg base N qual scope f cd A outer s H E) pins σ H1 { s1 with heap:=h' }:=I.kept (t':=s1.toks) hm.keeps
 show wpAny _ _ (leaving _ _) _ _ _
 refine ZDc (s:={ s1 with heap:=h' }) I.ok.frames I1.stack rfl ho rfl rfl (by simp) fun h2 T g nT _ tr=>?_
 have He:H1 e=none:=I.hok.out hm.new
 have HT:H1 T=none:=I1.hok.out nT
 have un:Un (frs (cxOf (CX1 P w) P w K mg base N qual scope f cd A outer s H E).stack) [] H1 H1 s1.heap h2:=ZGh (Un.kept hm.keeps) g (fun b hb=>by rw [List.mem_singleton.mp hb]; exact hm.new)
 have hk:HOk P w H1 h2:=ZEa I1.hok g I1.stkFree (fun b hb=>by rw [List.mem_singleton.mp hb]; exact He)
 have I2:Inv (cxOf (CX1 P w) P w K mg base N qual scope f cd A outer s H E) pins σ H1 { s1 with heap:=h2 }:=I.call (g':=s1.gens) (t':=s1.toks) (d':=s1.drawn) (ch:=[]) un hk I.bare (fun b z=>absurd z (by simp))
 have back:∀ b,s1.heap.get? b=none→s.heap.get? b=none:=fun b hb=>by
  cases q:s.heap.get? b with
  | none=>rfl
  | some o=>
   obtain ⟨o',z⟩ :=I.base.there b o q (by show b ∉ []; simp)
   rw [hb] at z; cases z
 have nT1:s1.heap.get? T=none:=by
  cases q:s1.heap.get? T with
  | none=>rfl
  | some o=>have z:=hm.keeps T o q; rw [show h'.get? T=none from nT] at z; cases z
 exact ⟨e,T,C,H1,rfl,I.os,I.bare,I2.base,hk,He,HT,back e hm.new,back T nT1,tr,hE⟩
theorem ZMp:Zoi (CX1 P w) (cxOf (CX1 P w) P w K mg base N qual scope f cd A outer s H E) E:=by
 intro pins σ H1 s1 e s2 I hx
 obtain ⟨ea,T,C,H2,rfl,os,bare,un,hok,He,HT,ne,nT,tr,hE⟩ :=hx
 have I2:Inv (cxOf (CX1 P w) P w K mg base N qual scope f cd A outer s H E) pins σ H2 s2:=I.call' (ch:=[]) os un hok bare (fun b z=>absurd z (by simp))
 show wpAny _ _ (leaving _ _) _ _ _
 refine ZFh I.ok.frames I2.stack rfl tr fun h3 T' g nT' _ tr'=>?_
 have HT':H2 T'=none:=hok.out nT'
 have un3:Un (frs (cxOf (CX1 P w) P w K mg base N qual scope f cd A outer s H E).stack) [] H1 H2 s1.heap h3:=ZGh un g (fun b hb=>by
  rcases List.mem_cons.mp hb with z | z
  ·rw [z]; exact ne
  ·rw [List.mem_singleton.mp z]; exact nT)
 have hk:HOk P w H2 h3:=ZEa hok g I2.stkFree (fun b hb=>by
  rcases List.mem_cons.mp hb with z | z
  ·rw [z]; exact He
  ·rw [List.mem_singleton.mp z]; exact HT)
 have I3:Inv (cxOf (CX1 P w) P w K mg base N qual scope f cd A outer s H E) pins σ H2 { s2 with heap:=h3 }:=I.call' (s':={ s2 with heap:=h3 }) (ch:=[]) os un3 hk bare (fun b z=>absurd z (by simp))
 have back:∀ b,s1.heap.get? b=none→s.heap.get? b=none:=fun b hb=>by
  cases q:s.heap.get? b with
  | none=>rfl
  | some o=>
   obtain ⟨o',z⟩ :=I.base.there b o q (by show b ∉ []; simp)
   rw [hb] at z; cases z
 have nT1:s.heap.get? T'=none:=by
  cases q:s.heap.get? T' with
  | none=>rfl
  | some o=>
   obtain ⟨o',z⟩ :=I2.base.there T' o q (by show T' ∉ []; simp)
   rw [nT'] at z; cases z
 exact ⟨ea,T',C,H2,rfl,I3.os,bare,I3.base,hk,He,HT',back ea ne,nT1,tr',hE⟩
end
theorem Fun.ok1 {P:Program} {w:World} {K:PySem.W.Frag} {mg:Str→Option Value} {base:Heap} {x qual:Str} {st:Stmt} {f:Addr} {fd:FuncData} {N ps:List Str} {k:Nat} {sp:Sp} (F:Fun K x qual st f fd) (S:FnScope N ps (Zab st)) (len:∀ vs H Q E,sp vs H Q E→vs.length=ps.length)
  (hbody:∀ (cdv:Value) (A:Around) (outer:List Env) (s:Shared) (H:Hp) (vs:List V) (Q:VK) (E:XK),Room k (A.deeper (envOfC qual (Zab st) s.heap.objs.size f cdv))→sp vs H Q E→
   ∃ t,PSs (cxOf (CX1 P w) P w K mg base N qual (Zab st) f cdv A outer s H E) (Zai st) t∧t { nx:=fun _ H'=>Q .non H',rt:=Q } (start N vs) H):FnOk P w K mg base (CX1 P w) (k + 1) f fd ps sp:=by
 obtain ⟨oc,od,kV,doc,pm,an,cdv,ct,osl,rfl,lk,hcd⟩ :=F.ex
 exact ZLx lk hcd S len fun A outer s H vs Q E hr hsp=>hbody cdv A outer s H vs Q E hr hsp
end L2
set_option maxRecDepth 100000
namespace L2
open PySem PySem.Spec PyProof.Rows
abbrev vErr:List Value:=[.type "ValueError",.type "Exception",.type "BaseException",.type "object"]
abbrev ZDO (K:PySem.W.Frag) (C:Addr):Prop:=PySem.W.excIn K C vErr "ValueError.__new__" = true
theorem ZLv {K:PySem.W.Frag} {h:Heap} {C:Addr} (X:K.In h) (q:ZDO K C):∃ bm N nm qn bs hdct sn sub ab col dd k0 k1 k2 k3 k5 mN,
  h.get? C=some (excClassObj nm qn C N bs bm hdct sn sub ab col dd k0 k1 k2 k3 k5 "ValueError.__new__")∧h.Ns N mN∧mN "__init__" = none∧OwnTail h vErr bm:=by
 unfold ZDO PySem.W.excIn at q
 split at q
 ·rename_i dd cd sl ho
  split at q
  ·rename_i C' bm k0 k1 k2 k3 n k5 hm hs
   simp only [Bool.and_eq_true,beq_iff_eq,Bool.not_eq_true'] at q
   obtain ⟨⟨⟨⟨⟨rfl,rfl⟩,hdel⟩,ht⟩,hok⟩,hni⟩ :=q
   obtain ⟨nm,bs,mro,ns,qn,hd,sn,sub,ab,col,del⟩ :=cd
   dsimp only at hm hdel hok hni
   subst hm hdel
   have hsl:sl = #[k0,k1,k2,k3,some (.builtin "ValueError.__new__"),k5]:=by
    obtain ⟨l⟩ :=sl
    simp only at hs
    rw [hs]
   subst hsl
   exact ⟨bm,ns,nm,qn,bs,hd,sn,sub,ab,col,dd,k0,k1,k2,k3,k5,_,X _ _ ho,.of_isNs (PySem.W.isNs_of_in X hok),PySem.W.nsMap_none_of_in X hok hni,PySem.W.tail_of_in X ht⟩
  ·cases q
 ·cases q
section
variable {X:Cx} {E:XK} {C:Addr} {x:Str} {np cpos pos:Pos} {e:Expr} {es:List Expr} {t:TA}
def ZJ4 (C:Addr) (E:XK) (t:TA):TS:=fun _ σ H=>t σ H fun vs H1=>vs.length≤9∧E (.ref C) none H1
theorem Zz0 (hc:X.calm=true) (hl:Lets X E) (q:ZDO X.K C) (hg:Gl X x) (hm:X.mg x=some (.ref C)) (ha:PA X (e :: es) t) (hdb:(x == ("__debug__" : Str))=false:=by decide)
  (he:starEach (e :: es) X.env=(false,eval e X.env) :: starEach es X.env:=by rfl) (hpl:(backTo cpos (starEach es X.env)).any (·.1)=false:=by rfl) :
  PS X (.Raise (some (.Call (.Name x np) (e :: es) [] cpos)) none pos) (ZJ4 C E t):=by
 intro pins s σ H D I h
 obtain ⟨tl,N,nm,qn,bs,hdct,sn,sub,ab,col,dd,k0,k1,k2,k3,k5,mN,hC,hN,hni,T⟩ :=ZLv I.mod.kin q
 have F:=PySem.F.excBase_ValueError
 refine wpAny_Raise_call_subU (C:=C) (nm:=nm) (q:=qn) (N:=N) (bs:=bs) (bm:=tl) (hdct:=hdct) (sn:=sn) (sub:=sub) (ab:=ab) (col:=col) (dd:=dd) (k0:=k0) (k1:=k1) (k2:=k2) (k3:=k3) (k5:=k5)
  F F.hasB F (mN:=mN) (T.hasType F.hasBase) (I.ok.hd hc) (by rw [he]; show (false || (backTo cpos (starEach es X.env)).any (·.1))=false; rw [hpl]; rfl) hni (Zwi I hg hm ⟨rfl,?_⟩ hdb)
 have h2:=ha cpos pins s σ H _ I h
 rw [he] at h2 ⊢
 refine Calls.evalArgs_plain (wpAny_mono h2 (fun vs s2 h3=>?_) fun _ _ y=>y)
 obtain ⟨us,H2,I2,r,hlen,hE⟩ :=h3
 refine ⟨rfl,?_,I2.bk _ _ hC,hN.keeps I2.bk,T.keeps I2.bk,fun h' e hm=>hl pins σ H2 s2 h' e C vs I2 hm hE⟩
 show vs.length≤sizeLine
 rw [← r.length]; exact Nat.le_trans hlen (by decide)
end
section
variable {X:Cx} {k:Nat} {f C:Addr} {fd:FuncData} {ps:List Str} {sp:Sp} {dvs:List V} {ds:List Value} {x m:Str} {p pos apos:Pos} {e o:Expr} {es:List Expr} {ta:TE} {t:TA}
end
section
variable {X:Cx} {pins:List (Addr × Obj)} {σ:St} {H:Hp} {s:Shared} {ea T T' C:Addr} {h':Heap}
end
section
variable {X:Cx} {b:List Stmt} {h₀:ExceptHandler} {hs:List ExceptHandler} {tb:TSx} {th:Addr→TS} {pos:Pos} {e:Expr} {te:TEx}
end
end L2
set_option maxRecDepth 100000
namespace L2
open PySem PySem.Spec PyProof.Rows
structure ExcK (K:PySem.W.Frag) (C:Addr):Prop where
 own:ZDO K C
 cl:(PySem.W.clsIn K C).isSome=true
 ga:PySem.W.findIn K (.ref C) "__getattribute__" = some (some (.builtin "BaseException.__getattribute__"))
 gb:PySem.W.findIn K (.ref C) "__getattr__" = some none
 cc:PySem.W.findIn K (.ref C) "__class__" = some (some (.builtin "object.__class__"))
 mb:PySem.W.mroIn K C (.type "BaseException")=some true
 mo:PySem.W.mroIn K C (.type "object")=some true
section
variable {prog:Program} {w:World} {A:Around} {E:Value→Shared→Prop} {h:Heap} {g:Array GenState} {d:Drawn} {t:Nat} {os:OsState} {a C:Addr} {o:Obj} {K:PySem.W.Frag}
end
section
variable {X:Cx} {pins l:List (Addr × Obj)} {σ:St} {H:Hp} {s:Shared} {ea T C:Addr} {h':Heap} {oe:Obj}
end
section
variable {X:Cx} {N:Str} {C':Addr} {np pos:Pos} {b₀:Stmt} {suite:List Stmt} {rest:List ExceptHandler} {ts tr:Addr→TS}
end
theorem PS.nox {X:Cx} {st:Stmt} {t:TS} (h:PS X.nox st t):PS X st t:=fun pins s σ H D I hw=>
 wpAny_mono (h pins s σ H D (I.wish _) hw) (fun _ _ q=>q.unwish) fun _ _ z=>False.elim z
theorem PA.nox {X:Cx} {es:List Expr} {t:TA} (h:PA X.nox es t):PA X es t:=fun pos pins s σ H Q I hw=>
 wpAny_mono (h pos pins s σ H Q (I.wish _) hw) (fun _ _ ⟨v,H',I',r,q⟩ =>⟨v,H',I'.unwish,r,q⟩) fun _ _ z=>False.elim z
theorem ZKy {K:PySem.W.Frag} {C:Addr} (h:PySem.W.subIn K (.ref C) (.type "ValueError")=some true):PySem.W.kitOne K (.ref C) (.type "ValueError")=some true:=by
 unfold PySem.W.kitOne PySem.W.kitCls
 dsimp only
 rw [if_neg (by simp),if_pos (show PySem.W.kitMeta "ValueError" = true by decide +kernel)]
 exact h
def FnS1 (P:Program) (w:World) (K:PySem.W.Frag) (mg:Str→Option Value) (base:Heap) (k:Nat) (x:Str) (ps:List Str) (sp:Sp):Prop:=∃ f fd,FnOk P w K mg base (CX1 P w) k f fd ps sp∧ZaZ K fd ps []∧PySem.W.keepIn K (.ref f)=true∧mg x=some (.ref f)
section
variable {X:Cx} {k k':Nat} {x:Str} {ps:List Str} {sp:Sp} {e:Expr} {es:List Expr} {t:TA} {p pos:Pos}
theorem ZMq {X:Cx}:Zoi (CX1 X.prog X.w) X E0:=fun _ _ _ _ _ _ _ ⟨_,_,_,_,_,_,_,_,_,_,_,_,_,_,hE⟩ =>hE.elim
theorem ZHk (G:FnS1 X.prog X.w X.K X.mg X.base k x ps sp) (hr:Room k' X.A) (ha:PA X (e :: es) t) (hk:k≤k':=by omega) (hg:Gl X x:=by rfl) (hdb:(x == ("__debug__" : Str))=false:=by decide)
  (he:starEach (e :: es) X.env=(false,eval e X.env) :: starEach es X.env:=by rfl) (hpl:(backTo pos (starEach es X.env)).any (·.1)=false:=by rfl):PE X (.Call (.Name x p) (e :: es) [] pos) (tFn sp t):=by
 obtain ⟨f,fd,F,hb,kp,hm⟩ :=G
 rw [← ZCy]
 exact ZDy F (hr.mono hk) hg hm kp hb .nil ZMq ha hdb he hpl
end
section
variable {K:PySem.W.Frag} {D:Ends} {σ:St} {H:Hp} {Q:VK} {C C':Addr}
theorem ZC6 {E:XK} {t:TA} (h:t σ H fun vs H1=>vs.length≤9∧E (.ref C) none H1):ZJ4 C E t D σ H:=h
end
end L2
set_option maxRecDepth 100000
namespace L2
open PySem PySem.Spec PyProof.Rows
section
variable {X:Cx} {a:Expr} {ta:TE} {pos:Pos}
def ZMZ (ta:TE):TE:=fun σ H Q=>ta σ H fun x H1=>∃ z,x=.str z∧(reprText z).length≤sizeLine∧Q (.str (reprText z)) H1
theorem ZHj (ha:PE X a ta):PE X (.FormattedValue a 114 none pos) (ZMZ ta):=by
 intro pins s σ H Q I h
 refine wpAny_FormattedValue_repr (thn (ha pins s σ H _ I h) fun v s1 ⟨x,H1,I1,r1,z,ex,hz,q⟩ =>?_)
 subst ex
 obtain ⟨t,rfl⟩ :=r1
 exact wpAny_pyReprObj_str (formatField_str (fun t' k=>⟨.str _,H1,I1.tok k,⟨t',rfl⟩,q⟩) hz) hz
end
section
variable {σ:St} {H:Hp} {Q:VK} {D:Ends} {K:PySem.W.Frag} {g:TG} {tb:TS} {ta:TE}
theorem ZJs (h:ta σ H fun x H1=>∃ z,x=.str z∧(reprText z).length≤sizeLine∧Q (.str (reprText z)) H1):ZMZ ta σ H Q:=h
end
def Asc (z:Str):Prop:=∀ c ∈ z.cps.toList,c < 128
theorem Zak (x y:Str):(x ++ y).length=x.length + y.length:=by
 show (x.cps ++ y.cps).size=_
 rw [Array.size_append]; rfl
end L2
set_option maxRecDepth 100000
namespace L2
open PySem PySem.Spec PyProof.Rows
theorem ZKF {h:Heap} {a:Addr} {m m':Str→Option Value} (x:h.Ns a m) (y:h.Ns a m'):m=m':=by
 obtain ⟨o,es,ep,ho,hd,_,hm⟩ :=x
 obtain ⟨o',es',ep',ho',hd',_,hm'⟩ :=y
 rw [ho] at ho'
 cases ho'
 rw [hd] at hd'
 cases hd'
 funext n
 rw [← hm,← hm']
section
variable {X:Cx} {pins:List (Addr × Obj)} {σ:List (Option V)} {H H':Hp} {s:Shared} {h':Heap}
theorem ZpO {M:Model} {A:Around} {E:Value→Shared→Prop} {i:Nat} {x:Str} {v:V} {u:Value} {Q:Unit→Shared→Prop} (I:Inv X pins σ H s) (hN:X.N.Nodup) (hi:X.N[i]?=some x) (hk:X.env.scope.names.lookup x=some .local) (r:RelV v u)
  (h:∀ s' m,Inv X pins (σ.set i (some v)) H s'→s'.heap.Ns X.env.locals m→m x=some u→s'.toks=s.toks + 1→Heap.SameBut X.env.locals s.heap s'.heap→Q () s'):wpAny M A (storeName X.env x u) Q E s:=by
 obtain ⟨m,hn,hl⟩ :=id I.loc
 have hcls:(X.env.scope.kind == .class || (X.env.scope.kind == .module && X.env.locals != X.env.globals))=false:=by rw [I.ok.kind]; rfl
 have hiσ:i < σ.length:=by rw [I.len]; exact (List.getElem?_eq_some_iff.mp hi).1
 have cne:=I.cne
 have tracked:∀ {a:Addr} {h':Heap},(∃ o,s.heap.get? a=some o∧H a=none)→Heap.SameBut a s.heap h'→HOk X.prog X.w H h':=fun {a h'} ha hs b ob e=>by
  obtain ⟨_,_,hfree⟩ :=ha
  refine (I.hok b ob e).stay (fun c w' hc q=>(hs.2 c ?_).trans q) (fun _ q=>q) fun _ _ q=>q
  rintro rfl
  rcases hc with rfl | hc
  ·rw [hfree] at e; cases e
  ·rw [hfree] at hc; cases hc
 refine wpAny_storeName_local hk hn (fun h' hn' hs=>?_) hcls
 obtain ⟨oL,_,_,hoL,_⟩ :=id hn
 refine h _ _ ⟨I.ok,I.os,I.bare,⟨fun b o e n hb hx=>?_,fun b o e n hb hx=>?_,I.base.free,fun b o e hx=>?_,I.base.tups,I.base.frzs,I.base.tbls⟩,⟨_,hn',fun j y v' e1 e2 e3=>?_⟩,fun y c e=>?_,I.free,I.freeC,fun p hp=>?_,tracked ⟨oL,hoL,I.free⟩ hs,by simpa using I.len⟩ hn' (by simp) rfl hs
 ·exact (hs.2 b (Nat.ne_of_lt (Nat.lt_of_lt_of_le (Heap.lt_size e) I.ok.above))).trans (I.base.keep b o e n hb hx)
 ·obtain ⟨sl,e1⟩ :=I.base.slot b o e n hb hx
  exact ⟨sl,(hs.2 b (Nat.ne_of_lt (Nat.lt_of_lt_of_le (Heap.lt_size e) I.ok.above))).trans e1⟩
 ·obtain ⟨o',e1⟩ :=I.base.there b o e hx
  exact ⟨o',(hs.2 b (Nat.ne_of_lt (Nat.lt_of_lt_of_le (Heap.lt_size e) I.ok.above))).trans e1⟩
 ·by_cases hj:j=i
  ·subst hj
   rw [hi] at e1; cases e1
   rw [List.getElem?_set_self hiσ] at e2
   cases e2
   exact ⟨u,r,.inl ⟨hk,by simp⟩⟩
  ·rw [List.getElem?_set_ne (Ne.symm hj)] at e2
   obtain ⟨u',r',q⟩ :=hl j y v' e1 e2 e3
   refine ⟨u',r',?_⟩
   rcases q with ⟨k,e⟩ | ⟨k,c,e,z⟩
   ·refine .inl ⟨k,?_⟩
    have:y ≠ x:=fun e=>hj (Zzi hN e1 (e ▸ hi))
    simp [this,e]
   ·exact .inr ⟨k,c,e,z.sameBut hs (cne y c e)⟩
 ·obtain ⟨w',z⟩ :=I.cell y c e
  exact ⟨w',z.sameBut hs (cne y c e)⟩
 ·obtain ⟨e,n,ne,nf,d⟩ :=I.pin p hp
  exact ⟨(hs.2 p.1 ne).trans e,n,ne,nf,d⟩
end
def PSp (X:Cx) (st:Stmt) (t:TS):Prop:=∀ (pins:List (Addr × Obj)) (s:Shared) (σ:St) (H:Hp) (D:Ends),Inv X pins σ H s→t D σ H→wpAny (model X.prog X.w) X.A (exec st X.env) (fun f s'=>0 < s'.toks∧SP X pins D f s') X.xe s
def PSt (X:Cx) (st:Stmt) (t:TS):Prop:=∀ (pins:List (Addr × Obj)) (s:Shared) (σ:St) (H:Hp) (D:Ends),Inv X pins σ H s→0 < s.toks→t D σ H→wpAny (model X.prog X.w) X.A (exec st X.env) (SP X pins D) X.xe s
def PSst (X:Cx) (b:List Stmt) (t:TS):Prop:=∀ (pins:List (Addr × Obj)) (s:Shared) (σ:St) (H:Hp) (D:Ends),Inv X pins σ H s→0 < s.toks→t D σ H→wpAny (model X.prog X.w) X.A (execs b X.env) (SP X pins D) X.xe s
section
variable {X:Cx} {st:Stmt} {rest:List Stmt} {t u:TS} {pos:Pos}
theorem ZNz (h1:PSp X st t) (h2:PSst X rest u):PSs X (st :: rest) (tSeq t u):=by
 intro pins s σ H D I h
 refine wpAny_execs_cons (thn (h1 pins s σ H { D with nx:=u D } I h) fun f s1 q=>?_)
 obtain ⟨tk,q⟩ :=q
 cases f with
 | next=>
  obtain ⟨σ',H',I',q⟩ :=q
  exact h2 pins s1 σ' H' D I' tk q
 | ret v=>exact q
 | brk=>exact q
 | cont=>exact q
theorem ZHo (h1:PSt X st t) (h2:PSs X rest u):PSst X (st :: rest) (tSeq t u):=by
 intro pins s σ H D I tk h
 refine wpAny_execs_cons (thn (h1 pins s σ H { D with nx:=u D } I tk h) fun f s1 q=>?_)
 cases f with
 | next=>
  obtain ⟨σ',H',I',q⟩ :=q
  exact h2 pins s1 σ' H' D I' q
 | ret v=>exact q
 | brk=>exact q
 | cont=>exact q
theorem ssp (i:Nat) {x:Str} {e:Expr} {te:TE} {pos':Pos} (hN:X.N.Nodup) (he:PE X e te) (hi:X.N[i]?=some x:=by rfl) (hk:X.env.scope.names.lookup x=some .local:=by rfl) (hs:swapsWith e (some (.Name x pos')) pos.line X.env=pure false:=by rfl) :
  PSp X (.Assign [.Name x pos'] e pos) (tAsg te (Zv0 i)):=by
 intro pins s σ H D I h
 refine wpAny_Assign_Name (thn (he pins s σ H _ I h) fun v s1 ⟨y,H1,I1,r1,q1⟩ =>?_) hs
 exact ZpO I1 hN hi hk r1 fun s2 m I2 hn hm ht _=>⟨by omega,_,H1,I2,q1⟩
end
def PEf (X:Cx) (e:Expr) (t:TE):Prop:=∀ (pins:List (Addr × Obj)) (s:Shared) (σ:St) (H:Hp) (Q:VK),Inv X pins σ H s→t σ H Q→wpAny (model X.prog X.w) X.A (eval e X.env) (fun u s'=>∃ z tk H',Inv X pins σ H' s'∧u=.str z tk∧s.toks≤tk∧Q (.str z) H') X.xe s
section
variable {X:Cx} {a b:Expr} {ta tb:TE} {pos:Pos}
def PJf (X:Cx) (es:List Expr) (t:TJ):Prop:=
 ∀ (n:Nat) (out:Str) (pins:List (Addr × Obj)) (s:Shared) (σ:St) (H:Hp) (Q:VK),n≤s.toks→Inv X pins σ H s→t σ H out Q→wpAny (model X.prog X.w) X.A (joinParts out (evalEach es X.env)) (fun u s'=>∃ z tk H',Inv X pins σ H' s'∧u=.str z tk∧n≤tk∧Q (.str z) H') X.xe s
theorem ZKQ:PJf X [] tJn:=fun n out pins s σ H Q hn I h=>joinParts_nil ⟨out,_,H,I.tok _,rfl,hn,h.2⟩ h.1
theorem ZzV {e:Expr} {es:List Expr} {te:TE} {tr:TJ} (he:PE X e te) (hr:PJf X es tr):PJf X (e :: es) (tJc te tr):=by
 intro n out pins s σ H Q hn I h
 show wpAny _ _ (joinParts out (eval e X.env :: evalEach es X.env)) _ _ s
 refine joinParts_cons (wpAny_mono (wpAny_toks_of hn (he pins s σ H _ I h)) (fun v s1 hv=>?_) fun _ _ y=>y.2)
 obtain ⟨hn1,x,H1,I1,r1,y,ex,hz,q⟩ :=hv
 subst ex
 obtain ⟨t,rfl⟩ :=r1
 exact ⟨hz,hr n _ pins s1 σ H1 Q hn1 I1 q⟩
theorem ZFw {e1 e2:Expr} {es:List Expr} {t:TJ} (h:PJf X (e1 :: e2 :: es) t):PEf X (.JoinedStr (e1 :: e2 :: es) pos) (tFs t):=by
 intro pins s σ H Q I q
 exact JoinedStr_many (h s.toks Str.empty pins s σ H Q (Nat.le_refl _) I q)
end
section
variable {X:Cx} {a b:Expr} {ta tb:TE} {pos:Pos}
def tRep (i j:Nat) (te:TE):List Nat→TS
 | []=>fun D σ H=>D.nx σ H
 | c :: cs=>fun D σ H=>∃ x:Str,(σ.set j (some (.str ⟨#[c]⟩)))[i]?=some (some (.str x))∧te (σ.set j (some (.str ⟨#[c]⟩))) H fun v H1=>∃ z:Str,v=.str z∧(((⟨#[c]⟩ : Str) == z)=false)∧x.length + (x.length + 1) * z.length≤16777216∧
   tRep i j te cs D ((σ.set j (some (.str ⟨#[c]⟩))).set i (some (.str (Txt.replace x ⟨#[c]⟩ z)))) H1
def ZHN (i j:Nat) (ti te:TE):TS:=fun D σ H=>ti σ H fun v H1=>∃ z:Str,v=.str z∧z.cps.all (· < 128)=true∧tRep i j te z.cps.toList D σ H1
theorem ZIU {i:Nat} {sp mk:Str} {e2:Expr} {te:TE} {p2 p3 p4 ap cp q1:Pos} {pins:List (Addr × Obj)} {σ:St} {H:Hp} {s:Shared} {m:Str→Option Value} {c k:Nat} {x:Str} {R:St→Hp→Prop}
  (hN:X.N.Nodup) (hi:X.N[i]?=some sp) (ki:X.env.scope.names.lookup sp=some .local) (kj:X.env.scope.names.lookup mk=some .local) (he:PEf X e2 te) (di:(sp == ("__debug__" : Str))=false) (dj:(mk == ("__debug__" : Str))=false)
  (hs:swapsWith (.Call (.Attribute (.Name sp p3) "replace" ap) [.Name mk p4,e2] [] cp) (some (.Name sp p2)) q1.line X.env=pure false)
  (hbase:attributeBase (.Name sp p3) "replace" X.env (eval (.Name sp p3) X.env)=eval (.Name sp p3) X.env)
  (hfew:((backTo cp (starEach [.Name mk p4,e2] X.env)).all (fun x=>!x.1) && (backToKw cp (keywordEach [] X.env)).all (fun x=>x.1.isSome)
   && decide ([Expr.Name mk p4,e2].length + ([]:List Keyword).length + (if ([]:List Keyword).isEmpty then 0 else 1) < 30))=true)
  (hline:(ap.endLine == cp.line)=true) (h1:starEach [.Name mk p4,e2] X.env=[(false,eval (.Name mk p4) X.env),(false,eval e2 X.env)])
  (I:Inv X pins σ H s) (hn:s.heap.Ns X.env.locals m) (hm:m mk=some (.str ⟨#[c]⟩ k)) (k0:k ≠ 0) (kt:k < s.toks) (ex:σ[i]?=some (some (.str x)))
  (h:te σ H fun v H1=>∃ z:Str,v=.str z∧(((⟨#[c]⟩ : Str) == z)=false)∧x.length + (x.length + 1) * z.length≤16777216∧R (σ.set i (some (.str (Txt.replace x ⟨#[c]⟩ z)))) H1) :
  wpAny (model X.prog X.w) X.A (execs [.Assign [.Name sp p2] (.Call (.Attribute (.Name sp p3) "replace" ap) [.Name mk p4,e2] [] cp) q1] X.env) (fun f s'=>f=.next∧0 < s'.toks∧∃ σ' H',Inv X pins σ' H' s'∧R σ' H') X.xe s:=by
 obtain ⟨m',hn',hl⟩ :=id I.loc
 obtain rfl:=ZKF hn hn'
 obtain ⟨u,ru,lu⟩ :=hl i sp _ hi ex (.inl ki)
 obtain ⟨t,rfl⟩ :=ru
 have hu:m sp=some (.str x t):=by
  rcases lu with ⟨_,z⟩ | ⟨z,_⟩
  ·exact z
  ·have z':X.env.scope.names.lookup sp=some .cell∨X.env.scope.names.lookup sp=some .free:=z
   rw [ki] at z'
   rcases z' with z' | z' <;> cases z'
 refine wpAny_execs_cons (wpAny_Assign_Name ?_ hs)
 refine wpAny_Call_method_late hbase hfew hline rfl (wpAny_Name (wpAny_loadName_local I.ok.kind ki hn hu ?_) di)
 obtain ⟨t1,t2⟩ :=ZHR (T:="str") I (x:=.str x) ⟨t,rfl⟩ tyS
 refine ⟨"str","str.replace",F.plainAttrs_str,F.slot_str_replace,F.type_str_replace,t1,t2,?_⟩
 rw [h1]
 refine Calls.callWith_builtin rfl (Calls.evalArgs_plain (Calls.spliced_cons (wpAny_Name (wpAny_loadName_local I.ok.kind kj hn hm ?_) dj)))
 refine Calls.spliced_cons (thn (he pins s σ H _ I h) fun v s1 hv=>Calls.spliced_nil ?_)
 obtain ⟨z,tk,H1,I1,rfl,htk,z',ez,hz,hlen,q⟩ :=hv
 cases ez
 refine SC.replace k0 (Nat.ne_of_gt (Nat.lt_of_lt_of_le (Nat.lt_of_le_of_lt (Nat.zero_le _) kt) htk)) (Nat.ne_of_lt (Nat.lt_of_lt_of_le kt htk)) hz hlen fun t' k'=>?_
 exact ZpO (v:=.str (Txt.replace x ⟨#[c]⟩ z)) (I1.tok k') hN hi ki ⟨t',rfl⟩ fun s2 m2 I2 _ _ ht _=>wpAny_execs_nil ⟨rfl,by omega,_,H1,I2,q⟩
theorem ZKT {i j:Nat} {sp mk:Str} {it e2:Expr} {ti te:TE} {p1 p2 p3 p4 ap cp q1 pos:Pos} (hp:PassesOwn (model X.prog X.w) X.A X.env X.xe) (hc:X.calm=true)
  (hN:X.N.Nodup) (hit:PE X it ti) (he:PEf X e2 te) (hi:X.N[i]?=some sp:=by rfl) (hj:X.N[j]?=some mk:=by rfl) (ki:X.env.scope.names.lookup sp=some .local:=by rfl) (kj:X.env.scope.names.lookup mk=some .local:=by rfl)
  (di:(sp == ("__debug__" : Str))=false:=by decide) (dj:(mk == ("__debug__" : Str))=false:=by decide)
  (hs:swapsWith (.Call (.Attribute (.Name sp p3) "replace" ap) [.Name mk p4,e2] [] cp) (some (.Name sp p2)) q1.line X.env=pure false:=by rfl)
  (hbase:attributeBase (.Name sp p3) "replace" X.env (eval (.Name sp p3) X.env)=eval (.Name sp p3) X.env:=by rfl)
  (hfew:((backTo cp (starEach [.Name mk p4,e2] X.env)).all (fun x=>!x.1) && (backToKw cp (keywordEach [] X.env)).all (fun x=>x.1.isSome)
   && decide ([Expr.Name mk p4,e2].length + ([]:List Keyword).length + (if ([]:List Keyword).isEmpty then 0 else 1) < 30))=true:=by rfl)
  (hline:(ap.endLine == cp.line)=true:=by rfl) (h1:starEach [.Name mk p4,e2] X.env=[(false,eval (.Name mk p4) X.env),(false,eval e2 X.env)]:=by rfl) (hfs:∀ x,foldedSetIterable it X.env x=pure x:=by intro _; rfl) :
  PSt X (.For (.Name mk p1) it [.Assign [.Name sp p2] (.Call (.Attribute (.Name sp p3) "replace" ap) [.Name mk p4,e2] [] cp) q1] [] pos) (ZHN i j ti te):=by
 intro pins s σ H D I htk h
 refine wpAny_For (wpAny_mono (wpAny_toks_of (n:=1) htk (hit pins s σ H _ I h)) (fun v s1 hv=>?_) fun _ _ y=>y.2) hfs
 obtain ⟨tk1,x,H1,I1,r1,z,ex,hasc,q⟩ :=hv
 subst ex
 obtain ⟨t,rfl⟩ :=r1
 refine wpAny_pyIter_ascii hasc ?_
 have fp:FpOk X pins H1 s1.heap.objs.size:=I1.fpOk (Nat.le_refl _) (I1.hok.fresh (Nat.le_refl _))
 have I2:Inv X pins σ H1 { s1 with heap:=s1.heap.push { cls:=.type "str_ascii_iterator",data:=.fields #[.str z t,.int 0 0] } }:=I1.kept (t':=s1.toks) fun b o e=>Heap.get?_push_of_some _ e
 refine codeAny_forLoop_any (fun n s'=>∃ k σ' H',n=z.cps.size - k∧k≤z.cps.size∧Inv X pins σ' H' s'∧s'.heap.IsStrIter s1.heap.objs.size "str_ascii_iterator" z t k∧H' s1.heap.objs.size=none∧0 < s'.toks∧tRep i j te (z.cps.toList.drop k) D σ' H') ?_ z.cps.size
  ⟨0,σ,H1,rfl,Nat.zero_le _,I2,⟨_,Heap.get?_push_size _ rfl,rfl,rfl⟩,fp.1,tk1,by rw [List.drop_zero]; exact q⟩
 rintro n s3 ⟨k,σ3,H3,rfl,hk,I3,st3,f3,tk3,w3⟩
 obtain ⟨g1,g2,g3,g4,g5⟩ :=fp.2
 by_cases hlt:k < z.cps.size
 ·have hz:z.cps[k]?=some z.cps[k]:=by simp [hlt]
  refine wpAny_passesOwn hp (wpAny_pyNext_ascii_item st3 hz fun h' st' sb=>?_)
  have I4:Inv X pins σ3 H3 { s3 with heap:=h',toks:=s3.toks + 1 }:=I3.turned (fun b o hb e=>(sb.2 b hb).trans e) f3 g1 g3 g4 g5
  obtain ⟨o,e,c,d⟩ :=id st'
  refine ZFa (s:={ s3 with heap:=h',toks:=s3.toks + 1 }) e c d (by decide) ?_
  have hd:z.cps.toList.drop k=z.cps[k] :: z.cps.toList.drop (k + 1):=by
   rw [List.drop_eq_getElem_cons (by simpa using hlt)]
   simp
  rw [hd] at w3
  obtain ⟨x,ex,w4⟩ :=w3
  have I5:=I4.pinned (fp:=[s1.heap.objs.size]) (fun b hb=>by rw [List.mem_singleton.mp hb]; exact ⟨f3,g1,g2,g3,g4,g5⟩) (fun b hb=>by rw [List.mem_singleton.mp hb]; exact ⟨o,e,fun v y=>by rw [d] at y; cases y⟩)
  refine wpAny_assign_Name (ZpO (v:=.str ⟨#[z.cps[k]]⟩) I5 hN hj kj ⟨_,rfl⟩ fun s5 m5 I6 hn5 hm5 ht5 _=>?_)
  refine wpAny_passesOwn hp (wpAny_mono (ZIU hN hi ki kj he di dj hs hbase hfew hline h1 I6 hn5 hm5 (Nat.ne_of_gt tk3) (by show s3.toks < s5.toks; rw [ht5]; exact Nat.lt_succ_of_lt (Nat.lt_succ_self _)) ex w4) (fun f s7 hq=>?_) fun _ _ y=>y)
  obtain ⟨rfl,tk7,σ7,H7,I7,w7⟩ :=hq
  have pe:=I7.pin (s1.heap.objs.size,o) (List.mem_append_right _ (List.mem_append_right _ (ZfX (by simp) e)))
  refine ⟨z.cps.size - (k + 1),by omega,k + 1,σ7,H7,rfl,hlt,I7.unpinned,⟨o,pe.1,c,d⟩,pe.2.1,tk7,w7⟩
 ·have hk':k=z.cps.size:=by omega
  subst hk'
  rw [List.drop_of_length_le (by simp)] at w3
  refine wpAny_passesOwn hp (wpAny_pyNext_ascii_end (I3.ok.hd hc) st3 (by simp) fun h' eb=>?_)
  exact wpAny_execs_nil ⟨σ3,H3,I3.turned (t':=s3.toks) (fun b o hb e=>eb b o hb e) f3 g1 g3 g4 g5,w3⟩
end
section
variable {X:Cx} {pins:List (Addr × Obj)} {σ:List (Option V)} {H:Hp} {s:Shared}
theorem ZyF:∀ ls:List (Str × Tok),Vals (ls.map fun p=>V.str p.1) (strValues ls)
 | []=>.nil
 | (z,t) :: ls=>.cons ⟨t,rfl⟩ (ZyF ls)
theorem Zm5 {ls:List (Str × Tok)} {k:Nat} {Q:VK} (I:Inv X pins σ H s) (q:NewL (ls.map fun p=>V.str p.1) H Q):EP X pins σ Q (.ref s.heap.objs.size) { s with heap:=s.heap.push { cls:=.type "list",data:=.seq (strValues ls).toArray },toks:=k }:=
 ⟨.ref s.heap.objs.size,upd H s.heap.objs.size (.lst _),I.laid (t':=k) (fun b u e=>Heap.get?_push_of_some _ e) (Nat.le_refl _) ⟨q.1,strValues ls,0,ZyF ls,Heap.get?_push_size _ rfl⟩,rfl,q.2 _ (I.hok.fresh (Nat.le_refl _))⟩
theorem Zm7 {ls:List (Str × Tok)} {ts:List Str} (h:ls.map (·.1)=ts):(ls.map fun p=>V.str p.1)=ts.map V.str:=by
 rw [← h,List.map_map]; rfl
def ZMB:V→List V→Hp→VK→Prop:=fun x vs H Q=>∃ z:Str,x=.str z∧z.length≤100000∧((vs=[]∧NewL ((Txt.words z).map V.str) H Q)∨(∃ c:Nat,vs=[.str ⟨#[c]⟩]∧NewL ((Txt.split z ⟨#[c]⟩).map V.str) H Q))
theorem ZIx:MtR X "str.split" ZMB:=by
 intro pins s σ H x vs v us Q I rx rv h
 obtain ⟨z,rfl,hz,h⟩ :=h
 obtain ⟨t,rfl⟩ :=rx
 have hzs:z.length≤sizeLine:=Zbn (by omega)
 rcases h with ⟨rfl,q⟩ | ⟨c,rfl,q⟩
 ·cases rv
  have hw0:=StrLaws.sw_weight z
  have hw1:=StrLaws.len_le_wsum (Builtin.Str.spaceWords z (z.length + 1))
  refine call_meets F.slot_str_split (typeIs_str _ _ _) F.entry_str_split (F.args_str_split_1 _) (meets_str_split_space z t hzs (Zbn (by omega))) ?_
  cases hw:Builtin.Str.spaceWords z (z.length + 1) == [(0,z.length)]
  ·simp only [Bool.false_eq_true,if_false]
   rw [strsFrom_eq]
   have e:(numbered s.toks (wordsOf z)).map (·.1)=Txt.words z:=(numbered_texts _ _).trans (if_neg (ne_true_of_eq_false hw)).symm
   exact Zm5 (ls:=numbered s.toks (wordsOf z)) I (by rw [Zm7 e]; exact q)
  ·simp only [if_true]
   have e:[(z,t)].map (·.1)=Txt.words z:=(if_pos hw).symm
   exact Zm5 (ls:=[(z,t)]) (k:=s.toks) I (by rw [Zm7 e]; exact q)
 ·obtain ⟨u,rfl,tu,rfl⟩ :=rv.one
  have hy:((⟨#[c]⟩ : Str).length == 0)=false:=rfl
  cases h1:(decide (z.length < (⟨#[c]⟩ : Str).length) || decide (Builtin.Str.strKind z < Builtin.Str.strKind ⟨#[c]⟩))
  ·cases hf:(Builtin.Str.occurrences z ⟨#[c]⟩ 0 z.length (z.length + 1)).isEmpty
   ·have e0:Txt.split z ⟨#[c]⟩=Builtin.Str.partsBetween z (Builtin.Str.occurrences z ⟨#[c]⟩ 0 z.length (z.length + 1)) (⟨#[c]⟩ : Str).length:=(if_neg (ne_true_of_eq_false h1)).trans (if_neg (ne_true_of_eq_false hf))
    have hn:(Builtin.Str.partsBetween z (Builtin.Str.occurrences z ⟨#[c]⟩ 0 z.length (z.length + 1)) (⟨#[c]⟩ : Str).length).length≤sizeLine:=by
     rw [← e0]
     have:=q.1
     rwa [List.length_map] at this
    refine call_meets F.slot_str_split (typeIs_str _ _ _) F.entry_str_split (F.args_str_split_2 _ _) (meets_str_split_sep z ⟨#[c]⟩ t tu h1 hy hf hzs hn) ?_
    show wants _ _ _ { s with toks:=_,heap:=s.heap.push { cls:=.type "list",data:=.seq (strsFrom s.toks (Builtin.Str.partsBetween z (Builtin.Str.occurrences z ⟨#[c]⟩ 0 z.length (z.length + 1)) (⟨#[c]⟩ : Str).length)).toArray } }
    rw [strsFrom_eq]
    have e:(numbered s.toks (Builtin.Str.partsBetween z (Builtin.Str.occurrences z ⟨#[c]⟩ 0 z.length (z.length + 1)) (⟨#[c]⟩ : Str).length)).map (·.1)=Txt.split z ⟨#[c]⟩ :=(numbered_texts _ _).trans e0.symm
    exact Zm5 (ls:=numbered s.toks _) I (by rw [Zm7 e]; exact q)
   ·have e:[(z,t)].map (·.1)=Txt.split z ⟨#[c]⟩ :=((if_neg (ne_true_of_eq_false h1)).trans (if_pos hf)).symm
    exact call_meets F.slot_str_split (typeIs_str _ _ _) F.entry_str_split (F.args_str_split_2 _ _) (meets_str_split_not_found z ⟨#[c]⟩ t tu h1 hy hf) (Zm5 (ls:=[(z,t)]) (k:=s.toks) I (by rw [Zm7 e]; exact q))
  ·have e:[(z,t)].map (·.1)=Txt.split z ⟨#[c]⟩ :=(if_pos h1).symm
   exact call_meets F.slot_str_split (typeIs_str _ _ _) F.entry_str_split (F.args_str_split_2 _ _) (meets_str_split_cannot_occur z ⟨#[c]⟩ t tu h1) (Zm5 (ls:=[(z,t)]) (k:=s.toks) I (by rw [Zm7 e]; exact q))
end
section
variable {σ:St} {H:Hp} {Q:VK} {D:Ends}
theorem ZEf {i j:Nat} {ti te:TE} (h:ti σ H fun v H1=>∃ z:Str,v=.str z∧z.cps.all (· < 128)=true∧tRep i j te z.cps.toList D σ H1):ZHN i j ti te D σ H:=h
theorem ZLU {i j:Nat} {te:TE} (h:D.nx σ H):tRep i j te [] D σ H:=h
theorem ZGt {i j c:Nat} {cs:List Nat} {te:TE} (x:Str) (e:(σ.set j (some (.str ⟨#[c]⟩)))[i]?=some (some (.str x))) (h:te (σ.set j (some (.str ⟨#[c]⟩))) H fun v H1=>∃ z:Str,v=.str z∧(((⟨#[c]⟩ : Str) == z)=false)∧x.length + (x.length + 1) * z.length≤16777216∧
   tRep i j te cs D ((σ.set j (some (.str ⟨#[c]⟩))).set i (some (.str (Txt.replace x ⟨#[c]⟩ z)))) H1):tRep i j te (c :: cs) D σ H:=⟨x,e,h⟩
end
end L2
set_option maxRecDepth 100000
set_option maxHeartbeats 4000000
namespace PySem
theorem ZF0 {prog:Program} {w:World} {A:Around} {R:Result→Shared→Prop} {s:Shared} {elt target iter:Expr} {ifs:List Expr} {scope:Scope} {pos:Pos} {it acc:Value} {env:Env} (I:Nat→Shared→Prop)
  (turn:∀ n s,I n s→wpAny (model prog w) A (pyNext it) (fun r s1=>match r with
   | none=>R (.ok .next) s1
   | some v=>wpAny (model prog w) A (letOwnedTupleGo target it v) (fun _ s2=>wpAny (model prog w) A (assign target env v) (fun _ s3=>
     wpAny (model prog w) A (forIn ifs true fun c r=>if r=true then do let ok ← isTrue c env (eval c env); pure (ForInStep.yield ok) else pure (ForInStep.yield r)) (fun ok s4=>
      if ok=true then wpAny (model prog w) A (eval elt env) (fun x s5=>
       wpAny (model prog w) A (call (.builtin "list.append") [acc,x]) (fun _ s6=>∃ m,m < n∧I m s6) (notedBy (model prog w) A env fun e s'=>R (.error e) s') s5) (notedBy (model prog w) A env fun e s'=>R (.error e) s') s4
      else ∃ m,m < n∧I m s4) (notedBy (model prog w) A env fun e s'=>R (.error e) s') s3) (notedBy (model prog w) A env fun e s'=>R (.error e) s') s2) (notedBy (model prog w) A env fun e s'=>R (.error e) s') s1) (notedBy (model prog w) A env fun e s'=>R (.error e) s') s)
  (n:Nat) (h:I n s):codeAny (model prog w) A (.compLoop (.ListComp elt [⟨target,iter,ifs,0⟩] scope pos) 0 it acc env) R s:=by
 refine codeAny_loop rfl I (fun n s hI=>?_) n h
 show wpAny _ A ((compTurn (.ListComp elt [⟨target,iter,ifs,0⟩] scope pos) 0 it acc env).onRaise (fun x=>do noteFrame x env; theTreesLotGoes x)) _ _ s
 refine wpAny_noted ?_
 rw [compTurn_list]
 refine wpAny_bind (wpAny_standAt (wpAny_bind (wpAny_mono (turn n s hI) (fun r s1 h1=>?_) fun _ _ z=>z)))
 cases r with
 | none=>exact wpAny_pure h1
 | some v=>
  refine wpAny_bind (wpAny_mono h1 (fun _ s2 h2=>?_) fun _ _ z=>z)
  refine wpAny_bind (wpAny_mono h2 (fun _ s3 h3=>wpAny_bind (wpAny_mono h3 (fun ok s4 h4=>?_) fun _ _ z=>z)) fun _ _ z=>z)
  cases ok with
  | false=>exact wpAny_pure ⟨rfl,h4⟩
  | true=>
   exact wpAny_bind (wpAny_bind (wpAny_mono h4 (fun x s5 h5=>wpAny_bind (wpAny_mono h5 (fun _ s6 h6=>wpAny_pure (wpAny_pure ⟨rfl,h6⟩)) fun _ _ z=>z)) fun _ _ z=>z))
end PySem
namespace L2
open PySem PySem.Spec PyProof.Rows
def Zc6 (X:Cx) (x x':Str) (ns:List Str) (scope:Scope) (cl:List (Str × Addr)) (s:Shared) (H:Hp) (ex:List Addr):Cx:={ ZeQ X x ns scope cl s H ex with N:=x :: x' :: ns }
def Zr2 (sc:Scope) (N:List Str) (x x':Str) (ns:List Str) (ix:List Nat) (scope:Scope):Prop:=
 scope.kind=.function∧(∀ y ∈ scope.names,y.2 ≠ .cell∧(y.2=.local→scope.names.lookup y.1=some .local)∧(y.2=.free→sc.names.lookup y.1=some .cell∨sc.names.lookup y.1=some .free))∧
 scope.names.lookup x=some .local∧scope.names.lookup x'=some .local∧(∀ y ∈ ns,scope.names.lookup y=some .free)∧(ix.map fun k=>N[k]?)=ns.map some∧(x :: x' :: ns).Nodup
instance (sc:Scope) (N:List Str) (x x':Str) (ns:List Str) (ix:List Nat) (scope:Scope):Decidable (Zr2 sc N x x' ns ix scope):=by unfold Zr2; infer_instance
def ZxU (J:It) (ix:List Nat) (tc:TT) (te:TE) (σ:St) (Q:VK) (H1:Hp):Prop:=∀ acc,H1 acc=none→∃ W:Nat→Nat→List V→Hp→Prop,(∃ m,W 0 m [] (upd H1 acc (.lst [])))∧
 ∀ i m ys H,W i m ys H→(J.stop i H∧Q (.ref acc) H)∨(J.go i H∧∀ x H',J.yld i H x H'→∃ T va vb,x=.ref T∧H' T=some (.tup [va,vb])∧tc (some va :: some vb :: subS σ ix) H' fun b H2=>
  if b=true then te (some va :: some vb :: subS σ ix) H2 fun y H3=>H3 acc=some (.lst ys)∧ys.length < sizeLine∧∃ m',m' < m∧W (i + 1) m' (ys ++ [y]) (upd H3 acc (.lst (ys ++ [y]))) else ∃ m',m' < m∧W (i + 1) m' ys H2)
def ZHM (wi:TI) (ix:List Nat) (tc:TT) (te:TE):TE:=fun σ H Q=>wi σ H fun J H1=>ZxU J ix tc te σ Q H1
section
variable {X:Cx} {pins:List (Addr × Obj)} {σ:St} {H:Hp} {s:Shared} {cl:List (Str × Addr)} {x x':Str} {ns:List Str} {ix:List Nat} {sc scope:Scope} {N:List Str} {fp:List Addr}
theorem ZIa (I:Inv X pins σ H s) (f:∀ b ∈ fp,FpOk X pins H b) (hlt:∀ b ∈ fp,b < s.heap.objs.size) (hcl:∀ y c,cl.lookup y=some c→X.env.cells.lookup y=some c) {H':Hp} (hn:∀ b ∈ fp,H' b=none):∀ b ∈ fp,FpOk (Zc6 X x x' ns scope cl s H fp) [] H' b:=fun b hb=>by
 obtain ⟨f0,f1,f2,f3,f4,f5⟩ :=f b hb
 refine ⟨hn b hb,Nat.ne_of_lt (hlt b hb),fun z=>?_,.inl hb,fun y c e=>f4 y c (hcl y c e),fun p hp=>?_⟩
 ·rcases List.mem_cons.mp (I.stkSub b z) with z | z
  ·exact f1 z
  ·exact f2 z
 ·exact absurd (show p ∈ ([]:List (Addr × Obj)) from hp) (by simp)
theorem ZGu {h1:Heap} {m:Str→Option Value} {t':Nat} (I:Inv X pins σ H s) (hsc:X.env.scope=sc) (hN:X.N=N) (C:Zr2 sc N x x' ns ix scope) (hcl:∀ y c,cl.lookup y=some c→X.env.cells.lookup y=some c)
  (hcla:∀ y ∈ scope.names,y.2=.free→∃ c,cl.lookup y.1=some c) (f:∀ b ∈ fp,FpOk X pins H b) (hlt:∀ b ∈ fp,b < s.heap.objs.size) (hn:h1.Ns s.heap.objs.size m) (hk:∀ b o,s.heap.get? b=some o→h1.get? b=some o) :
  Inv (Zc6 X x x' ns scope cl s H fp) [] (none :: none :: subS σ ix) H { s with heap:=h1,toks:=t' }:=by
 obtain ⟨c1,c2,c3,c3',c4,c5,c6⟩ :=C
 have kind:∀ y,(relabel scope X.env).names.lookup y=(scope.names.lookup y).map fun k=>if (k == NameKind.free && X.env.scope.kind == .function && X.env.kindOf y == some .cell)=true then NameKind.cell else k:=fun y=>Znn scope.names y
 have fr:∀ y,((relabel scope X.env).names.lookup y=some .cell∨(relabel scope X.env).names.lookup y=some .free)→scope.names.lookup y=some .free:=fun y h=>by
  rw [kind y] at h
  cases e:scope.names.lookup y with
  | none=>rw [e] at h; simp at h
  | some k=>
   rw [e] at h
   have hm:=ZdT e
   cases k with
   | free=>rfl
   | cell=>exact absurd rfl (c2 _ hm).1
   | «local»=>simp at h
   | globalExplicit=>simp at h
   | globalImplicit=>simp at h
 have fr':∀ y,scope.names.lookup y=some .free→(relabel scope X.env).names.lookup y=some .cell∨(relabel scope X.env).names.lookup y=some .free:=fun y h=>by
  rw [kind y,h]
  by_cases hc:(NameKind.free == NameKind.free && X.env.scope.kind == .function && X.env.kindOf y == some .cell)=true
  ·left; rw [Option.map_some,if_pos hc]
  ·right; rw [Option.map_some,if_neg hc]
 have noC:∀ p:Addr × Obj,p ∉ (Zc6 X x x' ns scope cl s H fp).pn ++ []:=fun p hp=>absurd (show p ∈ ([]:List (Addr × Obj)) from hp) (by simp)
 have lenE:ix.length=ns.length:=by
  have:=congrArg List.length c5
  rwa [List.length_map,List.length_map] at this
 refine ⟨⟨I.ok.mod,c1,I.ok.glob,I.ok.blt,Nat.le_refl _,fun y z c h1 h2=>I.ok.inj y z c (hcl y c h1) (hcl z c h2),fun y hy=>?_,fun y c hy=>absurd hy (by simp [Zc6,ZeQ]),I.ok.hd,I.ok.frames,.inl rfl,fun b hb=>?_,I.bs,
  Nat.le_trans I.ok.bsz I.sz,fun b o e hb=>?_,fun b hb=>?_,I.stack,I.stkFree⟩,rfl,I.bare,Un.kept hk,⟨m,hn,fun i y v e1 e2 e3=>?_⟩,fun y c e=>?_,I.hok.fresh (Nat.le_refl _),fun y c e=>I.freeC y c (hcl y c e),fun p hp=>absurd hp (noC p),I.hok.kept hk,?_⟩
 ·exact hcla _ (ZdT (fr y hy)) rfl
 ·obtain ⟨f0,f1,f2,f3,f4,f5⟩ :=f b hb
  exact ⟨Nat.ne_of_lt (hlt b hb),fun y c e=>f4 y c (hcl y c e)⟩
 ·obtain ⟨f0,f1,f2,f3,f4,f5⟩ :=f b hb
  rcases f3 with z | z
  ·exact I.ok.noex b o e z
  ·exact absurd (Nat.lt_of_lt_of_le (Heap.lt_size (I.ok.bs b o e).1) z) (Nat.lt_irrefl _)
 ·obtain ⟨f0,f1,f2,f3,f4,f5⟩ :=f b hb
  intro z
  rcases List.mem_cons.mp (I.stkSub b z) with z | z
  ·exact f1 z
  ·exact f2 z
 ·cases i with
  | zero=>cases e2
  | succ i=>
  cases i with
  | zero=>cases e2
  | succ j=>
   have e1':ns[j]?=some y:=e1
   have e2':(ix.map fun k=>(σ[k]?).join)[j]?=some (some v):=e2
   have e5:=congrArg (fun l=>l[j]?) c5
   simp only [List.getElem?_map,e1',Option.map_some] at e5 e2'
   cases ek:ix[j]? with
   | none=>rw [ek] at e5; cases e5
   | some k=>
    rw [ek] at e5 e2'
    have eN:N[k]?=some y:=by simpa using e5
    have eσ:(σ[k]?).join=some v:=by simpa using e2'
    have eσ':σ[k]?=some (some v):=by
     cases q:σ[k]? with
     | none=>rw [q] at eσ; cases eσ
     | some w=>rw [q] at eσ; have:w=some v:=eσ; rw [this]
    have hy:=c4 y (List.mem_of_getElem? e1')
    have hk':=(c2 _ (ZdT hy)).2.2 rfl
    rw [← hsc] at hk'
    obtain ⟨m0,hn0,hl⟩ :=I.loc
    obtain ⟨u,r,l⟩ :=hl k y v (by rw [hN]; exact eN) eσ' (.inr hk')
    refine ⟨u,r,?_⟩
    rcases l with ⟨kl,_⟩ | ⟨_,c,ec,z⟩
    ·exfalso
     have kl:X.env.scope.names.lookup y=some .local:=kl
     rw [kl] at hk'
     rcases hk' with z | z <;> cases z
    ·obtain ⟨c',ec'⟩ :=hcla _ (ZdT hy) rfl
     have ee:c'=c:=by
      have:=hcl y c' ec'
      rw [ec] at this
      exact (Option.some.inj this).symm
     subst ee
     obtain ⟨o,ho,hd⟩ :=z
     exact .inr ⟨fr' y hy,c',ec',⟨o,hk _ _ ho,hd⟩⟩
 ·obtain ⟨v,o,ho,hd⟩ :=I.cell y c (hcl y c e)
  exact ⟨v,o,hk _ _ ho,hd⟩
 ·show (none :: none :: subS σ ix).length=(x :: x' :: ns).length
  rw [List.length_cons,List.length_cons,List.length_cons,List.length_cons]
  unfold subS
  rw [List.length_map,lenE]
end
section
variable {X:Cx} {pins:List (Addr × Obj)} {σ:St} {H:Hp} {s:Shared} {cl:List (Str × Addr)} {x x':Str} {ns:List Str} {ix:List Nat} {sc scope:Scope} {N:List Str} {fp:List Addr} {elt iter:Expr} {px px' tp pos:Pos} {tk:Nat} {ifs:List Expr} {tc:TT} {te:TE} {wi:TI}
theorem ZA6 {E:Value→Shared→Prop} {J:It} {it:Addr} {tn:Nat→Heap→Prop} {Q:VK} {RR:Value→Addr→Result→Shared→Prop} (hsc:X.env.scope=sc) (hN:X.N=N) (C:Zr2 sc N x x' ns ix scope) (hc:X.calm=true)
  (ht:∀ cl s H ex,PTs (Zc6 X x x' ns scope cl s H ex) ifs tc) (he:∀ cl s H ex,PE (Zc6 X x x' ns scope cl s H ex) elt te) (I:Inv X pins σ H s) (hcl:∀ y c,cl.lookup y=some c→X.env.cells.lookup y=some c)
  (hcla:∀ y ∈ scope.names,y.2=.free→∃ c,cl.lookup y.1=some c) (T:Turn X.prog X.w X.K (.Tuple [.Name x px,.Name x' px'] tk tp) J fp it tn) (st:tn 0 s.heap) (f:∀ b ∈ fp,FpOk X pins H b) (h:ZxU J ix tc te σ Q H)
  (fin:∀ D C m s' H',Inv X pins σ H' s'→s'.heap.Ns C m→FpOk X pins H' C→Q (.ref D) H'→RR (.ref D) C (.ok .next) s') :
  wpAny (model X.prog X.w) X.A (newList []) (fun ja s3=>wpAny (model X.prog X.w) X.A (newFunctionEnv scope X.env.globals cl [] X.env.qual none .none (some X.env)) (fun ce s4=>
   codeAny (model X.prog X.w) X.A (.compStart (.ListComp elt [⟨.Tuple [.Name x px,.Name x' px'] tk tp,iter,ifs,0⟩] scope pos) 0 (.ref it) ja { ce with scope:=relabel scope X.env }) (RR ja ce.locals) s4) E s3) E s:=by
 have hC:=C
 obtain ⟨c1,c2,c3,c3',c4,c5,c6⟩ :=C
 have hfr:H s.heap.objs.size=none:=I.hok.fresh (Nat.le_refl _)
 obtain ⟨W,⟨m0,w0⟩,turn⟩ :=h _ hfr
 refine wpAny_newObj_type (wpAny_newFunctionEnv (fun y hy=>(c2 y hy).1) (by intro y hy; simp at hy) (fun h1 hn1 hs1=>?_) c1)
 have I3:=I.lnew (its:=[]) (ys:=[]) (t':=s.toks) .nil (Nat.zero_le _)
 have hlt0:∀ b ∈ fp,b < s.heap.objs.size:=fun b hb=>by
  obtain ⟨o,ho,_⟩ :=T.obj _ _ st b hb
  exact Heap.lt_size ho
 generalize hs3:({ s with heap:=s.heap.push { cls:=.type "list",data:=.seq ([]:List Value).toArray },toks:=s.toks }:Shared)=s3 at I3
 have e3:s3.heap=s.heap.push { cls:=.type "list",data:=.seq ([]:List Value).toArray }:=by rw [← hs3]
 have sz3:s3.heap.objs.size=s.heap.objs.size + 1:=by rw [e3,Heap.size_push]
 have f3:∀ b ∈ fp,FpOk X pins (upd H s.heap.objs.size (.lst [])) b:=fun b hb=>⟨by rw [ZaS (Nat.ne_of_lt (hlt0 b hb))]; exact (f b hb).1,(f b hb).2⟩
 have hlt:∀ b ∈ fp,b < s3.heap.objs.size:=fun b hb=>by rw [sz3]; exact Nat.lt_succ_of_lt (hlt0 b hb)
 have hk:∀ b o,s3.heap.get? b=some o→h1.get? b=some o:=fun b o e=>by
  refine (hs1.2 b ?_).trans (Heap.get?_push_of_some _ ?_)
  ·have:=Heap.lt_size e
   rw [sz3] at this
   show b ≠ (s.heap.push _).objs.size
   rw [Heap.size_push]
   exact Nat.ne_of_lt this
  ·rw [e3] at e; exact e
 have hn3:h1.Ns s3.heap.objs.size (fun y=>([]:List (Str × Value)).reverse.lookup y):=by rw [e3]; exact hn1
 have I4:=ZGu (t':=s3.toks + ([]:List (Str × Value)).length) I3 hsc hN hC hcl hcla f3 hlt hn3 hk
 have st4:tn 0 h1:=T.keep _ _ _ st fun b hb o e=>hk b o (by rw [e3]; exact Heap.get?_push_of_some _ e)
 have stat:∀ {H':Hp},(∀ b ∈ fp,H' b=none)→∀ b ∈ fp,FpOk (Zc6 X x x' ns scope cl s3 (upd H s.heap.objs.size (.lst [])) fp) [] H' b:=fun {H'} hn=>ZIa I3 f3 hlt hcl hn
 have loop:∀ s4:Shared,s4 = { s3 with heap:=h1,toks:=s3.toks + ([]:List (Str × Value)).length }→
   codeAny (model X.prog X.w) X.A (.compLoop (.ListComp elt [⟨.Tuple [.Name x px,.Name x' px'] tk tp,iter,ifs,0⟩] scope pos) 0 (.ref it) (.ref s.heap.objs.size) (compEnvC scope cl s3.heap.objs.size X.env)) (RR (.ref s.heap.objs.size) s3.heap.objs.size) s4:=by
  rintro s4 rfl
  refine ZF0 (fun n s'=>∃ i v0 v1 ys H',Inv (Zc6 X x x' ns scope cl s3 (upd H s.heap.objs.size (.lst [])) fp) [] (v0 :: v1 :: subS σ ix) H' s'∧tn i s'.heap∧(∀ b ∈ fp,H' b=none)∧W i n ys H') ?_ m0 ⟨0,none,none,[],_,I4,st4,fun b hb=>(f3 b hb).1,w0⟩
  rintro n s5 ⟨i,v0,v1,ys,H5,I5,st5,fr5,w5⟩
  rcases turn i n ys H5 w5 with ⟨stop,q⟩ | ⟨go,step⟩
  ·refine wpAny_mono (T.done (Zc6 X x x' ns scope cl s3 (upd H s.heap.objs.size (.lst [])) fp) rfl rfl rfl hc i [] s5 _ H5 _ I5 (stat fr5) st5 stop) (fun r s6 hr=>?_) fun _ _ e=>e
   obtain ⟨hr,I6⟩ :=hr
   subst hr
   obtain ⟨m6,hn6,_⟩ :=id I6.loc
   refine fin _ _ m6 s6 H5 (I3.call' I6.os I6.base I6.hok I6.bare fun b hb=>?_) hn6 (I3.fpOk (Nat.le_refl _) I6.free) q
   obtain ⟨g0,g1,g2,g3,g4,g5⟩ :=f3 b hb
   exact ⟨g3,g1,g4,g5⟩
  ·refine wpAny_mono (T.item (Zc6 X x x' ns scope cl s3 (upd H s.heap.objs.size (.lst [])) fp) rfl rfl rfl hc i [] s5 _ H5 _ I5 (stat fr5) st5 go) (fun r s6 hr=>?_) fun _ _ e=>e
   obtain ⟨u,hr,h6⟩ :=hr
   subst hr
   refine wpAny_mono h6 (fun _ s6 q6=>?_) fun _ _ e=>e
   obtain ⟨xv,H6,I6,r6,y6,st6,fr6⟩ :=q6
   have I6':=I6.pinned (stat fr6) (T.obj _ _ st6)
   obtain ⟨Tt,va,vb,rfl,eT,step'⟩ :=step xv _ y6
   have again:∀ {m':Nat} {ys':List V} {H7:Hp} {s7:Shared},Inv (Zc6 X x x' ns scope cl s3 (upd H s.heap.objs.size (.lst [])) fp) ([] ++ Zyy fp s6.heap) (some va :: some vb :: subS σ ix) H7 s7→W (i + 1) m' ys' H7→
     ∃ i v0 v1 ys H',Inv (Zc6 X x x' ns scope cl s3 (upd H s.heap.objs.size (.lst [])) fp) [] (v0 :: v1 :: subS σ ix) H' s7∧tn i s7.heap∧(∀ b ∈ fp,H' b=none)∧W i m' ys H':=fun {m' ys' H7 s7} I7 w7=>by
    refine ⟨i + 1,some va,some vb,ys',H7,I7.unpinned,T.keep _ _ _ st6 fun b hb o e=>(I7.pin (b,o) (List.mem_append_right _ (List.mem_append_right _ (ZfX hb e)))).1,fun b hb=>?_,w7⟩
    obtain ⟨o,e,d⟩ :=T.obj _ _ st6 b hb
    exact (I7.pin (b,o) (List.mem_append_right _ (List.mem_append_right _ (ZfX hb e)))).2.1
   have lx:(relabel scope X.env).names.lookup x=some .local:=lookup_relabel_local c3
   have lx':(relabel scope X.env).names.lookup x'=some .local:=lookup_relabel_local c3'
   have hg2:PG (Zc6 X x x' ns scope cl s3 (upd H s.heap.objs.size (.lst [])) fp) (.Tuple [.Name x px,.Name x' px'] tk tp) _:=Zyx (show X.calm=true from hc) (ZeA (ZzU (i:=0) (x:=x) (pos:=px) c6 rfl (.inl lx) (.inr lx)) (ZeA (ZzU (i:=1) (x:=x') (pos:=px') c6 rfl (.inl lx') (.inr lx')) ZsC))
   refine wpAny_mono (hg2 _ s6 _ H6 (.ref Tt) u (fun σ' H'=>σ'=some va :: some vb :: subS σ ix∧H'=H6) I6' r6 (ZFc eT ⟨rfl,rfl⟩)) (fun _ s7 h7=>?_) fun _ _ e=>e.elim
   obtain ⟨σ7,H7,I7,rfl,rfl⟩ :=h7
   refine wpAny_mono (ht cl s3 _ fp _ s7 _ _ _ I7 step') (fun b s8 h8=>?_) fun _ _ e=>e.elim
   obtain ⟨H8,I8,q8⟩ :=h8
   cases b with
   | false=>
    rw [if_neg Bool.false_ne_true] at q8 ⊢
    obtain ⟨m',hm,w8⟩ :=q8
    exact ⟨m',hm,again I8 w8⟩
   | true=>
    rw [if_pos rfl] at q8 ⊢
    refine wpAny_mono (he cl s3 _ fp _ s8 _ _ _ I8 q8) (fun uy s9 h9=>?_) fun _ _ e=>e.elim
    obtain ⟨y,H9,I9,r9,hacc,hz,m',hm,w9⟩ :=h9
    refine wpAny_mono (ZaK (X:=Zc6 X x x' ns scope cl s3 (upd H s.heap.objs.size (.lst [])) fp) _ s9 _ H9 (.ref s.heap.objs.size) [y] _ [uy] (fun v H'=>H'=upd H9 s.heap.objs.size (.lst (ys ++ [y]))) I9 rfl (.cons r9 .nil) ⟨_,ys,y,rfl,rfl,hacc,hz,rfl⟩) (fun _ s10 h10=>?_) fun _ _ e=>e.elim
    obtain ⟨v,H10,I10,_,rfl⟩ :=h10
    exact ⟨m',hm,again I10 w9⟩
 exact codeAny_compStart_list (loop _ rfl) (T.self _ 0 _ _ _ st4 (loop _ rfl))
theorem ZIJ (hsc:X.env.scope=sc) (hN:X.N=N) (C:Zr2 sc N x x' ns ix scope) (hc:X.calm=true) (hi:PI X (.Tuple [.Name x px,.Name x' px'] tk tp) iter wi) (ht:∀ cl s H ex,PTs (Zc6 X x x' ns scope cl s H ex) ifs tc) (he:∀ cl s H ex,PE (Zc6 X x x' ns scope cl s H ex) elt te)
  (hs:∀ v,foldedSetIterable iter X.env v=pure v:=by intro _; rfl):PE X (.ListComp elt [⟨.Tuple [.Name x px,.Name x' px'] tk tp,iter,ifs,0⟩] scope pos) (ZHM wi ix tc te):=by
 intro pins s σ H Q I h
 obtain ⟨cl,hclos,hcl,hcla⟩ :=ZnK (env:=X.env) scope fun y hy hf=>I.ok.has y.1 (by
  have:=(C.2.1 y hy).2.2 hf
  rw [← hsc] at this
  exact this)
 rw [eval_ListComp]
 refine wpAny_comprehension_free (use:=none) rfl hs hclos C.1 (fun y hy=>(C.2.1 y hy).2.1) (thn (hi pins s σ H _ I h) fun v s1 h1=>thn h1 fun itv s2 h2=>?_)
 obtain ⟨it,fp,tn,J,H2,rfl,I2,T,st2,f2,hg⟩ :=h2
 refine ZA6 (RR:=fun ja C=>compPost (model X.prog X.w) X.A X.xe none (EP X pins σ Q) ja C) hsc hN C hc ht he I2 hcl hcla T st2 f2 hg ?_
 intro D C' m s' H' I' hn' fC q
 obtain ⟨g0,g1,g2,g3,g4,g5⟩ :=fC
 exact ⟨m,hn',fun h' hs'=>⟨.ref D,H',I'.turned (t':=s'.toks) (fun b o hb e=>hs'.extBut b o hb e) g0 (Ne.symm (Ne.symm g1)) g3 g4 g5,rfl,q⟩⟩
end
end L2
set_option maxRecDepth 100000
namespace L2
open PySem PySem.Spec PyProof.Rows
section
variable {ix:List Nat} {tc:TT} {te:TE} {σ:St} {H:Hp} {Q:VK}
end
def MeS1 (P:Program) (w:World) (K:PySem.W.Frag) (mg:Str→Option Value) (base:Heap) (k:Nat) (C:Addr) (m:Str) (ps:List Str) (sp:Sp):Prop:=Cls K C∧∃ f fd,FnOk P w K mg base (CX1 P w) k f fd ps sp∧ZaZ K fd ps []∧Meth K C m f
section
variable {X:Cx} {k k':Nat} {m:Str} {ps:List Str} {sp:Sp} {e o:Expr} {es:List Expr} {ta:TE} {t:TA} {pos apos:Pos}
end
end L2
set_option maxRecDepth 100000
set_option maxHeartbeats 4000000
namespace L2
open PySem PySem.Spec PyProof.Rows
section
variable {X:Cx}
end
section
variable {X:Cx} {x x':Str} {ns:List Str} {ix:List Nat} {sc scope:Scope} {N:List Str} {elt iter:Expr} {px px' tp pos:Pos} {tk:Nat} {ifs:List Expr} {tc:TT} {te:TE} {wi:TI}
theorem ZIO {y:Str} {py spos:Pos} (i:Nat) (hNd:X.N.Nodup) (hsc:X.env.scope=sc) (hN:X.N=N) (C:Zr2 sc N x x' ns ix scope) (hc:X.calm=true) (hi:PI X (.Tuple [.Name x px,.Name x' px'] tk tp) iter wi) (ht:∀ cl s H ex,PTs (Zc6 X x x' ns scope cl s H ex) ifs tc) (he:∀ cl s H ex,PE (Zc6 X x x' ns scope cl s H ex) elt te)
  (hs:∀ v,foldedSetIterable iter X.env v=pure v:=by intro _; rfl) (hy:X.N[i]?=some y:=by rfl) (hl:X.env.scope.names.lookup y=some .local:=by rfl)
  (hsw:swapsWith (.ListComp elt [⟨.Tuple [.Name x px,.Name x' px'] tk tp,iter,ifs,0⟩] scope pos) (some (.Name y py)) spos.line X.env=pure true:=by rfl) :
  PS X (.Assign [.Name y py] (.ListComp elt [⟨.Tuple [.Name x px,.Name x' px'] tk tp,iter,ifs,0⟩] scope pos) spos) (tAsg (ZHM wi ix tc te) (Zv0 i)):=by
 intro pins s σ H D I h
 obtain ⟨cl,hclos,hcl,hcla⟩ :=ZnK (env:=X.env) scope fun y hy hf=>I.ok.has y.1 (by
  have:=(C.2.1 y hy).2.2 hf
  rw [← hsc] at this
  exact this)
 rw [exec_Assign_Name_used _ _ _ _ hsw]
 refine wpAny_bind (wpAny_standAt (wpAny_bind ?_))
 show wpAny _ X.A (do let _ ← comprehension (.ListComp elt [⟨.Tuple [.Name x px,.Name x' px'] tk tp,iter,ifs,0⟩] scope pos) scope X.env _ (newList []) false (eval iter X.env) (some (assign (.Name y py) X.env))) _ _ s
 refine wpAny_bind (wpAny_mono (wpAny_comprehension_free (use:=some (assign (.Name y py) X.env)) (Q:=fun _ s'=>SP X pins D .next s') rfl hs hclos C.1 (fun y hy=>(C.2.1 y hy).2.1)
  (thn (hi pins s σ H _ I h) fun v s1 h1=>thn h1 fun itv s2 h2=>?_)) (fun _ s' hq=>wpAny_pure (wpAny_pure hq)) fun _ _ e=>e)
 obtain ⟨it,fp,tn,J,H2,rfl,I2,T,st2,f2,hg⟩ :=h2
 refine ZA6 (RR:=fun ja C=>compPost (model X.prog X.w) X.A X.xe (some (assign (.Name y py) X.env)) (fun _ s'=>SP X pins D .next s') ja C) hsc hN C hc ht he I2 hcl hcla T st2 f2 hg ?_
 intro D' C' m s' H' I' hn' fC q
 obtain ⟨g0,g1,g2,g3,g4,g5⟩ :=fC
 refine wpAny_assign_Name (Zw6 I' hNd hy (.inl hl) (v:=.ref D') rfl (fun s'' I'' hs''=>?_) (.inr hl))
 obtain ⟨a,sb,ha⟩ :=hs''
 have hne:C' ≠ a:=by
  rcases ha with ha | ha
  ·rw [ha]; exact g1
  ·intro z; exact g4 y a ha z.symm
 exact ⟨m,hn'.sameBut sb hne,fun h' hs'=>⟨_,H',I''.turned (t':=s''.toks) (fun b o hb e=>hs'.extBut b o hb e) g0 g1 g3 g4 g5,q⟩⟩
end
section
variable {ix:List Nat} {tc:TT} {te:TE} {σ:St} {H:Hp} {Q:VK} {K:PySem.W.Frag}
def ZLf (K:PySem.W.Frag) (x:V) (ix:List Nat) (tc:TT) (te:TE) (σ:St) (Q:VK) (H1:Hp):Prop:=
 (∃ a xs,x=.ref a∧SqL K H1 a xs∧ZxU (Itl K a) ix tc te σ Q H1)∨(∃ a xs,x=.ref a∧SqT K H1 a xs∧ZxU (Itt K a) ix tc te σ Q H1)∨(∃ z,x=.str z∧ZxU (Its z) ix tc te σ Q H1)
theorem ZEe {tl:TE} (h:tl σ H fun x H1=>ZLf K x ix tc te σ Q H1):ZHM (iSeq K tl) ix tc te σ H Q:=h
theorem ZDX {J:It} {xs:List V} (Pv:Nat→List V→Hp→Prop) (hw:Wk J xs H) (hz:xs.length≤1000000) (hp:∀ (i:Nat) (x:V),xs[i]?=some x→∃ T va vb,x=.ref T∧H T=some (.tup [va,vb])) (h0:∀ H',Same H H'→Pv 0 [] H')
  (hm:∀ i ys H1 H2,Ext H1 H2→Pv i ys H1→Pv i ys H2)
  (hs:∀ (i:Nat) (T:Addr) (va vb:V) (ys:List V) (acc:Addr) (H':Hp),xs[i]?=some (.ref T)→H T=some (.tup [va,vb])→Same H H'→H acc=none→H' acc=some (.lst ys)→Pv i ys H'→ys.length≤i→
   ∀ R:Bool→Hp→Prop,(∀ b H2,Same H' H2→(b=false→Pv (i + 1) ys H2)→(b=true→∀ R2:V→Hp→Prop,(∀ y H3,Same H2 H3→Pv (i + 1) (ys ++ [y]) H3→R2 y H3)→te (some va :: some vb :: subS σ ix) H2 R2)→R b H2)→tc (some va :: some vb :: subS σ ix) H' R)
  (hd:∀ (acc:Addr) (ys:List V) (H':Hp),H acc=none→Same H H'→H' acc=some (.lst ys)→Pv xs.length ys H'→Q (.ref acc) H'):ZxU J ix tc te σ Q H:=by
 intro acc hacc
 have sU:∀ {H2:Hp} (o:HO),Same H H2→Same H (upd H2 acc o):=fun o s b u e=>by rw [ZaS (Zaf e hacc)]; exact s b u e
 refine ⟨fun i m ys H'=>m=xs.length - i∧i≤xs.length∧Same H H'∧H' acc=some (.lst ys)∧Pv i ys H'∧ys.length≤i,⟨xs.length,by simp,Nat.zero_le _,ZdU hacc _,Zaz,h0 _ (ZdU hacc _),Nat.le_refl _⟩,?_⟩
 rintro i m ys H' ⟨rfl,hi,sm,ea,pv,hy⟩
 by_cases hlt:i < xs.length
 ·obtain ⟨go,yl⟩ :=(hw H' sm).1 i hlt
  refine .inr ⟨go,fun x H2 y=>?_⟩
  obtain ⟨rfl,hx⟩ :=yl x H2 y
  obtain ⟨T,va,vb,rfl,eT⟩ :=hp i x hx
  refine ⟨T,va,vb,rfl,sm _ _ eT,?_⟩
  refine hs i T va vb ys acc _ hx eT sm hacc ea pv hy _ fun b H3 s3 pf pt=>?_
  cases b with
  | false=>
   rw [if_neg Bool.false_ne_true]
   exact ⟨xs.length - (i + 1),by omega,rfl,hlt,sm.trans s3,s3 _ _ ea,pf rfl,Nat.le_succ_of_le hy⟩
  | true=>
   rw [if_pos rfl]
   refine pt rfl _ fun y H4 s4 py=>?_
   have ea4:=s4 _ _ (s3 _ _ ea)
   refine ⟨ea4,ZET (by omega),xs.length - (i + 1),by omega,rfl,hlt,sU _ (sm.trans (s3.trans s4)),Zaz,hm _ _ _ _ (Ext.lst ea4 _) py,?_⟩
   rw [List.length_append,List.length_singleton]
   omega
 ·have e:i=xs.length:=by omega
  subst e
  exact .inl ⟨(hw H' sm).2,hd acc ys H' hacc sm ea pv⟩
theorem ZDZ {J:It} {xs:List V} (Pv:Nat→List V→Addr→Hp→Prop) (hw:∀ H',Wk J xs H') (hz:xs.length≤1000000) (h0:∀ acc,H acc=none→Pv 0 [] acc (upd H acc (.lst [])))
  (hs:∀ (i:Nat) (x:V) (ys:List V) (acc:Addr) (H':Hp),xs[i]?=some x→H acc=none→Pv i ys acc H'→ys.length≤i→
   ∀ R:Bool→Hp→Prop,(∀ b H2,(b=false→Pv (i + 1) ys acc H2)→(b=true→∀ R2:V→Hp→Prop,(∀ y H3,H3 acc=some (.lst ys)→(∀ H4,But acc H3 H4→H4 acc=some (.lst (ys ++ [y]))→Pv (i + 1) (ys ++ [y]) acc H4)→R2 y H3)→te (some x :: subS σ ix) H2 R2)→R b H2)→tc (some x :: subS σ ix) H' R)
  (hd:∀ (acc:Addr) (ys:List V) (H':Hp),H acc=none→Pv xs.length ys acc H'→Q (.ref acc) H'):ZAI J ix tc te σ Q H:=by
 intro acc hacc
 refine ⟨fun i m ys H'=>m=xs.length - i∧i≤xs.length∧Pv i ys acc H'∧ys.length≤i,⟨xs.length,by simp,Nat.zero_le _,h0 acc hacc,Nat.le_refl _⟩,?_⟩
 rintro i m ys H' ⟨rfl,hi,pv,hy⟩
 by_cases hlt:i < xs.length
 ·obtain ⟨go,yl⟩ :=(hw H' H' (Same.refl _)).1 i hlt
  refine .inr ⟨go,fun x H2 y=>?_⟩
  obtain ⟨rfl,hx⟩ :=yl x H2 y
  refine hs i x ys acc _ hx hacc pv hy _ fun b H3 pf pt=>?_
  cases b with
  | false=>
   rw [if_neg Bool.false_ne_true]
   exact ⟨xs.length - (i + 1),by omega,rfl,hlt,pf rfl,Nat.le_succ_of_le hy⟩
  | true=>
   rw [if_pos rfl]
   refine pt rfl _ fun y H4 ea4 py=>⟨ea4,ZET (by omega),xs.length - (i + 1),by omega,rfl,hlt,py _ Zpd Zaz,?_⟩
   rw [List.length_append,List.length_singleton]
   omega
 ·have e:i=xs.length:=by omega
  subst e
  exact .inl ⟨(hw H' H' (Same.refl _)).2,hd acc ys H' hacc pv⟩
end
section
variable {X:Cx} {k k':Nat} {m:Str} {ps:List Str} {sp:Sp} {e o:Expr} {es:List Expr} {ta:TE} {t:TA} {pos apos:Pos} {E:XK}
def tDyP (D:Addr→Prop) (m:Str) (sp:Sp) (E:XK) (ta:TE) (t:TA):TE:=fun σ H Q=>ta σ H fun x H1=>∃ a C dx fs,x=.ref a∧H1 a=some (.ins C dx fs)∧D C∧fs.lookup m=none∧
 t σ H1 fun vs H2=>H2 a=some (.ins C dx fs)∧sp (x :: vs) H2 Q E
theorem ZMs {pl:Sem Bool} {D:Addr→Prop} (hp:Zoi (CX1 X.prog X.w) X E) (hD:∀ C,D C→MeS1 X.prog X.w X.K X.mg X.base k C m ps (spAt sp C)) (hr:Room k' X.A) (ho:PE X o ta) (ha:PA X (e :: es) t) (hk:k≤k':=by omega)
  (hst:starEach (e :: es) X.env=(false,eval e X.env) :: starEach es X.env:=by rfl) (hpl:(backTo pos (starEach es X.env)).any (·.1)=false:=by rfl)
  (ht:eval (.Call (.Attribute o m apos) (e :: es) [] pos) X.env=(do
   let ov ← eval o X.env
   standAt apos.atName
   let (f,first) ← holding [ov] (getMethod ov m pl)
   callWith pos f first (backTo pos (starEach (e :: es) X.env)) (backToKw pos (keywordEach [] X.env))):=by rfl) :
  PE X (.Call (.Attribute o m apos) (e :: es) [] pos) (tDyP D m sp E ta t):=by
 intro pins s σ H Q I h
 refine PySem.W.methodCall_KW (pl:=pl) (thn (ho pins s σ H _ I h) fun u s1 ⟨x,H1,I1,rx,a,C,dx,fs,ex,ea,hC,l,q⟩ =>?_) ht
 subst ex
 obtain rfl:u=Value.ref a:=rx
 obtain ⟨c,f,fd,F,hb,hm⟩ :=hD C hC
 refine Zsi I1 ea c hm l ?_
 refine PySem.W.callWith_K (first:=[.ref a]) (h₀:=X.base) I.ok.mod.kin hm.kp (thn (ha pos pins s1 σ H1 _ I1 q) fun us s2 ⟨vs,H2,I2,r,eb,q2⟩ =>⟨I2.kIn,?_⟩) hst hpl
 exact ZEO (us:=.ref a :: us) (vs:=.ref a :: vs) (dvs:=[]) (E:=E) F (hr.mono hk) hb .nil hp I2 (.cons rfl r) (by rw [List.append_nil]; exact ⟨q2,a,dx,fs,vs,rfl,eb⟩)
theorem ZLF {D:Addr→Prop} {σ:St} {H:Hp} {Q:VK} (h:ta σ H fun x H1=>∃ a C dx fs,x=.ref a∧H1 a=some (.ins C dx fs)∧D C∧fs.lookup m=none∧
 t σ H1 fun vs H2=>H2 a=some (.ins C dx fs)∧sp (x :: vs) H2 Q E):tDyP D m sp E ta t σ H Q:=h
end
section
variable {X:Cx} {a:Expr} {ta:TE} {pos:Pos}
end
end L2
set_option maxRecDepth 100000
set_option maxHeartbeats 4000000
namespace L2
open PySem PySem.Spec PyProof.Rows
section
variable {X:Cx}
end
section
variable {X:Cx} {e:Expr} {td:TE} {st:Stmt} {t:TS}
end
theorem ZMo {X:Cx} {a b c d:Str} {i j k l:Nat} {p q r o:Pos} {es:List Expr} {t:TA} (h:PA X es t):PA X (.Constant (.str a) i p :: .Constant (.str b) j q :: .Constant (.str c) k r :: .Constant (.str d) l o :: es) (ZxM (tC (.str a)) (ZxM (tC (.str b)) (ZxM (tC (.str c)) (ZxM (tC (.str d)) t)))):=
 Zaa Zau (Zaa Zau (Zaa Zau (Zaa Zau h)))
end L2
set_option maxRecDepth 100000
set_option maxHeartbeats 4000000
namespace PySem
open Sem (wp)
section
variable {prog:Program} {w:World} {A:Around} {E:Value→Shared→Prop} {s:Shared}
open PySem.W in
end
section
variable {prog:Program} {w:World} {K:Type} [DecidableEq K] {knd:HeapKind prog w K} {A:Around} {E:Value→Shared→Prop} {s:Shared}
end
end PySem
namespace L2
open PySem PySem.Spec PyProof.Rows
section
variable {X:Cx}
end
section
variable {σ:St} {H:Hp} {Q:VK} {D:Ends} {g:TG} {tb:TS} {ix:List Nat} {tc:TT} {te:TE}
theorem ZLC {td ty:TE} (h:td σ H fun x H1=>ty σ H1 fun y H2=>∃ a v,x=.ref a∧DGet H2 a y (some v)∧Q v H2):ZMX td ty σ H Q:=h
end
end L2
set_option maxRecDepth 100000
set_option maxHeartbeats 4000000
namespace L2
open PySem PySem.Spec PyProof.Rows
section
variable {X:Cx} {k k':Nat} {x:Str} {ps:List Str} {sp:Sp} {e:Expr} {es:List Expr} {t:TA} {pos p:Pos} {E:XK}
def tFnP (sp:Sp) (E:XK) (t:TA):TE:=fun σ H Q=>t σ H fun vs H1=>sp vs H1 Q E
theorem ZMt (hp:Zoi (CX1 X.prog X.w) X E) (G:FnS1 X.prog X.w X.K X.mg X.base k x ps sp) (hr:Room k' X.A) (ha:PA X (e :: es) t) (hk:k≤k':=by omega) (hg:Gl X x:=by rfl) (hdb:(x == ("__debug__" : Str))=false:=by decide)
  (he:starEach (e :: es) X.env=(false,eval e X.env) :: starEach es X.env:=by rfl) (hpl:(backTo pos (starEach es X.env)).any (·.1)=false:=by rfl):PE X (.Call (.Name x p) (e :: es) [] pos) (tFnP sp E t):=by
 obtain ⟨f,fd,F,hb,kp,hm⟩ :=G
 have z:=ZDy (p:=p) (pos:=pos) F (hr.mono hk) hg hm kp hb .nil hp ha hdb he hpl
 intro pins s σ H Q I h
 refine z pins s σ H Q I ?_
 show t σ H fun vs H1=>sp (vs ++ []) H1 Q E
 simp only [List.append_nil]
 exact h
theorem ZNj {σ:St} {H:Hp} {Q:VK} (h:t σ H fun vs H1=>sp vs H1 Q E):tFnP sp E t σ H Q:=h
end
def isTx (z:Str):Value→Bool
 | .str a _=>a == z
 | _=>false
section
variable {X:Cx}
def ZHs:V→List V→Hp→VK→Prop:=fun x vs H Q=>∃ (l:Addr) (ns:List Str) (z:Str) (j:Nat),x=.ref l∧vs=[.str z]∧H l=some (.lst (ns.map V.str))∧ns[j]?=some z∧(∀ m,m < j→ns[m]? ≠ some z)∧j < 1000000∧Q (.int (j:Int)) H
theorem Zrh:MtM X "list.index" ZHs:=by
 intro pins s σ H x vs v us Q I rx rv h
 obtain ⟨l,ns,z,j,rfl,rfl,hH,hj,hno,hz,q⟩ :=h
 cases rx
 obtain ⟨u,rfl,ru⟩ :=rv.one
 obtain ⟨tu,rfl⟩ :=(show ∃ t,u=Value.str z t from ru)
 obtain ⟨_,its,n,r,hl,e⟩ :=I.lstM hH
 have at':∀ m (hm:m < its.toArray.size),∃ a t,ns[m]?=some a∧its.toArray[m]=Value.str a t:=fun m hm=>by
  rw [List.size_toArray] at hm
  have hn:m < ns.length:=by
   have:=r.length
   rw [List.length_map] at this
   omega
  obtain ⟨w',hw,rw'⟩ :=r.get (i:=m) (x:=V.str ns[m]) (by rw [List.getElem?_map,List.getElem?_eq_getElem hn]; rfl)
  obtain ⟨t,ht⟩ :=(show ∃ t,w'=Value.str ns[m] t from rw')
  refine ⟨ns[m],t,List.getElem?_eq_getElem hn,?_⟩
  rw [List.getElem?_eq_getElem hm] at hw
  rw [List.getElem_toArray,Option.some.inj hw,ht]
 have hjl:j < its.toArray.size:=by
  have h1:=(List.getElem?_eq_some_iff.mp hj).1
  have:=r.length
  rw [List.length_map] at this
  rw [List.size_toArray]
  omega
 refine call_meets F.slot_list_index ⟨_,e,rfl⟩ F.entry_list_index (F.args_list_index_2 _ _) (MeetsSeq.list_index l its.toArray n (.str z tu) (isTx z) (fun y hy=>?_) j hjl (by omega) ?_ (fun m hm hlt=>?_)) ⟨e,⟨.int (j:Int),H,I.tok _,⟨_,rfl⟩,q⟩⟩
 ·obtain ⟨m,hm,rfl⟩ :=Array.mem_iff_getElem.mp hy
  obtain ⟨a,t,_,e2⟩ :=at' m hm
  rw [e2]
  exact eqGives_str a z t tu
 ·obtain ⟨a,t,h1,e2⟩ :=at' j hjl
  rw [e2]
  rw [hj] at h1
  cases h1
  show (z == z)=true
  exact beq_self_eq_true z
 ·obtain ⟨a,t,h1,e2⟩ :=at' m hm
  rw [e2]
  show (a == z)=false
  have ne:a ≠ z:=fun y=>hno m hlt (by rw [h1,y])
  exact beq_false_of_ne ne
end
section
variable {H:Hp} {Q:VK}
theorem Zv6 {l:Addr} {ns:List Str} {z:Str} {j:Nat} (h:H l=some (.lst (ns.map V.str))) (hj:ns[j]?=some z) (hno:∀ m,m < j→ns[m]? ≠ some z) (hz:j < 1000000) (q:Q (.int (j:Int)) H):ZHs (.ref l) [.str z] H Q:=⟨l,ns,z,j,rfl,rfl,h,hj,hno,hz,q⟩
end
end L2
open PySem L2
local macro_rules | `(tactic| walk_at "side") => `(tactic| first | omega | (show (_ : Int) < _; omega) | exact ⟨by omega, by omega⟩ | exact ⟨by omega, by omega, by decide⟩)
local macro_rules | `(tactic| walk_at "rd1") => `(tactic| first
 | (with_reducible first | refine ZBk ?_ | refine ZLA ?_ | refine i_op ?_ | refine i_c ?_ | refine ZJo ?_ | refine ZLP ?_ | refine ZLK ?_ | refine ZLV ?_ | refine i_fn ?_ | refine i_cb ?_ | refine ZJG ?_ | refine ZLG ?_ | refine ZLH ?_ | refine ZJH ?_ | refine i_dy ?_ | refine i_mk ?_ | refine ZLI ?_ | refine ZJF ?_ | refine ZJp ?_ | refine ZJC ?_ | refine i_retN ?_ | refine i_brk ?_ | refine i_cont ?_ | refine i_un ?_ | refine ZLz ?_ | refine i_or ?_ | refine ZLS ?_ | refine i_andV ?_ | refine i_orV ?_ | refine i_notG ?_ | refine i_if ?_ | refine ZLW ?_ | refine ZLN ?_ | refine i_bm ?_ | refine ZLB ?_ | refine i_sl ?_ | refine ZJE ?_ | refine ZEh ?_ | refine ZGp ?_ | refine i_forR2 ?_ | refine i_forR3 ?_ | refine i_compR3 ?_ | refine i_listrev ?_ | refine i_sortset ?_ | refine ZJu ?_ | refine ZJt ?_ | refine i_forEX ?_ | refine ZEf ?_ | refine i_forD ?_ | refine i_compD ?_ | refine ZEe ?_ | refine i_frzE ?_ | refine i_thawF ?_ | refine i_forK ?_ | refine i_compK ?_ | refine i_dpopT ?_ | refine ZLC ?_ | refine i_thawR ?_ | refine i_fmtI ?_ | refine ZLF ?_ | refine ZNj ?_ | refine i_repE ?_ | refine i_listrng ?_ | refine i_frz ?_ | refine i_addF ?_ | refine ZJv ?_ | refine i_forV ?_ | refine i_bitlen ?_ | refine i_chain ?_ | refine i_truI ?_ | refine ZEd ?_ | refine i_compR2 ?_ | refine ZGo ?_ | refine ZJD ?_ | refine ZLT ?_ | refine ZJn ?_ | refine i_rU ?_ | refine ZJq ?_ | refine ZJr ?_ | refine i_eqAB ?_ | refine ZJA ?_ | refine ZJB ?_ | refine i_neAB ?_ | refine i_fs ?_ | refine i_gsub ?_ | refine i_jc ?_ | refine ZLJ ?_ | refine ZJs ?_ | refine ZKn ?_ | refine ZKo ?_ | refine i_eqB ?_ | refine ZKr ?_ | refine ZKs ?_ | refine i_neB ?_ | refine i_intI ?_ | refine ZJw ?_ | refine ZLO ?_ | refine i_min ?_)
 | ((with_reducible refine ZJz ?_); (try dsimp only [List.set_cons_succ,List.set_cons_zero]))
 | ((with_reducible refine' ZLX ?hv ?_); (case hv=>exact rfl))
 | ((with_reducible refine i_rI ?hc ?_); (case hc=>walk_at "side"))
 | ((with_reducible refine' ZGq ?hc ?_); (case hc=>assumption))
 | ((with_reducible refine' ZJy ?hc ?_); (case hc=>assumption))
 | ((with_reducible refine' i_lenT ?hc ?_); (case hc=>assumption))
 | ((with_reducible refine' ZJx ?ht ?he ?_); (case ht=>first | exact TyOf.bl _ | exact TyOf.int _ | exact TyOf.str _ | exact TyOf.non | exact TyOf.lst (by assumption) | exact TyOf.tup (by assumption)); (case he=>first | exact ZEq _ _ | exact kit_int_bool _ | exact kit_bool_int _ | exact kit_str_bool _ | exact kit_str_int _ | exact kit_list_int _ | exact kit_list_bool _ | exact kit_none_int _ | exact kit_none_list _ | exact kit_none_str _ | exact kit_none_tuple _ | exact kit_list_tuple _ | exact kit_tuple_list _ | exact kit_str_list _ | exact kit_int_str _ | exact kit_int_list _ | exact kit_bool_str _ | exact kit_bool_list _ | exact kit_int_tuple _ | exact kit_str_tuple _ | exact kit_bool_tuple _ | exact kit_tuple_int _ | exact kit_tuple_bool _ | exact kit_tuple_str _ | exact kit_list_str _ | exact kit_none_bool _)))
local macro_rules | `(tactic| walk_at "rs1") => `(tactic| first
 | (with_reducible first | refine ZLA ?_ | refine i_op ?_ | refine i_c ?_ | refine ZJo ?_ | refine ZLP ?_ | refine ZLK ?_ | refine ZLV ?_ | refine i_fn ?_ | refine i_cb ?_ | refine ZJG ?_ | refine ZLG ?_ | refine ZLH ?_ | refine ZJH ?_ | refine i_dy ?_ | refine i_mk ?_ | refine ZLI ?_ | refine ZJF ?_ | refine ZJp ?_ | refine ZJC ?_ | refine i_retN ?_ | refine i_brk ?_ | refine i_cont ?_ | refine i_un ?_ | refine ZLz ?_ | refine i_or ?_ | refine ZLS ?_ | refine i_andV ?_ | refine i_orV ?_ | refine i_notG ?_ | refine i_if ?_ | refine ZLW ?_ | refine ZLN ?_ | refine i_bm ?_ | refine ZLB ?_ | refine i_sl ?_ | refine ZJE ?_ | refine ZEh ?_ | refine ZGp ?_ | refine i_forR2 ?_ | refine i_forR3 ?_ | refine i_compR3 ?_ | refine i_listrev ?_ | refine i_sortset ?_ | refine ZJu ?_ | refine ZJt ?_ | refine i_forEX ?_ | refine ZEf ?_ | refine i_forD ?_ | refine i_compD ?_ | refine ZEe ?_ | refine i_frzE ?_ | refine i_thawR ?_ | refine i_fmtI ?_ | refine ZLF ?_ | refine i_listrng ?_ | refine i_frz ?_ | refine i_addF ?_ | refine ZJv ?_ | refine i_forV ?_ | refine i_bitlen ?_ | refine i_chain ?_ | refine i_truI ?_ | refine ZEd ?_ | refine i_compR2 ?_ | refine ZGo ?_ | refine ZJD ?_ | refine ZLT ?_ | refine ZJn ?_ | refine i_rU ?_ | refine ZJq ?_ | refine ZJr ?_ | refine i_eqAB ?_ | refine ZJA ?_ | refine ZJB ?_ | refine i_neAB ?_ | refine i_fs ?_ | refine i_gsub ?_ | refine i_jc ?_ | refine ZLJ ?_ | refine ZJs ?_ | refine ZKn ?_ | refine ZKo ?_ | refine i_eqB ?_ | refine ZKr ?_ | refine ZKs ?_ | refine i_neB ?_ | refine i_intI ?_ | refine ZJw ?_ | refine ZLO ?_ | refine i_min ?_)
 | ((with_reducible refine ZJz ?_); (try dsimp only [List.set_cons_succ,List.set_cons_zero]))
 | ((with_reducible refine' ZLX ?hv ?_); (case hv=>exact rfl))
 | ((with_reducible refine i_rI ?hc ?_); (case hc=>walk_at "side"))
 | ((with_reducible refine' ZGq ?hc ?_); (case hc=>assumption))
 | ((with_reducible refine' ZJy ?hc ?_); (case hc=>assumption))
 | ((with_reducible refine' i_lenT ?hc ?_); (case hc=>assumption))
 | ((with_reducible refine' ZJx ?ht ?he ?_); (case ht=>first | exact TyOf.bl _ | exact TyOf.int _ | exact TyOf.str _ | exact TyOf.non | exact TyOf.lst (by assumption) | exact TyOf.tup (by assumption)); (case he=>first | exact ZEq _ _ | exact kit_int_bool _ | exact kit_bool_int _ | exact kit_str_bool _ | exact kit_str_int _ | exact kit_list_int _ | exact kit_list_bool _ | exact kit_none_int _ | exact kit_none_list _ | exact kit_none_str _ | exact kit_none_tuple _ | exact kit_list_tuple _ | exact kit_tuple_list _ | exact kit_str_list _ | exact kit_int_str _ | exact kit_int_list _ | exact kit_bool_str _ | exact kit_bool_list _ | exact kit_int_tuple _ | exact kit_str_tuple _ | exact kit_bool_tuple _ | exact kit_tuple_int _ | exact kit_tuple_bool _ | exact kit_tuple_str _ | exact kit_list_str _ | exact kit_none_bool _)))
local macro_rules | `(tactic| walk_at "rs") => `(tactic| repeat walk_at "rs1")
local macro_rules | `(tactic| walk_at "hp") => `(tactic| first | assumption | solve_by_elim (maxDepth := 16) only [*, Zaf])
local macro_rules | `(tactic| walk_at "rd0") => `(tactic| ((try dsimp only [cxOf]); (try simp only [L2.start, List.map_cons, List.map_nil, List.length_cons, List.length_nil, Nat.reduceAdd, Nat.reduceSub, List.replicate_zero, List.append_nil, List.cons_append, List.nil_append, List.replicate_succ]); (repeat walk_at "rd1")))
local macro_rules | `(tactic| walk_at "rs0") => `(tactic| ((try dsimp only [cxOf]); (try simp only [L2.start, List.map_cons, List.map_nil, List.length_cons, List.length_nil, Nat.reduceAdd, Nat.reduceSub, List.replicate_zero, List.append_nil, List.cons_append, List.nil_append, List.replicate_succ]); (repeat walk_at "rs1")))
local macro_rules | `(tactic| walk_at "rd") => `(tactic| repeat walk_at "rd1")
local macro_rules | `(tactic| walk_at "tst") => `(tactic| repeat first | walk_at "rd1" | refine Zgm (decide_eq_true (by omega)) ?_ | refine Zbm (decide_eq_false (by omega)) ?_ | refine Zbm rfl ?_ | refine Zgm rfl ?_ | refine ⟨_, rfl, ?_⟩)
set_option maxRecDepth 100000
set_option maxHeartbeats 4000000
open PySem L2
namespace LW
open PySem L2 EM
def top (i:Nat):Stmt:=PySem.Challenge.pw_evernever_k18_lines_written.main.body.getD i (.Pass ⟨0,0,0,0⟩)
abbrev Zco:Stmt:=top 10
abbrev ZjB:Stmt:=top 23
abbrev Zgk:Stmt:=top 26
abbrev Zcp:Stmt:=top 27
abbrev ZjA:Stmt:=top 28
abbrev Zgl:Stmt:=top 29
abbrev ZbT:Stmt:=top 31
abbrev Zbh:Stmt:=top 37
abbrev Zeu:Stmt:=top 38
abbrev Za7:Stmt:=top 39
abbrev ZaN:Stmt:=top 40
abbrev Zcq:Stmt:=top 41
abbrev Zbw:Stmt:=top 42
abbrev ZbS:Stmt:=top 43
abbrev ZbR:Stmt:=top 44
abbrev Zc4:Stmt:=top 45
abbrev Zc3:Stmt:=top 46
abbrev Zet:Stmt:=top 47
abbrev Zc5:Stmt:=top 48
abbrev Za3:Stmt:=top 49
abbrev ZbU:Stmt:=top 50
abbrev Zbg:Stmt:=top 52
abbrev ZbQ:Stmt:=top 53
abbrev ZbO:Stmt:=top 54
abbrev Zcm:Stmt:=top 55
abbrev Zcj:Stmt:=top 56
abbrev Zck:Stmt:=top 57
abbrev Zcn:Stmt:=top 58
abbrev ZbP:Stmt:=top 59
abbrev ZbA:Stmt:=top 60
abbrev Zcl:Stmt:=top 61
abbrev ZpK:Stmt:=top 62
abbrev Zcg:Stmt:=Zbz (top 7) 0
abbrev Zbe:Stmt:=Zbz (top 8) 0
abbrev ZaH:Stmt:=Zbz (top 11) 0
abbrev Zcf:Stmt:=Zbz (top 12) 0
abbrev Zb6:Stmt:=Zbz (top 12) 3
abbrev ZbK:Stmt:=Zbz (top 12) 4
abbrev Zci:Stmt:=Zbz (top 13) 0
abbrev Zb7:Stmt:=Zbz (top 13) 3
abbrev ZbN:Stmt:=Zbz (top 13) 4
abbrev Zc2:Stmt:=Zbz (top 14) 0
abbrev ZcP:Stmt:=Zbz (top 14) 3
abbrev Zch:Stmt:=Zbz (top 14) 4
abbrev Zbt:Stmt:=Zbz (top 15) 0
abbrev Zbu:Stmt:=Zbz (top 15) 1
abbrev Zbd:Stmt:=Zbz (top 15) 2
abbrev Za6:Stmt:=Zbz (top 16) 0
abbrev Zbs:Stmt:=Zbz (top 16) 1
abbrev ZaM:Stmt:=Zbz (top 17) 0
abbrev Za2:Stmt:=Zbz (top 17) 1
abbrev Zbf:Stmt:=Zbz (top 18) 0
abbrev ZbM:Stmt:=Zbz (top 18) 1
abbrev ZbL:Stmt:=Zbz (top 30) 0
abbrev ZaU:Stmt:=Zbz (top 30) 1
abbrev ZaT:Stmt:=Zbz (top 30) 2
abbrev ZaV:Stmt:=Zbz (top 30) 3
abbrev Zbv:Stmt:=Zbz (top 30) 4
theorem ZCg:FnScope ["part","text","bound"] ["part","text","bound"] (Zab Zco):=⟨rfl,rfl,rfl,by decide +kernel,rfl,by decide +kernel,by decide +kernel⟩
theorem Zu2:FnScope ["text","sign","spaced","mark"] ["text"] (Zab ZjB):=⟨rfl,rfl,rfl,by decide +kernel,rfl,by decide +kernel,by decide +kernel⟩
theorem ZHw:FnScope ["parts"] ["parts"] (Zab Zgk):=⟨rfl,rfl,rfl,by decide +kernel,rfl,by decide +kernel,by decide +kernel⟩
theorem ZCh:FnScope ["parts"] ["parts"] (Zab Zcp):=⟨rfl,rfl,rfl,by decide +kernel,rfl,by decide +kernel,by decide +kernel⟩
theorem ZIW:FnScope ["parts"] ["parts"] (Zab ZjA):=⟨rfl,rfl,rfl,by decide +kernel,rfl,by decide +kernel,by decide +kernel⟩
theorem ZHx:FnScope ["word","names"] ["word","names"] (Zab Zgl):=⟨rfl,rfl,rfl,by decide +kernel,rfl,by decide +kernel,by decide +kernel⟩
theorem Zhi:FnScope ["found","names","levels","word","level"] ["found","names"] (Zab ZbT):=⟨rfl,rfl,rfl,by decide +kernel,rfl,by decide +kernel,by decide +kernel⟩
theorem ZfB:FnScope ["move","names","pieces","lamp","formula"] ["move","names"] (Zab Zbh):=⟨rfl,rfl,rfl,by decide +kernel,rfl,by decide +kernel,by decide +kernel⟩
theorem Zhj:FnScope ["machine","names","lines","formula","move"] ["machine"] (Zab Zeu):=⟨rfl,rfl,rfl,by decide +kernel,rfl,by decide +kernel,by decide +kernel⟩
theorem ZlO:FnScope ["line","found"] ["line"] (Zab Za7):=⟨rfl,rfl,rfl,by decide +kernel,rfl,by decide +kernel,by decide +kernel⟩
theorem ZeO:FnScope ["found","pieces","word"] ["found"] (Zab ZaN):=⟨rfl,rfl,rfl,by decide +kernel,rfl,by decide +kernel,by decide +kernel⟩
theorem ZCi:FnScope ["found"] ["found"] (Zab Zcq):=⟨rfl,rfl,rfl,by decide +kernel,rfl,by decide +kernel,by decide +kernel⟩
theorem ZxH:FnScope ["found"] ["found"] (Zab Zbw):=⟨rfl,rfl,rfl,by decide +kernel,rfl,by decide +kernel,by decide +kernel⟩
theorem ZrU:FnScope ["found","piece"] ["found"] (Zab ZbS):=⟨rfl,rfl,rfl,by decide +kernel,rfl,by decide +kernel,by decide +kernel⟩
theorem ZAb:FnScope ["found"] ["found"] (Zab ZbR):=⟨rfl,rfl,rfl,by decide +kernel,rfl,by decide +kernel,by decide +kernel⟩
theorem Zlr:FnScope ["found","names","at","name"] ["found"] (Zab Zc4):=⟨rfl,rfl,rfl,by decide +kernel,rfl,by decide +kernel,by decide +kernel⟩
theorem Zlq:FnScope ["pieces","names","lamps","piece","name"] ["pieces","names"] (Zab Zc3):=⟨rfl,rfl,rfl,by decide +kernel,rfl,by decide +kernel,by decide +kernel⟩
theorem Zf1:FnScope ["found","names","pieces","lamps","guard","changes","lamp","piece"] ["found","names"] (Zab Zet):=⟨rfl,rfl,rfl,by decide +kernel,rfl,by decide +kernel,by decide +kernel⟩
theorem ZDC:FnScope ["found","names"] ["found","names"] (Zab Zc5):=⟨rfl,rfl,rfl,by decide +kernel,rfl,by decide +kernel,by decide +kernel⟩
theorem Zkg:FnScope ["line","found"] ["line"] (Zab Za3):=⟨rfl,rfl,rfl,by decide +kernel,rfl,by decide +kernel,by decide +kernel⟩
theorem ZdV:FnScope ["lines","names","things","sort","line","found"] ["lines"] (Zab ZbU):=⟨rfl,rfl,rfl,by decide +kernel,rfl,by decide +kernel,by decide +kernel⟩
theorem ZwW:FnScope ["_law_script","_law_k"] ["_law_script","_law_k"] (Zab Zbg):=⟨rfl,rfl,rfl,by decide +kernel,rfl,by decide +kernel,by decide +kernel⟩
theorem Zbx:FnScope ["_law_script","_law_many","_law_some","_law_names_here","_law_k","_law_value","_law_name","_law_at"] ["_law_script","_law_many"] (Zab ZbQ):=⟨rfl,rfl,rfl,by decide +kernel,rfl,by decide +kernel,by decide +kernel⟩
theorem ZaX:FnScope ["_law_cell","_law_many","_law_deep","_law_kind","_law_more","_law_rest","_law_parts","_law_k"] ["_law_cell","_law_many","_law_deep"] (Zab ZbO):=⟨rfl,rfl,rfl,by decide +kernel,rfl,by decide +kernel,by decide +kernel⟩
theorem Zns:FnScope ["_law_script","_law_many","_law_number","_law_cells"] ["_law_script","_law_many","_law_number"] (Zab Zcm):=⟨rfl,rfl,rfl,by decide +kernel,rfl,by decide +kernel,by decide +kernel⟩
theorem Znr:FnScope ["_law_tree","_law_parts","_law_part"] ["_law_tree"] (Zab Zcj):=⟨rfl,rfl,rfl,by decide +kernel,rfl,by decide +kernel,by decide +kernel⟩
theorem ZCf:FnScope ["_law_kind"] ["_law_kind"] (Zab Zck):=⟨rfl,rfl,rfl,by decide +kernel,rfl,by decide +kernel,by decide +kernel⟩
theorem ZcI:FnScope ["_law_tree","_law_names_here","_law_kind","_law_line","_law_part","_law_inner"] ["_law_tree","_law_names_here"] (Zab Zcn):=⟨rfl,rfl,rfl,by decide +kernel,rfl,by decide +kernel,by decide +kernel⟩
theorem ZfA:FnScope ["_law_script","_law_many","_law_count","_law_cell","_law_moves_here","_law_k","_law_changes","_law_j"] ["_law_script","_law_many","_law_count","_law_cell"] (Zab ZbP):=⟨rfl,rfl,rfl,by decide +kernel,rfl,by decide +kernel,by decide +kernel⟩
theorem ZcQ:FnScope ["_law_names_here","_law_starts","_law_bads","_law_moves_here","_law_lines_here","_law_tree","_law_guard","_law_changes","_law_pieces"] ["_law_names_here","_law_starts","_law_bads","_law_moves_here"] (Zab ZbA):=⟨rfl,rfl,rfl,by decide +kernel,rfl,by decide +kernel,by decide +kernel⟩
theorem Zuw:FnScope ["_law_found","_law_due","_law_k"] ["_law_found","_law_due"] (Zab Zcl):=⟨rfl,rfl,rfl,by decide +kernel,rfl,by decide +kernel,by decide +kernel⟩
theorem Zih:FnScope ["_law_script","_law_first","_law_many","_law_names_here","_law_starts","_law_bads","_law_moves_here","_law_due","_law_made_here","_law_handed","_law_guard","_law_changes","_law_machine","_law_some","_law_found"] ["_law_script"] (Zab ZpK):=⟨rfl,rfl,rfl,by decide +kernel,rfl,by decide +kernel,by decide +kernel⟩
theorem ZCd:FnScope ["self","guard","changes"] ["self","guard","changes"] (Zab Zcg):=⟨rfl,rfl,rfl,by decide +kernel,rfl,by decide +kernel,by decide +kernel⟩
theorem ZwU:FnScope ["self","names","starts","bads","moves"] ["self","names","starts","bads","moves"] (Zab Zbe):=⟨rfl,rfl,rfl,by decide +kernel,rfl,by decide +kernel,by decide +kernel⟩
theorem ZdX:FnScope ["self"] ["self"] (Zab ZaH):=⟨rfl,rfl,rfl,by decide +kernel,rfl,by decide +kernel,by decide +kernel⟩
theorem ZCc:FnScope ["self","at"] ["self","at"] (Zab Zcf):=⟨rfl,rfl,rfl,by decide +kernel,rfl,by decide +kernel,by decide +kernel⟩
theorem Zz7:FnScope ["self","names"] ["self","names"] (Zab ZbK):=⟨rfl,rfl,rfl,by decide +kernel,rfl,by decide +kernel,by decide +kernel⟩
theorem ZCe:FnScope ["self","truth"] ["self","truth"] (Zab Zci):=⟨rfl,rfl,rfl,by decide +kernel,rfl,by decide +kernel,by decide +kernel⟩
theorem ZAa:FnScope ["self","names"] ["self","names"] (Zab ZbN):=⟨rfl,rfl,rfl,by decide +kernel,rfl,by decide +kernel,by decide +kernel⟩
theorem ZDB:FnScope ["self","part"] ["self","part"] (Zab Zc2):=⟨rfl,rfl,rfl,by decide +kernel,rfl,by decide +kernel,by decide +kernel⟩
theorem Zuv:FnScope ["self","names","text"] ["self","names"] (Zab Zch):=⟨rfl,rfl,rfl,by decide +kernel,rfl,by decide +kernel,by decide +kernel⟩
theorem ZxF:FnScope ["self","parts"] ["self","parts"] (Zab Zbt):=⟨rfl,rfl,rfl,by decide +kernel,rfl,by decide +kernel,by decide +kernel⟩
theorem Zig:FnScope ["self","names","texts","part"] ["self","names"] (Zab Zbd):=⟨rfl,rfl,rfl,by decide +kernel,rfl,by decide +kernel,by decide +kernel⟩
theorem ZuG:FnScope ["self"] ["self"] (Zab Za6):=⟨rfl,rfl,rfl,by decide +kernel,rfl,by decide +kernel,by decide +kernel⟩
theorem ZxE:FnScope ["self"] ["self"] (Zab Zbs):=⟨rfl,rfl,rfl,by decide +kernel,rfl,by decide +kernel,by decide +kernel⟩
theorem ZpL:FnScope ["self"] ["self"] (Zab ZaM):=⟨rfl,rfl,rfl,by decide +kernel,rfl,by decide +kernel,by decide +kernel⟩
theorem ZsG:FnScope ["self"] ["self"] (Zab Za2):=⟨rfl,rfl,rfl,by decide +kernel,rfl,by decide +kernel,by decide +kernel⟩
theorem ZwV:FnScope ["self"] ["self"] (Zab Zbf):=⟨rfl,rfl,rfl,by decide +kernel,rfl,by decide +kernel,by decide +kernel⟩
theorem Zz9:FnScope ["self"] ["self"] (Zab ZbM):=⟨rfl,rfl,rfl,by decide +kernel,rfl,by decide +kernel,by decide +kernel⟩
theorem Zz8:FnScope ["self"] ["self"] (Zab ZbL):=⟨rfl,rfl,rfl,by decide +kernel,rfl,by decide +kernel,by decide +kernel⟩
theorem Zfz:FnScope ["self","part","turn"] ["self","part"] (Zab ZaU):=⟨rfl,rfl,rfl,by decide +kernel,rfl,by decide +kernel,by decide +kernel⟩
theorem ZrS:FnScope ["self","word"] ["self","word"] (Zab ZaT):=⟨rfl,rfl,rfl,by decide +kernel,rfl,by decide +kernel,by decide +kernel⟩
theorem ZrT:FnScope ["self","word","names"] ["self","word","names"] (Zab ZaV):=⟨rfl,rfl,rfl,by decide +kernel,rfl,by decide +kernel,by decide +kernel⟩
theorem ZxG:FnScope ["self"] ["self"] (Zab Zbv):=⟨rfl,rfl,rfl,by decide +kernel,rfl,by decide +kernel,by decide +kernel⟩
set_option genInjectivity false in
structure Ad where
 ZeK:Addr
 ZvP:FuncData
 Zpr:Addr
 ZF6:FuncData
 ZkS:Addr
 ZD4:FuncData
 ZeL:Addr
 ZvQ:FuncData
 Zpq:Addr
 ZF4:FuncData
 ZkT:Addr
 ZD5:FuncData
 Zdt:Addr
 ZtF:FuncData
 Zca:Addr
 ZoA:FuncData
 ZhE:Addr
 ZBa:FuncData
 ZbW:Addr
 ZmB:FuncData
 Zbi:Addr
 ZiI:FuncData
 ZeM:Addr
 ZvR:FuncData
 ZcM:Addr
 Zqv:FuncData
 Zds:Addr
 ZtE:FuncData
 Zdr:Addr
 ZtD:FuncData
 ZfR:Addr
 Zya:FuncData
 ZfQ:Addr
 Zx9:FuncData
 ZhD:Addr
 ZA9:FuncData
 ZfS:Addr
 Zyb:FuncData
 ZbB:Addr
 ZlC:FuncData
 Zdu:Addr
 ZtG:FuncData
 Zb9:Addr
 Zoz:FuncData
 Zdq:Addr
 ZtC:FuncData
 Zdn:Addr
 Ztz:FuncData
 ZeI:Addr
 ZvN:FuncData
 ZeF:Addr
 ZvK:FuncData
 ZeG:Addr
 ZvL:FuncData
 ZeJ:Addr
 ZvO:FuncData
 Zdp:Addr
 ZtB:FuncData
 Zdo:Addr
 ZtA:FuncData
 ZeH:Addr
 ZvM:FuncData
 f_law:Addr
 d_law:FuncData
 Zdj:Addr
 ZvG:FuncData
 ZbF:Addr
 Zox:FuncData
 Zat:Addr
 Zhy:FuncData
 Zdi:Addr
 ZvF:FuncData
 ZcB:Addr
 Ztt:FuncData
 ZcC:Addr
 Ztu:FuncData
 Zdm:Addr
 ZvJ:FuncData
 ZcF:Addr
 Ztx:FuncData
 ZcG:Addr
 Zty:FuncData
 ZeR:Addr
 Zx8:FuncData
 Zdk:Addr
 ZvH:FuncData
 Zdl:Addr
 ZvI:FuncData
 ZaO:Addr
 ZkN:FuncData
 ZaL:Addr
 Zov:FuncData
 ZaG:Addr
 Zow:FuncData
 Zby:Addr
 ZmA:FuncData
 Zb1:Addr
 Zqt:FuncData
 Za4:Addr
 ZiH:FuncData
 Zbk:Addr
 ZlB:FuncData
 ZbG:Addr
 Zoy:FuncData
 ZcE:Addr
 Ztw:FuncData
 ZcD:Addr
 Ztv:FuncData
 Zba:Addr
 ZjN:FuncData
 Za9:Addr
 ZjM:FuncData
 Zbb:Addr
 ZjO:FuncData
 Zb2:Addr
 Zqu:FuncData
 ZaB:Addr
 Zal:Addr
 Zap:Addr
 Zax:Addr
 Zay:Addr
 C_Not:Addr
 Zaq:Addr
 C_And:Addr
 Zan:Addr
 C_Or:Addr
 Zar:Addr
 Zaw:Addr
 v_JOINS:Addr
 v_NO_NAMES:Addr
 v_SORTS:Addr
set_option genInjectivity false in
structure Txt (K:PySem.W.Frag) (mg:Str→Option Value) (t:Ad):Prop where
 ZoV:Fun K "bracketed" "bracketed" Zco t.ZeK t.ZvP
 Zvv:ZaZ K t.ZvP ["part","text","bound"] []
 Zwr:mg "bracketed" = some (.ref t.ZeK)
 ZCM:Fun K "words" "words" ZjB t.Zpr t.ZF6
 ZFR:ZaZ K t.ZF6 ["text"] []
 ZGR:mg "words" = some (.ref t.Zpr)
 ZyH:Fun K "and_of" "and_of" Zgk t.ZkS t.ZD4
 ZDT:ZaZ K t.ZD4 ["parts"] []
 ZEv:mg "and_of" = some (.ref t.ZkS)
 ZoW:Fun K "either_of" "either_of" Zcp t.ZeL t.ZvQ
 Zvw:ZaZ K t.ZvQ ["parts"] []
 Zws:mg "either_of" = some (.ref t.ZeL)
 ZCL:Fun K "or_of" "or_of" ZjA t.Zpq t.ZF4
 ZFQ:ZaZ K t.ZF4 ["parts"] []
 ZGQ:mg "or_of" = some (.ref t.Zpq)
 ZyI:Fun K "single" "single" Zgl t.ZkT t.ZD5
 ZDU:ZaZ K t.ZD5 ["word","names"] []
 ZEw:mg "single" = some (.ref t.ZkT)
 ZlW:Fun K "formula_in" "formula_in" ZbT t.Zdt t.ZtF
 Zte:ZaZ K t.ZtF ["found","names"] []
 Zud:mg "formula_in" = some (.ref t.Zdt)
 Zjk:Fun K "written_move" "written_move" Zbh t.Zca t.ZoA
 Zoq:ZaZ K t.ZoA ["move","names"] []
 ZoL:mg "written_move" = some (.ref t.Zca)
 Zva:Fun K "written" "written" Zeu t.ZhE t.ZBa
 ZAX:ZaZ K t.ZBa ["machine"] []
 ZBy:mg "written" = some (.ref t.ZhE)
 Zhk:Fun K "words_of_line" "words_of_line" Za7 t.ZbW t.ZmB
 Zmg:ZaZ K t.ZmB ["line"] []
 Zm6:mg "words_of_line" = some (.ref t.ZbW)
 ZeV:Fun K "parted_by_commas" "parted_by_commas" ZaN t.Zbi t.ZiI
 Zip:ZaZ K t.ZiI ["found"] []
 Zjf:mg "parted_by_commas" = some (.ref t.Zbi)
 ZoX:Fun K "pieces_in" "pieces_in" Zcq t.ZeM t.ZvR
 Zvx:ZaZ K t.ZvR ["found"] []
 Zwt:mg "pieces_in" = some (.ref t.ZeM)
 Zkk:Fun K "check_lamps" "check_lamps" Zbw t.ZcM t.Zqv
 Zqb:ZaZ K t.Zqv ["found"] []
 Zrf:mg "check_lamps" = some (.ref t.ZcM)
 ZlV:Fun K "check_move" "check_move" ZbS t.Zds t.ZtE
 Ztd:ZaZ K t.ZtE ["found"] []
 Zuc:mg "check_move" = some (.ref t.Zds)
 ZlU:Fun K "check_form" "check_form" ZbR t.Zdr t.ZtD
 Ztc:ZaZ K t.ZtD ["found"] []
 Zub:mg "check_form" = some (.ref t.Zdr)
 Zr5:Fun K "names_in" "names_in" Zc4 t.ZfR t.Zya
 Zx1:ZaZ K t.Zya ["found"] []
 Zyo:mg "names_in" = some (.ref t.ZfR)
 Zr4:Fun K "lamps_in" "lamps_in" Zc3 t.ZfQ t.Zx9
 Zx0:ZaZ K t.Zx9 ["pieces","names"] []
 Zyn:mg "lamps_in" = some (.ref t.ZfQ)
 Zu9:Fun K "move_in" "move_in" Zet t.ZhD t.ZA9
 ZAW:ZaZ K t.ZA9 ["found","names"] []
 ZBx:mg "move_in" = some (.ref t.ZhD)
 Zr6:Fun K "thing_in" "thing_in" Zc5 t.ZfS t.Zyb
 Zx2:ZaZ K t.Zyb ["found","names"] []
 Zyp:mg "thing_in" = some (.ref t.ZfS)
 ZgS:Fun K "names_of_first" "names_of_first" Za3 t.ZbB t.ZlC
 Zly:ZaZ K t.ZlC ["line"] []
 ZlK:mg "names_of_first" = some (.ref t.ZbB)
 ZlX:Fun K "machine_of" "machine_of" ZbU t.Zdu t.ZtG
 Ztf:ZaZ K t.ZtG ["lines"] []
 Zue:mg "machine_of" = some (.ref t.Zdu)
 Zjj:Fun K "_law_cell_at" "_law_cell_at" Zbg t.Zb9 t.Zoz
 Zop:ZaZ K t.Zoz ["_law_script","_law_k"] []
 ZoK:mg "_law_cell_at" = some (.ref t.Zb9)
 ZlT:Fun K "_law_names" "_law_names" ZbQ t.Zdq t.ZtC
 Ztb:ZaZ K t.ZtC ["_law_script","_law_many"] []
 Zua:mg "_law_names" = some (.ref t.Zdq)
 ZeP:Fun K "_law_grown" "_law_grown" ZbO t.Zdn t.Ztz
 Zio:ZaZ K t.Ztz ["_law_cell","_law_many","_law_deep"] []
 Zje:mg "_law_grown" = some (.ref t.Zdn)
 ZoU:Fun K "_law_slot" "_law_slot" Zcm t.ZeI t.ZvN
 Zvu:ZaZ K t.ZvN ["_law_script","_law_many","_law_number"] []
 Zwq:mg "_law_slot" = some (.ref t.ZeI)
 Zki:Fun K "_law_made" "_law_made" Zcj t.ZeF t.ZvK
 Zpb:ZaZ K t.ZvK ["_law_tree"] []
 ZpC:mg "_law_made" = some (.ref t.ZeF)
 ZoS:Fun K "_law_rank" "_law_rank" Zck t.ZeG t.ZvL
 Zvs:ZaZ K t.ZvL ["_law_kind"] []
 Zwo:mg "_law_rank" = some (.ref t.ZeG)
 Zkj:Fun K "_law_text" "_law_text" Zcn t.ZeJ t.ZvO
 Zpc:ZaZ K t.ZvO ["_law_tree","_law_names_here"] []
 ZpD:mg "_law_text" = some (.ref t.ZeJ)
 ZlS:Fun K "_law_moves" "_law_moves" ZbP t.Zdp t.ZtB
 Zta:ZaZ K t.ZtB ["_law_script","_law_many","_law_count","_law_cell"] []
 Zt9:mg "_law_moves" = some (.ref t.Zdp)
 ZlR:Fun K "_law_lines" "_law_lines" ZbA t.Zdo t.ZtA
 Zs9:ZaZ K t.ZtA ["_law_names_here","_law_starts","_law_bads","_law_moves_here"] []
 Zt8:mg "_law_lines" = some (.ref t.Zdo)
 ZoT:Fun K "_law_same" "_law_same" Zcl t.ZeH t.ZvM
 Zvt:ZaZ K t.ZvM ["_law_found","_law_due"] []
 Zwp:mg "_law_same" = some (.ref t.ZeH)
 F_law:Fun K "law" "law" ZpK t.f_law t.d_law
 b_law:ZaZ K t.d_law ["_law_script"] []
 m_law:mg "law" = some (.ref t.f_law)
 Zu6:Fun K "__init__" "Move.__init__" Zcg t.Zdj t.ZvG
 Zvq:ZaZ K t.ZvG ["self","guard","changes"] []
 Zog:Fun K "__init__" "Machine.__init__" Zbe t.ZbF t.Zox
 Zon:ZaZ K t.Zox ["self","names","starts","bads","moves"] []
 ZcJ:Fun K "looseness" "Formula.looseness" ZaH t.Zat t.Zhy
 ZcK:ZaZ K t.Zhy ["self"] []
 Zu5:Fun K "__init__" "Lamp.__init__" Zcf t.Zdi t.ZvF
 Zvp:ZaZ K t.ZvF ["self","at"] []
 ZAK:Fun K "lamps" "Lamp.lamps" Zb6 t.ZcB t.Ztt
 ZAU:ZaZ K t.Ztt ["self"] []
 ZsQ:Fun K "shown" "Lamp.shown" ZbK t.ZcC t.Ztu
 Zme:ZaZ K t.Ztu ["self","names"] []
 Zu8:Fun K "__init__" "Sure.__init__" Zci t.Zdm t.ZvJ
 Zvr:ZaZ K t.ZvJ ["self","truth"] []
 ZAL:Fun K "lamps" "Sure.lamps" Zb7 t.ZcF t.Ztx
 ZAV:ZaZ K t.Ztx ["self"] []
 ZsT:Fun K "shown" "Sure.shown" ZbN t.ZcG t.Zty
 Zmf:ZaZ K t.Zty ["self","names"] []
 ZxW:Fun K "__init__" "Not.__init__" Zc2 t.ZeR t.Zx8
 ZxZ:ZaZ K t.Zx8 ["self","part"] []
 ZCK:Fun K "lamps" "Not.lamps" ZcP t.Zdk t.ZvH
 ZCT:ZaZ K t.ZvH ["self"] []
 Zu7:Fun K "shown" "Not.shown" Zch t.Zdl t.ZvI
 Zpa:ZaZ K t.ZvI ["self","names"] []
 ZpS:Fun K "__init__" "Joined.__init__" Zbt t.ZaO t.ZkN
 Zg6:ZaZ K t.ZkN ["self","parts"] []
 Zxi:Fun K "lamps" "Joined.lamps" Zbu t.ZaL t.Zov
 Zxl:ZaZ K t.Zov ["self"] []
 Zof:Fun K "shown" "Joined.shown" Zbd t.ZaG t.Zow
 ZdZ:ZaZ K t.Zow ["self","names"] []
 ZlQ:Fun K "looseness" "And.looseness" Za6 t.Zby t.ZmA
 Zmd:ZaZ K t.ZmA ["self"] []
 ZpR:Fun K "between" "And.between" Zbs t.Zb1 t.Zqt
 Zp9:ZaZ K t.Zqt ["self"] []
 Zii:Fun K "looseness" "Either.looseness" ZaM t.Za4 t.ZiH
 Zin:ZaZ K t.ZiH ["self"] []
 Zlu:Fun K "between" "Either.between" Za2 t.Zbk t.ZlB
 Zlx:ZaZ K t.ZlB ["self"] []
 Zoh:Fun K "looseness" "Or.looseness" Zbf t.ZbG t.Zoy
 Zoo:ZaZ K t.Zoy ["self"] []
 ZsS:Fun K "between" "Or.between" ZbM t.ZcE t.Ztw
 Zs8:ZaZ K t.Ztw ["self"] []
 ZsR:Fun K "__init__" "Level.__init__" ZbL t.ZcD t.Ztv
 Zs7:ZaZ K t.Ztv ["self"] []
 ZjD:Fun K "take_part" "Level.take_part" ZaU t.Zba t.ZjN
 ZjI:ZaZ K t.ZjN ["self","part"] []
 ZjC:Fun K "take_join" "Level.take_join" ZaT t.Za9 t.ZjM
 ZjH:ZaZ K t.ZjM ["self","word"] []
 ZjE:Fun K "take_word" "Level.take_word" ZaV t.Zbb t.ZjO
 ZjJ:ZaZ K t.ZjO ["self","word","names"] []
 ZpT:Fun K "whole" "Level.whole" Zbv t.Zb2 t.Zqu
 Zqa:ZaZ K t.Zqu ["self"] []
 ZJQ:mg "Move" = some (.ref t.ZaB)
 ZA3:Cls K t.ZaB
 ZNa:∀ (H:Hp) (a dx:Addr) (fs:List (Str × V)),H a=some (.ins t.ZaB dx fs)→TyOf K H (.ref a) (.ref t.ZaB)
 ZJK:Mk K t.ZaB t.Zdj
 ZdI:Zag K t.ZaB "guard"
 Zce:Zag K t.ZaB "changes"
 ZgF:Zag K t.ZaB "names"
 Zfu:Zag K t.ZaB "starts"
 ZhX:Zag K t.ZaB "bads"
 ZgE:Zag K t.ZaB "moves"
 Zm9:Zag K t.ZaB "at"
 ZgH:Zag K t.ZaB "truth"
 ZhZ:Zag K t.ZaB "part"
 ZgG:Zag K t.ZaB "parts"
 ZhY:Zag K t.ZaB "nots"
 ZhW:Zag K t.ZaB "ands"
 Zel:Zag K t.ZaB "eithers"
 Zj4:Zag K t.ZaB "ors"
 Zem:Zag K t.ZaB "lacking"
 ZBw:mg "Machine" = some (.ref t.Zal)
 ZeY:Cls K t.Zal
 ZH0:∀ (H:Hp) (a dx:Addr) (fs:List (Str × V)),H a=some (.ins t.Zal dx fs)→TyOf K H (.ref a) (.ref t.Zal)
 ZBs:Mk K t.Zal t.ZbF
 ZdF:Zag K t.Zal "guard"
 Zcx:Zag K t.Zal "changes"
 ZbY:Zag K t.Zal "names"
 ZbC:Zag K t.Zal "starts"
 Zcd:Zag K t.Zal "bads"
 ZbX:Zag K t.Zal "moves"
 ZgD:Zag K t.Zal "at"
 ZdH:Zag K t.Zal "truth"
 Zek:Zag K t.Zal "part"
 ZdG:Zag K t.Zal "parts"
 Zej:Zag K t.Zal "nots"
 Zei:Zag K t.Zal "ands"
 Zcy:Zag K t.Zal "eithers"
 Zft:Zag K t.Zal "ors"
 Zcz:Zag K t.Zal "lacking"
 ZGO:mg "Formula" = some (.ref t.Zap)
 ZFT:Cls K t.Zap
 ZHZ:∀ (H:Hp) (a dx:Addr) (fs:List (Str × V)),H a=some (.ins t.Zap dx fs)→TyOf K H (.ref a) (.ref t.Zap)
 Zdx:Zag K t.Zap "guard"
 Zcu:Zag K t.Zap "changes"
 Zdz:Zag K t.Zap "names"
 ZcW:Zag K t.Zap "starts"
 Zd6:Zag K t.Zap "bads"
 Zdy:Zag K t.Zap "moves"
 Zgu:Zag K t.Zap "at"
 ZdB:Zag K t.Zap "truth"
 Zd8:Zag K t.Zap "part"
 ZdA:Zag K t.Zap "parts"
 Zd7:Zag K t.Zap "nots"
 Zd5:Zag K t.Zap "ands"
 Zcv:Zag K t.Zap "eithers"
 Zfi:Zag K t.Zap "ors"
 Zcw:Zag K t.Zap "lacking"
 Zpt:Meth K t.Zap "looseness" t.Zat
 ZJP:mg "Lamp" = some (.ref t.Zax)
 Zx3:Cls K t.Zax
 ZM9:∀ (H:Hp) (a dx:Addr) (fs:List (Str × V)),H a=some (.ins t.Zax dx fs)→TyOf K H (.ref a) (.ref t.Zax)
 ZJJ:Mk K t.Zax t.Zdi
 Zgw:Zag K t.Zax "guard"
 Zee:Zag K t.Zax "changes"
 Zgy:Zag K t.Zax "names"
 Zfn:Zag K t.Zax "starts"
 ZhT:Zag K t.Zax "bads"
 Zgx:Zag K t.Zax "moves"
 ZhS:Zag K t.Zax "at"
 ZgA:Zag K t.Zax "truth"
 ZhV:Zag K t.Zax "part"
 Zgz:Zag K t.Zax "parts"
 ZhU:Zag K t.Zax "nots"
 ZhR:Zag K t.Zax "ands"
 Zef:Zag K t.Zax "eithers"
 Zj2:Zag K t.Zax "ors"
 Zeg:Zag K t.Zax "lacking"
 ZBh:Meth K t.Zax "lamps" t.ZcB
 ZmQ:Meth K t.Zax "shown" t.ZcC
 ZlG:Meth K t.Zax "looseness" t.Zat
 ZJR:mg "Sure" = some (.ref t.Zay)
 Zx4:Cls K t.Zay
 ZNb:∀ (H:Hp) (a dx:Addr) (fs:List (Str × V)),H a=some (.ins t.Zay dx fs)→TyOf K H (.ref a) (.ref t.Zay)
 ZJL:Mk K t.Zay t.Zdm
 ZgM:Zag K t.Zay "guard"
 Zen:Zag K t.Zay "changes"
 ZgO:Zag K t.Zay "names"
 Zfy:Zag K t.Zay "starts"
 Zh7:Zag K t.Zay "bads"
 ZgN:Zag K t.Zay "moves"
 Znf:Zag K t.Zay "at"
 ZdJ:Zag K t.Zay "truth"
 Zh9:Zag K t.Zay "part"
 ZgP:Zag K t.Zay "parts"
 Zh8:Zag K t.Zay "nots"
 Zh6:Zag K t.Zay "ands"
 Zeo:Zag K t.Zay "eithers"
 Zkc:Zag K t.Zay "ors"
 Zep:Zag K t.Zay "lacking"
 ZBi:Meth K t.Zay "lamps" t.ZcF
 ZmS:Meth K t.Zay "shown" t.ZcG
 ZlH:Meth K t.Zay "looseness" t.Zat
 m_Not:mg "Not" = some (.ref t.C_Not)
 c_Not:Cls K t.C_Not
 y_Not:∀ (H:Hp) (a dx:Addr) (fs:List (Str × V)),H a=some (.ins t.C_Not dx fs)→TyOf K H (.ref a) (.ref t.C_Not)
 k_Not:Mk K t.C_Not t.ZeR
 Zh0:Zag K t.C_Not "guard"
 Zfv:Zag K t.C_Not "changes"
 Zh2:Zag K t.C_Not "names"
 ZgI:Zag K t.C_Not "starts"
 Zj6:Zag K t.C_Not "bads"
 Zh1:Zag K t.C_Not "moves"
 Zrj:Zag K t.C_Not "at"
 Zh4:Zag K t.C_Not "truth"
 ZeT:Zag K t.C_Not "part"
 Zh3:Zag K t.C_Not "parts"
 Zj7:Zag K t.C_Not "nots"
 Zj5:Zag K t.C_Not "ands"
 Zfw:Zag K t.C_Not "eithers"
 Zna:Zag K t.C_Not "ors"
 Zfx:Zag K t.C_Not "lacking"
 ZCZ:Meth K t.C_Not "lamps" t.Zdk
 Zpu:Meth K t.C_Not "shown" t.Zdl
 ZmR:Meth K t.C_Not "looseness" t.Zat
 ZIv:mg "Joined" = some (.ref t.Zaq)
 ZH6:Cls K t.Zaq
 ZJd:∀ (H:Hp) (a dx:Addr) (fs:List (Str × V)),H a=some (.ins t.Zaq dx fs)→TyOf K H (.ref a) (.ref t.Zaq)
 ZIl:Mk K t.Zaq t.ZaO
 Zd9:Zag K t.Zaq "guard"
 ZcX:Zag K t.Zaq "changes"
 Zeb:Zag K t.Zaq "names"
 ZdC:Zag K t.Zaq "starts"
 Zfk:Zag K t.Zaq "bads"
 Zea:Zag K t.Zaq "moves"
 ZhQ:Zag K t.Zaq "at"
 Zed:Zag K t.Zaq "truth"
 Zfm:Zag K t.Zaq "part"
 Zec:Zag K t.Zaq "parts"
 Zfl:Zag K t.Zaq "nots"
 Zfj:Zag K t.Zaq "ands"
 ZcY:Zag K t.Zaq "eithers"
 Zgv:Zag K t.Zaq "ors"
 ZcZ:Zag K t.Zaq "lacking"
 Zxn:Meth K t.Zaq "lamps" t.ZaL
 Zxo:Meth K t.Zaq "shown" t.ZaG
 ZqM:Meth K t.Zaq "looseness" t.Zat
 m_And:mg "And" = some (.ref t.C_And)
 c_And:Cls K t.C_And
 y_And:∀ (H:Hp) (a dx:Addr) (fs:List (Str × V)),H a=some (.ins t.C_And dx fs)→TyOf K H (.ref a) (.ref t.C_And)
 k_And:Mk K t.C_And t.ZaO
 ZhL:Zag K t.C_And "guard"
 Zfb:Zag K t.C_And "changes"
 ZhN:Zag K t.C_And "names"
 Zgs:Zag K t.C_And "starts"
 ZjZ:Zag K t.C_And "bads"
 ZhM:Zag K t.C_And "moves"
 Zri:Zag K t.C_And "at"
 ZhO:Zag K t.C_And "truth"
 Zj1:Zag K t.C_And "part"
 ZeN:Zag K t.C_And "parts"
 Zj0:Zag K t.C_And "nots"
 ZjY:Zag K t.C_And "ands"
 Zfc:Zag K t.C_And "eithers"
 Zm8:Zag K t.C_And "ors"
 Zfd:Zag K t.C_And "lacking"
 ZmP:Meth K t.C_And "looseness" t.Zby
 ZqL:Meth K t.C_And "between" t.Zb1
 ZCY:Meth K t.C_And "lamps" t.ZaL
 Zps:Meth K t.C_And "shown" t.ZaG
 ZEu:mg "Either" = some (.ref t.Zan)
 ZnF:Cls K t.Zan
 ZJc:∀ (H:Hp) (a dx:Addr) (fs:List (Str × V)),H a=some (.ins t.Zan dx fs)→TyOf K H (.ref a) (.ref t.Zan)
 ZEo:Mk K t.Zan t.ZaO
 Zd1:Zag K t.Zan "guard"
 ZcT:Zag K t.Zan "changes"
 Zd3:Zag K t.Zan "names"
 Zdw:Zag K t.Zan "starts"
 Zff:Zag K t.Zan "bads"
 Zd2:Zag K t.Zan "moves"
 ZhP:Zag K t.Zan "at"
 Zd4:Zag K t.Zan "truth"
 Zfh:Zag K t.Zan "part"
 Zcc:Zag K t.Zan "parts"
 Zfg:Zag K t.Zan "nots"
 Zfe:Zag K t.Zan "ands"
 ZcU:Zag K t.Zan "eithers"
 Zgt:Zag K t.Zan "ors"
 ZcV:Zag K t.Zan "lacking"
 ZiM:Meth K t.Zan "looseness" t.Za4
 ZlF:Meth K t.Zan "between" t.Zbk
 Zxm:Meth K t.Zan "lamps" t.ZaL
 Zjx:Meth K t.Zan "shown" t.ZaG
 m_Or:mg "Or" = some (.ref t.C_Or)
 c_Or:Cls K t.C_Or
 y_Or:∀ (H:Hp) (a dx:Addr) (fs:List (Str × V)),H a=some (.ins t.C_Or dx fs)→TyOf K H (.ref a) (.ref t.C_Or)
 k_Or:Mk K t.C_Or t.ZaO
 Zj8:Zag K t.C_Or "guard"
 ZgJ:Zag K t.C_Or "changes"
 Zka:Zag K t.C_Or "names"
 Zh5:Zag K t.C_Or "starts"
 Znc:Zag K t.C_Or "bads"
 Zj9:Zag K t.C_Or "moves"
 Zwy:Zag K t.C_Or "at"
 Zkb:Zag K t.C_Or "truth"
 Zne:Zag K t.C_Or "part"
 ZfY:Zag K t.C_Or "parts"
 Znd:Zag K t.C_Or "nots"
 Znb:Zag K t.C_Or "ands"
 ZgK:Zag K t.C_Or "eithers"
 Zrk:Zag K t.C_Or "ors"
 ZgL:Zag K t.C_Or "lacking"
 ZoF:Meth K t.C_Or "looseness" t.ZbG
 ZtU:Meth K t.C_Or "between" t.ZcE
 ZFb:Meth K t.C_Or "lamps" t.ZaL
 Zsj:Meth K t.C_Or "shown" t.ZaG
 ZGP:mg "Level" = some (.ref t.Zar)
 Zbc:Cls K t.Zar
 ZLd:∀ (H:Hp) (a dx:Addr) (fs:List (Str × V)),H a=some (.ins t.Zar dx fs)→TyOf K H (.ref a) (.ref t.Zar)
 ZGC:Mk K t.Zar t.ZcD
 Zfo:Zag K t.Zar "guard"
 ZdD:Zag K t.Zar "changes"
 Zfq:Zag K t.Zar "names"
 Zeh:Zag K t.Zar "starts"
 ZgB:Zag K t.Zar "bads"
 Zfp:Zag K t.Zar "moves"
 Zj3:Zag K t.Zar "at"
 Zfs:Zag K t.Zar "truth"
 ZgC:Zag K t.Zar "part"
 Zfr:Zag K t.Zar "parts"
 ZbJ:Zag K t.Zar "nots"
 Zb4:Zag K t.Zar "ands"
 Zbj:Zag K t.Zar "eithers"
 ZdE:Zag K t.Zar "ors"
 ZaE:Zag K t.Zar "lacking"
 ZjT:Meth K t.Zar "take_part" t.Zba
 ZjS:Meth K t.Zar "take_join" t.Za9
 ZjU:Meth K t.Zar "take_word" t.Zbb
 ZqN:Meth K t.Zar "whole" t.Zb2
 b_ValueError:mg "ValueError" = none
 Zll:mg "NoFormula" = some (.ref t.Zaw)
 ZgR:PySem.W.typeIn K (.ref t.Zaw)=some (.type "type")
 ZA5:(PySem.W.clsIn K t.Zaw).isSome=true
 ZeS:PySem.W.mroIn K t.Zaw (.type "BaseException")=some true
 Zlo:ExcK K t.Zaw
 ZDI:PySem.W.kitOne K (.ref t.Zaw) (.type "ValueError")=some true
 Zbo:PySem.W.mroIn K t.Zaw (.ref t.Zaw)=some true
 ZlP:PySem.W.kitOne K (.ref t.Zaw) (.ref t.Zaw)=some true
 ZxT:t.ZaB ≠ t.Zal
 ZxS:t.ZaB ≠ t.Zap
 ZDL:t.ZaB ≠ t.Zax
 ZDM:t.ZaB ≠ t.Zay
 ZFH:t.ZaB ≠ t.C_Not
 ZAF:t.ZaB ≠ t.Zaq
 ZFG:t.ZaB ≠ t.C_And
 ZAE:t.ZaB ≠ t.Zan
 ZHY:t.ZaB ≠ t.C_Or
 ZCI:t.ZaB ≠ t.Zar
 ZsN:t.Zal ≠ t.Zap
 ZxQ:t.Zal ≠ t.Zax
 ZxR:t.Zal ≠ t.Zay
 ZAD:t.Zal ≠ t.C_Not
 ZuN:t.Zal ≠ t.Zaq
 ZAC:t.Zal ≠ t.C_And
 ZuM:t.Zal ≠ t.Zan
 ZCH:t.Zal ≠ t.C_Or
 Zxd:t.Zal ≠ t.Zar
 ZxN:t.Zap ≠ t.Zax
 ZxO:t.Zap ≠ t.Zay
 ZAA:t.Zap ≠ t.C_Not
 ZuL:t.Zap ≠ t.Zaq
 ZAz:t.Zap ≠ t.C_And
 ZuK:t.Zap ≠ t.Zan
 ZCF:t.Zap ≠ t.C_Or
 Zxa:t.Zap ≠ t.Zar
 ZpQ:t.Zax ≠ t.Zay
 ZsM:t.Zax ≠ t.C_Not
 ZAB:t.Zax ≠ t.Zaq
 ZsL:t.Zax ≠ t.C_And
 Zls:t.Zax ≠ t.Zan
 Zxc:t.Zax ≠ t.C_Or
 Zuy:t.Zax ≠ t.Zar
 ZsP:t.Zay ≠ t.C_Not
 ZAH:t.Zay ≠ t.Zaq
 ZsO:t.Zay ≠ t.C_And
 Zlt:t.Zay ≠ t.Zan
 Zxg:t.Zay ≠ t.C_Or
 Zuz:t.Zay ≠ t.Zar
 ZCJ:t.C_Not ≠ t.Zaq
 Zxe:t.C_Not ≠ t.C_And
 Znw:t.C_Not ≠ t.Zan
 ZAG:t.C_Not ≠ t.C_Or
 Zxf:t.C_Not ≠ t.Zar
 ZCG:t.Zaq ≠ t.C_And
 Zxb:t.Zaq ≠ t.Zan
 ZDK:t.Zaq ≠ t.C_Or
 ZxP:t.Zaq ≠ t.Zar
 Znv:t.C_And ≠ t.Zan
 ZAy:t.C_And ≠ t.C_Or
 Zw9:t.C_And ≠ t.Zar
 ZpP:t.Zan ≠ t.C_Or
 ZoR:t.Zan ≠ t.Zar
 ZyG:t.C_Or ≠ t.Zar
 bl:∀ (s:Shared) (u:Value),BindsTo s t.d_law ⟨[u],[]⟩ [("_law_script",u)]
 B:Bt mg
 g_LETTERS:GC mg "LETTERS" (.str "abcdefghijklmnopqrstuvwxyz")
 g_MARKS:GC mg "MARKS" (.str "(),")
 g_BLANK:GC mg "BLANK" (.str " ")
 g_MOST_LAMPS:GC mg "MOST_LAMPS" (.int 6)
 g_LONGEST_NAME:GC mg "LONGEST_NAME" (.int 8)
 g_JOINS:GC mg "JOINS" (.ref t.v_JOINS)
 q_JOINS:∀ H,SqT K H t.v_JOINS ((["and","either","or"]:List Str).map V.str)
 g_NO_NAMES:GC mg "NO_NAMES" (.ref t.v_NO_NAMES)
 q_NO_NAMES:∀ H,SqT K H t.v_NO_NAMES ((["and","or","not","either","yes","no","then","is","(",")",","]:List Str).map V.str)
 g_SORTS:GC mg "SORTS" (.ref t.v_SORTS)
 q_SORTS:∀ H,SqT K H t.v_SORTS ((["start","bad","move"]:List Str).map V.str)
theorem txt_mk {K:PySem.W.Frag} {h:Heap} {mg:Str→Option Value} (X:K.In h) (G:h.Ns mainGlobals mg)
  {ZeK:Addr} {ZBY Zs4:Option Addr} {ZCt:Array (Option Value)} {ZBL Zt5 ZtR Zus Zmr Ztq:Value}
  {Zpr:Addr} {ZIB ZDR:Option Addr} {ZIY:Array (Option Value)} {ZIz ZEn ZD7 ZEJ ZyZ ZD2:Value}
  {ZkS:Addr} {ZG1 ZAS:Option Addr} {ZHz:Array (Option Value)} {ZGZ ZBq ZBb ZB9 Zvy ZA7:Value}
  {ZeL:Addr} {ZBZ Zs5:Option Addr} {ZCu:Array (Option Value)} {ZBM Zt6 ZtS Zut Zms Ztr:Value}
  {Zpq:Addr} {ZIA ZDQ:Option Addr} {ZIX:Array (Option Value)} {ZIy ZEm ZD6 ZEI ZyY ZD1:Value}
  {ZkT:Addr} {ZG2 ZAT:Option Addr} {ZHA:Array (Option Value)} {ZG0 ZBr ZBc ZCa Zvz ZA8:Value}
  {Zdt:Addr} {ZzJ Zp7:Option Addr} {ZAo:Array (Option Value)} {Zzv Zq5 ZqI ZrL ZkL Zqr:Value}
  {Zca:Addr} {ZwL Zmc:Option Addr} {Zw4:Array (Option Value)} {ZwF Zm4 ZmH Znm Zhv Zmz:Value}
  {ZhE:Addr} {ZFp ZxY:Option Addr} {ZFA:Array (Option Value)} {ZFn Zyj Zyd ZyA Zsc Zx7:Value}
  {ZbW:Addr} {ZuF Zlw:Option Addr} {ZuI:Array (Option Value)} {ZuD ZlJ ZlE ZlN ZgV ZlA:Value}
  {Zbi:Addr} {ZpH Zhp:Option Addr} {ZpN:Array (Option Value)} {ZpF ZhI ZhA Zid ZeD Zhx:Value}
  {ZeM:Addr} {ZB0 Zs6:Option Addr} {ZCv:Array (Option Value)} {ZBN Zt7 ZtT Zuu Zmt Zts:Value}
  {ZcM:Addr} {Zxy Zom:Option Addr} {ZxL:Array (Option Value)} {Zxu ZoJ ZoE ZoP Zjq Zou:Value}
  {Zds:Addr} {ZzI Zp6:Option Addr} {ZAn:Array (Option Value)} {Zzu Zq4 ZqH ZrK ZkK Zqq:Value}
  {Zdr:Addr} {ZzH Zp5:Option Addr} {ZAm:Array (Option Value)} {Zzt Zq3 ZqG ZrJ ZkJ Zqp:Value}
  {ZfR:Addr} {ZDr Zvm:Option Addr} {ZDF:Array (Option Value)} {ZDn Zwd ZvU ZwQ Zpg ZvC:Value}
  {ZfQ:Addr} {ZDq Zvl:Option Addr} {ZDE:Array (Option Value)} {ZDm Zwc ZvT ZwP Zpf ZvB:Value}
  {ZhD:Addr} {ZFo ZxX:Option Addr} {ZFz:Array (Option Value)} {ZFm Zyi Zyc Zyz Zsb Zx6:Value}
  {ZfS:Addr} {ZDs Zvn:Option Addr} {ZDG:Array (Option Value)} {ZDo Zwe ZvV ZwR Zph ZvD:Value}
  {ZbB:Addr} {Zsw ZjG:Option Addr} {ZsJ:Array (Option Value)} {Zsu ZjX ZjQ Zkf ZfM ZjL:Value}
  {Zdu:Addr} {ZzK Zp8:Option Addr} {ZAp:Array (Option Value)} {Zzw Zq6 ZqJ ZrM ZkM Zqs:Value}
  {Zb9:Addr} {ZwK Zmb:Option Addr} {Zw3:Array (Option Value)} {ZwE Zm3 ZmG Znl Zhu Zmy:Value}
  {Zdq:Addr} {ZzG Zp4:Option Addr} {ZAl:Array (Option Value)} {Zzs Zq2 ZqF ZrI ZkI Zqo:Value}
  {Zdn:Addr} {ZzD Zp1:Option Addr} {ZAi:Array (Option Value)} {Zzp ZqZ ZqC ZrF ZkF Zql:Value}
  {ZeI:Addr} {ZBW Zs2:Option Addr} {ZCr:Array (Option Value)} {ZBJ Zt3 ZtP Zuq Zmp Zto:Value}
  {ZeF:Addr} {ZBT ZsZ:Option Addr} {ZCo:Array (Option Value)} {ZBG Zt0 ZtM Zun Zmm Ztl:Value}
  {ZeG:Addr} {ZBU Zs0:Option Addr} {ZCp:Array (Option Value)} {ZBH Zt1 ZtN Zuo Zmn Ztm:Value}
  {ZeJ:Addr} {ZBX Zs3:Option Addr} {ZCs:Array (Option Value)} {ZBK Zt4 ZtQ Zur Zmq Ztp:Value}
  {Zdp:Addr} {ZzF Zp3:Option Addr} {ZAk:Array (Option Value)} {Zzr Zq1 ZqE ZrH ZkH Zqn:Value}
  {Zdo:Addr} {ZzE Zp2:Option Addr} {ZAj:Array (Option Value)} {Zzq Zq0 ZqD ZrG ZkG Zqm:Value}
  {ZeH:Addr} {ZBV Zs1:Option Addr} {ZCq:Array (Option Value)} {ZBI Zt2 ZtO Zup Zmo Ztn:Value}
  {f_law:Addr} {ZMd ZJg:Option Addr} {ZMJ:Array (Option Value)} {ZMc ZJI ZJj ZJX ZFY ZJi:Value}
  {Zdj:Addr} {ZBP ZsV:Option Addr} {ZCk:Array (Option Value)} {ZBC ZtW ZtI Zuj Zmi Zth:Value}
  {ZbF:Addr} {ZwI Zl9:Option Addr} {Zw1:Array (Option Value)} {ZwC Zm1 ZmE Znj Zhs Zmw:Value}
  {Zat:Addr} {Zn9 Zg0:Option Addr} {Zoa:Array (Option Value)} {Zn8 Zg4 Zg3 Zg5 ZdW Zg2:Value}
  {Zdi:Addr} {ZBO ZsU:Option Addr} {ZCj:Array (Option Value)} {ZBB ZtV ZtH Zui Zmh Ztg:Value}
  {ZcB:Addr} {Zzx ZpV:Option Addr} {ZAc:Array (Option Value)} {Zzj ZqT Zqw Zrz Zkz Zqf:Value}
  {ZcC:Addr} {Zzy ZpW:Option Addr} {ZAd:Array (Option Value)} {Zzk ZqU Zqx ZrA ZkA Zqg:Value}
  {Zdm:Addr} {ZBS ZsY:Option Addr} {ZCn:Array (Option Value)} {ZBF ZtZ ZtL Zum Zml Ztk:Value}
  {ZcF:Addr} {ZzB ZpZ:Option Addr} {ZAg:Array (Option Value)} {Zzn ZqX ZqA ZrD ZkD Zqj:Value}
  {ZcG:Addr} {ZzC Zp0:Option Addr} {ZAh:Array (Option Value)} {Zzo ZqY ZqB ZrE ZkE Zqk:Value}
  {ZeR:Addr} {ZDp Zvk:Option Addr} {ZDD:Array (Option Value)} {ZDl Zwb ZvS ZwO Zpe ZvA:Value}
  {Zdk:Addr} {ZBQ ZsW:Option Addr} {ZCl:Array (Option Value)} {ZBD ZtX ZtJ Zuk Zmj Zti:Value}
  {Zdl:Addr} {ZBR ZsX:Option Addr} {ZCm:Array (Option Value)} {ZBE ZtY ZtK Zul Zmk Ztj:Value}
  {ZaO:Addr} {Zxw Zok:Option Addr} {ZxJ:Array (Option Value)} {Zxs ZoH ZoC ZoN Zjo Zos:Value}
  {ZaL:Addr} {ZwG Zl7:Option Addr} {ZwZ:Array (Option Value)} {ZwA ZmZ ZmC Znh Zhq Zmu:Value}
  {ZaG:Addr} {ZwH Zl8:Option Addr} {Zw0:Array (Option Value)} {ZwB Zm0 ZmD Zni Zhr Zmv:Value}
  {Zby:Addr} {ZuE Zlv:Option Addr} {ZuH:Array (Option Value)} {ZuC ZlI ZlD ZlM ZgU Zlz:Value}
  {Zb1:Addr} {Zxv Zoj:Option Addr} {ZxI:Array (Option Value)} {Zxr ZoG ZoB ZoM Zjn Zor:Value}
  {Za4:Addr} {ZpG Zho:Option Addr} {ZpM:Array (Option Value)} {ZpE ZhH Zhz Zic ZeC Zhw:Value}
  {Zbk:Addr} {Zsv ZjF:Option Addr} {ZsI:Array (Option Value)} {Zst ZjW ZjP Zke ZfL ZjK:Value}
  {ZbG:Addr} {ZwJ Zma:Option Addr} {Zw2:Array (Option Value)} {ZwD Zm2 ZmF Znk Zht Zmx:Value}
  {ZcE:Addr} {ZzA ZpY:Option Addr} {ZAf:Array (Option Value)} {Zzm ZqW Zqz ZrC ZkC Zqi:Value}
  {ZcD:Addr} {Zzz ZpX:Option Addr} {ZAe:Array (Option Value)} {Zzl ZqV Zqy ZrB ZkB Zqh:Value}
  {Zba:Addr} {Zrp Zil:Option Addr} {ZrX:Array (Option Value)} {Zrm ZiP ZiK Zjh Ze1 ZiF:Value}
  {Za9:Addr} {Zro Zik:Option Addr} {ZrW:Array (Option Value)} {Zrl ZiO ZiJ Zjg Ze0 ZiE:Value}
  {Zbb:Addr} {Zrq Zim:Option Addr} {ZrY:Array (Option Value)} {Zrn ZiQ ZiL Zji Ze2 ZiG:Value}
  {Zb2:Addr} {Zxx Zol:Option Addr} {ZxK:Array (Option Value)} {Zxt ZoI ZoD ZoO Zjp Zot:Value}
  {ZaB:Addr}
  {Zal:Addr}
  {Zap:Addr}
  {Zax:Addr}
  {Zay:Addr}
  {C_Not:Addr}
  {Zaq:Addr}
  {C_And:Addr}
  {Zan:Addr}
  {C_Or:Addr}
  {Zar:Addr}
  {Zaw:Addr}
  {tk_LETTERS:Tok}
  {tk_MARKS:Tok}
  {tk_BLANK:Tok}
  {tk_MOST_LAMPS:Tok}
  {tk_LONGEST_NAME:Tok}
  {v_JOINS:Addr} {nn_JOINS:Nat} {od_JOINS:Option Addr} {sl_JOINS:Array (Option Value)} {tk_JOINS_0 tk_JOINS_1 tk_JOINS_2:Tok}
  {v_NO_NAMES:Addr} {nn_NO_NAMES:Nat} {od_NO_NAMES:Option Addr} {sl_NO_NAMES:Array (Option Value)} {tk_NO_NAMES_0 tk_NO_NAMES_1 tk_NO_NAMES_2 tk_NO_NAMES_3 tk_NO_NAMES_4 tk_NO_NAMES_5 tk_NO_NAMES_6 tk_NO_NAMES_7 tk_NO_NAMES_8 tk_NO_NAMES_9 tk_NO_NAMES_10:Tok}
  {v_SORTS:Addr} {nn_SORTS:Nat} {od_SORTS:Option Addr} {sl_SORTS:Array (Option Value)} {tk_SORTS_0 tk_SORTS_1 tk_SORTS_2:Tok}
  (Zo7:PySem.W.nsIn K mainGlobals "bracketed" = some (some (.ref ZeK)))
  (ZCR:PySem.W.nsIn K mainGlobals "words" = some (some (.ref Zpr)))
  (ZyO:PySem.W.nsIn K mainGlobals "and_of" = some (some (.ref ZkS)))
  (Zo8:PySem.W.nsIn K mainGlobals "either_of" = some (some (.ref ZeL)))
  (ZCQ:PySem.W.nsIn K mainGlobals "or_of" = some (some (.ref Zpq)))
  (ZyP:PySem.W.nsIn K mainGlobals "single" = some (some (.ref ZkT)))
  (Zl5:PySem.W.nsIn K mainGlobals "formula_in" = some (some (.ref Zdt)))
  (Zjm:PySem.W.nsIn K mainGlobals "written_move" = some (some (.ref Zca)))
  (Zvj:PySem.W.nsIn K mainGlobals "written" = some (some (.ref ZhE)))
  (Zhn:PySem.W.nsIn K mainGlobals "words_of_line" = some (some (.ref ZbW)))
  (ZeW:PySem.W.nsIn K mainGlobals "parted_by_commas" = some (some (.ref Zbi)))
  (Zo9:PySem.W.nsIn K mainGlobals "pieces_in" = some (some (.ref ZeM)))
  (Zkl:PySem.W.nsIn K mainGlobals "check_lamps" = some (some (.ref ZcM)))
  (Zl4:PySem.W.nsIn K mainGlobals "check_move" = some (some (.ref Zds)))
  (Zl3:PySem.W.nsIn K mainGlobals "check_form" = some (some (.ref Zdr)))
  (Zr8:PySem.W.nsIn K mainGlobals "names_in" = some (some (.ref ZfR)))
  (Zr7:PySem.W.nsIn K mainGlobals "lamps_in" = some (some (.ref ZfQ)))
  (Zvi:PySem.W.nsIn K mainGlobals "move_in" = some (some (.ref ZhD)))
  (Zr9:PySem.W.nsIn K mainGlobals "thing_in" = some (some (.ref ZfS)))
  (ZgT:PySem.W.nsIn K mainGlobals "names_of_first" = some (some (.ref ZbB)))
  (Zl6:PySem.W.nsIn K mainGlobals "machine_of" = some (some (.ref Zdu)))
  (Zjl:PySem.W.nsIn K mainGlobals "_law_cell_at" = some (some (.ref Zb9)))
  (Zl2:PySem.W.nsIn K mainGlobals "_law_names" = some (some (.ref Zdq)))
  (ZlZ:PySem.W.nsIn K mainGlobals "_law_grown" = some (some (.ref Zdn)))
  (Zo5:PySem.W.nsIn K mainGlobals "_law_slot" = some (some (.ref ZeI)))
  (Zo2:PySem.W.nsIn K mainGlobals "_law_made" = some (some (.ref ZeF)))
  (Zo3:PySem.W.nsIn K mainGlobals "_law_rank" = some (some (.ref ZeG)))
  (Zo6:PySem.W.nsIn K mainGlobals "_law_text" = some (some (.ref ZeJ)))
  (Zl1:PySem.W.nsIn K mainGlobals "_law_moves" = some (some (.ref Zdp)))
  (Zl0:PySem.W.nsIn K mainGlobals "_law_lines" = some (some (.ref Zdo)))
  (Zo4:PySem.W.nsIn K mainGlobals "_law_same" = some (some (.ref ZeH)))
  (a_law:PySem.W.nsIn K mainGlobals "law" = some (some (.ref f_law)))
  (ZFO:PySem.W.nsIn K mainGlobals "Move" = some (some (.ref ZaB)))
  (Zvh:PySem.W.nsIn K mainGlobals "Machine" = some (some (.ref Zal)))
  (Zvg:PySem.W.nsIn K mainGlobals "Formula" = some (some (.ref Zap)))
  (ZFN:PySem.W.nsIn K mainGlobals "Lamp" = some (some (.ref Zax)))
  (ZFP:PySem.W.nsIn K mainGlobals "Sure" = some (some (.ref Zay)))
  (a_Not:PySem.W.nsIn K mainGlobals "Not" = some (some (.ref C_Not)))
  (ZyN:PySem.W.nsIn K mainGlobals "Joined" = some (some (.ref Zaq)))
  (a_And:PySem.W.nsIn K mainGlobals "And" = some (some (.ref C_And)))
  (ZyM:PySem.W.nsIn K mainGlobals "Either" = some (some (.ref Zan)))
  (a_Or:PySem.W.nsIn K mainGlobals "Or" = some (some (.ref C_Or)))
  (ZCP:PySem.W.nsIn K mainGlobals "Level" = some (some (.ref Zar)))
  (Zo1:PySem.W.nsIn K mainGlobals "NoFormula" = some (some (.ref Zaw)))
  (ZiN:PySem.W.isClsIn K Zaw=true)
  (ZgR:PySem.W.typeIn K (.ref Zaw)=some (.type "type"))
  (ZeS:PySem.W.mroIn K Zaw (.type "BaseException")=some true)
  (ZnB:PySem.W.excIn K Zaw [.type "ValueError",.type "Exception",.type "BaseException",.type "object"] "ValueError.__new__" = true)
  (Zny:PySem.W.findIn K (.ref Zaw) "__getattribute__" = some (some (.builtin "BaseException.__getattribute__")))
  (Znz:PySem.W.findIn K (.ref Zaw) "__getattr__" = some none)
  (Znx:PySem.W.findIn K (.ref Zaw) "__class__" = some (some (.builtin "object.__class__")))
  (ZnA:PySem.W.mroIn K Zaw (.type "object")=some true)
  (ZnC:PySem.W.subIn K (.ref Zaw) (.type "ValueError")=some true)
  (Zbo:PySem.W.mroIn K Zaw (.ref Zaw)=some true)
  (b_ValueError:PySem.W.nsIn K mainGlobals "ValueError" = some none)
  (ne_:[Zaw].Nodup)
  (Zpm:PySem.W.findIn K (.ref ZaB) "__init__" = some (some (.ref Zdj)))
  (Zjv:PySem.W.findIn K (.ref Zal) "__init__" = some (some (.ref ZbF)))
  (ZeE:PySem.W.findIn K (.ref Zap) "looseness" = some (some (.ref Zat)))
  (Zpl:PySem.W.findIn K (.ref Zax) "__init__" = some (some (.ref Zdi)))
  (ZmI:PySem.W.findIn K (.ref Zax) "lamps" = some (some (.ref ZcB)))
  (ZmJ:PySem.W.findIn K (.ref Zax) "shown" = some (some (.ref ZcC)))
  (ZgX:PySem.W.findIn K (.ref Zax) "looseness" = some (some (.ref Zat)))
  (Zpp:PySem.W.findIn K (.ref Zay) "__init__" = some (some (.ref Zdm)))
  (ZmM:PySem.W.findIn K (.ref Zay) "lamps" = some (some (.ref ZcF)))
  (ZmN:PySem.W.findIn K (.ref Zay) "shown" = some (some (.ref ZcG)))
  (ZgY:PySem.W.findIn K (.ref Zay) "looseness" = some (some (.ref Zat)))
  (Zsf:PySem.W.findIn K (.ref C_Not) "__init__" = some (some (.ref ZeR)))
  (Zpn:PySem.W.findIn K (.ref C_Not) "lamps" = some (some (.ref Zdk)))
  (Zpo:PySem.W.findIn K (.ref C_Not) "shown" = some (some (.ref Zdl)))
  (ZhC:PySem.W.findIn K (.ref C_Not) "looseness" = some (some (.ref Zat)))
  (ZkQ:PySem.W.findIn K (.ref Zaq) "__init__" = some (some (.ref ZaO)))
  (Zjt:PySem.W.findIn K (.ref Zaq) "lamps" = some (some (.ref ZaL)))
  (Zju:PySem.W.findIn K (.ref Zaq) "shown" = some (some (.ref ZaG)))
  (Ze4:PySem.W.findIn K (.ref Zaq) "looseness" = some (some (.ref Zat)))
  (ZhB:PySem.W.findIn K (.ref C_And) "looseness" = some (some (.ref Zby)))
  (ZkO:PySem.W.findIn K (.ref C_And) "between" = some (some (.ref Zb1)))
  (Zse:PySem.W.findIn K (.ref C_And) "__init__" = some (some (.ref ZaO)))
  (Zpj:PySem.W.findIn K (.ref C_And) "lamps" = some (some (.ref ZaL)))
  (Zpk:PySem.W.findIn K (.ref C_And) "shown" = some (some (.ref ZaG)))
  (Ze3:PySem.W.findIn K (.ref Zan) "looseness" = some (some (.ref Za4)))
  (ZgW:PySem.W.findIn K (.ref Zan) "between" = some (some (.ref Zbk)))
  (ZkP:PySem.W.findIn K (.ref Zan) "__init__" = some (some (.ref ZaO)))
  (Zjr:PySem.W.findIn K (.ref Zan) "lamps" = some (some (.ref ZaL)))
  (Zjs:PySem.W.findIn K (.ref Zan) "shown" = some (some (.ref ZaG)))
  (Zjw:PySem.W.findIn K (.ref C_Or) "looseness" = some (some (.ref ZbG)))
  (ZmL:PySem.W.findIn K (.ref C_Or) "between" = some (some (.ref ZcE)))
  (ZvW:PySem.W.findIn K (.ref C_Or) "__init__" = some (some (.ref ZaO)))
  (Zsg:PySem.W.findIn K (.ref C_Or) "lamps" = some (some (.ref ZaL)))
  (Zsh:PySem.W.findIn K (.ref C_Or) "shown" = some (some (.ref ZaG)))
  (ZmK:PySem.W.findIn K (.ref Zar) "__init__" = some (some (.ref ZcD)))
  (ZfO:PySem.W.findIn K (.ref Zar) "take_part" = some (some (.ref Zba)))
  (ZfN:PySem.W.findIn K (.ref Zar) "take_join" = some (some (.ref Za9)))
  (ZfP:PySem.W.findIn K (.ref Zar) "take_word" = some (some (.ref Zbb)))
  (ZkR:PySem.W.findIn K (.ref Zar) "whole" = some (some (.ref Zb2)))
  (Zli:K.lookup ZeK=some ⟨ZBL,ZBY,.func (PySem.W.fnOf "bracketed" "bracketed" (Zaj Zco) (Zai Zco) (Zab Zco) .none Zt5 ZtR Zus Zs4 Zmr Ztq),ZCt⟩)
  (Zkw:PySem.W.codeIn K Zmr "bracketed" = true)
  (Zk5:PySem.W.keepIn K (.ref ZeK)=true)
  (Zzc:K.lookup Zpr=some ⟨ZIz,ZIB,.func (PySem.W.fnOf "words" "words" (Zaj ZjB) (Zai ZjB) (Zab ZjB) .none ZEn ZD7 ZEJ ZDR ZyZ ZD2),ZIY⟩)
  (ZyV:PySem.W.codeIn K ZyZ "words" = true)
  (Zy9:PySem.W.keepIn K (.ref Zpr)=true)
  (ZuW:K.lookup ZkS=some ⟨ZGZ,ZG1,.func (PySem.W.fnOf "and_of" "and_of" (Zaj Zgk) (Zai Zgk) (Zab Zgk) .none ZBq ZBb ZB9 ZAS Zvy ZA7),ZHz⟩)
  (ZuO:PySem.W.codeIn K Zvy "and_of" = true)
  (ZuU:PySem.W.keepIn K (.ref ZkS)=true)
  (Zlj:K.lookup ZeL=some ⟨ZBM,ZBZ,.func (PySem.W.fnOf "either_of" "either_of" (Zaj Zcp) (Zai Zcp) (Zab Zcp) .none Zt6 ZtS Zut Zs5 Zms Ztr),ZCu⟩)
  (Zkx:PySem.W.codeIn K Zms "either_of" = true)
  (Zk6:PySem.W.keepIn K (.ref ZeL)=true)
  (Zzb:K.lookup Zpq=some ⟨ZIy,ZIA,.func (PySem.W.fnOf "or_of" "or_of" (Zaj ZjA) (Zai ZjA) (Zab ZjA) .none ZEm ZD6 ZEI ZDQ ZyY ZD1),ZIX⟩)
  (ZyU:PySem.W.codeIn K ZyY "or_of" = true)
  (Zy8:PySem.W.keepIn K (.ref Zpq)=true)
  (ZuX:K.lookup ZkT=some ⟨ZG0,ZG2,.func (PySem.W.fnOf "single" "single" (Zaj Zgl) (Zai Zgl) (Zab Zgl) .none ZBr ZBc ZCa ZAT Zvz ZA8),ZHA⟩)
  (ZuP:PySem.W.codeIn K Zvz "single" = true)
  (ZuV:PySem.W.keepIn K (.ref ZkT)=true)
  (Zjc:K.lookup Zdt=some ⟨Zzv,ZzJ,.func (PySem.W.fnOf "formula_in" "formula_in" (Zaj ZbT) (Zai ZbT) (Zab ZbT) .none Zq5 ZqI ZrL Zp7 ZkL Zqr),ZAo⟩)
  (ZiC:PySem.W.codeIn K ZkL "formula_in" = true)
  (ZiY:PySem.W.keepIn K (.ref Zdt)=true)
  (Zgh:K.lookup Zca=some ⟨ZwF,ZwL,.func (PySem.W.fnOf "written_move" "written_move" (Zaj Zbh) (Zai Zbh) (Zab Zbh) .none Zm4 ZmH Znm Zmc Zhv Zmz),Zw4⟩)
  (Zf8:PySem.W.codeIn K Zhv "written_move" = true)
  (Zgb:PySem.W.keepIn K (.ref Zca)=true)
  (Zra:K.lookup ZhE=some ⟨ZFn,ZFp,.func (PySem.W.fnOf "written" "written" (Zaj Zeu) (Zai Zeu) (Zab Zeu) .none Zyj Zyd ZyA ZxY Zsc Zx7),ZFA⟩)
  (Zqe:PySem.W.codeIn K Zsc "written" = true)
  (Zq8:PySem.W.keepIn K (.ref ZhE)=true)
  (Zfa:K.lookup ZbW=some ⟨ZuD,ZuF,.func (PySem.W.fnOf "words_of_line" "words_of_line" (Zaj Za7) (Zai Za7) (Zab Za7) .none ZlJ ZlE ZlN Zlw ZgV ZlA),ZuI⟩)
  (ZeZ:PySem.W.codeIn K ZgV "words_of_line" = true)
  (Ze8:PySem.W.keepIn K (.ref ZbW)=true)
  (Zdd:K.lookup Zbi=some ⟨ZpF,ZpH,.func (PySem.W.fnOf "parted_by_commas" "parted_by_commas" (Zaj ZaN) (Zai ZaN) (Zab ZaN) .none ZhI ZhA Zid Zhp ZeD Zhx),ZpN⟩)
  (Zda:PySem.W.codeIn K ZeD "parted_by_commas" = true)
  (Zdb:PySem.W.keepIn K (.ref Zbi)=true)
  (Zlk:K.lookup ZeM=some ⟨ZBN,ZB0,.func (PySem.W.fnOf "pieces_in" "pieces_in" (Zaj Zcq) (Zai Zcq) (Zab Zcq) .none Zt7 ZtT Zuu Zs6 Zmt Zts),ZCv⟩)
  (Zky:PySem.W.codeIn K Zmt "pieces_in" = true)
  (Zk7:PySem.W.keepIn K (.ref ZeM)=true)
  (Zhg:K.lookup ZcM=some ⟨Zxu,Zxy,.func (PySem.W.fnOf "check_lamps" "check_lamps" (Zaj Zbw) (Zai Zbw) (Zab Zbw) .none ZoJ ZoE ZoP Zom Zjq Zou),ZxL⟩)
  (Zha:PySem.W.codeIn K Zjq "check_lamps" = true)
  (Zhc:PySem.W.keepIn K (.ref ZcM)=true)
  (Zjb:K.lookup Zds=some ⟨Zzu,ZzI,.func (PySem.W.fnOf "check_move" "check_move" (Zaj ZbS) (Zai ZbS) (Zab ZbS) .none Zq4 ZqH ZrK Zp6 ZkK Zqq),ZAn⟩)
  (ZiB:PySem.W.codeIn K ZkK "check_move" = true)
  (ZiX:PySem.W.keepIn K (.ref Zds)=true)
  (Zja:K.lookup Zdr=some ⟨Zzt,ZzH,.func (PySem.W.fnOf "check_form" "check_form" (Zaj ZbR) (Zai ZbR) (Zab ZbR) .none Zq3 ZqG ZrJ Zp5 ZkJ Zqp),ZAm⟩)
  (ZiA:PySem.W.codeIn K ZkJ "check_form" = true)
  (ZiW:PySem.W.keepIn K (.ref Zdr)=true)
  (ZnV:K.lookup ZfR=some ⟨ZDn,ZDr,.func (PySem.W.fnOf "names_in" "names_in" (Zaj Zc4) (Zai Zc4) (Zab Zc4) .none Zwd ZvU ZwQ Zvm Zpg ZvC),ZDF⟩)
  (ZnI:PySem.W.codeIn K Zpg "names_in" = true)
  (ZnR:PySem.W.keepIn K (.ref ZfR)=true)
  (ZnU:K.lookup ZfQ=some ⟨ZDm,ZDq,.func (PySem.W.fnOf "lamps_in" "lamps_in" (Zaj Zc3) (Zai Zc3) (Zab Zc3) .none Zwc ZvT ZwP Zvl Zpf ZvB),ZDE⟩)
  (ZnH:PySem.W.codeIn K Zpf "lamps_in" = true)
  (ZnQ:PySem.W.keepIn K (.ref ZfQ)=true)
  (Zq9:K.lookup ZhD=some ⟨ZFm,ZFo,.func (PySem.W.fnOf "move_in" "move_in" (Zaj Zet) (Zai Zet) (Zab Zet) .none Zyi Zyc Zyz ZxX Zsb Zx6),ZFz⟩)
  (Zqd:PySem.W.codeIn K Zsb "move_in" = true)
  (Zq7:PySem.W.keepIn K (.ref ZhD)=true)
  (ZnW:K.lookup ZfS=some ⟨ZDo,ZDs,.func (PySem.W.fnOf "thing_in" "thing_in" (Zaj Zc5) (Zai Zc5) (Zab Zc5) .none Zwe ZvV ZwR Zvn Zph ZvD),ZDG⟩)
  (ZnJ:PySem.W.codeIn K Zph "thing_in" = true)
  (ZnS:PySem.W.keepIn K (.ref ZfS)=true)
  (Zez:K.lookup ZbB=some ⟨Zsu,Zsw,.func (PySem.W.fnOf "names_of_first" "names_of_first" (Zaj Za3) (Zai Za3) (Zab Za3) .none ZjX ZjQ Zkf ZjG ZfM ZjL),ZsJ⟩)
  (Zew:PySem.W.codeIn K ZfM "names_of_first" = true)
  (Zex:PySem.W.keepIn K (.ref ZbB)=true)
  (Zjd:K.lookup Zdu=some ⟨Zzw,ZzK,.func (PySem.W.fnOf "machine_of" "machine_of" (Zaj ZbU) (Zai ZbU) (Zab ZbU) .none Zq6 ZqJ ZrM Zp8 ZkM Zqs),ZAp⟩)
  (ZiD:PySem.W.codeIn K ZkM "machine_of" = true)
  (ZiZ:PySem.W.keepIn K (.ref Zdu)=true)
  (Zgg:K.lookup Zb9=some ⟨ZwE,ZwK,.func (PySem.W.fnOf "_law_cell_at" "_law_cell_at" (Zaj Zbg) (Zai Zbg) (Zab Zbg) .none Zm3 ZmG Znl Zmb Zhu Zmy),Zw3⟩)
  (Zf7:PySem.W.codeIn K Zhu "_law_cell_at" = true)
  (Zga:PySem.W.keepIn K (.ref Zb9)=true)
  (Zi9:K.lookup Zdq=some ⟨Zzs,ZzG,.func (PySem.W.fnOf "_law_names" "_law_names" (Zaj ZbQ) (Zai ZbQ) (Zab ZbQ) .none Zq2 ZqF ZrI Zp4 ZkI Zqo),ZAl⟩)
  (Ziz:PySem.W.codeIn K ZkI "_law_names" = true)
  (ZiV:PySem.W.keepIn K (.ref Zdq)=true)
  (Zi6:K.lookup Zdn=some ⟨Zzp,ZzD,.func (PySem.W.fnOf "_law_grown" "_law_grown" (Zaj ZbO) (Zai ZbO) (Zab ZbO) .none ZqZ ZqC ZrF Zp1 ZkF Zql),ZAi⟩)
  (Ziw:PySem.W.codeIn K ZkF "_law_grown" = true)
  (ZiS:PySem.W.keepIn K (.ref Zdn)=true)
  (Zlg:K.lookup ZeI=some ⟨ZBJ,ZBW,.func (PySem.W.fnOf "_law_slot" "_law_slot" (Zaj Zcm) (Zai Zcm) (Zab Zcm) .none Zt3 ZtP Zuq Zs2 Zmp Zto),ZCr⟩)
  (Zku:PySem.W.codeIn K Zmp "_law_slot" = true)
  (Zk3:PySem.W.keepIn K (.ref ZeI)=true)
  (Zld:K.lookup ZeF=some ⟨ZBG,ZBT,.func (PySem.W.fnOf "_law_made" "_law_made" (Zaj Zcj) (Zai Zcj) (Zab Zcj) .none Zt0 ZtM Zun ZsZ Zmm Ztl),ZCo⟩)
  (Zkr:PySem.W.codeIn K Zmm "_law_made" = true)
  (Zk0:PySem.W.keepIn K (.ref ZeF)=true)
  (Zle:K.lookup ZeG=some ⟨ZBH,ZBU,.func (PySem.W.fnOf "_law_rank" "_law_rank" (Zaj Zck) (Zai Zck) (Zab Zck) .none Zt1 ZtN Zuo Zs0 Zmn Ztm),ZCp⟩)
  (Zks:PySem.W.codeIn K Zmn "_law_rank" = true)
  (Zk1:PySem.W.keepIn K (.ref ZeG)=true)
  (Zlh:K.lookup ZeJ=some ⟨ZBK,ZBX,.func (PySem.W.fnOf "_law_text" "_law_text" (Zaj Zcn) (Zai Zcn) (Zab Zcn) .none Zt4 ZtQ Zur Zs3 Zmq Ztp),ZCs⟩)
  (Zkv:PySem.W.codeIn K Zmq "_law_text" = true)
  (Zk4:PySem.W.keepIn K (.ref ZeJ)=true)
  (Zi8:K.lookup Zdp=some ⟨Zzr,ZzF,.func (PySem.W.fnOf "_law_moves" "_law_moves" (Zaj ZbP) (Zai ZbP) (Zab ZbP) .none Zq1 ZqE ZrH Zp3 ZkH Zqn),ZAk⟩)
  (Ziy:PySem.W.codeIn K ZkH "_law_moves" = true)
  (ZiU:PySem.W.keepIn K (.ref Zdp)=true)
  (Zi7:K.lookup Zdo=some ⟨Zzq,ZzE,.func (PySem.W.fnOf "_law_lines" "_law_lines" (Zaj ZbA) (Zai ZbA) (Zab ZbA) .none Zq0 ZqD ZrG Zp2 ZkG Zqm),ZAj⟩)
  (Zix:PySem.W.codeIn K ZkG "_law_lines" = true)
  (ZiT:PySem.W.keepIn K (.ref Zdo)=true)
  (Zlf:K.lookup ZeH=some ⟨ZBI,ZBV,.func (PySem.W.fnOf "_law_same" "_law_same" (Zaj Zcl) (Zai Zcl) (Zab Zcl) .none Zt2 ZtO Zup Zs1 Zmo Ztn),ZCq⟩)
  (Zkt:PySem.W.codeIn K Zmo "_law_same" = true)
  (Zk2:PySem.W.keepIn K (.ref ZeH)=true)
  (l_law:K.lookup f_law=some ⟨ZMc,ZMd,.func (PySem.W.fnOf "law" "law" (Zaj ZpK) (Zai ZpK) (Zab ZpK) .none ZJI ZJj ZJX ZJg ZFY ZJi),ZMJ⟩)
  (c_law:PySem.W.codeIn K ZFY "law" = true)
  (k_law:PySem.W.keepIn K (.ref f_law)=true)
  (Zk9:K.lookup Zdj=some ⟨ZBC,ZBP,.func (PySem.W.fnOf "__init__" "Move.__init__" (Zaj Zcg) (Zai Zcg) (Zab Zcg) .none ZtW ZtI Zuj ZsV Zmi Zth),ZCk⟩)
  (Zkn:PySem.W.codeIn K Zmi "Move.__init__" = true)
  (ZkY:PySem.W.keepIn K (.ref Zdj)=true)
  (Zpw:PySem.W.isFn K (.ref Zdj)=true)
  (Zge:K.lookup ZbF=some ⟨ZwC,ZwI,.func (PySem.W.fnOf "__init__" "Machine.__init__" (Zaj Zbe) (Zai Zbe) (Zab Zbe) .none Zm1 ZmE Znj Zl9 Zhs Zmw),Zw1⟩)
  (Zf5:PySem.W.codeIn K Zhs "Machine.__init__" = true)
  (Zf9:PySem.W.keepIn K (.ref ZbF)=true)
  (Zjy:PySem.W.isFn K (.ref ZbF)=true)
  (ZcO:K.lookup Zat=some ⟨Zn8,Zn9,.func (PySem.W.fnOf "looseness" "Formula.looseness" (Zaj ZaH) (Zai ZaH) (Zab ZaH) .none Zg4 Zg3 Zg5 Zg0 ZdW Zg2),Zoa⟩)
  (ZcL:PySem.W.codeIn K ZdW "Formula.looseness" = true)
  (ZaP:PySem.W.keepIn K (.ref Zat)=true)
  (Za8:PySem.W.isFn K (.ref Zat)=true)
  (Zk8:K.lookup Zdi=some ⟨ZBB,ZBO,.func (PySem.W.fnOf "__init__" "Lamp.__init__" (Zaj Zcf) (Zai Zcf) (Zab Zcf) .none ZtV ZtH Zui ZsU Zmh Ztg),ZCj⟩)
  (Zkm:PySem.W.codeIn K Zmh "Lamp.__init__" = true)
  (ZkX:PySem.W.keepIn K (.ref Zdi)=true)
  (Zpv:PySem.W.isFn K (.ref Zdi)=true)
  (Zi0:K.lookup ZcB=some ⟨Zzj,Zzx,.func (PySem.W.fnOf "lamps" "Lamp.lamps" (Zaj Zb6) (Zai Zb6) (Zab Zb6) .none ZqT Zqw Zrz ZpV Zkz Zqf),ZAc⟩)
  (Ziq:PySem.W.codeIn K Zkz "Lamp.lamps" = true)
  (Zgn:PySem.W.keepIn K (.ref ZcB)=true)
  (ZmT:PySem.W.isFn K (.ref ZcB)=true)
  (Zi1:K.lookup ZcC=some ⟨Zzk,Zzy,.func (PySem.W.fnOf "shown" "Lamp.shown" (Zaj ZbK) (Zai ZbK) (Zab ZbK) .none ZqU Zqx ZrA ZpW ZkA Zqg),ZAd⟩)
  (Zir:PySem.W.codeIn K ZkA "Lamp.shown" = true)
  (Zgo:PySem.W.keepIn K (.ref ZcC)=true)
  (ZmU:PySem.W.isFn K (.ref ZcC)=true)
  (Zlc:K.lookup Zdm=some ⟨ZBF,ZBS,.func (PySem.W.fnOf "__init__" "Sure.__init__" (Zaj Zci) (Zai Zci) (Zab Zci) .none ZtZ ZtL Zum ZsY Zml Ztk),ZCn⟩)
  (Zkq:PySem.W.codeIn K Zml "Sure.__init__" = true)
  (ZkZ:PySem.W.keepIn K (.ref Zdm)=true)
  (Zpz:PySem.W.isFn K (.ref Zdm)=true)
  (Zi4:K.lookup ZcF=some ⟨Zzn,ZzB,.func (PySem.W.fnOf "lamps" "Sure.lamps" (Zaj Zb7) (Zai Zb7) (Zab Zb7) .none ZqX ZqA ZrD ZpZ ZkD Zqj),ZAg⟩)
  (Ziu:PySem.W.codeIn K ZkD "Sure.lamps" = true)
  (Zgq:PySem.W.keepIn K (.ref ZcF)=true)
  (ZmX:PySem.W.isFn K (.ref ZcF)=true)
  (Zi5:K.lookup ZcG=some ⟨Zzo,ZzC,.func (PySem.W.fnOf "shown" "Sure.shown" (Zaj ZbN) (Zai ZbN) (Zab ZbN) .none ZqY ZqB ZrE Zp0 ZkE Zqk),ZAh⟩)
  (Ziv:PySem.W.codeIn K ZkE "Sure.shown" = true)
  (Zgr:PySem.W.keepIn K (.ref ZcG)=true)
  (ZmY:PySem.W.isFn K (.ref ZcG)=true)
  (ZnT:K.lookup ZeR=some ⟨ZDl,ZDp,.func (PySem.W.fnOf "__init__" "Not.__init__" (Zaj Zc2) (Zai Zc2) (Zab Zc2) .none Zwb ZvS ZwO Zvk Zpe ZvA),ZDD⟩)
  (ZnG:PySem.W.codeIn K Zpe "Not.__init__" = true)
  (ZnP:PySem.W.keepIn K (.ref ZeR)=true)
  (Zso:PySem.W.isFn K (.ref ZeR)=true)
  (Zla:K.lookup Zdk=some ⟨ZBD,ZBQ,.func (PySem.W.fnOf "lamps" "Not.lamps" (Zaj ZcP) (Zai ZcP) (Zab ZcP) .none ZtX ZtJ Zuk ZsW Zmj Zti),ZCl⟩)
  (Zko:PySem.W.codeIn K Zmj "Not.lamps" = true)
  (ZhJ:PySem.W.keepIn K (.ref Zdk)=true)
  (Zpx:PySem.W.isFn K (.ref Zdk)=true)
  (Zlb:K.lookup Zdl=some ⟨ZBE,ZBR,.func (PySem.W.fnOf "shown" "Not.shown" (Zaj Zch) (Zai Zch) (Zab Zch) .none ZtY ZtK Zul ZsX Zmk Ztj),ZCm⟩)
  (Zkp:PySem.W.codeIn K Zmk "Not.shown" = true)
  (ZhK:PySem.W.keepIn K (.ref Zdl)=true)
  (Zpy:PySem.W.isFn K (.ref Zdl)=true)
  (Zhe:K.lookup ZaO=some ⟨Zxs,Zxw,.func (PySem.W.fnOf "__init__" "Joined.__init__" (Zaj Zbt) (Zai Zbt) (Zab Zbt) .none ZoH ZoC ZoN Zok Zjo Zos),ZxJ⟩)
  (Zg8:PySem.W.codeIn K Zjo "Joined.__init__" = true)
  (Zhb:PySem.W.keepIn K (.ref ZaO)=true)
  (ZdO:PySem.W.isFn K (.ref ZaO)=true)
  (Zgc:K.lookup ZaL=some ⟨ZwA,ZwG,.func (PySem.W.fnOf "lamps" "Joined.lamps" (Zaj Zbu) (Zai Zbu) (Zab Zbu) .none ZmZ ZmC Znh Zl7 Zhq Zmu),ZwZ⟩)
  (Zf3:PySem.W.codeIn K Zhq "Joined.lamps" = true)
  (ZbH:PySem.W.keepIn K (.ref ZaL)=true)
  (Zc0:PySem.W.isFn K (.ref ZaL)=true)
  (Zgd:K.lookup ZaG=some ⟨ZwB,ZwH,.func (PySem.W.fnOf "shown" "Joined.shown" (Zaj Zbd) (Zai Zbd) (Zab Zbd) .none Zm0 ZmD Zni Zl8 Zhr Zmv),Zw0⟩)
  (Zf4:PySem.W.codeIn K Zhr "Joined.shown" = true)
  (ZbI:PySem.W.keepIn K (.ref ZaG)=true)
  (Zc1:PySem.W.isFn K (.ref ZaG)=true)
  (Ze9:K.lookup Zby=some ⟨ZuC,ZuE,.func (PySem.W.fnOf "looseness" "And.looseness" (Zaj Za6) (Zai Za6) (Zab Za6) .none ZlI ZlD ZlM Zlv ZgU Zlz),ZuH⟩)
  (ZeX:PySem.W.codeIn K ZgU "And.looseness" = true)
  (Zdv:PySem.W.keepIn K (.ref Zby)=true)
  (ZhF:PySem.W.isFn K (.ref Zby)=true)
  (Zhd:K.lookup Zb1=some ⟨Zxr,Zxv,.func (PySem.W.fnOf "between" "And.between" (Zaj Zbs) (Zai Zbs) (Zab Zbs) .none ZoG ZoB ZoM Zoj Zjn Zor),ZxI⟩)
  (Zg7:PySem.W.codeIn K Zjn "And.between" = true)
  (Ze6:PySem.W.keepIn K (.ref Zb1)=true)
  (ZkU:PySem.W.isFn K (.ref Zb1)=true)
  (Zdc:K.lookup Za4=some ⟨ZpE,ZpG,.func (PySem.W.fnOf "looseness" "Either.looseness" (Zaj ZaM) (Zai ZaM) (Zab ZaM) .none ZhH Zhz Zic Zho ZeC Zhw),ZpM⟩)
  (Zc9:PySem.W.codeIn K ZeC "Either.looseness" = true)
  (Zb3:PySem.W.keepIn K (.ref Za4)=true)
  (Ze5:PySem.W.isFn K (.ref Za4)=true)
  (Zey:K.lookup Zbk=some ⟨Zst,Zsv,.func (PySem.W.fnOf "between" "Either.between" (Zaj Za2) (Zai Za2) (Zab Za2) .none ZjW ZjP Zke ZjF ZfL ZjK),ZsI⟩)
  (Zev:PySem.W.codeIn K ZfL "Either.between" = true)
  (ZcS:PySem.W.keepIn K (.ref Zbk)=true)
  (ZgZ:PySem.W.isFn K (.ref Zbk)=true)
  (Zgf:K.lookup ZbG=some ⟨ZwD,ZwJ,.func (PySem.W.fnOf "looseness" "Or.looseness" (Zaj Zbf) (Zai Zbf) (Zab Zbf) .none Zm2 ZmF Znk Zma Zht Zmx),Zw2⟩)
  (Zf6:PySem.W.codeIn K Zht "Or.looseness" = true)
  (Zd0:PySem.W.keepIn K (.ref ZbG)=true)
  (Zjz:PySem.W.isFn K (.ref ZbG)=true)
  (Zi3:K.lookup ZcE=some ⟨Zzm,ZzA,.func (PySem.W.fnOf "between" "Or.between" (Zaj ZbM) (Zai ZbM) (Zab ZbM) .none ZqW Zqz ZrC ZpY ZkC Zqi),ZAf⟩)
  (Zit:PySem.W.codeIn K ZkC "Or.between" = true)
  (Zgp:PySem.W.keepIn K (.ref ZcE)=true)
  (ZmW:PySem.W.isFn K (.ref ZcE)=true)
  (Zi2:K.lookup ZcD=some ⟨Zzl,Zzz,.func (PySem.W.fnOf "__init__" "Level.__init__" (Zaj ZbL) (Zai ZbL) (Zab ZbL) .none ZqV Zqy ZrB ZpX ZkB Zqh),ZAe⟩)
  (Zis:PySem.W.codeIn K ZkB "Level.__init__" = true)
  (ZiR:PySem.W.keepIn K (.ref ZcD)=true)
  (ZmV:PySem.W.isFn K (.ref ZcD)=true)
  (ZdR:K.lookup Zba=some ⟨Zrm,Zrp,.func (PySem.W.fnOf "take_part" "Level.take_part" (Zaj ZaU) (Zai ZaU) (Zab ZaU) .none ZiP ZiK Zjh Zil Ze1 ZiF),ZrX⟩)
  (ZdM:PySem.W.codeIn K Ze1 "Level.take_part" = true)
  (Zcs:PySem.W.keepIn K (.ref Zba)=true)
  (ZfU:PySem.W.isFn K (.ref Zba)=true)
  (ZdQ:K.lookup Za9=some ⟨Zrl,Zro,.func (PySem.W.fnOf "take_join" "Level.take_join" (Zaj ZaT) (Zai ZaT) (Zab ZaT) .none ZiO ZiJ Zjg Zik Ze0 ZiE),ZrW⟩)
  (ZdL:PySem.W.codeIn K Ze0 "Level.take_join" = true)
  (Zcr:PySem.W.keepIn K (.ref Za9)=true)
  (ZfT:PySem.W.isFn K (.ref Za9)=true)
  (ZdS:K.lookup Zbb=some ⟨Zrn,Zrq,.func (PySem.W.fnOf "take_word" "Level.take_word" (Zaj ZaV) (Zai ZaV) (Zab ZaV) .none ZiQ ZiL Zji Zim Ze2 ZiG),ZrY⟩)
  (ZdN:PySem.W.codeIn K Ze2 "Level.take_word" = true)
  (Zct:PySem.W.keepIn K (.ref Zbb)=true)
  (ZfV:PySem.W.isFn K (.ref Zbb)=true)
  (Zhf:K.lookup Zb2=some ⟨Zxt,Zxx,.func (PySem.W.fnOf "whole" "Level.whole" (Zaj Zbv) (Zai Zbv) (Zab Zbv) .none ZoI ZoD ZoO Zol Zjp Zot),ZxK⟩)
  (Zg9:PySem.W.codeIn K Zjp "Level.whole" = true)
  (Ze7:PySem.W.keepIn K (.ref Zb2)=true)
  (ZkV:PySem.W.isFn K (.ref Zb2)=true)
  (ZzS:PySem.W.plainGet K ZaB Str.empty=true)
  (Zy2:PySem.W.hasDictIn K ZaB=true)
  (ZzX:PySem.W.plainOver K ZaB=true)
  (Zz5:PySem.W.findIn K (.ref ZaB) "__setattr__" = some (some (.builtin "object.__setattr__")))
  (ZDa:PySem.W.keepIn K (.ref ZaB)=true)
  (ZC1:PySem.W.findIn K (.ref ZaB) "__class__" = some (some (.builtin "object.__class__")))
  (ZC4:PySem.W.mroIn K ZaB (.type "object")=some true)
  (ZDh:PySem.W.makesIn K ZaB=true)
  (ZdI:PySem.W.findIn K (.ref ZaB) "guard" = some none)
  (Zce:PySem.W.findIn K (.ref ZaB) "changes" = some none)
  (ZgF:PySem.W.findIn K (.ref ZaB) "names" = some none)
  (Zfu:PySem.W.findIn K (.ref ZaB) "starts" = some none)
  (ZhX:PySem.W.findIn K (.ref ZaB) "bads" = some none)
  (ZgE:PySem.W.findIn K (.ref ZaB) "moves" = some none)
  (Zm9:PySem.W.findIn K (.ref ZaB) "at" = some none)
  (ZgH:PySem.W.findIn K (.ref ZaB) "truth" = some none)
  (ZhZ:PySem.W.findIn K (.ref ZaB) "part" = some none)
  (ZgG:PySem.W.findIn K (.ref ZaB) "parts" = some none)
  (ZhY:PySem.W.findIn K (.ref ZaB) "nots" = some none)
  (ZhW:PySem.W.findIn K (.ref ZaB) "ands" = some none)
  (Zel:PySem.W.findIn K (.ref ZaB) "eithers" = some none)
  (Zj4:PySem.W.findIn K (.ref ZaB) "ors" = some none)
  (Zem:PySem.W.findIn K (.ref ZaB) "lacking" = some none)
  (Zn0:PySem.W.plainGet K Zal Str.empty=true)
  (ZnO:PySem.W.hasDictIn K Zal=true)
  (Zn2:PySem.W.plainOver K Zal=true)
  (Zn4:PySem.W.findIn K (.ref Zal) "__setattr__" = some (some (.builtin "object.__setattr__")))
  (Zsr:PySem.W.keepIn K (.ref Zal)=true)
  (Zsl:PySem.W.findIn K (.ref Zal) "__class__" = some (some (.builtin "object.__class__")))
  (Zsn:PySem.W.mroIn K Zal (.type "object")=some true)
  (Zss:PySem.W.makesIn K Zal=true)
  (ZdF:PySem.W.findIn K (.ref Zal) "guard" = some none)
  (Zcx:PySem.W.findIn K (.ref Zal) "changes" = some none)
  (ZbY:PySem.W.findIn K (.ref Zal) "names" = some none)
  (ZbC:PySem.W.findIn K (.ref Zal) "starts" = some none)
  (Zcd:PySem.W.findIn K (.ref Zal) "bads" = some none)
  (ZbX:PySem.W.findIn K (.ref Zal) "moves" = some none)
  (ZgD:PySem.W.findIn K (.ref Zal) "at" = some none)
  (ZdH:PySem.W.findIn K (.ref Zal) "truth" = some none)
  (Zek:PySem.W.findIn K (.ref Zal) "part" = some none)
  (ZdG:PySem.W.findIn K (.ref Zal) "parts" = some none)
  (Zej:PySem.W.findIn K (.ref Zal) "nots" = some none)
  (Zei:PySem.W.findIn K (.ref Zal) "ands" = some none)
  (Zcy:PySem.W.findIn K (.ref Zal) "eithers" = some none)
  (Zft:PySem.W.findIn K (.ref Zal) "ors" = some none)
  (Zcz:PySem.W.findIn K (.ref Zal) "lacking" = some none)
  (ZnZ:PySem.W.plainGet K Zap Str.empty=true)
  (ZnN:PySem.W.hasDictIn K Zap=true)
  (Zn1:PySem.W.plainOver K Zap=true)
  (Zn3:PySem.W.findIn K (.ref Zap) "__setattr__" = some (some (.builtin "object.__setattr__")))
  (Zyk:PySem.W.keepIn K (.ref Zap)=true)
  (Zsk:PySem.W.findIn K (.ref Zap) "__class__" = some (some (.builtin "object.__class__")))
  (Zsm:PySem.W.mroIn K Zap (.type "object")=some true)
  (Zdx:PySem.W.findIn K (.ref Zap) "guard" = some none)
  (Zcu:PySem.W.findIn K (.ref Zap) "changes" = some none)
  (Zdz:PySem.W.findIn K (.ref Zap) "names" = some none)
  (ZcW:PySem.W.findIn K (.ref Zap) "starts" = some none)
  (Zd6:PySem.W.findIn K (.ref Zap) "bads" = some none)
  (Zdy:PySem.W.findIn K (.ref Zap) "moves" = some none)
  (Zgu:PySem.W.findIn K (.ref Zap) "at" = some none)
  (ZdB:PySem.W.findIn K (.ref Zap) "truth" = some none)
  (Zd8:PySem.W.findIn K (.ref Zap) "part" = some none)
  (ZdA:PySem.W.findIn K (.ref Zap) "parts" = some none)
  (Zd7:PySem.W.findIn K (.ref Zap) "nots" = some none)
  (Zd5:PySem.W.findIn K (.ref Zap) "ands" = some none)
  (Zcv:PySem.W.findIn K (.ref Zap) "eithers" = some none)
  (Zfi:PySem.W.findIn K (.ref Zap) "ors" = some none)
  (Zcw:PySem.W.findIn K (.ref Zap) "lacking" = some none)
  (ZzR:PySem.W.plainGet K Zax Str.empty=true)
  (Zy1:PySem.W.hasDictIn K Zax=true)
  (ZzW:PySem.W.plainOver K Zax=true)
  (Zz4:PySem.W.findIn K (.ref Zax) "__setattr__" = some (some (.builtin "object.__setattr__")))
  (ZC9:PySem.W.keepIn K (.ref Zax)=true)
  (ZC0:PySem.W.findIn K (.ref Zax) "__class__" = some (some (.builtin "object.__class__")))
  (ZC3:PySem.W.mroIn K Zax (.type "object")=some true)
  (ZDg:PySem.W.makesIn K Zax=true)
  (Zgw:PySem.W.findIn K (.ref Zax) "guard" = some none)
  (Zee:PySem.W.findIn K (.ref Zax) "changes" = some none)
  (Zgy:PySem.W.findIn K (.ref Zax) "names" = some none)
  (Zfn:PySem.W.findIn K (.ref Zax) "starts" = some none)
  (ZhT:PySem.W.findIn K (.ref Zax) "bads" = some none)
  (Zgx:PySem.W.findIn K (.ref Zax) "moves" = some none)
  (ZhS:PySem.W.findIn K (.ref Zax) "at" = some none)
  (ZgA:PySem.W.findIn K (.ref Zax) "truth" = some none)
  (ZhV:PySem.W.findIn K (.ref Zax) "part" = some none)
  (Zgz:PySem.W.findIn K (.ref Zax) "parts" = some none)
  (ZhU:PySem.W.findIn K (.ref Zax) "nots" = some none)
  (ZhR:PySem.W.findIn K (.ref Zax) "ands" = some none)
  (Zef:PySem.W.findIn K (.ref Zax) "eithers" = some none)
  (Zj2:PySem.W.findIn K (.ref Zax) "ors" = some none)
  (Zeg:PySem.W.findIn K (.ref Zax) "lacking" = some none)
  (ZzT:PySem.W.plainGet K Zay Str.empty=true)
  (Zy3:PySem.W.hasDictIn K Zay=true)
  (ZzY:PySem.W.plainOver K Zay=true)
  (Zz6:PySem.W.findIn K (.ref Zay) "__setattr__" = some (some (.builtin "object.__setattr__")))
  (ZDb:PySem.W.keepIn K (.ref Zay)=true)
  (ZC2:PySem.W.findIn K (.ref Zay) "__class__" = some (some (.builtin "object.__class__")))
  (ZC5:PySem.W.mroIn K Zay (.type "object")=some true)
  (ZDi:PySem.W.makesIn K Zay=true)
  (ZgM:PySem.W.findIn K (.ref Zay) "guard" = some none)
  (Zen:PySem.W.findIn K (.ref Zay) "changes" = some none)
  (ZgO:PySem.W.findIn K (.ref Zay) "names" = some none)
  (Zfy:PySem.W.findIn K (.ref Zay) "starts" = some none)
  (Zh7:PySem.W.findIn K (.ref Zay) "bads" = some none)
  (ZgN:PySem.W.findIn K (.ref Zay) "moves" = some none)
  (Znf:PySem.W.findIn K (.ref Zay) "at" = some none)
  (ZdJ:PySem.W.findIn K (.ref Zay) "truth" = some none)
  (Zh9:PySem.W.findIn K (.ref Zay) "part" = some none)
  (ZgP:PySem.W.findIn K (.ref Zay) "parts" = some none)
  (Zh8:PySem.W.findIn K (.ref Zay) "nots" = some none)
  (Zh6:PySem.W.findIn K (.ref Zay) "ands" = some none)
  (Zeo:PySem.W.findIn K (.ref Zay) "eithers" = some none)
  (Zkc:PySem.W.findIn K (.ref Zay) "ors" = some none)
  (Zep:PySem.W.findIn K (.ref Zay) "lacking" = some none)
  (ZEG:PySem.W.plainGet K C_Not Str.empty=true)
  (ZEc:PySem.W.hasDictIn K C_Not=true)
  (ZEL:PySem.W.plainOver K C_Not=true)
  (ZER:PySem.W.findIn K (.ref C_Not) "__setattr__" = some (some (.builtin "object.__setattr__")))
  (ZGE:PySem.W.keepIn K (.ref C_Not)=true)
  (ZGj:PySem.W.findIn K (.ref C_Not) "__class__" = some (some (.builtin "object.__class__")))
  (ZGn:PySem.W.mroIn K C_Not (.type "object")=some true)
  (ZGT:PySem.W.makesIn K C_Not=true)
  (Zh0:PySem.W.findIn K (.ref C_Not) "guard" = some none)
  (Zfv:PySem.W.findIn K (.ref C_Not) "changes" = some none)
  (Zh2:PySem.W.findIn K (.ref C_Not) "names" = some none)
  (ZgI:PySem.W.findIn K (.ref C_Not) "starts" = some none)
  (Zj6:PySem.W.findIn K (.ref C_Not) "bads" = some none)
  (Zh1:PySem.W.findIn K (.ref C_Not) "moves" = some none)
  (Zrj:PySem.W.findIn K (.ref C_Not) "at" = some none)
  (Zh4:PySem.W.findIn K (.ref C_Not) "truth" = some none)
  (ZeT:PySem.W.findIn K (.ref C_Not) "part" = some none)
  (Zh3:PySem.W.findIn K (.ref C_Not) "parts" = some none)
  (Zj7:PySem.W.findIn K (.ref C_Not) "nots" = some none)
  (Zj5:PySem.W.findIn K (.ref C_Not) "ands" = some none)
  (Zfw:PySem.W.findIn K (.ref C_Not) "eithers" = some none)
  (Zna:PySem.W.findIn K (.ref C_Not) "ors" = some none)
  (Zfx:PySem.W.findIn K (.ref C_Not) "lacking" = some none)
  (Zry:PySem.W.plainGet K Zaq Str.empty=true)
  (ZqP:PySem.W.hasDictIn K Zaq=true)
  (ZrO:PySem.W.plainOver K Zaq=true)
  (ZrR:PySem.W.findIn K (.ref Zaq) "__setattr__" = some (some (.builtin "object.__setattr__")))
  (Zwg:PySem.W.keepIn K (.ref Zaq)=true)
  (Zv3:PySem.W.findIn K (.ref Zaq) "__class__" = some (some (.builtin "object.__class__")))
  (Zv5:PySem.W.mroIn K Zaq (.type "object")=some true)
  (Zww:PySem.W.makesIn K Zaq=true)
  (Zd9:PySem.W.findIn K (.ref Zaq) "guard" = some none)
  (ZcX:PySem.W.findIn K (.ref Zaq) "changes" = some none)
  (Zeb:PySem.W.findIn K (.ref Zaq) "names" = some none)
  (ZdC:PySem.W.findIn K (.ref Zaq) "starts" = some none)
  (Zfk:PySem.W.findIn K (.ref Zaq) "bads" = some none)
  (Zea:PySem.W.findIn K (.ref Zaq) "moves" = some none)
  (ZhQ:PySem.W.findIn K (.ref Zaq) "at" = some none)
  (Zed:PySem.W.findIn K (.ref Zaq) "truth" = some none)
  (Zfm:PySem.W.findIn K (.ref Zaq) "part" = some none)
  (Zec:PySem.W.findIn K (.ref Zaq) "parts" = some none)
  (Zfl:PySem.W.findIn K (.ref Zaq) "nots" = some none)
  (Zfj:PySem.W.findIn K (.ref Zaq) "ands" = some none)
  (ZcY:PySem.W.findIn K (.ref Zaq) "eithers" = some none)
  (Zgv:PySem.W.findIn K (.ref Zaq) "ors" = some none)
  (ZcZ:PySem.W.findIn K (.ref Zaq) "lacking" = some none)
  (ZEF:PySem.W.plainGet K C_And Str.empty=true)
  (ZEb:PySem.W.hasDictIn K C_And=true)
  (ZEK:PySem.W.plainOver K C_And=true)
  (ZEQ:PySem.W.findIn K (.ref C_And) "__setattr__" = some (some (.builtin "object.__setattr__")))
  (ZGD:PySem.W.keepIn K (.ref C_And)=true)
  (ZGi:PySem.W.findIn K (.ref C_And) "__class__" = some (some (.builtin "object.__class__")))
  (ZGm:PySem.W.mroIn K C_And (.type "object")=some true)
  (ZGS:PySem.W.makesIn K C_And=true)
  (ZhL:PySem.W.findIn K (.ref C_And) "guard" = some none)
  (Zfb:PySem.W.findIn K (.ref C_And) "changes" = some none)
  (ZhN:PySem.W.findIn K (.ref C_And) "names" = some none)
  (Zgs:PySem.W.findIn K (.ref C_And) "starts" = some none)
  (ZjZ:PySem.W.findIn K (.ref C_And) "bads" = some none)
  (ZhM:PySem.W.findIn K (.ref C_And) "moves" = some none)
  (Zri:PySem.W.findIn K (.ref C_And) "at" = some none)
  (ZhO:PySem.W.findIn K (.ref C_And) "truth" = some none)
  (Zj1:PySem.W.findIn K (.ref C_And) "part" = some none)
  (ZeN:PySem.W.findIn K (.ref C_And) "parts" = some none)
  (Zj0:PySem.W.findIn K (.ref C_And) "nots" = some none)
  (ZjY:PySem.W.findIn K (.ref C_And) "ands" = some none)
  (Zfc:PySem.W.findIn K (.ref C_And) "eithers" = some none)
  (Zm8:PySem.W.findIn K (.ref C_And) "ors" = some none)
  (Zfd:PySem.W.findIn K (.ref C_And) "lacking" = some none)
  (Zrx:PySem.W.plainGet K Zan Str.empty=true)
  (ZqO:PySem.W.hasDictIn K Zan=true)
  (ZrN:PySem.W.plainOver K Zan=true)
  (ZrQ:PySem.W.findIn K (.ref Zan) "__setattr__" = some (some (.builtin "object.__setattr__")))
  (Zwf:PySem.W.keepIn K (.ref Zan)=true)
  (Zv2:PySem.W.findIn K (.ref Zan) "__class__" = some (some (.builtin "object.__class__")))
  (Zv4:PySem.W.mroIn K Zan (.type "object")=some true)
  (Zwv:PySem.W.makesIn K Zan=true)
  (Zd1:PySem.W.findIn K (.ref Zan) "guard" = some none)
  (ZcT:PySem.W.findIn K (.ref Zan) "changes" = some none)
  (Zd3:PySem.W.findIn K (.ref Zan) "names" = some none)
  (Zdw:PySem.W.findIn K (.ref Zan) "starts" = some none)
  (Zff:PySem.W.findIn K (.ref Zan) "bads" = some none)
  (Zd2:PySem.W.findIn K (.ref Zan) "moves" = some none)
  (ZhP:PySem.W.findIn K (.ref Zan) "at" = some none)
  (Zd4:PySem.W.findIn K (.ref Zan) "truth" = some none)
  (Zfh:PySem.W.findIn K (.ref Zan) "part" = some none)
  (Zcc:PySem.W.findIn K (.ref Zan) "parts" = some none)
  (Zfg:PySem.W.findIn K (.ref Zan) "nots" = some none)
  (Zfe:PySem.W.findIn K (.ref Zan) "ands" = some none)
  (ZcU:PySem.W.findIn K (.ref Zan) "eithers" = some none)
  (Zgt:PySem.W.findIn K (.ref Zan) "ors" = some none)
  (ZcV:PySem.W.findIn K (.ref Zan) "lacking" = some none)
  (pg_Or:PySem.W.plainGet K C_Or Str.empty=true)
  (hd_Or:PySem.W.hasDictIn K C_Or=true)
  (po_Or:PySem.W.plainOver K C_Or=true)
  (sa_Or:PySem.W.findIn K (.ref C_Or) "__setattr__" = some (some (.builtin "object.__setattr__")))
  (kc_Or:PySem.W.keepIn K (.ref C_Or)=true)
  (ha_Or:PySem.W.findIn K (.ref C_Or) "__class__" = some (some (.builtin "object.__class__")))
  (hm_Or:PySem.W.mroIn K C_Or (.type "object")=some true)
  (mk_Or:PySem.W.makesIn K C_Or=true)
  (Zj8:PySem.W.findIn K (.ref C_Or) "guard" = some none)
  (ZgJ:PySem.W.findIn K (.ref C_Or) "changes" = some none)
  (Zka:PySem.W.findIn K (.ref C_Or) "names" = some none)
  (Zh5:PySem.W.findIn K (.ref C_Or) "starts" = some none)
  (Znc:PySem.W.findIn K (.ref C_Or) "bads" = some none)
  (Zj9:PySem.W.findIn K (.ref C_Or) "moves" = some none)
  (Zwy:PySem.W.findIn K (.ref C_Or) "at" = some none)
  (Zkb:PySem.W.findIn K (.ref C_Or) "truth" = some none)
  (Zne:PySem.W.findIn K (.ref C_Or) "part" = some none)
  (ZfY:PySem.W.findIn K (.ref C_Or) "parts" = some none)
  (Znd:PySem.W.findIn K (.ref C_Or) "nots" = some none)
  (Znb:PySem.W.findIn K (.ref C_Or) "ands" = some none)
  (ZgK:PySem.W.findIn K (.ref C_Or) "eithers" = some none)
  (Zrk:PySem.W.findIn K (.ref C_Or) "ors" = some none)
  (ZgL:PySem.W.findIn K (.ref C_Or) "lacking" = some none)
  (ZuZ:PySem.W.plainGet K Zar Str.empty=true)
  (ZuS:PySem.W.hasDictIn K Zar=true)
  (Zu0:PySem.W.plainOver K Zar=true)
  (Zu1:PySem.W.findIn K (.ref Zar) "__setattr__" = some (some (.builtin "object.__setattr__")))
  (Zza:PySem.W.keepIn K (.ref Zar)=true)
  (Zy0:PySem.W.findIn K (.ref Zar) "__class__" = some (some (.builtin "object.__class__")))
  (Zy4:PySem.W.mroIn K Zar (.type "object")=some true)
  (Zzf:PySem.W.makesIn K Zar=true)
  (Zfo:PySem.W.findIn K (.ref Zar) "guard" = some none)
  (ZdD:PySem.W.findIn K (.ref Zar) "changes" = some none)
  (Zfq:PySem.W.findIn K (.ref Zar) "names" = some none)
  (Zeh:PySem.W.findIn K (.ref Zar) "starts" = some none)
  (ZgB:PySem.W.findIn K (.ref Zar) "bads" = some none)
  (Zfp:PySem.W.findIn K (.ref Zar) "moves" = some none)
  (Zj3:PySem.W.findIn K (.ref Zar) "at" = some none)
  (Zfs:PySem.W.findIn K (.ref Zar) "truth" = some none)
  (ZgC:PySem.W.findIn K (.ref Zar) "part" = some none)
  (Zfr:PySem.W.findIn K (.ref Zar) "parts" = some none)
  (ZbJ:PySem.W.findIn K (.ref Zar) "nots" = some none)
  (Zb4:PySem.W.findIn K (.ref Zar) "ands" = some none)
  (Zbj:PySem.W.findIn K (.ref Zar) "eithers" = some none)
  (ZdE:PySem.W.findIn K (.ref Zar) "ors" = some none)
  (ZaE:PySem.W.findIn K (.ref Zar) "lacking" = some none)
  (nd_:[ZaB,Zal,Zap,Zax,Zay,C_Not,Zaq,C_And,Zan,C_Or,Zar].Nodup)
  (hn_:PySem.W.specialIn K (.builtin "object.__class__") "__get__" = some (some (.builtin "getset_descriptor.__get__")))
  (htk_:PySem.W.takesIn K (.builtin "object.__class__")=some true)
  (b_len:PySem.W.nsIn K mainGlobals "len" = some none)
  (b_range:PySem.W.nsIn K mainGlobals "range" = some none)
  (b_isinstance:PySem.W.nsIn K mainGlobals "isinstance" = some none)
  (b_int:PySem.W.nsIn K mainGlobals "int" = some none)
  (b_bool:PySem.W.nsIn K mainGlobals "bool" = some none)
  (b_str:PySem.W.nsIn K mainGlobals "str" = some none)
  (b_list:PySem.W.nsIn K mainGlobals "list" = some none)
  (b_tuple:PySem.W.nsIn K mainGlobals "tuple" = some none)
  (b_dict:PySem.W.nsIn K mainGlobals "dict" = some none)
  (b_set:PySem.W.nsIn K mainGlobals "set" = some none)
  (b_sorted:PySem.W.nsIn K mainGlobals "sorted" = some none)
  (b_max:PySem.W.nsIn K mainGlobals "max" = some none)
  (b_min:PySem.W.nsIn K mainGlobals "min" = some none)
  (b_sum:PySem.W.nsIn K mainGlobals "sum" = some none)
  (b_any:PySem.W.nsIn K mainGlobals "any" = some none)
  (b_all:PySem.W.nsIn K mainGlobals "all" = some none)
  (b_abs:PySem.W.nsIn K mainGlobals "abs" = some none)
  (b_reversed:PySem.W.nsIn K mainGlobals "reversed" = some none)
  (b_enumerate:PySem.W.nsIn K mainGlobals "enumerate" = some none)
  (b_zip:PySem.W.nsIn K mainGlobals "zip" = some none)
  (g_LETTERS:PySem.W.nsIn K mainGlobals "LETTERS" = some (some (.str "abcdefghijklmnopqrstuvwxyz" tk_LETTERS)))
  (g_MARKS:PySem.W.nsIn K mainGlobals "MARKS" = some (some (.str "()," tk_MARKS)))
  (g_BLANK:PySem.W.nsIn K mainGlobals "BLANK" = some (some (.str " " tk_BLANK)))
  (g_MOST_LAMPS:PySem.W.nsIn K mainGlobals "MOST_LAMPS" = some (some (.int 6 tk_MOST_LAMPS)))
  (g_LONGEST_NAME:PySem.W.nsIn K mainGlobals "LONGEST_NAME" = some (some (.int 8 tk_LONGEST_NAME)))
  (g_JOINS:PySem.W.nsIn K mainGlobals "JOINS" = some (some (.ref v_JOINS)))
  (lk_JOINS:K.lookup v_JOINS=some ⟨.type "tuple",od_JOINS,.seq #[.str "and" tk_JOINS_0,.str "either" tk_JOINS_1,.str "or" tk_JOINS_2] nn_JOINS,sl_JOINS⟩)
  (g_NO_NAMES:PySem.W.nsIn K mainGlobals "NO_NAMES" = some (some (.ref v_NO_NAMES)))
  (lk_NO_NAMES:K.lookup v_NO_NAMES=some ⟨.type "tuple",od_NO_NAMES,.seq #[.str "and" tk_NO_NAMES_0,.str "or" tk_NO_NAMES_1,.str "not" tk_NO_NAMES_2,.str "either" tk_NO_NAMES_3,.str "yes" tk_NO_NAMES_4,.str "no" tk_NO_NAMES_5,.str "then" tk_NO_NAMES_6,.str "is" tk_NO_NAMES_7,.str "(" tk_NO_NAMES_8,.str ")" tk_NO_NAMES_9,.str "," tk_NO_NAMES_10] nn_NO_NAMES,sl_NO_NAMES⟩)
  (g_SORTS:PySem.W.nsIn K mainGlobals "SORTS" = some (some (.ref v_SORTS)))
  (lk_SORTS:K.lookup v_SORTS=some ⟨.type "tuple",od_SORTS,.seq #[.str "start" tk_SORTS_0,.str "bad" tk_SORTS_1,.str "move" tk_SORTS_2] nn_SORTS,sl_SORTS⟩)
  : ∃ t:Ad,Txt K mg t:=by
 refine ⟨⟨ZeK,PySem.W.fnOf "bracketed" "bracketed" (Zaj Zco) (Zai Zco) (Zab Zco) .none Zt5 ZtR Zus Zs4 Zmr Ztq,Zpr,PySem.W.fnOf "words" "words" (Zaj ZjB) (Zai ZjB) (Zab ZjB) .none ZEn ZD7 ZEJ ZDR ZyZ ZD2,ZkS,PySem.W.fnOf "and_of" "and_of" (Zaj Zgk) (Zai Zgk) (Zab Zgk) .none ZBq ZBb ZB9 ZAS Zvy ZA7,ZeL,PySem.W.fnOf "either_of" "either_of" (Zaj Zcp) (Zai Zcp) (Zab Zcp) .none Zt6 ZtS Zut Zs5 Zms Ztr,Zpq,PySem.W.fnOf "or_of" "or_of" (Zaj ZjA) (Zai ZjA) (Zab ZjA) .none ZEm ZD6 ZEI ZDQ ZyY ZD1,ZkT,PySem.W.fnOf "single" "single" (Zaj Zgl) (Zai Zgl) (Zab Zgl) .none ZBr ZBc ZCa ZAT Zvz ZA8,Zdt,PySem.W.fnOf "formula_in" "formula_in" (Zaj ZbT) (Zai ZbT) (Zab ZbT) .none Zq5 ZqI ZrL Zp7 ZkL Zqr,Zca,PySem.W.fnOf "written_move" "written_move" (Zaj Zbh) (Zai Zbh) (Zab Zbh) .none Zm4 ZmH Znm Zmc Zhv Zmz,ZhE,PySem.W.fnOf "written" "written" (Zaj Zeu) (Zai Zeu) (Zab Zeu) .none Zyj Zyd ZyA ZxY Zsc Zx7,ZbW,PySem.W.fnOf "words_of_line" "words_of_line" (Zaj Za7) (Zai Za7) (Zab Za7) .none ZlJ ZlE ZlN Zlw ZgV ZlA,Zbi,PySem.W.fnOf "parted_by_commas" "parted_by_commas" (Zaj ZaN) (Zai ZaN) (Zab ZaN) .none ZhI ZhA Zid Zhp ZeD Zhx,ZeM,PySem.W.fnOf "pieces_in" "pieces_in" (Zaj Zcq) (Zai Zcq) (Zab Zcq) .none Zt7 ZtT Zuu Zs6 Zmt Zts,ZcM,PySem.W.fnOf "check_lamps" "check_lamps" (Zaj Zbw) (Zai Zbw) (Zab Zbw) .none ZoJ ZoE ZoP Zom Zjq Zou,Zds,PySem.W.fnOf "check_move" "check_move" (Zaj ZbS) (Zai ZbS) (Zab ZbS) .none Zq4 ZqH ZrK Zp6 ZkK Zqq,Zdr,PySem.W.fnOf "check_form" "check_form" (Zaj ZbR) (Zai ZbR) (Zab ZbR) .none Zq3 ZqG ZrJ Zp5 ZkJ Zqp,ZfR,PySem.W.fnOf "names_in" "names_in" (Zaj Zc4) (Zai Zc4) (Zab Zc4) .none Zwd ZvU ZwQ Zvm Zpg ZvC,ZfQ,PySem.W.fnOf "lamps_in" "lamps_in" (Zaj Zc3) (Zai Zc3) (Zab Zc3) .none Zwc ZvT ZwP Zvl Zpf ZvB,ZhD,PySem.W.fnOf "move_in" "move_in" (Zaj Zet) (Zai Zet) (Zab Zet) .none Zyi Zyc Zyz ZxX Zsb Zx6,ZfS,PySem.W.fnOf "thing_in" "thing_in" (Zaj Zc5) (Zai Zc5) (Zab Zc5) .none Zwe ZvV ZwR Zvn Zph ZvD,ZbB,PySem.W.fnOf "names_of_first" "names_of_first" (Zaj Za3) (Zai Za3) (Zab Za3) .none ZjX ZjQ Zkf ZjG ZfM ZjL,Zdu,PySem.W.fnOf "machine_of" "machine_of" (Zaj ZbU) (Zai ZbU) (Zab ZbU) .none Zq6 ZqJ ZrM Zp8 ZkM Zqs,Zb9,PySem.W.fnOf "_law_cell_at" "_law_cell_at" (Zaj Zbg) (Zai Zbg) (Zab Zbg) .none Zm3 ZmG Znl Zmb Zhu Zmy,Zdq,PySem.W.fnOf "_law_names" "_law_names" (Zaj ZbQ) (Zai ZbQ) (Zab ZbQ) .none Zq2 ZqF ZrI Zp4 ZkI Zqo,Zdn,PySem.W.fnOf "_law_grown" "_law_grown" (Zaj ZbO) (Zai ZbO) (Zab ZbO) .none ZqZ ZqC ZrF Zp1 ZkF Zql,ZeI,PySem.W.fnOf "_law_slot" "_law_slot" (Zaj Zcm) (Zai Zcm) (Zab Zcm) .none Zt3 ZtP Zuq Zs2 Zmp Zto,ZeF,PySem.W.fnOf "_law_made" "_law_made" (Zaj Zcj) (Zai Zcj) (Zab Zcj) .none Zt0 ZtM Zun ZsZ Zmm Ztl,ZeG,PySem.W.fnOf "_law_rank" "_law_rank" (Zaj Zck) (Zai Zck) (Zab Zck) .none Zt1 ZtN Zuo Zs0 Zmn Ztm,ZeJ,PySem.W.fnOf "_law_text" "_law_text" (Zaj Zcn) (Zai Zcn) (Zab Zcn) .none Zt4 ZtQ Zur Zs3 Zmq Ztp,Zdp,PySem.W.fnOf "_law_moves" "_law_moves" (Zaj ZbP) (Zai ZbP) (Zab ZbP) .none Zq1 ZqE ZrH Zp3 ZkH Zqn,Zdo,PySem.W.fnOf "_law_lines" "_law_lines" (Zaj ZbA) (Zai ZbA) (Zab ZbA) .none Zq0 ZqD ZrG Zp2 ZkG Zqm,ZeH,PySem.W.fnOf "_law_same" "_law_same" (Zaj Zcl) (Zai Zcl) (Zab Zcl) .none Zt2 ZtO Zup Zs1 Zmo Ztn,f_law,PySem.W.fnOf "law" "law" (Zaj ZpK) (Zai ZpK) (Zab ZpK) .none ZJI ZJj ZJX ZJg ZFY ZJi,Zdj,PySem.W.fnOf "__init__" "Move.__init__" (Zaj Zcg) (Zai Zcg) (Zab Zcg) .none ZtW ZtI Zuj ZsV Zmi Zth,ZbF,PySem.W.fnOf "__init__" "Machine.__init__" (Zaj Zbe) (Zai Zbe) (Zab Zbe) .none Zm1 ZmE Znj Zl9 Zhs Zmw,Zat,PySem.W.fnOf "looseness" "Formula.looseness" (Zaj ZaH) (Zai ZaH) (Zab ZaH) .none Zg4 Zg3 Zg5 Zg0 ZdW Zg2,Zdi,PySem.W.fnOf "__init__" "Lamp.__init__" (Zaj Zcf) (Zai Zcf) (Zab Zcf) .none ZtV ZtH Zui ZsU Zmh Ztg,ZcB,PySem.W.fnOf "lamps" "Lamp.lamps" (Zaj Zb6) (Zai Zb6) (Zab Zb6) .none ZqT Zqw Zrz ZpV Zkz Zqf,ZcC,PySem.W.fnOf "shown" "Lamp.shown" (Zaj ZbK) (Zai ZbK) (Zab ZbK) .none ZqU Zqx ZrA ZpW ZkA Zqg,Zdm,PySem.W.fnOf "__init__" "Sure.__init__" (Zaj Zci) (Zai Zci) (Zab Zci) .none ZtZ ZtL Zum ZsY Zml Ztk,ZcF,PySem.W.fnOf "lamps" "Sure.lamps" (Zaj Zb7) (Zai Zb7) (Zab Zb7) .none ZqX ZqA ZrD ZpZ ZkD Zqj,ZcG,PySem.W.fnOf "shown" "Sure.shown" (Zaj ZbN) (Zai ZbN) (Zab ZbN) .none ZqY ZqB ZrE Zp0 ZkE Zqk,ZeR,PySem.W.fnOf "__init__" "Not.__init__" (Zaj Zc2) (Zai Zc2) (Zab Zc2) .none Zwb ZvS ZwO Zvk Zpe ZvA,Zdk,PySem.W.fnOf "lamps" "Not.lamps" (Zaj ZcP) (Zai ZcP) (Zab ZcP) .none ZtX ZtJ Zuk ZsW Zmj Zti,Zdl,PySem.W.fnOf "shown" "Not.shown" (Zaj Zch) (Zai Zch) (Zab Zch) .none ZtY ZtK Zul ZsX Zmk Ztj,ZaO,PySem.W.fnOf "__init__" "Joined.__init__" (Zaj Zbt) (Zai Zbt) (Zab Zbt) .none ZoH ZoC ZoN Zok Zjo Zos,ZaL,PySem.W.fnOf "lamps" "Joined.lamps" (Zaj Zbu) (Zai Zbu) (Zab Zbu) .none ZmZ ZmC Znh Zl7 Zhq Zmu,ZaG,PySem.W.fnOf "shown" "Joined.shown" (Zaj Zbd) (Zai Zbd) (Zab Zbd) .none Zm0 ZmD Zni Zl8 Zhr Zmv,Zby,PySem.W.fnOf "looseness" "And.looseness" (Zaj Za6) (Zai Za6) (Zab Za6) .none ZlI ZlD ZlM Zlv ZgU Zlz,Zb1,PySem.W.fnOf "between" "And.between" (Zaj Zbs) (Zai Zbs) (Zab Zbs) .none ZoG ZoB ZoM Zoj Zjn Zor,Za4,PySem.W.fnOf "looseness" "Either.looseness" (Zaj ZaM) (Zai ZaM) (Zab ZaM) .none ZhH Zhz Zic Zho ZeC Zhw,Zbk,PySem.W.fnOf "between" "Either.between" (Zaj Za2) (Zai Za2) (Zab Za2) .none ZjW ZjP Zke ZjF ZfL ZjK,ZbG,PySem.W.fnOf "looseness" "Or.looseness" (Zaj Zbf) (Zai Zbf) (Zab Zbf) .none Zm2 ZmF Znk Zma Zht Zmx,ZcE,PySem.W.fnOf "between" "Or.between" (Zaj ZbM) (Zai ZbM) (Zab ZbM) .none ZqW Zqz ZrC ZpY ZkC Zqi,ZcD,PySem.W.fnOf "__init__" "Level.__init__" (Zaj ZbL) (Zai ZbL) (Zab ZbL) .none ZqV Zqy ZrB ZpX ZkB Zqh,Zba,PySem.W.fnOf "take_part" "Level.take_part" (Zaj ZaU) (Zai ZaU) (Zab ZaU) .none ZiP ZiK Zjh Zil Ze1 ZiF,Za9,PySem.W.fnOf "take_join" "Level.take_join" (Zaj ZaT) (Zai ZaT) (Zab ZaT) .none ZiO ZiJ Zjg Zik Ze0 ZiE,Zbb,PySem.W.fnOf "take_word" "Level.take_word" (Zaj ZaV) (Zai ZaV) (Zab ZaV) .none ZiQ ZiL Zji Zim Ze2 ZiG,Zb2,PySem.W.fnOf "whole" "Level.whole" (Zaj Zbv) (Zai Zbv) (Zab Zbv) .none ZoI ZoD ZoO Zol Zjp Zot,ZaB,Zal,Zap,Zax,Zay,C_Not,Zaq,C_And,Zan,C_Or,Zar,Zaw,v_JOINS,v_NO_NAMES,v_SORTS⟩,?_⟩
 exact {
  ZoV:=Zao (st:=Zco) Zli Zkw Zk5,
  Zvv:=(Zao (st:=Zco) Zli Zkw Zk5).binds (ps:=["part","text","bound"]) fun _ _ _ _ _ _ us hl=>match us,hl with | [_,_,_],_=>rfl,
  Zwr:=PySem.W.mg_of X G Zo7,
  ZCM:=Zao (st:=ZjB) Zzc ZyV Zy9,
  ZFR:=(Zao (st:=ZjB) Zzc ZyV Zy9).binds (ps:=["text"]) fun _ _ _ _ _ _ us hl=>match us,hl with | [_],_=>rfl,
  ZGR:=PySem.W.mg_of X G ZCR,
  ZyH:=Zao (st:=Zgk) ZuW ZuO ZuU,
  ZDT:=(Zao (st:=Zgk) ZuW ZuO ZuU).binds (ps:=["parts"]) fun _ _ _ _ _ _ us hl=>match us,hl with | [_],_=>rfl,
  ZEv:=PySem.W.mg_of X G ZyO,
  ZoW:=Zao (st:=Zcp) Zlj Zkx Zk6,
  Zvw:=(Zao (st:=Zcp) Zlj Zkx Zk6).binds (ps:=["parts"]) fun _ _ _ _ _ _ us hl=>match us,hl with | [_],_=>rfl,
  Zws:=PySem.W.mg_of X G Zo8,
  ZCL:=Zao (st:=ZjA) Zzb ZyU Zy8,
  ZFQ:=(Zao (st:=ZjA) Zzb ZyU Zy8).binds (ps:=["parts"]) fun _ _ _ _ _ _ us hl=>match us,hl with | [_],_=>rfl,
  ZGQ:=PySem.W.mg_of X G ZCQ,
  ZyI:=Zao (st:=Zgl) ZuX ZuP ZuV,
  ZDU:=(Zao (st:=Zgl) ZuX ZuP ZuV).binds (ps:=["word","names"]) fun _ _ _ _ _ _ us hl=>match us,hl with | [_,_],_=>rfl,
  ZEw:=PySem.W.mg_of X G ZyP,
  ZlW:=Zao (st:=ZbT) Zjc ZiC ZiY,
  Zte:=(Zao (st:=ZbT) Zjc ZiC ZiY).binds (ps:=["found","names"]) fun _ _ _ _ _ _ us hl=>match us,hl with | [_,_],_=>rfl,
  Zud:=PySem.W.mg_of X G Zl5,
  Zjk:=Zao (st:=Zbh) Zgh Zf8 Zgb,
  Zoq:=(Zao (st:=Zbh) Zgh Zf8 Zgb).binds (ps:=["move","names"]) fun _ _ _ _ _ _ us hl=>match us,hl with | [_,_],_=>rfl,
  ZoL:=PySem.W.mg_of X G Zjm,
  Zva:=Zao (st:=Zeu) Zra Zqe Zq8,
  ZAX:=(Zao (st:=Zeu) Zra Zqe Zq8).binds (ps:=["machine"]) fun _ _ _ _ _ _ us hl=>match us,hl with | [_],_=>rfl,
  ZBy:=PySem.W.mg_of X G Zvj,
  Zhk:=Zao (st:=Za7) Zfa ZeZ Ze8,
  Zmg:=(Zao (st:=Za7) Zfa ZeZ Ze8).binds (ps:=["line"]) fun _ _ _ _ _ _ us hl=>match us,hl with | [_],_=>rfl,
  Zm6:=PySem.W.mg_of X G Zhn,
  ZeV:=Zao (st:=ZaN) Zdd Zda Zdb,
  Zip:=(Zao (st:=ZaN) Zdd Zda Zdb).binds (ps:=["found"]) fun _ _ _ _ _ _ us hl=>match us,hl with | [_],_=>rfl,
  Zjf:=PySem.W.mg_of X G ZeW,
  ZoX:=Zao (st:=Zcq) Zlk Zky Zk7,
  Zvx:=(Zao (st:=Zcq) Zlk Zky Zk7).binds (ps:=["found"]) fun _ _ _ _ _ _ us hl=>match us,hl with | [_],_=>rfl,
  Zwt:=PySem.W.mg_of X G Zo9,
  Zkk:=Zao (st:=Zbw) Zhg Zha Zhc,
  Zqb:=(Zao (st:=Zbw) Zhg Zha Zhc).binds (ps:=["found"]) fun _ _ _ _ _ _ us hl=>match us,hl with | [_],_=>rfl,
  Zrf:=PySem.W.mg_of X G Zkl,
  ZlV:=Zao (st:=ZbS) Zjb ZiB ZiX,
  Ztd:=(Zao (st:=ZbS) Zjb ZiB ZiX).binds (ps:=["found"]) fun _ _ _ _ _ _ us hl=>match us,hl with | [_],_=>rfl,
  Zuc:=PySem.W.mg_of X G Zl4,
  ZlU:=Zao (st:=ZbR) Zja ZiA ZiW,
  Ztc:=(Zao (st:=ZbR) Zja ZiA ZiW).binds (ps:=["found"]) fun _ _ _ _ _ _ us hl=>match us,hl with | [_],_=>rfl,
  Zub:=PySem.W.mg_of X G Zl3,
  Zr5:=Zao (st:=Zc4) ZnV ZnI ZnR,
  Zx1:=(Zao (st:=Zc4) ZnV ZnI ZnR).binds (ps:=["found"]) fun _ _ _ _ _ _ us hl=>match us,hl with | [_],_=>rfl,
  Zyo:=PySem.W.mg_of X G Zr8,
  Zr4:=Zao (st:=Zc3) ZnU ZnH ZnQ,
  Zx0:=(Zao (st:=Zc3) ZnU ZnH ZnQ).binds (ps:=["pieces","names"]) fun _ _ _ _ _ _ us hl=>match us,hl with | [_,_],_=>rfl,
  Zyn:=PySem.W.mg_of X G Zr7,
  Zu9:=Zao (st:=Zet) Zq9 Zqd Zq7,
  ZAW:=(Zao (st:=Zet) Zq9 Zqd Zq7).binds (ps:=["found","names"]) fun _ _ _ _ _ _ us hl=>match us,hl with | [_,_],_=>rfl,
  ZBx:=PySem.W.mg_of X G Zvi,
  Zr6:=Zao (st:=Zc5) ZnW ZnJ ZnS,
  Zx2:=(Zao (st:=Zc5) ZnW ZnJ ZnS).binds (ps:=["found","names"]) fun _ _ _ _ _ _ us hl=>match us,hl with | [_,_],_=>rfl,
  Zyp:=PySem.W.mg_of X G Zr9,
  ZgS:=Zao (st:=Za3) Zez Zew Zex,
  Zly:=(Zao (st:=Za3) Zez Zew Zex).binds (ps:=["line"]) fun _ _ _ _ _ _ us hl=>match us,hl with | [_],_=>rfl,
  ZlK:=PySem.W.mg_of X G ZgT,
  ZlX:=Zao (st:=ZbU) Zjd ZiD ZiZ,
  Ztf:=(Zao (st:=ZbU) Zjd ZiD ZiZ).binds (ps:=["lines"]) fun _ _ _ _ _ _ us hl=>match us,hl with | [_],_=>rfl,
  Zue:=PySem.W.mg_of X G Zl6,
  Zjj:=Zao (st:=Zbg) Zgg Zf7 Zga,
  Zop:=(Zao (st:=Zbg) Zgg Zf7 Zga).binds (ps:=["_law_script","_law_k"]) fun _ _ _ _ _ _ us hl=>match us,hl with | [_,_],_=>rfl,
  ZoK:=PySem.W.mg_of X G Zjl,
  ZlT:=Zao (st:=ZbQ) Zi9 Ziz ZiV,
  Ztb:=(Zao (st:=ZbQ) Zi9 Ziz ZiV).binds (ps:=["_law_script","_law_many"]) fun _ _ _ _ _ _ us hl=>match us,hl with | [_,_],_=>rfl,
  Zua:=PySem.W.mg_of X G Zl2,
  ZeP:=Zao (st:=ZbO) Zi6 Ziw ZiS,
  Zio:=(Zao (st:=ZbO) Zi6 Ziw ZiS).binds (ps:=["_law_cell","_law_many","_law_deep"]) fun _ _ _ _ _ _ us hl=>match us,hl with | [_,_,_],_=>rfl,
  Zje:=PySem.W.mg_of X G ZlZ,
  ZoU:=Zao (st:=Zcm) Zlg Zku Zk3,
  Zvu:=(Zao (st:=Zcm) Zlg Zku Zk3).binds (ps:=["_law_script","_law_many","_law_number"]) fun _ _ _ _ _ _ us hl=>match us,hl with | [_,_,_],_=>rfl,
  Zwq:=PySem.W.mg_of X G Zo5,
  Zki:=Zao (st:=Zcj) Zld Zkr Zk0,
  Zpb:=(Zao (st:=Zcj) Zld Zkr Zk0).binds (ps:=["_law_tree"]) fun _ _ _ _ _ _ us hl=>match us,hl with | [_],_=>rfl,
  ZpC:=PySem.W.mg_of X G Zo2,
  ZoS:=Zao (st:=Zck) Zle Zks Zk1,
  Zvs:=(Zao (st:=Zck) Zle Zks Zk1).binds (ps:=["_law_kind"]) fun _ _ _ _ _ _ us hl=>match us,hl with | [_],_=>rfl,
  Zwo:=PySem.W.mg_of X G Zo3,
  Zkj:=Zao (st:=Zcn) Zlh Zkv Zk4,
  Zpc:=(Zao (st:=Zcn) Zlh Zkv Zk4).binds (ps:=["_law_tree","_law_names_here"]) fun _ _ _ _ _ _ us hl=>match us,hl with | [_,_],_=>rfl,
  ZpD:=PySem.W.mg_of X G Zo6,
  ZlS:=Zao (st:=ZbP) Zi8 Ziy ZiU,
  Zta:=(Zao (st:=ZbP) Zi8 Ziy ZiU).binds (ps:=["_law_script","_law_many","_law_count","_law_cell"]) fun _ _ _ _ _ _ us hl=>match us,hl with | [_,_,_,_],_=>rfl,
  Zt9:=PySem.W.mg_of X G Zl1,
  ZlR:=Zao (st:=ZbA) Zi7 Zix ZiT,
  Zs9:=(Zao (st:=ZbA) Zi7 Zix ZiT).binds (ps:=["_law_names_here","_law_starts","_law_bads","_law_moves_here"]) fun _ _ _ _ _ _ us hl=>match us,hl with | [_,_,_,_],_=>rfl,
  Zt8:=PySem.W.mg_of X G Zl0,
  ZoT:=Zao (st:=Zcl) Zlf Zkt Zk2,
  Zvt:=(Zao (st:=Zcl) Zlf Zkt Zk2).binds (ps:=["_law_found","_law_due"]) fun _ _ _ _ _ _ us hl=>match us,hl with | [_,_],_=>rfl,
  Zwp:=PySem.W.mg_of X G Zo4,
  F_law:=Zao (st:=ZpK) l_law c_law k_law,
  b_law:=(Zao (st:=ZpK) l_law c_law k_law).binds (ps:=["_law_script"]) fun _ _ _ _ _ _ us hl=>match us,hl with | [_],_=>rfl,
  m_law:=PySem.W.mg_of X G a_law,
  Zu6:=Zao (st:=Zcg) Zk9 Zkn ZkY,
  Zvq:=(Zao (st:=Zcg) Zk9 Zkn ZkY).binds (ps:=["self","guard","changes"]) fun _ _ _ _ _ _ us hl=>match us,hl with | [_,_,_],_=>rfl,
  Zog:=Zao (st:=Zbe) Zge Zf5 Zf9,
  Zon:=(Zao (st:=Zbe) Zge Zf5 Zf9).binds (ps:=["self","names","starts","bads","moves"]) fun _ _ _ _ _ _ us hl=>match us,hl with | [_,_,_,_,_],_=>rfl,
  ZcJ:=Zao (st:=ZaH) ZcO ZcL ZaP,
  ZcK:=(Zao (st:=ZaH) ZcO ZcL ZaP).binds (ps:=["self"]) fun _ _ _ _ _ _ us hl=>match us,hl with | [_],_=>rfl,
  Zu5:=Zao (st:=Zcf) Zk8 Zkm ZkX,
  Zvp:=(Zao (st:=Zcf) Zk8 Zkm ZkX).binds (ps:=["self","at"]) fun _ _ _ _ _ _ us hl=>match us,hl with | [_,_],_=>rfl,
  ZAK:=Zao (st:=Zb6) Zi0 Ziq Zgn,
  ZAU:=(Zao (st:=Zb6) Zi0 Ziq Zgn).binds (ps:=["self"]) fun _ _ _ _ _ _ us hl=>match us,hl with | [_],_=>rfl,
  ZsQ:=Zao (st:=ZbK) Zi1 Zir Zgo,
  Zme:=(Zao (st:=ZbK) Zi1 Zir Zgo).binds (ps:=["self","names"]) fun _ _ _ _ _ _ us hl=>match us,hl with | [_,_],_=>rfl,
  Zu8:=Zao (st:=Zci) Zlc Zkq ZkZ,
  Zvr:=(Zao (st:=Zci) Zlc Zkq ZkZ).binds (ps:=["self","truth"]) fun _ _ _ _ _ _ us hl=>match us,hl with | [_,_],_=>rfl,
  ZAL:=Zao (st:=Zb7) Zi4 Ziu Zgq,
  ZAV:=(Zao (st:=Zb7) Zi4 Ziu Zgq).binds (ps:=["self"]) fun _ _ _ _ _ _ us hl=>match us,hl with | [_],_=>rfl,
  ZsT:=Zao (st:=ZbN) Zi5 Ziv Zgr,
  Zmf:=(Zao (st:=ZbN) Zi5 Ziv Zgr).binds (ps:=["self","names"]) fun _ _ _ _ _ _ us hl=>match us,hl with | [_,_],_=>rfl,
  ZxW:=Zao (st:=Zc2) ZnT ZnG ZnP,
  ZxZ:=(Zao (st:=Zc2) ZnT ZnG ZnP).binds (ps:=["self","part"]) fun _ _ _ _ _ _ us hl=>match us,hl with | [_,_],_=>rfl,
  ZCK:=Zao (st:=ZcP) Zla Zko ZhJ,
  ZCT:=(Zao (st:=ZcP) Zla Zko ZhJ).binds (ps:=["self"]) fun _ _ _ _ _ _ us hl=>match us,hl with | [_],_=>rfl,
  Zu7:=Zao (st:=Zch) Zlb Zkp ZhK,
  Zpa:=(Zao (st:=Zch) Zlb Zkp ZhK).binds (ps:=["self","names"]) fun _ _ _ _ _ _ us hl=>match us,hl with | [_,_],_=>rfl,
  ZpS:=Zao (st:=Zbt) Zhe Zg8 Zhb,
  Zg6:=(Zao (st:=Zbt) Zhe Zg8 Zhb).binds (ps:=["self","parts"]) fun _ _ _ _ _ _ us hl=>match us,hl with | [_,_],_=>rfl,
  Zxi:=Zao (st:=Zbu) Zgc Zf3 ZbH,
  Zxl:=(Zao (st:=Zbu) Zgc Zf3 ZbH).binds (ps:=["self"]) fun _ _ _ _ _ _ us hl=>match us,hl with | [_],_=>rfl,
  Zof:=Zao (st:=Zbd) Zgd Zf4 ZbI,
  ZdZ:=(Zao (st:=Zbd) Zgd Zf4 ZbI).binds (ps:=["self","names"]) fun _ _ _ _ _ _ us hl=>match us,hl with | [_,_],_=>rfl,
  ZlQ:=Zao (st:=Za6) Ze9 ZeX Zdv,
  Zmd:=(Zao (st:=Za6) Ze9 ZeX Zdv).binds (ps:=["self"]) fun _ _ _ _ _ _ us hl=>match us,hl with | [_],_=>rfl,
  ZpR:=Zao (st:=Zbs) Zhd Zg7 Ze6,
  Zp9:=(Zao (st:=Zbs) Zhd Zg7 Ze6).binds (ps:=["self"]) fun _ _ _ _ _ _ us hl=>match us,hl with | [_],_=>rfl,
  Zii:=Zao (st:=ZaM) Zdc Zc9 Zb3,
  Zin:=(Zao (st:=ZaM) Zdc Zc9 Zb3).binds (ps:=["self"]) fun _ _ _ _ _ _ us hl=>match us,hl with | [_],_=>rfl,
  Zlu:=Zao (st:=Za2) Zey Zev ZcS,
  Zlx:=(Zao (st:=Za2) Zey Zev ZcS).binds (ps:=["self"]) fun _ _ _ _ _ _ us hl=>match us,hl with | [_],_=>rfl,
  Zoh:=Zao (st:=Zbf) Zgf Zf6 Zd0,
  Zoo:=(Zao (st:=Zbf) Zgf Zf6 Zd0).binds (ps:=["self"]) fun _ _ _ _ _ _ us hl=>match us,hl with | [_],_=>rfl,
  ZsS:=Zao (st:=ZbM) Zi3 Zit Zgp,
  Zs8:=(Zao (st:=ZbM) Zi3 Zit Zgp).binds (ps:=["self"]) fun _ _ _ _ _ _ us hl=>match us,hl with | [_],_=>rfl,
  ZsR:=Zao (st:=ZbL) Zi2 Zis ZiR,
  Zs7:=(Zao (st:=ZbL) Zi2 Zis ZiR).binds (ps:=["self"]) fun _ _ _ _ _ _ us hl=>match us,hl with | [_],_=>rfl,
  ZjD:=Zao (st:=ZaU) ZdR ZdM Zcs,
  ZjI:=(Zao (st:=ZaU) ZdR ZdM Zcs).binds (ps:=["self","part"]) fun _ _ _ _ _ _ us hl=>match us,hl with | [_,_],_=>rfl,
  ZjC:=Zao (st:=ZaT) ZdQ ZdL Zcr,
  ZjH:=(Zao (st:=ZaT) ZdQ ZdL Zcr).binds (ps:=["self","word"]) fun _ _ _ _ _ _ us hl=>match us,hl with | [_,_],_=>rfl,
  ZjE:=Zao (st:=ZaV) ZdS ZdN Zct,
  ZjJ:=(Zao (st:=ZaV) ZdS ZdN Zct).binds (ps:=["self","word","names"]) fun _ _ _ _ _ _ us hl=>match us,hl with | [_,_,_],_=>rfl,
  ZpT:=Zao (st:=Zbv) Zhf Zg9 Ze7,
  Zqa:=(Zao (st:=Zbv) Zhf Zg9 Ze7).binds (ps:=["self"]) fun _ _ _ _ _ _ us hl=>match us,hl with | [_],_=>rfl,
  ZJQ:=PySem.W.mg_of X G ZFO,
  ZA3:=⟨ZzS,Zy2,ZzX,Zz5⟩,
  ZNa:=fun H a dx fs e=>TyOf.ins e ⟨ZzS,Zy2,ZzX,Zz5⟩ ZC1 hn_ htk_ ZC4,
  ZJK:=⟨ZDh,Zpm,Zpw,ZDa⟩,
  ZdI:=ZdI,
  Zce:=Zce,
  ZgF:=ZgF,
  Zfu:=Zfu,
  ZhX:=ZhX,
  ZgE:=ZgE,
  Zm9:=Zm9,
  ZgH:=ZgH,
  ZhZ:=ZhZ,
  ZgG:=ZgG,
  ZhY:=ZhY,
  ZhW:=ZhW,
  Zel:=Zel,
  Zj4:=Zj4,
  Zem:=Zem,
  ZBw:=PySem.W.mg_of X G Zvh,
  ZeY:=⟨Zn0,ZnO,Zn2,Zn4⟩,
  ZH0:=fun H a dx fs e=>TyOf.ins e ⟨Zn0,ZnO,Zn2,Zn4⟩ Zsl hn_ htk_ Zsn,
  ZBs:=⟨Zss,Zjv,Zjy,Zsr⟩,
  ZdF:=ZdF,
  Zcx:=Zcx,
  ZbY:=ZbY,
  ZbC:=ZbC,
  Zcd:=Zcd,
  ZbX:=ZbX,
  ZgD:=ZgD,
  ZdH:=ZdH,
  Zek:=Zek,
  ZdG:=ZdG,
  Zej:=Zej,
  Zei:=Zei,
  Zcy:=Zcy,
  Zft:=Zft,
  Zcz:=Zcz,
  ZGO:=PySem.W.mg_of X G Zvg,
  ZFT:=⟨ZnZ,ZnN,Zn1,Zn3⟩,
  ZHZ:=fun H a dx fs e=>TyOf.ins e ⟨ZnZ,ZnN,Zn1,Zn3⟩ Zsk hn_ htk_ Zsm,
  Zdx:=Zdx,
  Zcu:=Zcu,
  Zdz:=Zdz,
  ZcW:=ZcW,
  Zd6:=Zd6,
  Zdy:=Zdy,
  Zgu:=Zgu,
  ZdB:=ZdB,
  Zd8:=Zd8,
  ZdA:=ZdA,
  Zd7:=Zd7,
  Zd5:=Zd5,
  Zcv:=Zcv,
  Zfi:=Zfi,
  Zcw:=Zcw,
  Zpt:=⟨ZeE,Za8,ZaP⟩,
  ZJP:=PySem.W.mg_of X G ZFN,
  Zx3:=⟨ZzR,Zy1,ZzW,Zz4⟩,
  ZM9:=fun H a dx fs e=>TyOf.ins e ⟨ZzR,Zy1,ZzW,Zz4⟩ ZC0 hn_ htk_ ZC3,
  ZJJ:=⟨ZDg,Zpl,Zpv,ZC9⟩,
  Zgw:=Zgw,
  Zee:=Zee,
  Zgy:=Zgy,
  Zfn:=Zfn,
  ZhT:=ZhT,
  Zgx:=Zgx,
  ZhS:=ZhS,
  ZgA:=ZgA,
  ZhV:=ZhV,
  Zgz:=Zgz,
  ZhU:=ZhU,
  ZhR:=ZhR,
  Zef:=Zef,
  Zj2:=Zj2,
  Zeg:=Zeg,
  ZBh:=⟨ZmI,ZmT,Zgn⟩,
  ZmQ:=⟨ZmJ,ZmU,Zgo⟩,
  ZlG:=⟨ZgX,Za8,ZaP⟩,
  ZJR:=PySem.W.mg_of X G ZFP,
  Zx4:=⟨ZzT,Zy3,ZzY,Zz6⟩,
  ZNb:=fun H a dx fs e=>TyOf.ins e ⟨ZzT,Zy3,ZzY,Zz6⟩ ZC2 hn_ htk_ ZC5,
  ZJL:=⟨ZDi,Zpp,Zpz,ZDb⟩,
  ZgM:=ZgM,
  Zen:=Zen,
  ZgO:=ZgO,
  Zfy:=Zfy,
  Zh7:=Zh7,
  ZgN:=ZgN,
  Znf:=Znf,
  ZdJ:=ZdJ,
  Zh9:=Zh9,
  ZgP:=ZgP,
  Zh8:=Zh8,
  Zh6:=Zh6,
  Zeo:=Zeo,
  Zkc:=Zkc,
  Zep:=Zep,
  ZBi:=⟨ZmM,ZmX,Zgq⟩,
  ZmS:=⟨ZmN,ZmY,Zgr⟩,
  ZlH:=⟨ZgY,Za8,ZaP⟩,
  m_Not:=PySem.W.mg_of X G a_Not,
  c_Not:=⟨ZEG,ZEc,ZEL,ZER⟩,
  y_Not:=fun H a dx fs e=>TyOf.ins e ⟨ZEG,ZEc,ZEL,ZER⟩ ZGj hn_ htk_ ZGn,
  k_Not:=⟨ZGT,Zsf,Zso,ZGE⟩,
  Zh0:=Zh0,
  Zfv:=Zfv,
  Zh2:=Zh2,
  ZgI:=ZgI,
  Zj6:=Zj6,
  Zh1:=Zh1,
  Zrj:=Zrj,
  Zh4:=Zh4,
  ZeT:=ZeT,
  Zh3:=Zh3,
  Zj7:=Zj7,
  Zj5:=Zj5,
  Zfw:=Zfw,
  Zna:=Zna,
  Zfx:=Zfx,
  ZCZ:=⟨Zpn,Zpx,ZhJ⟩,
  Zpu:=⟨Zpo,Zpy,ZhK⟩,
  ZmR:=⟨ZhC,Za8,ZaP⟩,
  ZIv:=PySem.W.mg_of X G ZyN,
  ZH6:=⟨Zry,ZqP,ZrO,ZrR⟩,
  ZJd:=fun H a dx fs e=>TyOf.ins e ⟨Zry,ZqP,ZrO,ZrR⟩ Zv3 hn_ htk_ Zv5,
  ZIl:=⟨Zww,ZkQ,ZdO,Zwg⟩,
  Zd9:=Zd9,
  ZcX:=ZcX,
  Zeb:=Zeb,
  ZdC:=ZdC,
  Zfk:=Zfk,
  Zea:=Zea,
  ZhQ:=ZhQ,
  Zed:=Zed,
  Zfm:=Zfm,
  Zec:=Zec,
  Zfl:=Zfl,
  Zfj:=Zfj,
  ZcY:=ZcY,
  Zgv:=Zgv,
  ZcZ:=ZcZ,
  Zxn:=⟨Zjt,Zc0,ZbH⟩,
  Zxo:=⟨Zju,Zc1,ZbI⟩,
  ZqM:=⟨Ze4,Za8,ZaP⟩,
  m_And:=PySem.W.mg_of X G a_And,
  c_And:=⟨ZEF,ZEb,ZEK,ZEQ⟩,
  y_And:=fun H a dx fs e=>TyOf.ins e ⟨ZEF,ZEb,ZEK,ZEQ⟩ ZGi hn_ htk_ ZGm,
  k_And:=⟨ZGS,Zse,ZdO,ZGD⟩,
  ZhL:=ZhL,
  Zfb:=Zfb,
  ZhN:=ZhN,
  Zgs:=Zgs,
  ZjZ:=ZjZ,
  ZhM:=ZhM,
  Zri:=Zri,
  ZhO:=ZhO,
  Zj1:=Zj1,
  ZeN:=ZeN,
  Zj0:=Zj0,
  ZjY:=ZjY,
  Zfc:=Zfc,
  Zm8:=Zm8,
  Zfd:=Zfd,
  ZmP:=⟨ZhB,ZhF,Zdv⟩,
  ZqL:=⟨ZkO,ZkU,Ze6⟩,
  ZCY:=⟨Zpj,Zc0,ZbH⟩,
  Zps:=⟨Zpk,Zc1,ZbI⟩,
  ZEu:=PySem.W.mg_of X G ZyM,
  ZnF:=⟨Zrx,ZqO,ZrN,ZrQ⟩,
  ZJc:=fun H a dx fs e=>TyOf.ins e ⟨Zrx,ZqO,ZrN,ZrQ⟩ Zv2 hn_ htk_ Zv4,
  ZEo:=⟨Zwv,ZkP,ZdO,Zwf⟩,
  Zd1:=Zd1,
  ZcT:=ZcT,
  Zd3:=Zd3,
  Zdw:=Zdw,
  Zff:=Zff,
  Zd2:=Zd2,
  ZhP:=ZhP,
  Zd4:=Zd4,
  Zfh:=Zfh,
  Zcc:=Zcc,
  Zfg:=Zfg,
  Zfe:=Zfe,
  ZcU:=ZcU,
  Zgt:=Zgt,
  ZcV:=ZcV,
  ZiM:=⟨Ze3,Ze5,Zb3⟩,
  ZlF:=⟨ZgW,ZgZ,ZcS⟩,
  Zxm:=⟨Zjr,Zc0,ZbH⟩,
  Zjx:=⟨Zjs,Zc1,ZbI⟩,
  m_Or:=PySem.W.mg_of X G a_Or,
  c_Or:=⟨pg_Or,hd_Or,po_Or,sa_Or⟩,
  y_Or:=fun H a dx fs e=>TyOf.ins e ⟨pg_Or,hd_Or,po_Or,sa_Or⟩ ha_Or hn_ htk_ hm_Or,
  k_Or:=⟨mk_Or,ZvW,ZdO,kc_Or⟩,
  Zj8:=Zj8,
  ZgJ:=ZgJ,
  Zka:=Zka,
  Zh5:=Zh5,
  Znc:=Znc,
  Zj9:=Zj9,
  Zwy:=Zwy,
  Zkb:=Zkb,
  Zne:=Zne,
  ZfY:=ZfY,
  Znd:=Znd,
  Znb:=Znb,
  ZgK:=ZgK,
  Zrk:=Zrk,
  ZgL:=ZgL,
  ZoF:=⟨Zjw,Zjz,Zd0⟩,
  ZtU:=⟨ZmL,ZmW,Zgp⟩,
  ZFb:=⟨Zsg,Zc0,ZbH⟩,
  Zsj:=⟨Zsh,Zc1,ZbI⟩,
  ZGP:=PySem.W.mg_of X G ZCP,
  Zbc:=⟨ZuZ,ZuS,Zu0,Zu1⟩,
  ZLd:=fun H a dx fs e=>TyOf.ins e ⟨ZuZ,ZuS,Zu0,Zu1⟩ Zy0 hn_ htk_ Zy4,
  ZGC:=⟨Zzf,ZmK,ZmV,Zza⟩,
  Zfo:=Zfo,
  ZdD:=ZdD,
  Zfq:=Zfq,
  Zeh:=Zeh,
  ZgB:=ZgB,
  Zfp:=Zfp,
  Zj3:=Zj3,
  Zfs:=Zfs,
  ZgC:=ZgC,
  Zfr:=Zfr,
  ZbJ:=ZbJ,
  Zb4:=Zb4,
  Zbj:=Zbj,
  ZdE:=ZdE,
  ZaE:=ZaE,
  ZjT:=⟨ZfO,ZfU,Zcs⟩,
  ZjS:=⟨ZfN,ZfT,Zcr⟩,
  ZjU:=⟨ZfP,ZfV,Zct⟩,
  ZqN:=⟨ZkR,ZkV,Ze7⟩,
  b_ValueError:=PySem.W.mg_none_of X G b_ValueError,
  Zll:=PySem.W.mg_of X G Zo1,
  ZgR:=ZgR,
  ZA5:=ZiN,
  ZeS:=ZeS,
  Zlo:=⟨ZnB,ZiN,Zny,Znz,Znx,ZeS,ZnA⟩,
  ZDI:=ZKy ZnC,
  Zbo:=Zbo,
  ZlP:=ZGH _ _,
  ZxT:=Zbp nd_ (i:=0) (j:=1) rfl rfl (by decide),
  ZxS:=Zbp nd_ (i:=0) (j:=2) rfl rfl (by decide),
  ZDL:=Zbp nd_ (i:=0) (j:=3) rfl rfl (by decide),
  ZDM:=Zbp nd_ (i:=0) (j:=4) rfl rfl (by decide),
  ZFH:=Zbp nd_ (i:=0) (j:=5) rfl rfl (by decide),
  ZAF:=Zbp nd_ (i:=0) (j:=6) rfl rfl (by decide),
  ZFG:=Zbp nd_ (i:=0) (j:=7) rfl rfl (by decide),
  ZAE:=Zbp nd_ (i:=0) (j:=8) rfl rfl (by decide),
  ZHY:=Zbp nd_ (i:=0) (j:=9) rfl rfl (by decide),
  ZCI:=Zbp nd_ (i:=0) (j:=10) rfl rfl (by decide),
  ZsN:=Zbp nd_ (i:=1) (j:=2) rfl rfl (by decide),
  ZxQ:=Zbp nd_ (i:=1) (j:=3) rfl rfl (by decide),
  ZxR:=Zbp nd_ (i:=1) (j:=4) rfl rfl (by decide),
  ZAD:=Zbp nd_ (i:=1) (j:=5) rfl rfl (by decide),
  ZuN:=Zbp nd_ (i:=1) (j:=6) rfl rfl (by decide),
  ZAC:=Zbp nd_ (i:=1) (j:=7) rfl rfl (by decide),
  ZuM:=Zbp nd_ (i:=1) (j:=8) rfl rfl (by decide),
  ZCH:=Zbp nd_ (i:=1) (j:=9) rfl rfl (by decide),
  Zxd:=Zbp nd_ (i:=1) (j:=10) rfl rfl (by decide),
  ZxN:=Zbp nd_ (i:=2) (j:=3) rfl rfl (by decide),
  ZxO:=Zbp nd_ (i:=2) (j:=4) rfl rfl (by decide),
  ZAA:=Zbp nd_ (i:=2) (j:=5) rfl rfl (by decide),
  ZuL:=Zbp nd_ (i:=2) (j:=6) rfl rfl (by decide),
  ZAz:=Zbp nd_ (i:=2) (j:=7) rfl rfl (by decide),
  ZuK:=Zbp nd_ (i:=2) (j:=8) rfl rfl (by decide),
  ZCF:=Zbp nd_ (i:=2) (j:=9) rfl rfl (by decide),
  Zxa:=Zbp nd_ (i:=2) (j:=10) rfl rfl (by decide),
  ZpQ:=Zbp nd_ (i:=3) (j:=4) rfl rfl (by decide),
  ZsM:=Zbp nd_ (i:=3) (j:=5) rfl rfl (by decide),
  ZAB:=Zbp nd_ (i:=3) (j:=6) rfl rfl (by decide),
  ZsL:=Zbp nd_ (i:=3) (j:=7) rfl rfl (by decide),
  Zls:=Zbp nd_ (i:=3) (j:=8) rfl rfl (by decide),
  Zxc:=Zbp nd_ (i:=3) (j:=9) rfl rfl (by decide),
  Zuy:=Zbp nd_ (i:=3) (j:=10) rfl rfl (by decide),
  ZsP:=Zbp nd_ (i:=4) (j:=5) rfl rfl (by decide),
  ZAH:=Zbp nd_ (i:=4) (j:=6) rfl rfl (by decide),
  ZsO:=Zbp nd_ (i:=4) (j:=7) rfl rfl (by decide),
  Zlt:=Zbp nd_ (i:=4) (j:=8) rfl rfl (by decide),
  Zxg:=Zbp nd_ (i:=4) (j:=9) rfl rfl (by decide),
  Zuz:=Zbp nd_ (i:=4) (j:=10) rfl rfl (by decide),
  ZCJ:=Zbp nd_ (i:=5) (j:=6) rfl rfl (by decide),
  Zxe:=Zbp nd_ (i:=5) (j:=7) rfl rfl (by decide),
  Znw:=Zbp nd_ (i:=5) (j:=8) rfl rfl (by decide),
  ZAG:=Zbp nd_ (i:=5) (j:=9) rfl rfl (by decide),
  Zxf:=Zbp nd_ (i:=5) (j:=10) rfl rfl (by decide),
  ZCG:=Zbp nd_ (i:=6) (j:=7) rfl rfl (by decide),
  Zxb:=Zbp nd_ (i:=6) (j:=8) rfl rfl (by decide),
  ZDK:=Zbp nd_ (i:=6) (j:=9) rfl rfl (by decide),
  ZxP:=Zbp nd_ (i:=6) (j:=10) rfl rfl (by decide),
  Znv:=Zbp nd_ (i:=7) (j:=8) rfl rfl (by decide),
  ZAy:=Zbp nd_ (i:=7) (j:=9) rfl rfl (by decide),
  Zw9:=Zbp nd_ (i:=7) (j:=10) rfl rfl (by decide),
  ZpP:=Zbp nd_ (i:=8) (j:=9) rfl rfl (by decide),
  ZoR:=Zbp nd_ (i:=8) (j:=10) rfl rfl (by decide),
  ZyG:=Zbp nd_ (i:=9) (j:=10) rfl rfl (by decide),
  bl:=fun s u=>.of_eq rfl,
  B:=⟨PySem.W.mg_none_of X G b_len,PySem.W.mg_none_of X G b_range,PySem.W.mg_none_of X G b_isinstance,PySem.W.mg_none_of X G b_int,PySem.W.mg_none_of X G b_bool,PySem.W.mg_none_of X G b_str,PySem.W.mg_none_of X G b_list,PySem.W.mg_none_of X G b_tuple,PySem.W.mg_none_of X G b_dict,PySem.W.mg_none_of X G b_set,PySem.W.mg_none_of X G b_sorted,PySem.W.mg_none_of X G b_max,PySem.W.mg_none_of X G b_min,PySem.W.mg_none_of X G b_sum,PySem.W.mg_none_of X G b_any,PySem.W.mg_none_of X G b_all,PySem.W.mg_none_of X G b_abs,PySem.W.mg_none_of X G b_reversed,PySem.W.mg_none_of X G b_enumerate,PySem.W.mg_none_of X G b_zip⟩,
  g_LETTERS:=⟨_,PySem.W.mg_of X G g_LETTERS,⟨_,rfl⟩⟩,
  g_MARKS:=⟨_,PySem.W.mg_of X G g_MARKS,⟨_,rfl⟩⟩,
  g_BLANK:=⟨_,PySem.W.mg_of X G g_BLANK,⟨_,rfl⟩⟩,
  g_MOST_LAMPS:=⟨_,PySem.W.mg_of X G g_MOST_LAMPS,⟨_,rfl⟩⟩,
  g_LONGEST_NAME:=⟨_,PySem.W.mg_of X G g_LONGEST_NAME,⟨_,rfl⟩⟩,
  g_JOINS:=⟨_,PySem.W.mg_of X G g_JOINS,rfl⟩,
  q_JOINS:=fun H=>.inr ⟨_,_,_,lk_JOINS,rfl,rfl,Nat.le_of_ble_eq_true rfl,.cons ⟨_,rfl⟩ (.cons ⟨_,rfl⟩ (.cons ⟨_,rfl⟩ (.nil)))⟩,
  g_NO_NAMES:=⟨_,PySem.W.mg_of X G g_NO_NAMES,rfl⟩,
  q_NO_NAMES:=fun H=>.inr ⟨_,_,_,lk_NO_NAMES,rfl,rfl,Nat.le_of_ble_eq_true rfl,.cons ⟨_,rfl⟩ (.cons ⟨_,rfl⟩ (.cons ⟨_,rfl⟩ (.cons ⟨_,rfl⟩ (.cons ⟨_,rfl⟩ (.cons ⟨_,rfl⟩ (.cons ⟨_,rfl⟩ (.cons ⟨_,rfl⟩ (.cons ⟨_,rfl⟩ (.cons ⟨_,rfl⟩ (.cons ⟨_,rfl⟩ (.nil)))))))))))⟩,
  g_SORTS:=⟨_,PySem.W.mg_of X G g_SORTS,rfl⟩,
  q_SORTS:=fun H=>.inr ⟨_,_,_,lk_SORTS,rfl,rfl,Nat.le_of_ble_eq_true rfl,.cons ⟨_,rfl⟩ (.cons ⟨_,rfl⟩ (.cons ⟨_,rfl⟩ (.nil)))⟩ }
def cell (ns:List Int) (k:Nat):Int:=ns.getD k 0
def spLaw (K:PySem.W.Frag):Sp:=fun vs H Q _=>∃ (a:Addr) (ns:List Int),vs=[.ref a]∧SqL K H a (ns.map V.int)∧ns.length≤63∧Only H∧∀ H',Q (.bl true) H'
def ZMN (K:PySem.W.Frag):Sp:=fun vs H Q _=>∃ (a:Addr) (ns:List Int) (k:Nat),vs=[.ref a,.int (k:Int)]∧SqL K H a (ns.map V.int)∧Q (.int (cell ns k)) H
section
variable {P:Program} {w:World} {K:PySem.W.Frag} {mg:Str→Option Value} {base:Heap} {t:Ad}
theorem Zys (T:Txt K mg t):FnS P w K mg base 1 "_law_cell_at" ["_law_script","_law_k"] (ZMN K):=by
 refine ⟨_,_,T.Zjj.ok ZwW (fun vs H Q E h=>?_) (fun cdv A outer s H vs Q E hr h=>?_),T.Zop,T.Zjj.kp,T.ZoK⟩
 ·obtain ⟨a,ns,k,rfl,_⟩ :=h
  rfl
 ·obtain ⟨a,ns,k,rfl,hS,q⟩ :=h
  refine ⟨_,(Zac (ZbV (Zav ZDw (pv 1) (Zbr Zbl rfl T.B.len ZfG (Zaa (pv 0) Zad)) (ZaQ _))
   (Zae (ZaA (ZbE ZaW (pv 0) (pv 1) (fun _ _=>rfl))))
   ZaI)
   (Zae (ZaA Zam))),?_⟩
  walk_at "rd0"
  refine ZhG (fun h=>?_) (fun h=>?_)
  ·rw [List.length_map] at h
   have hk:k < ns.length:=by omega
   walk_at "rd"
   refine ZNl (j:=k) (v:=.int (cell ns k)) hS ?_ q
   rw [List.getElem?_map,List.getElem?_eq_getElem hk]
   simp [cell,List.getD_eq_getElem?_getD,List.getElem?_eq_getElem hk]
  ·rw [List.length_map] at h
   walk_at "rd"
   have e:cell ns k=0:=by
    simp only [cell,List.getD_eq_getElem?_getD]
    rw [List.getElem?_eq_none (by omega)]
    rfl
   rw [e] at q
   exact q
end
theorem Zv7 {t u:TS} {D:Ends} {σ:St} {H:Hp} (Pn:St→Hp→Prop) (h2:∀ σ H,Pn σ H→u D σ H) (h1:∀ Kn:St→Hp→Prop,(∀ σ H,Pn σ H→Kn σ H)→t { D with nx:=Kn } σ H):tSeq t u D σ H:=h1 (u D) h2
def cw (t:Ad):W3→Addr
 | .a=>t.C_And
 | .e=>t.Zan
 | .o=>t.C_Or
def FmAt (t:Ad) (H:Hp):Nat→Addr→Fm→Prop
 | 0,_,_=>False
 | n + 1,p,f=>match f with
  | .lamp k=>∃ dx,H p=some (.ins t.Zax dx [(("at" : Str),.int (k:Int))])
  | .sure b=>∃ dx,H p=some (.ins t.Zay dx [(("truth" : Str),.bl b)])
  | .neg g=>∃ dx q,H p=some (.ins t.C_Not dx [(("part" : Str),.ref q)])∧FmAt t H n q g
  | .join w gs=>∃ dx tp ps,H p=some (.ins (cw t w) dx [(("parts" : Str),.ref tp)])∧H tp=some (.tup (ps.map V.ref))∧Paired (FmAt t H n) ps gs
def isFm (t:Ad) (C:Addr):Prop:=C=t.Zax∨C=t.Zay∨C=t.C_Not∨C=t.C_And∨C=t.Zan∨C=t.C_Or
theorem Zah {α β:Type} {F G:α→β→Prop} (h:∀ a b,F a b→G a b):∀ {xs:List α} {ys:List β},Paired F xs ys→Paired G xs ys
 | _,_,.nil=>.nil
 | _,_,.cons r s=>.cons (h _ _ r) (Zah h s)
theorem Zyv {α β:Type} {F:α→β→Prop}:∀ {xs:List α} {ys:List β} {i:Nat} {x:α},Paired F xs ys→xs[i]?=some x→∃ y,ys[i]?=some y∧F x y
 | _,_,_,_,.nil,e=>by simp at e
 | _,_,0,_,.cons r _,e=>by simp at e; subst e; exact ⟨_,rfl,r⟩
 | _,_,i + 1,x,.cons _ s,e=>by
  obtain ⟨u,h1,h2⟩ :=Zyv (i:=i) (x:=x) s (by simpa using e)
  exact ⟨u,by simpa using h1,h2⟩
theorem ZaF {α β:Type} {F:α→β→Prop}:∀ {xs xs':List α} {ys ys':List β},Paired F xs ys→Paired F xs' ys'→Paired F (xs ++ xs') (ys ++ ys')
 | _,_,_,_,.nil,s=>s
 | _,_,_,_,.cons r q,s=>.cons r (ZaF q s)
theorem Zas {α β:Type} {F:α→β→Prop} {xs:List α} {ys:List β} (h:Paired F xs ys):xs.length=ys.length:=Paired.length h
theorem Zcb {ps:List Addr} {i:Nat} {x:V} (h:(ps.map V.ref)[i]?=some x):∃ p,x=V.ref p∧ps[i]?=some p:=by
 rw [List.getElem?_map] at h
 cases e:ps[i]? with
 | none=>rw [e] at h; cases h
 | some p=>rw [e] at h; exact ⟨p,(Option.some.inj h).symm,rfl⟩
theorem ZaY {α:Type} {l:List α} {i:Nat} {x:α} (h:l[i]?=some x):l.take (i + 1)=l.take i ++ [x]:=by
 rw [List.take_add_one,h]; rfl
section
variable {P:Program} {w:World} {K:PySem.W.Frag} {mg:Str→Option Value} {base:Heap} {t:Ad} {H H':Hp} {n:Nat} {p:Addr} {f:Fm}
theorem FmAt.mono (s:Ext H H'):∀ {n:Nat} {p:Addr} {f:Fm},FmAt t H n p f→FmAt t H' n p f
 | 0,_,_,h=>h
 | n + 1,p,f,h=>by
  cases f with
  | lamp k=>obtain ⟨dx,e⟩ :=h; exact ⟨dx,s _ _ e (fun _ z=>nomatch z)⟩
  | sure b=>obtain ⟨dx,e⟩ :=h; exact ⟨dx,s _ _ e (fun _ z=>nomatch z)⟩
  | neg g=>obtain ⟨dx,q,e,h⟩ :=h; exact ⟨dx,q,s _ _ e (fun _ z=>nomatch z),FmAt.mono s h⟩
  | join w gs=>obtain ⟨dx,tp,ps,e,e2,h⟩ :=h; exact ⟨dx,tp,ps,s _ _ e (fun _ z=>nomatch z),s _ _ e2 (fun _ z=>nomatch z),Zah (fun a b h=>FmAt.mono s h) h⟩
theorem FmAt.le:∀ {n m:Nat} {p:Addr} {f:Fm},n≤m→FmAt t H n p f→FmAt t H m p f
 | 0,_,_,_,_,h=>h.elim
 | n + 1,0,_,_,hm,_=>absurd hm (by omega)
 | n + 1,m + 1,p,f,hm,h=>by
  have hm':n≤m:=by omega
  cases f with
  | lamp k=>exact h
  | sure b=>exact h
  | neg g=>obtain ⟨dx,q,e,h⟩ :=h; exact ⟨dx,q,e,FmAt.le hm' h⟩
  | join w gs=>obtain ⟨dx,tp,ps,e,e2,h⟩ :=h; exact ⟨dx,tp,ps,e,e2,Zah (fun a b h=>FmAt.le hm' h) h⟩
theorem ZKt (t:Ad) (w:W3):isFm t (cw t w):=by
 cases w
 ·exact .inr (.inr (.inr (.inl rfl)))
 ·exact .inr (.inr (.inr (.inr (.inl rfl))))
 ·exact .inr (.inr (.inr (.inr (.inr rfl))))
theorem FmAt.ins (h:FmAt t H n p f) (m:Str) (h1 : ¬ m = "at") (h2 : ¬ m = "truth") (h3 : ¬ m = "part") (h4 : ¬ m = "parts"):∃ C dx fs,H p=some (.ins C dx fs)∧isFm t C∧fs.lookup m=none:=by
 cases n with
 | zero=>exact h.elim
 | succ n=>
  cases f with
  | lamp k=>obtain ⟨dx,e⟩ :=h; exact ⟨_,dx,_,e,.inl rfl,lk0 _ h1⟩
  | sure b=>obtain ⟨dx,e⟩ :=h; exact ⟨_,dx,_,e,.inr (.inl rfl),lk0 _ h2⟩
  | neg g=>obtain ⟨dx,q,e,h⟩ :=h; exact ⟨_,dx,_,e,.inr (.inr (.inl rfl)),lk0 _ h3⟩
  | join w gs=>obtain ⟨dx,tp,ps,e,e2,h⟩ :=h; exact ⟨_,dx,_,e,ZKt t w,lk0 _ h4⟩
theorem FmAt.lamp {dx:Addr} {fs:List (Str × V)} (T:Txt K mg t) (h:FmAt t H (n + 1) p f) (e:H p=some (.ins t.Zax dx fs)):∃ k:Nat,f=.lamp k∧fs=[(("at" : Str),.int (k:Int))]:=by
 cases f with
 | lamp k=>obtain ⟨dx',e'⟩ :=h; rw [e] at e'; injection e' with e'; injection e' with _ _ e'; exact ⟨k,rfl,e'⟩
 | sure b=>obtain ⟨dx',e'⟩ :=h; rw [e] at e'; injection e' with e'; injection e' with e' _ _; exact absurd e' T.ZpQ
 | neg g=>obtain ⟨dx',q,e',_⟩ :=h; rw [e] at e'; injection e' with e'; injection e' with e' _ _; exact absurd e' T.ZsM
 | join w gs=>obtain ⟨dx',tp,ps,e',_⟩ :=h; rw [e] at e'; injection e' with e'; injection e' with e' _ _; cases w; exact absurd e' T.ZsL; exact absurd e' T.Zls; exact absurd e' T.Zxc
theorem FmAt.sure {dx:Addr} {fs:List (Str × V)} (T:Txt K mg t) (h:FmAt t H (n + 1) p f) (e:H p=some (.ins t.Zay dx fs)):∃ b:Bool,f=.sure b∧fs=[(("truth" : Str),.bl b)]:=by
 cases f with
 | lamp k=>obtain ⟨dx',e'⟩ :=h; rw [e] at e'; injection e' with e'; injection e' with e' _ _; exact absurd e'.symm T.ZpQ
 | sure b=>obtain ⟨dx',e'⟩ :=h; rw [e] at e'; injection e' with e'; injection e' with _ _ e'; exact ⟨b,rfl,e'⟩
 | neg g=>obtain ⟨dx',q,e',_⟩ :=h; rw [e] at e'; injection e' with e'; injection e' with e' _ _; exact absurd e' T.ZsP
 | join w gs=>obtain ⟨dx',tp,ps,e',_⟩ :=h; rw [e] at e'; injection e' with e'; injection e' with e' _ _; cases w; exact absurd e' T.ZsO; exact absurd e' T.Zlt; exact absurd e' T.Zxg
theorem FmAt.neg {dx:Addr} {fs:List (Str × V)} (T:Txt K mg t) (h:FmAt t H (n + 1) p f) (e:H p=some (.ins t.C_Not dx fs)):∃ g q,f=.neg g∧fs=[(("part" : Str),.ref q)]∧FmAt t H n q g:=by
 cases f with
 | lamp k=>obtain ⟨dx',e'⟩ :=h; rw [e] at e'; injection e' with e'; injection e' with e' _ _; exact absurd e'.symm T.ZsM
 | sure b=>obtain ⟨dx',e'⟩ :=h; rw [e] at e'; injection e' with e'; injection e' with e' _ _; exact absurd e'.symm T.ZsP
 | neg g=>obtain ⟨dx',q,e',h⟩ :=h; rw [e] at e'; injection e' with e'; injection e' with _ _ e'; exact ⟨g,q,rfl,e',h⟩
 | join w gs=>obtain ⟨dx',tp,ps,e',_⟩ :=h; rw [e] at e'; injection e' with e'; injection e' with e' _ _; cases w; exact absurd e' T.Zxe; exact absurd e' T.Znw; exact absurd e' T.ZAG
theorem ZD3 (T:Txt K mg t) {v w:W3} (e:cw t v=cw t w):v=w:=by
 cases v <;> cases w <;> first
  | rfl
  | exact absurd e T.Znv
  | exact absurd e T.ZAy
  | exact absurd e T.ZpP
  | exact absurd e.symm T.Znv
  | exact absurd e.symm T.ZAy
  | exact absurd e.symm T.ZpP
theorem FmAt.join {dx:Addr} {fs:List (Str × V)} {w:W3} (T:Txt K mg t) (h:FmAt t H (n + 1) p f) (e:H p=some (.ins (cw t w) dx fs)) :
  ∃ gs tp ps,f=.join w gs∧fs=[(("parts" : Str),.ref tp)]∧H tp=some (.tup (ps.map V.ref))∧Paired (FmAt t H n) ps gs:=by
 cases f with
 | lamp k=>obtain ⟨dx',e'⟩ :=h; rw [e] at e'; injection e' with e'; injection e' with e' _ _; cases w; exact absurd e'.symm T.ZsL; exact absurd e'.symm T.Zls; exact absurd e'.symm T.Zxc
 | sure b=>obtain ⟨dx',e'⟩ :=h; rw [e] at e'; injection e' with e'; injection e' with e' _ _; cases w; exact absurd e'.symm T.ZsO; exact absurd e'.symm T.Zlt; exact absurd e'.symm T.Zxg
 | neg g=>obtain ⟨dx',q,e',_⟩ :=h; rw [e] at e'; injection e' with e'; injection e' with e' _ _; cases w; exact absurd e'.symm T.Zxe; exact absurd e'.symm T.Znw; exact absurd e'.symm T.ZAG
 | join v gs=>
  obtain ⟨dx',tp,ps,e',e2,h⟩ :=h
  rw [e] at e'; injection e' with e'; injection e' with e1 _ e3
  obtain rfl:=ZD3 T e1
  exact ⟨gs,tp,ps,rfl,e3,e2,h⟩
theorem ZG4 (T:Txt K mg t):MkS P w K mg base 1 "Lamp" t.Zax ["self","at"] (ZAr t.Zax "at"):=by
 refine ⟨T.ZJP,_,_,T.ZJJ,T.Zu5.ok ZCc (fun vs H Q E h=>?_) (fun cdv A outer s H vs Q E hr h=>?_),T.Zvp⟩
 ·obtain ⟨p,dx,v,rfl,_⟩ :=h
  rfl
 ·obtain ⟨p,dx,v,rfl,hp,q⟩ :=h
  refine ⟨_,(Zae (Zes (pv 0) (pv 1) rfl)),?_⟩
  walk_at "rd0"
  exact ⟨p,_,_,_,rfl,hp,T.Zx3,T.ZhS,by decide,q⟩
theorem ZG6 (T:Txt K mg t):MkS P w K mg base 1 "Sure" t.Zay ["self","truth"] (ZAr t.Zay "truth"):=by
 refine ⟨T.ZJR,_,_,T.ZJL,T.Zu8.ok ZCe (fun vs H Q E h=>?_) (fun cdv A outer s H vs Q E hr h=>?_),T.Zvr⟩
 ·obtain ⟨p,dx,v,rfl,_⟩ :=h
  rfl
 ·obtain ⟨p,dx,v,rfl,hp,q⟩ :=h
  refine ⟨_,(Zae (Zes (pv 0) (pv 1) rfl)),?_⟩
  walk_at "rd0"
  exact ⟨p,_,_,_,rfl,hp,T.Zx4,T.ZdJ,by decide,q⟩
theorem ZJT (T:Txt K mg t):MkS P w K mg base 1 "Not" t.C_Not ["self","part"] (ZAr t.C_Not "part"):=by
 refine ⟨T.m_Not,_,_,T.k_Not,T.ZxW.ok ZDB (fun vs H Q E h=>?_) (fun cdv A outer s H vs Q E hr h=>?_),T.ZxZ⟩
 ·obtain ⟨p,dx,v,rfl,_⟩ :=h
  rfl
 ·obtain ⟨p,dx,v,rfl,hp,q⟩ :=h
  refine ⟨_,(Zae (Zes (pv 0) (pv 1) rfl)),?_⟩
  walk_at "rd0"
  exact ⟨p,_,_,_,rfl,hp,T.c_Not,T.ZeT,by decide,q⟩
def Zw5 (C:Addr):Sp:=fun vs H Q _=>∃ p dx l ys,vs=[.ref p,.ref l]∧H p=some (.ins C dx [])∧H l=some (.lst ys)∧∀ tp,H tp=none→Q .non (upd (upd H tp (.tup ys)) p (.ins C dx [(("parts" : Str),.ref tp)]))
theorem Zsx {C:Addr} (T:Txt K mg t) (cl:Cls K C) (na:Zag K C "parts"):FnOk P w K mg base CX0 1 t.ZaO t.ZkN ["self","parts"] (Zw5 C):=by
 refine T.ZpS.ok ZxF (fun vs H Q E h=>?_) (fun cdv A outer s H vs Q E hr h=>?_)
 ·obtain ⟨p,dx,l,ys,rfl,_⟩ :=h
  rfl
 ·obtain ⟨p,dx,l,ys,rfl,hp,hl,q⟩ :=h
  refine ⟨_,(Zae (Zes (pv 0) (Zeq ZfK rfl T.B.tuple ZnE (Zaa (pv 1) Zad)) rfl)),?_⟩
  walk_at "rd0"
  refine Zyg hl fun tp htp=>?_
  walk_at "rd"
  exact ⟨p,_,_,_,rfl,by rw [ZaS (Zaf hp htp)]; exact hp,cl,na,by decide,q tp htp⟩
theorem ZJS (T:Txt K mg t):MkS P w K mg base 1 "And" t.C_And ["self","parts"] (Zw5 t.C_And):=⟨T.m_And,_,_,T.k_And,Zsx T T.c_And T.ZeN,T.Zg6⟩
theorem ZB1 (T:Txt K mg t):MkS P w K mg base 1 "Either" t.Zan ["self","parts"] (Zw5 t.Zan):=⟨T.ZEu,_,_,T.ZEo,Zsx T T.ZnF T.Zcc,T.Zg6⟩
theorem ZMf (T:Txt K mg t):MkS P w K mg base 1 "Or" t.C_Or ["self","parts"] (Zw5 t.C_Or):=⟨T.m_Or,_,_,T.k_Or,Zsx T T.c_Or T.ZfY,T.Zg6⟩
theorem Zsp {C l:Addr} {ys:List V} {H:Hp} {Q:VK} (hl:H l=some (.lst ys)) (h:∀ (x dx tp:Addr) (H':Hp),Same H H'→H x=none→H' x=some (.ins C dx [(("parts" : Str),.ref tp)])→H' tp=some (.tup ys)→Q (.ref x) H') :
  MkG C (Zw5 C) [.ref l] H Q:=by
 intro x dx hx hdx ne
 have s2:=Znq hx hdx (.ins C dx []) (.own x)
 refine ⟨x,dx,l,ys,rfl,Zaz,s2 _ _ hl,fun tp htp=>⟨rfl,?_⟩⟩
 have hxt:tp ≠ x:=by
  intro e; subst e; rw [Zaz] at htp; cases htp
 have htp0:H tp=none:=s2.free htp
 refine h x dx tp _ (fun b o e=>?_) hx Zaz (by rw [ZaS hxt,Zaz])
 rw [ZaS (Zaf e hx),ZaS (Zaf e htp0),ZaS (Zaf e hx),ZaS (Zaf e hdx)]
 exact e
end
def Lt (z:Str):Prop:=∀ c ∈ z.cps.toList,97≤c∧c≤122
theorem ZIu {z:Str} (h:Lt z) (lo hi:Option Int):Lt (Txt.slice z lo hi):=by
 unfold Txt.slice
 split
 ·exact h
 ·intro c hc
  have hc:c ∈ (Builtin.Str.strSliceIndices lo hi 1 z.length).filterMap (z.cps[·]?):=by simpa using hc
  obtain ⟨i,_,e⟩ :=List.mem_filterMap.mp hc
  obtain ⟨hi,e⟩ :=Array.getElem?_eq_some_iff.mp e
  exact h c (by rw [← e]; simp)
theorem Zwn {x y:Str} (hx:Lt x) (hy:Lt y):Lt (x ++ y):=by
 intro c hc
 have hc:c ∈ (x.cps ++ y.cps).toList:=hc
 rw [Array.toList_append,List.mem_append] at hc
 exact hc.elim (hx c) (hy c)
theorem ZGN {k:Nat} (h:k < 26):Lt ⟨#[97 + k]⟩ :=by
 intro c hc
 have hc:c ∈ [97 + k]:=hc
 rw [List.mem_singleton.mp hc]
 omega
def abc:Str:="abcdefghijklmnopqrstuvwxyz"
theorem ZJM:∀ k,k < 26→abc.cps.toList[k]?=some (97 + k):=by decide +kernel
theorem ZIo:∀ k,k < 26→Txt.find abc ⟨#[97 + k]⟩=(k:Int):=by decide +kernel
theorem ZKi {z:Str} {k:Nat} (h:k < z.length):∃ c,z.cps.toList[k]?=some c:=by
 have h:k < z.cps.toList.length:=by simpa [Str.length] using h
 exact ⟨_,List.getElem?_eq_getElem h⟩
theorem ZHl {α:Type} [DecidableEq α] (f:Nat→α):∀ (k:Nat) (L:List α),(∀ i,i < k→f i ∈ L)→(∀ i j,i < j→j < k→f i ≠ f j)→k≤L.length
 | 0,_,_,_=>Nat.zero_le _
 | k + 1,L,h,d=>by
  have hk:=h k (by omega)
  have:=ZHl f k (L.erase (f k)) (fun i hi=>(List.mem_erase_of_ne (d i k hi (by omega))).mpr (h i (by omega))) (fun i j hij hj=>d i j hij (by omega))
  rw [List.length_erase_of_mem hk] at this
  have:0 < L.length:=List.length_pos_of_mem hk
  omega
def rot (u:Str) (c j:Nat):Str:=u ++ ⟨#[97 + (c + j) % 26]⟩
theorem ZMD {u:Str} {c i j:Nat} (h:i < j) (hj:j < 26):rot u c i ≠ rot u c j:=by
 intro e
 have e:(u.cps ++ #[97 + (c + i) % 26])=(u.cps ++ #[97 + (c + j) % 26]):=congrArg Str.cps e
 have e:=congrArg Array.toList e
 rw [Array.toList_append,Array.toList_append] at e
 have e:=List.append_cancel_left e
 simp at e
 omega
theorem ZF1 {z:Str} (h:1≤z.length) (hz:Lt z):∃ c,c < 26∧z=rot (Txt.slice z none (some (-1))) c 0:=by
 have hl:z.cps.toList.length=z.length:=by simp [Str.length]
 obtain ⟨c,hc⟩ :=ZKi (z:=z) (k:=z.length - 1) (by omega)
 have hm:=hz c (List.mem_of_getElem? hc)
 refine ⟨c - 97,by omega,?_⟩
 have e1:Txt.slice z none (some (-1))=⟨(z.cps.toList.take (z.length - 1)).toArray⟩ :=by
  rw [PyProof.Rows.slice_to_neg (by decide)]
  show StrLaws.sliceText z none (some _)=_
  rw [StrLaws.sliceText_to (by constructor <;> omega)]
  rw [List.drop_zero,show ((max 0 ((z.length:Int) + -1)) - 0).toNat=z.length - 1 by omega]
 rw [e1]
 unfold rot
 have e2:z.cps.toList=z.cps.toList.take (z.length - 1) ++ [c]:=by
  have:=ZaY hc
  rw [show z.length - 1 + 1=z.cps.toList.length by omega,List.take_length] at this
  exact this
 have e3:97 + (c - 97 + 0) % 26=c:=by omega
 rw [e3]
 show z=Str.append _ _
 unfold Str.append
 obtain ⟨a⟩ :=z
 congr 1
 apply Array.toList_inj.mp
 rw [Array.toList_append]
 exact e2
theorem ZHv (u:Str) (c j:Nat):Txt.slice (rot u c j) none (some (-1))=u:=by
 have hl:(rot u c j).length=u.length + 1:=by unfold rot; rw [Zak]; rfl
 rw [PyProof.Rows.slice_to_neg (by decide)]
 show StrLaws.sliceText (rot u c j) none (some _)=_
 have hl2:(rot u c j).cps.toList.length=(rot u c j).length:=by simp [Str.length]
 rw [StrLaws.sliceText_to (by constructor <;> omega)]
 rw [List.drop_zero,show ((max 0 (((rot u c j).length:Int) + -1)) - 0).toNat=u.length by omega]
 obtain ⟨a⟩ :=u
 congr 1
 show ((a ++ #[97 + (c + j) % 26]).toList.take a.size).toArray=a
 rw [Array.toList_append,show a.size=a.toList.length by simp,List.take_left]
theorem ZIV (u:Str) (c j:Nat):atI (rot u c j).cps.toList (-1)=some (97 + (c + j) % 26):=by
 have e:(rot u c j).cps.toList=u.cps.toList ++ [97 + (c + j) % 26]:=by
  show (u.cps ++ #[97 + (c + j) % 26]).toList=_
  rw [Array.toList_append]
 rw [e]
 unfold atI ixN
 rw [if_neg (by decide),if_pos (by rw [List.length_append,List.length_singleton]; omega)]
 show (u.cps.toList ++ [97 + (c + j) % 26])[_]?=_
 rw [List.length_append,List.length_singleton,show (-1 + ((u.cps.toList.length + 1:Nat):Int)).toNat=u.cps.toList.length by omega,List.getElem?_append_right (Nat.le_refl _)]
 simp
theorem ZqR (x:Str):∀ ns:List Str,inV (.str x) (ns.map V.str)=decide (x ∈ ns)
 | []=>rfl
 | y :: ns=>by
  have ih:=ZqR x ns
  unfold inV at ih ⊢
  rw [List.map_cons,List.any_cons,ih]
  have e:eqV (.str y) (.str x)=decide (y=x):=rfl
  rw [e]
  by_cases h:y=x
  ·simp [h]
  ·have h' : ¬ x=y:=fun z=>h z.symm
   simp [h,h']
section
variable {P:Program} {w:World} {K:PySem.W.Frag} {mg:Str→Option Value} {base:Heap} {t:Ad} {n:Nat}
theorem ZIi {p:Addr} {x:Str} {ns:List Str} {H:Hp} {Q:VK} (h:H p=some (.lst (ns.map V.str))∨H p=some (.tup (ns.map V.str))) (k:Q (.bl (decide (x ∈ ns))) H):rInG K (.str x) (.ref p) H Q:=by
 refine .inr ⟨p,ns.map V.str,rfl,h.imp SqL.of SqT.of,rfl,?_,?_⟩
 ·rw [List.all_eq_true]
  intro v hv
  obtain ⟨z,_,rfl⟩ :=List.mem_map.mp hv
  rfl
 ·rw [ZqR]
  exact k
theorem ZNi {x:Int} {H:Hp} {Q:VK} (h:∀ e,e < 26→Q (.str ⟨#[97 + e]⟩) H):rIx K (.str "abcdefghijklmnopqrstuvwxyz") (.int (x % 26)) H Q:=by
 obtain ⟨e,he,he26⟩ : ∃ e:Nat,x % 26=(e:Int)∧e < 26:=⟨(x % 26).toNat,by omega,by omega⟩
 rw [he]
 exact ZKq (by decide) (ZyQ (ZJM e he26)) (h e he26)
end
def jn (z:List Nat):List (List Nat)→List Nat
 | []=>[]
 | [p]=>p
 | p :: q :: r=>p ++ z ++ jn z (q :: r)
theorem list_append (x y:Str):(x ++ y).cps.toList=x.cps.toList ++ y.cps.toList:=by
 show (x.cps ++ y.cps).toList=_
 rw [Array.toList_append]
theorem ZjV (z:Str):∀ ps:List Str,(Str.join z ps).cps.toList=jn z.cps.toList (ps.map fun p=>p.cps.toList)
 | []=>rfl
 | [p]=>rfl
 | p :: q :: r=>by
  show (p ++ z ++ Str.join z (q :: r)).cps.toList=_
  rw [list_append,list_append,ZjV z (q :: r)]
  rfl
def rp (c:Nat) (z l:List Nat):List Nat:=l.flatMap fun d=>if d=c then z else [d]
theorem Zno (c:Nat) (z a b:List Nat):rp c z (a ++ b)=rp c z a ++ rp c z b:=by
 unfold rp; rw [List.flatMap_append]
theorem ZsF {c:Nat} {z:List Nat}:∀ {p:List Nat},c ∉ p→rp c z p=p
 | [],_=>rfl
 | d :: p,h=>by
  have h1 : ¬ d=c:=fun e=>h (by rw [e]; exact List.mem_cons_self)
  have h2:c ∉ p:=fun e=>h (List.mem_cons_of_mem _ e)
  show (if d=c then z else [d]) ++ rp c z p=d :: p
  rw [if_neg h1,ZsF h2]
  rfl
theorem ZMG (c:Nat) (z:List Nat):rp c z [c]=z:=by
 show (if c=c then z else [c]) ++ []=z
 rw [if_pos rfl,List.append_nil]
theorem ZME (c:Nat) (z:List Nat):∀ ps:List (List Nat),(∀ p ∈ ps,c ∉ p)→rp c z (jn [c] ps)=jn z ps
 | [],_=>rfl
 | [p],h=>ZsF (h p List.mem_cons_self)
 | p :: q :: r,h=>by
  show rp c z (p ++ [c] ++ jn [c] (q :: r))=p ++ z ++ jn z (q :: r)
  rw [Zno,Zno,ZsF (h p List.mem_cons_self),ZMG,ZME c z (q :: r) fun x hx=>h x (List.mem_cons_of_mem _ hx)]
theorem ZE8 (x:Str) (c:Nat):∀ p ∈ (Txt.split x ⟨#[c]⟩).map fun p=>p.cps.toList,c ∉ p:=by
 intro p hp
 obtain ⟨q,hq,rfl⟩ :=List.mem_map.mp hp
 exact StrLaws.split_free x c q hq
theorem ZI6 (x:Str) (c:Nat):jn [c] ((Txt.split x ⟨#[c]⟩).map fun p=>p.cps.toList)=x.cps.toList:=by
 have e:=ZjV ⟨#[c]⟩ (Txt.split x ⟨#[c]⟩)
 rw [StrLaws.join_split] at e
 exact e.symm
theorem ZgQ (x z:Str) (c:Nat):(Txt.replace x ⟨#[c]⟩ z).cps.toList=rp c z.cps.toList x.cps.toList:=by
 rw [StrLaws.replace_one,ZjV,← ZME c _ _ (ZE8 x c),ZI6]
theorem ZJ0 {c:Nat} {z:List Nat} {n:Nat} (hz:z.length≤n) (h1:1≤n):∀ l:List Nat,(rp c z l).length≤l.length * n
 | []=>Nat.zero_le _
 | d :: l=>by
  have ih:=ZJ0 (c:=c) hz h1 l
  show ((if d=c then z else [d]) ++ rp c z l).length≤(l.length + 1) * n
  rw [List.length_append,Nat.succ_mul]
  by_cases e:d=c
  ·rw [if_pos e]; omega
  ·rw [if_neg e]; simp only [List.length_singleton]; omega
theorem ZMF {c:Nat} {z l:List Nat} {d:Nat} (h:d ∈ rp c z l):d ∈ l∨d ∈ z:=by
 unfold rp at h
 obtain ⟨e,he,hd⟩ :=List.mem_flatMap.mp h
 by_cases q:e=c
 ·rw [if_pos q] at hd; exact .inr hd
 ·rw [if_neg q] at hd; rw [List.mem_singleton.mp hd]; exact .inl he
def wl:List Nat→List Nat→List (List Nat)
 | [],cur=>if cur=[] then [] else [cur]
 | c :: cs,cur=>if c=32 then (if cur=[] then wl cs [] else cur :: wl cs []) else wl cs (cur ++ [c])
open StrLaws Builtin.Str in
def SwIs (x:Str) (cur:Nat) (st:SwSt):Prop:=
 st.fst=none∧(∀ p ∈ st.snd.fst.toList,p.2≤x.length)∧
 match st.snd.snd with
 | some b=>b < cur∧wsum st.snd.fst.toList≤b∧(st.snd.fst.toList.map fun p:Nat × Nat=>(strSub x p.1 p.2).cps.toList) ++ wl (x.cps.toList.drop cur) ((x.cps.toList.drop b).take (cur - b))=wl x.cps.toList []
 | none=>wsum st.snd.fst.toList≤cur∧(st.snd.fst.toList.map fun p:Nat × Nat=>(strSub x p.1 p.2).cps.toList) ++ wl (x.cps.toList.drop cur) []=wl x.cps.toList []
theorem ZH8 {l:List Nat} {k c:Nat} (h:l[k]?=some c):l.drop k=c :: l.drop (k + 1):=by
 obtain ⟨hk,e⟩ :=List.getElem?_eq_some_iff.mp h
 rw [List.drop_eq_getElem_cons hk,e]
theorem ZEW {l:List Nat} {b k c:Nat} (hb:b≤k) (h:l[k]?=some c):(l.drop b).take (k + 1 - b)=(l.drop b).take (k - b) ++ [c]:=by
 have e:k + 1 - b=(k - b) + 1:=by omega
 rw [e,List.take_add_one,List.getElem?_drop,show b + (k - b)=k by omega,h]
 rfl
open StrLaws Builtin.Str in
theorem Zw7 (x:Str) (hsp:∀ c ∈ x.cps.toList,Unicode.isSpace c=decide (c=32)):∀ (m cur:Nat) (st:SwSt),cur + m≤x.length→SwIs x cur st→SwIs x (cur + m) (forIn (List.range' cur m) st (swBody x (x.length + 1))).run
 | 0,cur,st,_,h=>h
 | m + 1,cur,(r,words,sta),hm,h=>by
  rw [List.range'_succ,List.forIn_cons]
  have e:cur + (m + 1)=(cur + 1) + m:=by omega
  rw [e]
  obtain ⟨h1,h2,h3⟩ :=h
  have hcs:cur < x.cps.size:=by show cur < x.length; omega
  have hcl:x.cps.toList[cur]?=some x.cps[cur]:=by rw [Array.getElem?_toList]; simp [hcs]
  have hc0:x.cps.getD cur 0=x.cps[cur]:=by simp [Array.getD,hcs]
  have hs:Unicode.isSpace (x.cps.getD cur 0)=decide (x.cps[cur]=32):=by rw [hc0]; exact hsp _ (List.mem_of_getElem? hcl)
  have hd:=ZH8 hcl
  have hsz : ¬ ((words.size == x.length + 1)=true):=by
   have a:=len_le_wsum words.toList
   have b:words.toList.length=words.size:=by simp
   have c:wsum words.toList≤cur:=by
    cases sta with
    | none=>exact h3.1
    | some b=>exact Nat.le_trans h3.2.1 (Nat.le_of_lt h3.1)
   rw [beq_iff_eq]; omega
  unfold swBody
  simp only [hsz,if_false]
  rw [hs]
  cases sta with
  | none=>
   obtain ⟨g1,g2⟩ :=h3
   rw [hd] at g2
   by_cases q:x.cps[cur]=32
   ·rw [decide_eq_true q]
    refine Zw7 x hsp m (cur + 1) _ (by omega) ⟨rfl,h2,Nat.le_succ_of_le g1,?_⟩
    rw [show wl (x.cps[cur] :: x.cps.toList.drop (cur + 1)) []=wl (x.cps.toList.drop (cur + 1)) [] by show (if x.cps[cur]=32 then _ else _)=_; rw [if_pos q]; rfl] at g2
    exact g2
   ·rw [decide_eq_false q]
    refine Zw7 x hsp m (cur + 1) _ (by omega) ⟨rfl,h2,Nat.lt_succ_self _,g1,?_⟩
    rw [show wl (x.cps[cur] :: x.cps.toList.drop (cur + 1)) []=wl (x.cps.toList.drop (cur + 1)) [x.cps[cur]] by show (if x.cps[cur]=32 then _ else _)=_; rw [if_neg q]; rfl] at g2
    rw [ZEW (Nat.le_refl cur) hcl,Nat.sub_self,List.take_zero]
    exact g2
  | some b=>
   obtain ⟨g0,g1,g2⟩ :=h3
   have g0:b < cur:=g0
   have g1:wsum words.toList≤b:=g1
   rw [hd] at g2
   have hne:(x.cps.toList.drop b).take (cur - b) ≠ []:=by
    intro z
    have:=congrArg List.length z
    rw [List.length_take,List.length_drop,Array.length_toList] at this
    simp only [List.length_nil] at this
    omega
   by_cases q:x.cps[cur]=32
   ·rw [decide_eq_true q]
    refine Zw7 x hsp m (cur + 1) _ (by omega) ⟨rfl,?_,?_,?_⟩
    ·intro p hp
     rw [Array.toList_push,List.mem_append,List.mem_singleton] at hp
     rcases hp with hp | rfl
     ·exact h2 p hp
     ·show cur≤x.length; omega
    ·show wsum (words.push (b,cur)).toList≤cur + 1
     rw [Array.toList_push,wsum_snoc]
     show wsum words.toList + (cur - b + 1)≤cur + 1
     omega
    ·show ((words.push (b,cur)).toList.map fun p:Nat × Nat=>(strSub x p.1 p.2).cps.toList) ++ wl (x.cps.toList.drop (cur + 1)) []=_
     rw [show wl (x.cps[cur] :: x.cps.toList.drop (cur + 1)) ((x.cps.toList.drop b).take (cur - b))=((x.cps.toList.drop b).take (cur - b)) :: wl (x.cps.toList.drop (cur + 1)) [] by show (if x.cps[cur]=32 then (if _=[] then _ else _) else _)=_; rw [if_pos q,if_neg hne]] at g2
     rw [Array.toList_push,List.map_append,List.append_assoc,← g2]
     congr 1
     show [(strSub x b cur).cps.toList] ++ _=_
     rw [strSub_toList]
     rfl
   ·rw [decide_eq_false q]
    refine Zw7 x hsp m (cur + 1) _ (by omega) ⟨rfl,h2,Nat.lt_succ_of_lt g0,g1,?_⟩
    rw [show wl (x.cps[cur] :: x.cps.toList.drop (cur + 1)) ((x.cps.toList.drop b).take (cur - b))=wl (x.cps.toList.drop (cur + 1)) ((x.cps.toList.drop b).take (cur - b) ++ [x.cps[cur]]) by show (if x.cps[cur]=32 then _ else _)=_; rw [if_neg q]] at g2
    rw [ZEW (Nat.le_of_lt g0) hcl]
    exact g2
open StrLaws Builtin.Str in
theorem ZDJ (x:Str) (hsp:∀ c ∈ x.cps.toList,Unicode.isSpace c=decide (c=32)):(Txt.words x).map (fun p=>p.cps.toList)=wl x.cps.toList []:=by
 have key:(wordsOf x).map (fun p=>p.cps.toList)=wl x.cps.toList []:=by
  unfold wordsOf
  rw [sw_eq]
  have k:=Zw7 x hsp x.length 0 ((none,#[],none):SwSt) (by omega) ⟨rfl,fun p hp=>by simp at hp,Nat.le_refl 0,rfl⟩
  rw [Nat.zero_add] at k
  generalize (forIn (List.range' 0 x.length) ((none,#[],none):SwSt) (swBody x (x.length + 1))).run=st at k
  obtain ⟨r,words,sta⟩ :=st
  obtain ⟨h1,h2,h3⟩ :=k
  have h1':r=none:=h1
  subst h1'
  have hdr:x.cps.toList.drop x.length=[]:=List.drop_of_length_le (by rw [Array.length_toList]; exact Nat.le_refl _)
  unfold swEnd
  cases sta with
  | none=>
   obtain ⟨g1,g2⟩ :=h3
   rw [hdr] at g2
   rw [List.map_map]
   rw [← g2]
   show _=_ ++ []
   rw [List.append_nil]
   rfl
  | some b=>
   obtain ⟨g0,g1,g2⟩ :=h3
   have g0:b < x.length:=g0
   rw [hdr] at g2
   have hne:(x.cps.toList.drop b).take (x.length - b) ≠ []:=by
    intro z
    have:=congrArg List.length z
    rw [List.length_take,List.length_drop,Array.length_toList] at this
    simp only [List.length_nil] at this
    have e:x.cps.size=x.length:=rfl
    omega
   show ((words.push (b,x.length)).toList.map _).map _=_
   rw [Array.toList_push,List.map_append,List.map_append,List.map_map,← g2]
   congr 1
   show [(strSub x b x.length).cps.toList]=if _=[] then [] else _
   rw [if_neg hne,strSub_toList]
 unfold Txt.words
 split
 ·rename_i hw
  have e:spaceWords x (x.length + 1)=[(0,x.length)]:=eq_of_beq hw
  unfold wordsOf at key
  rw [e] at key
  rw [← key]
  show [x.cps.toList]=[(strSub x 0 x.length).cps.toList]
  rw [sub_whole]
 ·exact key
theorem ZBu:∀ {a b:List Str},a.map (fun p=>p.cps.toList)=b.map (fun p=>p.cps.toList)→a=b
 | [],[],_=>rfl
 | [],_ :: _,h=>by cases h
 | _ :: _,[],h=>by cases h
 | x :: a,y :: b,h=>by
  have h1:x.cps.toList=y.cps.toList:=(List.cons.inj h).1
  have h2:=ZBu (List.cons.inj h).2
  have:x=y:=by
   cases x; cases y
   simp only [Str.mk.injEq]
   exact Array.toList_inj.mp h1
  rw [this,h2]
structure Lv where
 nots:Nat
 ands:List Fm
 eithers:List Fm
 ors:List Fm
 lack:Bool
def Lv.new:Lv:=⟨0,[],[],[],true⟩
def Lv.size (L:Lv):Nat:=L.nots + L.ands.length + L.eithers.length + L.ors.length
def negs:Nat→Fm→Fm
 | 0,f=>f
 | n + 1,f=>.neg (negs n f)
def ZcH (w:W3):List Fm→Fm
 | [f]=>f
 | fs=>.join w fs
theorem ZqS {w:W3} {fs:List Fm} (h:fs.length ≠ 1):ZcH w fs=.join w fs:=by
 match fs,h with
 | [],_=>rfl
 | [f],h=>exact absurd rfl h
 | _ :: _ :: _,_=>rfl
def Lv.part (L:Lv) (f:Fm):Lv:=⟨0,L.ands ++ [negs L.nots f],L.eithers,L.ors,false⟩
def Lv.join (L:Lv):W3→Lv
 | .a=>⟨L.nots,L.ands,L.eithers,L.ors,true⟩
 | .e=>⟨L.nots,[],L.eithers ++ [ZcH .a L.ands],L.ors,true⟩
 | .o=>⟨L.nots,[],[],L.ors ++ [ZcH .e (L.eithers ++ [ZcH .a L.ands])],true⟩
def Lv.whole (L:Lv):Fm:=ZcH .o (L.join .o).ors
def kw3:W3→Str
 | .a=>"and"
 | .e=>"either"
 | .o=>"or"
def idxS (z:Str):List Str→Option Nat
 | []=>none
 | n :: r=>if n=z then some 0 else (idxS z r).map (· + 1)
theorem ZqQ {z:Str}:∀ {ns:List Str} {j:Nat},idxS z ns=some j→ns[j]?=some z∧∀ m,m < j→ns[m]? ≠ some z
 | [],_,h=>by cases h
 | n :: r,j,h=>by
  unfold idxS at h
  by_cases e:n=z
  ·rw [if_pos e] at h
   cases h
   subst e
   exact ⟨rfl,fun m hm=>absurd hm (Nat.not_lt_zero _)⟩
  ·rw [if_neg e] at h
   obtain ⟨k,hk,rfl⟩ :=Option.map_eq_some_iff.mp h
   obtain ⟨h1,h2⟩ :=ZqQ hk
   refine ⟨by simpa using h1,fun m hm=>?_⟩
   cases m with
   | zero=>simpa using e
   | succ m=>simpa using h2 m (by omega)
theorem ZBl {z:Str}:∀ {ns:List Str},idxS z ns=none→z ∉ ns
 | [],_=>by simp
 | n :: r,h=>by
  unfold idxS at h
  by_cases e:n=z
  ·rw [if_pos e] at h; cases h
  ·rw [if_neg e] at h
   have:=ZBl (Option.map_eq_none_iff.mp h)
   simp only [List.mem_cons,not_or]
   exact ⟨fun y=>e y.symm,this⟩
def Znt (ns:List Str) (z:Str):Option Fm:=if z = "yes" then some (.sure true) else if z = "no" then some (.sure false) else (idxS z ns).map Fm.lamp
def ZFe (z:Str):Option W3:=if z = "and" then some .a else if z = "either" then some .e else if z = "or" then some .o else none
theorem ZIk {z:Str} {w:W3} (h:ZFe z=some w):z=kw3 w:=by
 unfold ZFe at h
 by_cases h1:z = "and"
 ·rw [if_pos h1] at h; cases h; exact h1
 ·rw [if_neg h1] at h
  by_cases h2:z = "either"
  ·rw [if_pos h2] at h; cases h; exact h2
  ·rw [if_neg h2] at h
   by_cases h3:z = "or"
   ·rw [if_pos h3] at h; cases h; exact h3
   ·rw [if_neg h3] at h; cases h
def Lv.word (ns:List Str) (L:Lv) (z:Str):Option Lv:=
 if L.lack=true then (if z = "not" then some ⟨L.nots + 1,L.ands,L.eithers,L.ors,L.lack⟩ else (Znt ns z).map L.part) else (ZFe z).map L.join
def ZdY (ns:List Str):List Lv→Str→Option (List Lv)
 | [],_=>none
 | L :: R,z=>if z = "("∧L.lack=true then some (Lv.new :: L :: R) else match R with
  | []=>(L.word ns z).map ([·])
  | M :: R'=>if z = ")"∧L.lack=false then some (M.part L.whole :: R') else (L.word ns z).map (· :: M :: R')
def runW (ns:List Str):List Lv→List Str→Option (List Lv)
 | S,[]=>some S
 | S,z :: r=>(ZdY ns S z).bind fun S'=>runW ns S' r
theorem Zif (ns:List Str):∀ (a b:List Str) (S:List Lv),runW ns S (a ++ b)=(runW ns S a).bind fun S'=>runW ns S' b
 | [],b,S=>rfl
 | z :: a,b,S=>by
  show (ZdY ns S z).bind _=((ZdY ns S z).bind _).bind _
  cases ZdY ns S z with
  | none=>rfl
  | some S'=>exact Zif ns a b S'
def endF:Lv→Option Fm:=fun L=>if L.lack=true then none else some L.whole
def ZsE (ns:List Str) (ws:List Str):Option Fm:=(runW ns [Lv.new] ws).bind fun S=>S.getLast?.bind endF
theorem ZHK {ns:List Str} {S S':List Lv} {z:Str} {n:Nat} (h:ZdY ns S z=some S') (hs:∀ L ∈ S,L.size≤n):∀ L ∈ S',L.size≤n + 1:=by
 have hp:∀ (L:Lv) (f:Fm),L.size≤n→(L.part f).size≤n + 1:=fun L f hl=>by
  unfold Lv.size Lv.part at *
  simp only [List.length_append,List.length_singleton] at *
  omega
 have hw:∀ (L L':Lv),L.size≤n→L.word ns z=some L'→L'.size≤n + 1:=fun L L' hl e=>by
  unfold Lv.word at e
  by_cases h1:L.lack=true
  ·rw [if_pos h1] at e
   by_cases h2:z = "not"
   ·rw [if_pos h2] at e
    cases e
    unfold Lv.size at *
    dsimp only at *
    omega
   ·rw [if_neg h2] at e
    obtain ⟨f,_,rfl⟩ :=Option.map_eq_some_iff.mp e
    exact hp L f hl
  ·rw [if_neg h1] at e
   obtain ⟨v,_,rfl⟩ :=Option.map_eq_some_iff.mp e
   cases v <;> (unfold Lv.size Lv.join at *; simp only [List.length_append,List.length_singleton,List.length_nil] at *; omega)
 cases S with
 | nil=>cases h
 | cons L R=>
  have hL:=hs L List.mem_cons_self
  have hR:∀ M ∈ R,M.size≤n + 1:=fun M hM=>Nat.le_succ_of_le (hs M (List.mem_cons_of_mem _ hM))
  simp only [ZdY] at h
  by_cases h1:z = "("∧L.lack=true
  ·rw [if_pos h1] at h
   cases h
   intro M hM
   rcases List.mem_cons.mp hM with rfl | hM
   ·exact Nat.zero_le _
   rcases List.mem_cons.mp hM with rfl | hM
   ·omega
   ·exact hR M hM
  ·rw [if_neg h1] at h
   cases R with
   | nil=>
    obtain ⟨L',e,rfl⟩ :=Option.map_eq_some_iff.mp h
    intro M hM
    rw [List.mem_singleton.mp hM]
    exact hw L L' hL e
   | cons N R'=>
    dsimp only at h
    by_cases h2:z = ")"∧L.lack=false
    ·rw [if_pos h2] at h
     cases h
     intro M hM
     rcases List.mem_cons.mp hM with rfl | hM
     ·exact hp N _ (hs N (List.mem_cons_of_mem _ List.mem_cons_self))
     ·exact hR M (List.mem_cons_of_mem _ hM)
    ·rw [if_neg h2] at h
     obtain ⟨L',e,rfl⟩ :=Option.map_eq_some_iff.mp h
     intro M hM
     rcases List.mem_cons.mp hM with rfl | hM
     ·exact hw L _ hL e
     ·exact hR M hM
theorem ZK5 {ns:List Str} {S S':List Lv} {z:Str} (h:ZdY ns S z=some S'):S' ≠ []:=by
 cases S with
 | nil=>cases h
 | cons L R=>
  simp only [ZdY] at h
  by_cases h1:z = "("∧L.lack=true
  ·rw [if_pos h1] at h; cases h; simp
  ·rw [if_neg h1] at h
   cases R with
   | nil=>obtain ⟨L',_,rfl⟩ :=Option.map_eq_some_iff.mp h; simp
   | cons N R'=>
    dsimp only at h
    by_cases h2:z = ")"∧L.lack=false
    ·rw [if_pos h2] at h; cases h; simp
    ·rw [if_neg h2] at h
     obtain ⟨L',_,rfl⟩ :=Option.map_eq_some_iff.mp h; simp
section
variable {X:Cx}
def ZHr:V→List V→Hp→VK→Prop:=fun x vs H Q=>∃ (l:Addr) (ns:List Str) (z:Str),x=.ref l∧vs=[.str z]∧H l=some (.lst (ns.map V.str))∧Q (.int ((ns.count z:Nat):Int)) H
open PySem.Spec PyProof PyProof.Rows in
theorem ZGU:MtM X "list.count" ZHr:=by
 intro pins s σ H x vs v us Q I rx rv h
 obtain ⟨l,ns,z,rfl,rfl,hH,q⟩ :=h
 cases rx
 obtain ⟨u,rfl,ru⟩ :=rv.one
 obtain ⟨tu,rfl⟩ :=(show ∃ t,u=Value.str z t from ru)
 obtain ⟨_,its,n,r,hl,e⟩ :=I.lstM hH
 have key:∀ (ys:List Str) (vs:List Value),Vals (ys.map V.str) vs→vs.countP (isTx z)=ys.count z∧∀ y ∈ vs,MeetsSeq.EqGives y (.str z tu) (isTx z y):=by
  intro ys
  induction ys with
  | nil=>
   intro vs hv
   cases hv
   exact ⟨rfl,fun y hy=>by cases hy⟩
  | cons y ys ih=>
   intro vs hv
   cases hv with
   | cons h1 h2=>
    obtain ⟨ty,rfl⟩ :=(show ∃ t,_=Value.str y t from h1)
    obtain ⟨a,b⟩ :=ih _ h2
    refine ⟨?_,fun v hv=>?_⟩
    ·rw [List.countP_cons,List.count_cons,a]
     rfl
    ·rcases List.mem_cons.mp hv with rfl | hv
     ·exact eqGives_str y z ty tu
     ·exact b v hv
 obtain ⟨k1,k2⟩ :=key ns its r
 refine call_meets F.slot_list_count ⟨_,e,rfl⟩ F.entry_list_count (F.args_list_count_2 _ _) (MeetsSeq.list_count l its.toArray n (.str z tu) (isTx z) (fun y hy=>k2 y (by simpa using hy))) ⟨e,?_⟩
 rw [show its.toArray.toList=its from rfl,k1]
 exact ⟨.int ((ns.count z:Nat):Int),H,I.tok _,⟨_,rfl⟩,q⟩
end
theorem ZIh {H:Hp} {Q:VK} {l:Addr} {ns:List Str} {z:Str} (h:H l=some (.lst (ns.map V.str))) (q:Q (.int ((ns.count z:Nat):Int)) H):ZHr (.ref l) [.str z] H Q:=⟨l,ns,z,rfl,rfl,h,q⟩
section
variable {P:Program} {w:World} {K:PySem.W.Frag} {mg:Str→Option Value} {base:Heap} {t:Ad}
def isL (c:Nat):Bool:=decide (97≤c) && decide (c≤122)
def isM (c:Nat):Bool:=c == 40 || c == 41 || c == 44
def al (c:Nat):Bool:=isL c || isM c || c == 32
theorem ZLY:∀ c,c < 128→(!(Builtin.Str.occurrences "abcdefghijklmnopqrstuvwxyz" ⟨#[c]⟩ 0 (Str.length "abcdefghijklmnopqrstuvwxyz") 1).isEmpty)=isL c:=by decide +kernel
theorem ZLZ:∀ c,c < 128→(!(Builtin.Str.occurrences "()," ⟨#[c]⟩ 0 (Str.length "(),") 1).isEmpty)=isM c:=by decide +kernel
theorem ZNp:∀ c,c < 128→decide ((⟨#[c]⟩ : Str) = " ")=(c == 32):=by decide +kernel
theorem ZH3:∀ c,c < 128→al c=true→Unicode.isSpace c=decide (c=32):=by decide +kernel
theorem ZNf {c:Nat} (h:al c=true):c < 128:=by
 unfold al isL isM at h
 simp only [Bool.or_eq_true,Bool.and_eq_true,decide_eq_true_eq,beq_iff_eq] at h
 omega
def padC (x:Str) (c:Nat):Str:=Txt.replace x ⟨#[c]⟩ ⟨#[32,c,32]⟩
def pad (x:Str):Str:=padC (padC (padC x 40) 41) 44
theorem ZnY (x:Str) (c:Nat):(padC x c).length≤x.length * 3:=by
 show (padC x c).cps.size≤x.cps.size * 3
 rw [← Array.length_toList,← Array.length_toList]
 unfold padC
 rw [ZgQ]
 exact ZJ0 (Nat.le_refl 3) (by decide) _
theorem ZDx {x:Str} {c:Nat} (h:∀ d ∈ x.cps.toList,al d=true) (hc:al c=true):∀ d ∈ (padC x c).cps.toList,al d=true:=by
 intro d hd
 unfold padC at hd
 rw [ZgQ] at hd
 rcases ZMF hd with z | z
 ·exact h d z
 ·have z:d ∈ [32,c,32]:=z
  simp only [List.mem_cons,List.not_mem_nil,or_false] at z
  rcases z with rfl | rfl | rfl
  ·rfl
  ·exact hc
  ·rfl
theorem ZJU {x:Str} (h:∀ d ∈ x.cps.toList,al d=true):∀ d ∈ (pad x).cps.toList,al d=true:=ZDx (ZDx (ZDx h rfl) rfl) rfl
theorem ZKK (x:Str):(pad x).length≤x.length * 27:=by
 have a:=ZnY x 40
 have b:=ZnY (padC x 40) 41
 have c:=ZnY (padC (padC x 40) 41) 44
 unfold pad
 omega
def padL (l:List Nat):List Nat:=l.flatMap fun c=>if isM c=true then [32,c,32] else [c]
theorem ZEB (a b:List Nat):padL (a ++ b)=padL a ++ padL b:=List.flatMap_append ..
theorem ZKL (c:Nat):rp 44 [32,44,32] (rp 41 [32,41,32] (rp 40 [32,40,32] [c]))=padL [c]:=by
 by_cases h1:c=40
 ·subst h1; rfl
 by_cases h2:c=41
 ·subst h2; rfl
 by_cases h3:c=44
 ·subst h3; rfl
 have e:isM c=false:=by unfold isM; simp [h1,h2,h3]
 rw [ZsF (c:=40) (by simp; omega),ZsF (c:=41) (by simp; omega),ZsF (c:=44) (by simp; omega)]
 unfold padL
 simp [e]
theorem ZHc:∀ l:List Nat,rp 44 [32,44,32] (rp 41 [32,41,32] (rp 40 [32,40,32] l))=padL l
 | []=>rfl
 | c :: l=>by
  have e:c :: l=[c] ++ l:=rfl
  rw [e,Zno,Zno,Zno,ZKL,ZHc l,ZEB]
theorem ZED (x:Str):(pad x).cps.toList=padL x.cps.toList:=by
 unfold pad padC
 rw [ZgQ,ZgQ,ZgQ]
 exact ZHc _
theorem ZEC:∀ l:List Nat,(padL l).length≤3 * l.length
 | []=>Nat.le_refl _
 | c :: l=>by
  have ih:=ZEC l
  have e:padL (c :: l)=(if isM c=true then [32,c,32] else [c]) ++ padL l:=rfl
  rw [e,List.length_append,List.length_cons]
  by_cases h:isM c=true
  ·rw [if_pos h]; simp only [List.length_cons,List.length_nil]; omega
  ·rw [if_neg h]; simp only [List.length_cons,List.length_nil]; omega
theorem ZII (x:Str):(pad x).length≤3 * x.length:=by
 have a:=ZEC x.cps.toList
 rw [← ZED] at a
 have e1:(pad x).cps.toList.length=(pad x).length:=by simp [Str.length]
 have e2:x.cps.toList.length=x.length:=by simp [Str.length]
 omega
theorem ZGf {σ:St} {H:Hp} {Q:VK} {c k:Nat} (e:σ[k]?=some (some (.str ⟨#[c]⟩))) (h:Q (.str ⟨#[32,c,32]⟩) H):tFs (tJc (tC (V.str " ")) (tJc (tFmt (tVar k)) (tJc (tC (V.str " ")) tJn))) σ H Q:=
 ⟨" ",rfl,Zbn (Nat.le_of_ble_eq_true rfl),_,e,⟨#[c]⟩,rfl,Zbn (Nat.le_of_ble_eq_true rfl),⟨#[c]⟩,rfl,Zbn (Nat.le_of_ble_eq_true rfl)," ",rfl,Zbn (Nat.le_of_ble_eq_true rfl),Zbn (Nat.le_of_ble_eq_true rfl),h⟩
theorem ZHX (x:Str):(Txt.words x).length≤x.length + 1:=by
 have:=StrLaws.words_weight x
 omega
def okW (z:Str):Bool:=z.cps.toList.all al
def ZK4:Sp:=fun vs H Q _=>∃ z:Str,vs=[.str z]∧Asc z∧z.length≤16000∧(okW z=false→Q .non H)∧(okW z=true→∀ H' p,Same H H'→H p=none→H' p=some (.lst ((Txt.words (pad z)).map V.str))→Q (.ref p) H')
theorem ZIH (T:Txt K mg t):FnS P w K mg base 1 "words" ["text"] (ZK4):=by
 refine ⟨_,_,T.ZCM.ok Zu2 (fun vs H Q E h=>?_) (fun cdv A outer s H vs Q E hr h=>?_),T.ZFR,T.ZCM.kp,T.ZGR⟩
 ·obtain ⟨z,rfl,ha,hz,q1,q2⟩ :=h
  rfl
 obtain ⟨z,rfl,ha,hz,q1,q2⟩ :=h
 refine ⟨_,(Zac (Zb5 PassesOwn.never rfl (ZdK (pv 0)) (sg 1 Zu2.nd)
   (Zae (ZbV (PW.pt (ZyB (Zav Zrt (pv 1) (ZxC rfl T.g_LETTERS) (by with_unfolding_all rfl)) (ZyB (Zav Zrt (pv 1) (ZxC rfl T.g_MARKS) (by with_unfolding_all rfl)) (Zz1 (Zav (Zuh hr.units) (pv 1) (ZxC rfl T.g_BLANK) (ZaQ _))))))
   (Zae (ZaA ZJW))
   ZaI)))
   (ZNz (ssp 2 Zu2.nd (pv 0))
   (ZHo (ZKT (i:=2) (j:=3) PassesOwn.never rfl Zu2.nd (ZxC rfl T.g_MARKS) (ZFw (ZzV Zau (ZzV (ZHi (pv 3)) (ZzV Zau ZKQ)))))
   (Zae (ZaA (ZB7 PySem.F.plainAttrs_str PySem.F.slot_str_split PySem.F.type_str_split ZIx (pv 2))))))),?_⟩
 walk_at "rd0"
 refine seqX (fun i σ H'=>H'=H∧(∀ j c,j < i→z.cps[j]?=some c→al c=true)∧∃ v,σ=[some (.str z),v,none,none]) ⟨rfl,fun j c hj=>absurd hj (Nat.not_lt_zero _),_,rfl⟩ ?_ ?_
 ·rintro i c σ H' hx ⟨rfl,hj,v,rfl⟩
  have hmem:c ∈ z.cps.toList:=List.mem_of_getElem? (by rw [Array.getElem?_toList]; exact hx)
  have c128:=ha c hmem
  have nx:al c=true→∀ j d,j < i + 1→z.cps[j]?=some d→al d=true:=fun h j d hj' hd=>by
   by_cases e:j=i
   ·subst e; rw [hx] at hd; cases hd; exact h
   ·exact hj j d (by omega) hd
  walk_at "rd"
  refine .inl ⟨_,_,rfl,rfl,?_⟩
  rw [ZLY c c128]
  dsimp only
  walk_at "rd"
  cases h1:isL c with
  | true=>
   refine Zbm rfl ?_
   refine Zbm rfl ?_
   walk_at "rd"
   exact ⟨rfl,nx (by unfold al; rw [h1]; rfl),_,rfl⟩
  | false=>
   refine Zgm rfl ?_
   walk_at "rd"
   refine .inl ⟨_,_,rfl,rfl,?_⟩
   rw [ZLZ c c128]
   dsimp only
   walk_at "rd"
   cases h2:isM c with
   | true=>
    refine Zbm rfl ?_
    refine Zbm rfl ?_
    walk_at "rd"
    exact ⟨rfl,nx (by unfold al; rw [h2,Bool.or_true]; rfl),_,rfl⟩
   | false=>
    refine Zgm rfl ?_
    walk_at "rd"
    rw [ZNp c c128]
    cases h3:c == 32 with
    | true=>
     refine Zbm rfl ?_
     walk_at "rd"
     exact ⟨rfl,nx (by unfold al; rw [h3,Bool.or_true]),_,rfl⟩
    | false=>
     refine Zgm rfl ?_
     walk_at "rd"
     refine q1 ?_
     unfold okW
     rw [List.all_eq_false]
     refine ⟨c,hmem,?_⟩
     unfold al
     rw [h1,h2,h3]
     exact Bool.false_ne_true
 ·rintro σ H' ⟨rfl,hj,v,rfl⟩
  have hall:∀ d ∈ z.cps.toList,al d=true:=fun c hc=>by
   obtain ⟨j,hj',e⟩ :=List.mem_iff_getElem.mp hc
   have hj2:j < z.cps.size:=by simpa using hj'
   exact hj j c hj2 (by rw [← Array.getElem?_toList,List.getElem?_eq_getElem hj',e])
  have hok:okW z=true:=List.all_eq_true.mpr hall
  have n1:=ZnY z 40
  have n2:=ZnY (padC z 40) 41
  have n3:=ZnY (padC (padC z 40) 41) 44
  walk_at "rd"
  refine ⟨_,rfl,by decide +kernel,?_⟩
  show tRep 2 3 _ [40,41,44] _ _ _
  refine ZGt z rfl (ZGf rfl ⟨_,rfl,rfl,?_,?_⟩)
  ·show z.length + (z.length + 1) * 3≤_; omega
  refine ZGt (padC z 40) rfl (ZGf rfl ⟨_,rfl,rfl,?_,?_⟩)
  ·show (padC z 40).length + ((padC z 40).length + 1) * 3≤_; omega
  refine ZGt (padC (padC z 40) 41) rfl (ZGf rfl ⟨_,rfl,rfl,?_,?_⟩)
  ·show (padC (padC z 40) 41).length + ((padC (padC z 40) 41).length + 1) * 3≤_; omega
  refine ZLU ?_
  walk_at "rd"
  have n4:=ZHX (pad z)
  have n5:=ZKK z
  have pl3:=ZII z
  refine ⟨tyS,pad z,rfl,by omega,.inl ⟨rfl,ZfD (by rw [List.length_map]; omega) fun p H1 s1 n1 e1=>?_⟩⟩
  exact q2 hok H1 p s1 n1 e1
end
def FmE (t:Ad) (H:Hp) (p:Addr) (f:Fm):Prop:=∃ n,FmAt t H n p f
def FmsE (t:Ad) (H:Hp) (l:Addr) (fs:List Fm):Prop:=∃ ps,H l=some (.lst (ps.map V.ref))∧Paired (FmE t H) ps fs
def ExtL (t:Ad) (H H':Hp):Prop:=∀ x u,H x=some u→(∀ xs,u ≠ .lst xs)→(∀ dx fs,u ≠ .ins t.Zar dx fs)→H' x=some u
section
variable {K:PySem.W.Frag} {σ:St} {H:Hp}
theorem Zwa {p C dx:Addr} {fs:List (Str × V)} {f:Str} {y:V} {R:Hp→Prop} (h:H p=some (.ins C dx fs)) (c:Cls K C) (n:Zag K C f) (z:fs.length < 1000) (k:∀ H',But p H H'→H' p=some (.ins C dx (putF f y fs))→R H') :
  ∃ a C dx fs,(V.ref p)=.ref a∧H a=some (.ins C dx fs)∧Cls K C∧Zag K C f∧fs.length < 1000∧R (upd H a (.ins C dx (putF f y fs))):=⟨p,C,dx,fs,rfl,h,c,n,z,k _ Zpd Zaz⟩
end
def Off2 (p l:Addr) (H H':Hp):Prop:=∀ b u,b ≠ p→b ≠ l→H b=some u→H' b=some u
section
variable {P:Program} {w:World} {K:PySem.W.Frag} {mg:Str→Option Value} {base:Heap} {t:Ad} {H H' H'':Hp}
theorem ExtL.trans (a:ExtL t H H') (b:ExtL t H' H''):ExtL t H H'':=fun x u e h1 h2=>b x u (a x u e h1 h2) h1 h2
theorem ExtL.of (s:Same H H'):ExtL t H H':=fun x u e _ _=>s x u e
theorem ExtL.lst {l:Addr} {xs:List V} (b:But l H H') (e:H l=some (.lst xs)):ExtL t H H':=fun x u z h1 _=>b x u (fun y=>by rw [y,e] at z; cases z; exact h1 _ rfl) z
theorem ExtL.lev {p dx:Addr} {fs:List (Str × V)} (b:But p H H') (e:H p=some (.ins t.Zar dx fs)):ExtL t H H':=fun x u z _ h2=>b x u (fun y=>by rw [y,e] at z; cases z; exact h2 _ _ rfl) z
theorem ZLr (T:Txt K mg t) (v:W3):cw t v ≠ t.Zar:=by
 cases v
 ·exact T.Zw9
 ·exact T.ZoR
 ·exact T.ZyG
theorem FmAt.extL (T:Txt K mg t) (s:ExtL t H H'):∀ {n:Nat} {p:Addr} {f:Fm},FmAt t H n p f→FmAt t H' n p f
 | 0,_,_,h=>h
 | n + 1,p,f,h=>by
  cases f with
  | lamp k=>obtain ⟨dx,e⟩ :=h; exact ⟨dx,s _ _ e (fun _ z=>nomatch z) fun _ _ z=>T.Zuy (HO.ins.inj z).1⟩
  | sure b=>obtain ⟨dx,e⟩ :=h; exact ⟨dx,s _ _ e (fun _ z=>nomatch z) fun _ _ z=>T.Zuz (HO.ins.inj z).1⟩
  | neg g=>obtain ⟨dx,q,e,h⟩ :=h; exact ⟨dx,q,s _ _ e (fun _ z=>nomatch z) (fun _ _ z=>T.Zxf (HO.ins.inj z).1),FmAt.extL T s h⟩
  | join w gs=>obtain ⟨dx,tp,ps,e,e2,h⟩ :=h; exact ⟨dx,tp,ps,s _ _ e (fun _ z=>nomatch z) (fun _ _ z=>ZLr T w (HO.ins.inj z).1),s _ _ e2 (fun _ z=>nomatch z) (fun _ _ z=>nomatch z),Zah (fun a b h=>FmAt.extL T s h) h⟩
theorem FmE.extL (T:Txt K mg t) (s:ExtL t H H') {p:Addr} {f:Fm} (h:FmE t H p f):FmE t H' p f:=let ⟨n,h⟩ :=h; ⟨n,h.extL T s⟩
theorem FmE.same (s:Same H H') {p:Addr} {f:Fm} (h:FmE t H p f):FmE t H' p f:=let ⟨n,h⟩ :=h; ⟨n,h.mono (Ext.of s)⟩
theorem FmE.neg {q p dx:Addr} {f:Fm} (e:H q=some (.ins t.C_Not dx [(("part" : Str),.ref p)])) (h:FmE t H p f):FmE t H q (.neg f):=let ⟨n,h⟩ :=h; ⟨n + 1,dx,p,e,h⟩
theorem ZLw:∀ {ps:List Addr} {fs:List Fm},Paired (FmE t H) ps fs→∃ n,Paired (FmAt t H n) ps fs
 | _,_,.nil=>⟨0,.nil⟩
 | _,_,.cons h r=>by
  obtain ⟨n,h⟩ :=h
  obtain ⟨m,r⟩ :=ZLw r
  exact ⟨max n m,.cons (h.le (Nat.le_max_left _ _)) (Zah (fun _ _ z=>z.le (Nat.le_max_right _ _)) r)⟩
theorem FmE.join {x dx tp:Addr} {ps:List Addr} {fs:List Fm} {v:W3} (e:H x=some (.ins (cw t v) dx [(("parts" : Str),.ref tp)])) (e2:H tp=some (.tup (ps.map V.ref))) (h:Paired (FmE t H) ps fs):FmE t H x (.join v fs):=
 let ⟨n,h⟩ :=ZLw h; ⟨n + 1,dx,tp,ps,e,e2,h⟩
theorem FmsE.snoc {l:Addr} {ps:List Addr} {fs:List Fm} {q:Addr} {f:Fm} (e:H l=some (.lst (ps.map V.ref ++ [.ref q]))) (h:Paired (FmE t H) ps fs) (hq:FmE t H q f):FmsE t H l (fs ++ [f]):=
 ⟨ps ++ [q],by rw [List.map_append]; exact e,ZaF h (.cons hq .nil)⟩
def ZfH (n:Nat) (a e o:Addr) (b:Bool):List (Str × V):=[(("nots" : Str),.int (n:Int)),(("ands" : Str),.ref a),(("eithers" : Str),.ref e),(("ors" : Str),.ref o),(("lacking" : Str),.bl b)]
structure LvAt (t:Ad) (H:Hp) (p dx a e o:Addr) (L:Lv):Prop where
 ob:H p=some (.ins t.Zar dx (ZfH L.nots a e o L.lack))
 la:FmsE t H a L.ands
 le:FmsE t H e L.eithers
 lo:FmsE t H o L.ors
 ae:a ≠ e
 ao:a ≠ o
 eo:e ≠ o
theorem FmsE.keep (T:Txt K mg t) (s:ExtL t H H') {l:Addr} {fs:List Fm} (h:FmsE t H l fs) (k:∀ xs,H l=some (.lst xs)→H' l=some (.lst xs)):FmsE t H' l fs:=by
 obtain ⟨ps,e,p⟩ :=h
 exact ⟨ps,k _ e,Zah (fun _ _ z=>FmE.extL T s z) p⟩
theorem LvAt.keep (T:Txt K mg t) {p dx a e o:Addr} {L:Lv} (V:LvAt t H p dx a e o L) (s:ExtL t H H') (k:∀ x u,x=p∨x=a∨x=e∨x=o→H x=some u→H' x=some u):LvAt t H' p dx a e o L:=
 ⟨k _ _ (.inl rfl) V.ob,V.la.keep T s fun _ z=>k _ _ (.inr (.inl rfl)) z,V.le.keep T s fun _ z=>k _ _ (.inr (.inr (.inl rfl))) z,V.lo.keep T s fun _ z=>k _ _ (.inr (.inr (.inr rfl))) z,V.ae,V.ao,V.eo⟩
theorem LvAt.same (T:Txt K mg t) {p dx a e o:Addr} {L:Lv} (V:LvAt t H p dx a e o L) (s:Same H H'):LvAt t H' p dx a e o L:=V.keep T (ExtL.of s) fun x u _ z=>s x u z
def Zu3 (t:Ad) (v:W3):Sp:=fun vs H Q _=>∃ (l:Addr) (fs:List Fm),vs=[.ref l]∧FmsE t H l fs∧∀ q H',Same H H'→FmE t H' q (ZcH v fs)→Q (.ref q) H'
theorem ZG7 (T:Txt K mg t):FnS P w K mg base 3 "and_of" ["parts"] ((Zu3 t .a)):=by
 refine ⟨_,_,T.ZyH.ok ZHw (fun vs H Q E h=>?_) (fun cdv A outer s H vs Q E hr h=>?_),T.ZDT,T.ZyH.kp,T.ZEv⟩
 ·obtain ⟨l,fs,rfl,hF,q⟩ :=h
  rfl
 obtain ⟨l,fs,rfl,hF,q⟩ :=h
 obtain ⟨ps,hl,hp⟩ :=hF
 have M_And:=ZJS (P:=P) (w:=w) (base:=base) T
 have hz:=Zas hp
 refine ⟨_,(Zae (ZaA (Zrv (Zav (ZbZ hr.units) (Zbr Zbl rfl T.B.len ZfG (Zaa (pv 0) Zad)) Zam (ZaQ _)) (ZbE ZaW (pv 0) Zam (fun _ _=>rfl)) (Zng M_And hr (Zaa (pv 0) Zad))))),?_⟩
 walk_at "rd0"
 rw [List.length_map,hz]
 refine ZhG (fun h=>?_) (fun h=>?_)
 ·match ps,fs,hp,hz with
  | [p0],[f0],.cons h0 .nil,_=>
   walk_at "rd"
   refine ZdP (j:=0) (v:=.ref p0) hl rfl ?_
   exact q p0 H (Same.refl _) h0
  | [],[],_,_=>exact absurd h (by decide)
  | _ :: _ :: _,_ :: _ :: _,_,_=>simp only [List.length_cons] at h; omega
 ·walk_at "rd"
  refine Zsp hl fun x dx tp H1 s1 n1 e1 e2=>?_
  refine q x H1 s1 ?_
  rw [ZqS (by omega)]
  exact FmE.join (v:=.a) e1 e2 (Zah (fun _ _ z=>FmE.same s1 z) hp)
theorem ZB3 (T:Txt K mg t):FnS P w K mg base 3 "either_of" ["parts"] ((Zu3 t .e)):=by
 refine ⟨_,_,T.ZoW.ok ZCh (fun vs H Q E h=>?_) (fun cdv A outer s H vs Q E hr h=>?_),T.Zvw,T.ZoW.kp,T.Zws⟩
 ·obtain ⟨l,fs,rfl,hF,q⟩ :=h
  rfl
 obtain ⟨l,fs,rfl,hF,q⟩ :=h
 obtain ⟨ps,hl,hp⟩ :=hF
 have ZyK:=ZB1 (P:=P) (w:=w) (base:=base) T
 have hz:=Zas hp
 refine ⟨_,(Zae (ZaA (Zrv (Zav (ZbZ hr.units) (Zbr Zbl rfl T.B.len ZfG (Zaa (pv 0) Zad)) Zam (ZaQ _)) (ZbE ZaW (pv 0) Zam (fun _ _=>rfl)) (Zng ZyK hr (Zaa (pv 0) Zad))))),?_⟩
 walk_at "rd0"
 rw [List.length_map,hz]
 refine ZhG (fun h=>?_) (fun h=>?_)
 ·match ps,fs,hp,hz with
  | [p0],[f0],.cons h0 .nil,_=>
   walk_at "rd"
   refine ZdP (j:=0) (v:=.ref p0) hl rfl ?_
   exact q p0 H (Same.refl _) h0
  | [],[],_,_=>exact absurd h (by decide)
  | _ :: _ :: _,_ :: _ :: _,_,_=>simp only [List.length_cons] at h; omega
 ·walk_at "rd"
  refine Zsp hl fun x dx tp H1 s1 n1 e1 e2=>?_
  refine q x H1 s1 ?_
  rw [ZqS (by omega)]
  exact FmE.join (v:=.e) e1 e2 (Zah (fun _ _ z=>FmE.same s1 z) hp)
theorem ZIG (T:Txt K mg t):FnS P w K mg base 3 "or_of" ["parts"] ((Zu3 t .o)):=by
 refine ⟨_,_,T.ZCL.ok ZIW (fun vs H Q E h=>?_) (fun cdv A outer s H vs Q E hr h=>?_),T.ZFQ,T.ZCL.kp,T.ZGQ⟩
 ·obtain ⟨l,fs,rfl,hF,q⟩ :=h
  rfl
 obtain ⟨l,fs,rfl,hF,q⟩ :=h
 obtain ⟨ps,hl,hp⟩ :=hF
 have M_Or:=ZMf (P:=P) (w:=w) (base:=base) T
 have hz:=Zas hp
 refine ⟨_,(Zae (ZaA (Zrv (Zav (ZbZ hr.units) (Zbr Zbl rfl T.B.len ZfG (Zaa (pv 0) Zad)) Zam (ZaQ _)) (ZbE ZaW (pv 0) Zam (fun _ _=>rfl)) (Zng M_Or hr (Zaa (pv 0) Zad))))),?_⟩
 walk_at "rd0"
 rw [List.length_map,hz]
 refine ZhG (fun h=>?_) (fun h=>?_)
 ·match ps,fs,hp,hz with
  | [p0],[f0],.cons h0 .nil,_=>
   walk_at "rd"
   refine ZdP (j:=0) (v:=.ref p0) hl rfl ?_
   exact q p0 H (Same.refl _) h0
  | [],[],_,_=>exact absurd h (by decide)
  | _ :: _ :: _,_ :: _ :: _,_,_=>simp only [List.length_cons] at h; omega
 ·walk_at "rd"
  refine Zsp hl fun x dx tp H1 s1 n1 e1 e2=>?_
  refine q x H1 s1 ?_
  rw [ZqS (by omega)]
  exact FmE.join (v:=.o) e1 e2 (Zah (fun _ _ z=>FmE.same s1 z) hp)
theorem ZLL {p:Addr} {x:Str} {ns:List Str} {Q:VK} (h:SqT K H p (ns.map V.str)) (k:Q (.bl (decide (x ∈ ns))) H):rInG K (.str x) (.ref p) H Q:=by
 refine .inr ⟨p,ns.map V.str,rfl,.inr h,rfl,?_,?_⟩
 ·rw [List.all_eq_true]
  intro v hv
  obtain ⟨z,_,rfl⟩ :=List.mem_map.mp hv
  rfl
 ·rw [ZqR]
  exact k
def Zxk (z:Str):Prop:=(reprText z).length≤900000
def ZI4 (t:Ad):Sp:=fun vs H Q E=>∃ (z:Str) (nl:Addr) (ns:List Str),vs=[.str z,.ref nl]∧H nl=some (.lst (ns.map V.str))∧ns.length≤1000∧Zxk z∧(∀ f,Znt ns z=some f→∀ q H',Same H H'→FmE t H' q f→Q (.ref q) H')∧(Znt ns z=none→∀ H',Same H H'→E (.ref t.Zaw) none H')
theorem ZG8 (T:Txt K mg t):FnS1 P w K mg base 3 "single" ["word","names"] ((ZI4 t)):=by
 refine ⟨_,_,T.ZyI.ok1 ZHx (fun vs H Q E h=>?_) (fun cdv A outer s H vs Q E hr h=>?_),T.ZDU,T.ZyI.kp,T.ZEw⟩
 ·obtain ⟨z,nl,ns,rfl,hn,h1000,hpl,q1,q2⟩ :=h
  rfl
 obtain ⟨z,nl,ns,rfl,hn,h1000,hpl,q1,q2⟩ :=h
 have ZDN:=ZG6 (P:=P) (w:=w) (base:=base) T
 have ZFJ:=ZG4 (P:=P) (w:=w) (base:=base) T
 unfold Znt at q1 q2
 refine ⟨_,(Zac (PS.nox (ZbV (Zav (ZbZ hr.units) (pv 0) Zau (ZaQ _))
   (Zae (ZaA (Zng ZDN hr (Zaa ZxA Zad))))
   ZaI))
   (Zac (PS.nox (ZbV (Zav (ZbZ hr.units) (pv 0) Zau (ZaQ _))
   (Zae (ZaA (Zng ZDN hr (Zaa ZxA Zad))))
   ZaI))
   (Zac (PS.nox (ZbV (Zav ZwN (pv 0) (pv 1) (by with_unfolding_all rfl))
   (Zae (ZaA (Zng ZFJ hr (Zaa (Zc8 PySem.F.plainAttrs_list PySem.F.slot_list_index PySem.F.type_list_index Zrh (pv 1) (Zaa (pv 0) Zad)) Zad))))
   ZaI))
   (Zae (Zz0 rfl ZKA T.Zlo.own rfl T.Zll (PA.nox (Zaa (Zrw (Zln (ZHj (pv 0)) (Zln Zau ZEH))) Zad))))))),?_⟩
 walk_at "rd0"
 refine ZhG (fun h1=>?_) (fun h1=>?_)
 ·rw [if_pos h1] at q1
  walk_at "rd"
  refine ZpA fun x dx H1 s1 n1 e1=>?_
  exact q1 _ rfl x H1 s1 ⟨1,dx,e1⟩
 rw [if_neg h1] at q1 q2
 walk_at "rd"
 refine ZhG (fun h2=>?_) (fun h2=>?_)
 ·rw [if_pos h2] at q1
  walk_at "rd"
  refine ZpA fun x dx H1 s1 n1 e1=>?_
  exact q1 _ rfl x H1 s1 ⟨1,dx,e1⟩
 rw [if_neg h2] at q1 q2
 walk_at "rd"
 refine ZIi (.inl hn) ?_
 walk_at "rd"
 cases hi:idxS z ns with
 | some j=>
  rw [hi] at q1
  obtain ⟨hj,hno⟩ :=ZqQ hi
  have hjl:=(List.getElem?_eq_some_iff.mp hj).1
  refine Zgm (decide_eq_true (List.mem_of_getElem? hj)) ?_
  walk_at "rd"
  refine ⟨tyL hn,?_⟩
  walk_at "rd"
  refine Zv6 hn hj hno (by omega) ?_
  walk_at "rd"
  refine ZpA fun x dx H1 s1 n1 e1=>?_
  exact q1 _ rfl x H1 s1 ⟨1,dx,e1⟩
 | none=>
  rw [hi] at q2
  refine Zbm (decide_eq_false (ZBl hi)) ?_
  walk_at "rd"
  (try dsimp only)
  refine ZC6 ?_
  walk_at "rd"
  have hpl':(reprText z).length≤900000:=hpl
  have e0:Str.empty.length=0:=rfl
  have e:=Zak Str.empty (reprText z)
  have e1:=Zak (Str.empty ++ reprText z) " has no place there"
  have e2:Str.length " has no place there" = 19:=rfl
  refine ⟨_,rfl,Zbn (by omega),_,rfl,Zbn (by omega),?_⟩
  walk_at "rd"
  refine ⟨_,rfl,Zbn (by omega),Zbn (by omega),?_⟩
  walk_at "rd"
  exact ⟨Nat.le_of_ble_eq_true rfl,q2 rfl H (Same.refl _)⟩
def ZHD (t:Ad):Sp:=fun vs H Q _=>∃ (p dx:Addr),vs=[.ref p]∧H p=some (.ins t.Zar dx [])∧∀ a e o H',But p H H'→H a=none→H e=none→H o=none→LvAt t H' p dx a e o Lv.new→Q .non H'
theorem ZIC (T:Txt K mg t):MkS P w K mg base 2 "Level" t.Zar ["self"] (ZHD t):=by
 refine ⟨T.ZGP,_,_,T.ZGC,T.ZsR.ok Zz8 (fun vs H Q E h=>?_) (fun cdv A outer s H vs Q E hr h=>?_),T.Zs7⟩
 ·obtain ⟨p,dx,rfl,_⟩ :=h
  rfl
 obtain ⟨p,dx,rfl,hp0,q⟩ :=h
 refine ⟨_,(Zac (Zes (pv 0) Zam rfl)
   (Zac (Zes (pv 0) (Zb0 Zad) rfl)
   (Zac (Zes (pv 0) (Zb0 Zad) rfl)
   (Zac (Zes (pv 0) (Zb0 Zad) rfl)
   (Zae (Zes (pv 0) ZxA rfl)))))),?_⟩
 walk_at "rd0"
 refine Zwa hp0 T.Zbc T.ZbJ (by decide) fun H1 b1 e1=>?_
 walk_at "rd"
 refine ZfD (by simp) fun a H2 s2 n2 e2=>?_
 walk_at "rd"
 refine Zwa (s2 _ _ e1) T.Zbc T.Zb4 (Nat.le_of_ble_eq_true rfl) fun H3 b3 e3=>?_
 walk_at "rd"
 refine ZfD (by simp) fun e H4 s4 n4 e4=>?_
 walk_at "rd"
 refine Zwa (s4 _ _ e3) T.Zbc T.Zbj (Nat.le_of_ble_eq_true rfl) fun H5 b5 e5=>?_
 walk_at "rd"
 refine ZfD (by simp) fun o H6 s6 n6 e6=>?_
 walk_at "rd"
 refine Zwa (s6 _ _ e5) T.Zbc T.ZdE (Nat.le_of_ble_eq_true rfl) fun H7 b7 e7=>?_
 walk_at "rd"
 refine Zwa e7 T.Zbc T.ZaE (Nat.le_of_ble_eq_true rfl) fun H8 b8 e8=>?_
 have pa:a ≠ p:=(Zaf e1 n2).symm
 have pe:e ≠ p:=(Zaf e3 n4).symm
 have po:o ≠ p:=(Zaf e5 n6).symm
 have a3:=b3 _ _ pa e2
 have a5:=b5 _ _ pa (s4 _ _ a3)
 have ee5:=b5 _ _ pe e4
 have k13:∀ x u,x ≠ p→H x=some u→H3 x=some u:=fun x u hx z=>b3 _ _ hx (s2 _ _ (b1 _ _ hx z))
 have k15:∀ x u,x ≠ p→H x=some u→H5 x=some u:=fun x u hx z=>b5 _ _ hx (s4 _ _ (k13 _ _ hx z))
 refine q a e o H8 (fun x u hx z=>b8 _ _ hx (b7 _ _ hx (s6 _ _ (k15 _ _ hx z)))) ?_ ?_ ?_ ⟨e8,⟨[],b8 _ _ pa (b7 _ _ pa (s6 _ _ a5)),.nil⟩,⟨[],b8 _ _ pe (b7 _ _ pe (s6 _ _ ee5)),.nil⟩,⟨[],b8 _ _ po (b7 _ _ po e6),.nil⟩,Zaf a3 n4,Zaf a5 n6,Zaf ee5 n6⟩
 ·cases z:H a with
  | none=>rfl
  | some u=>rw [b1 _ _ pa z] at n2; cases n2
 ·cases z:H e with
  | none=>rfl
  | some u=>rw [k13 _ _ pe z] at n4; cases n4
 ·cases z:H o with
  | none=>rfl
  | some u=>rw [k15 _ _ po z] at n6; cases n6
theorem ZGr {Q:VK} (h:∀ (p dx a e o:Addr) (H':Hp),Same H H'→H p=none→H a=none→H e=none→H o=none→LvAt t H' p dx a e o Lv.new→Q (.ref p) H'):MkG t.Zar (ZHD t) [] H Q:=by
 intro x dx hx hdx ne
 have s2:=Znq hx hdx (.ins t.Zar dx []) (.own x)
 refine ⟨x,dx,rfl,Zaz,fun a e o H' b ha he ho V=>⟨rfl,?_⟩⟩
 exact h x dx a e o H' (fun y u z=>b y u (Zaf z hx) (s2 y u z)) hx (s2.free ha) (s2.free he) (s2.free ho) V
theorem ZEM (n m:Nat) (a e o:Addr) (b:Bool):putF "nots" (.int (m:Int)) (ZfH n a e o b)=ZfH m a e o b:=rfl
theorem ZIR (n:Nat) (a a' e o:Addr) (b:Bool):putF "ands" (.ref a') (ZfH n a e o b)=ZfH n a' e o b:=rfl
theorem ZDz (n:Nat) (a e e' o:Addr) (b:Bool):putF "eithers" (.ref e') (ZfH n a e o b)=ZfH n a e' o b:=rfl
theorem ZwS (n:Nat) (a e o:Addr) (b b':Bool):putF "lacking" (.bl b') (ZfH n a e o b)=ZfH n a e o b':=rfl
theorem ZEs (n:Nat) (a e o:Addr) (b:Bool):(ZfH n a e o b).lookup ("nots" : Str)=some (.int (n:Int)):=rfl
theorem ZEr (n:Nat) (a e o:Addr) (b:Bool):(ZfH n a e o b).lookup ("ands" : Str)=some (.ref a):=rfl
theorem Zwl (n:Nat) (a e o:Addr) (b:Bool):(ZfH n a e o b).lookup ("eithers" : Str)=some (.ref e):=rfl
theorem ZGI (n:Nat) (a e o:Addr) (b:Bool):(ZfH n a e o b).lookup ("ors" : Str)=some (.ref o):=rfl
theorem ZfW (n:Nat) (a e o:Addr) (b:Bool):(ZfH n a e o b).lookup ("lacking" : Str)=some (.bl b):=rfl
theorem Zre (n:Nat) (a e o:Addr) (b:Bool):(ZfH n a e o b).lookup ("take_part" : Str)=none:=rfl
theorem Zrd (n:Nat) (a e o:Addr) (b:Bool):(ZfH n a e o b).lookup ("take_join" : Str)=none:=rfl
theorem Zze (n:Nat) (a e o:Addr) (b:Bool):(ZfH n a e o b).lookup ("take_word" : Str)=none:=rfl
theorem ZBv (n:Nat) (a e o:Addr) (b:Bool):(ZfH n a e o b).lookup ("whole" : Str)=none:=rfl
def isLv (t:Ad) (C:Addr):Prop:=C=t.Zar
def ZMT (t:Ad):Sp:=fun vs H Q _=>∃ (p dx a e o q:Addr) (L:Lv) (f:Fm),vs=[.ref p,.ref q]∧LvAt t H p dx a e o L∧FmE t H q f∧L.size < 900000∧∀ H',Off2 p a H H'→LvAt t H' p dx a e o (L.part f)→Q .non H'
theorem Zoe (T:Txt K mg t):∀ C,isLv t C→MeS P w K mg base 3 C "take_part" ["self","part"] (spAt (ZMT t) C):=by
 rintro C rfl
 refine ⟨T.Zbc,_,_,T.ZjD.ok Zfz (fun vs H Q E h=>?_) (fun cdv A outer s H vs Q E hr h=>?_),T.ZjI,T.ZjT⟩
 ·obtain ⟨⟨p,dx,a,e,o,q,L,f,rfl,_⟩,_⟩ :=h
  rfl
 obtain ⟨⟨p,dx,a,e,o,q,L,f,rfl,Y,hf,hz,k⟩,_⟩ :=h
 have M_Not:=ZJT (P:=P) (w:=w) (base:=base) T
 have hz':L.nots < 900000∧L.ands.length < 900000:=by unfold Lv.size at hz; omega
 refine ⟨_,(Zac (Zb5 PassesOwn.never rfl (Zer rfl T.B.range (Zaa (Zdf (pv 0) rfl) Zad)) (sg 2 Zfz.nd)
   (Zae (ss 1 Zfz.nd (Zng M_Not hr (Zaa (pv 1) Zad)))))
   (Zac (Zes (pv 0) Zam rfl)
   (Zac (ZaR (Zc8 PySem.F.plainAttrs_list PySem.F.slot_list_append PySem.F.type_list_append ZaK (Zdf (pv 0) rfl) (Zaa (pv 1) Zad)))
   (Zae (Zes (pv 0) ZxA rfl))))),?_⟩
 walk_at "rd0"
 refine ⟨p,_,_,_,_,rfl,Y.ob,T.Zbc,T.ZbJ,ZEs _ _ _ _ _,?_⟩
 walk_at "rd"
 refine ⟨_,rfl,by omega,by omega,?_⟩
 rw [Int.toNat_natCast]
 refine Zwm (n:=L.nots) (fun i σ H'=>Same H H'∧∃ q' v2,FmE t H' q' (negs i f)∧σ=[some (.ref p),some (.ref q'),v2]) ⟨Same.refl _,q,_,hf,rfl⟩ ?_ ?_
 ·rintro i σ H1 hi ⟨s1,q',v2,hq,rfl⟩
  walk_at "rd"
  refine ZpA fun x dx' H2 s2 n2 e2=>?_
  walk_at "rd"
  exact ⟨s1.trans s2,x,_,FmE.neg e2 (hq.same s2),rfl⟩
 rintro σ H1 ⟨s1,q',v2,hq,rfl⟩
 have V1:=Y.same T s1
 obtain ⟨ps,ea,pa⟩ :=V1.la
 have npa:a ≠ p:=Zdg ea V1.ob (by intro z; cases z)
 have zl:=Zas pa
 walk_at "rd"
 refine Zwa V1.ob T.Zbc T.ZbJ (Nat.le_of_ble_eq_true rfl) fun H2 b2 e2=>?_
 rw [show V.int 0=V.int ((0:Nat):Int) from rfl,ZEM] at e2
 (try dsimp only)
 have ea2:=b2 _ _ npa ea
 walk_at "rd"
 refine ⟨p,_,_,_,_,rfl,e2,T.Zbc,T.Zb4,ZEr _ _ _ _ _,?_⟩
 walk_at "rd"
 refine ⟨tyL ea2,?_⟩
 walk_at "rd"
 refine Za5 ea2 (by rw [List.length_map]; omega) fun H3 b3 e3=>?_
 have e23:=b3 _ _ npa.symm e2
 walk_at "rd"
 refine Zwa e23 T.Zbc T.ZaE (Nat.le_of_ble_eq_true rfl) fun H4 b4 e4=>?_
 rw [ZwS] at e4
 have x4:ExtL t H1 H4:=(ExtL.lev b2 V1.ob).trans ((ExtL.lst b3 ea2).trans (ExtL.lev b4 e23))
 have kp:∀ x u,x ≠ p→x ≠ a→H1 x=some u→H4 x=some u:=fun x u h1 h2 z=>b4 _ _ h1 (b3 _ _ h2 (b2 _ _ h1 z))
 refine k H4 (fun x u h1 h2 z=>kp _ _ h1 h2 (s1 _ _ z)) ⟨e4,FmsE.snoc (b4 _ _ npa e3) (Zah (fun _ _ z=>FmE.extL T x4 z) pa) (hq.extL T x4),V1.le.keep T x4 fun xs z=>kp _ _ (Zdg z V1.ob (by intro y; cases y)) Y.ae.symm z,V1.lo.keep T x4 fun xs z=>kp _ _ (Zdg z V1.ob (by intro y; cases y)) Y.ao.symm z,Y.ae,Y.ao,Y.eo⟩
def Off4 (p a e o:Addr) (H H':Hp):Prop:=∀ b u,b ≠ p→b ≠ a→b ≠ e→b ≠ o→H b=some u→H' b=some u
theorem ExtL.off4 {p dx a e o:Addr} {L:Lv} (Y:LvAt t H p dx a e o L) (k:Off4 p a e o H H'):ExtL t H H':=fun x u z h1 h2=>by
 obtain ⟨pa,ea,_⟩ :=Y.la
 obtain ⟨pe,ee,_⟩ :=Y.le
 obtain ⟨po,eo,_⟩ :=Y.lo
 exact k x u (fun y=>by rw [y,Y.ob] at z; cases z; exact h2 _ _ rfl) (fun y=>by rw [y,ea] at z; cases z; exact h1 _ rfl) (fun y=>by rw [y,ee] at z; cases z; exact h1 _ rfl) (fun y=>by rw [y,eo] at z; cases z; exact h1 _ rfl) z
def ZK0 (t:Ad):Sp:=fun vs H Q _=>∃ (p dx a e o:Addr) (L:Lv) (v:W3),vs=[.ref p,.str (kw3 v)]∧LvAt t H p dx a e o L∧L.size < 900000∧∀ a' e' H',(a'=a∨H a'=none)→(e'=e∨H e'=none)→Off4 p a e o H H'→LvAt t H' p dx a' e' o (L.join v)→Q .non H'
theorem ZGw (T:Txt K mg t) {p dx a e o:Addr} {M:Lv} {R:Hp→Prop} (Y:LvAt t H p dx a e o M) (kk:∀ H'',But p H H''→LvAt t H'' p dx a e o ⟨M.nots,M.ands,M.eithers,M.ors,true⟩ →R H''):∃ a C dx fs,(V.ref p)=.ref a∧H a=some (.ins C dx fs)∧Cls K C∧Zag K C "lacking"∧fs.length < 1000∧R (upd H a (.ins C dx (putF "lacking" (.bl true) fs))):=by
 refine Zwa Y.ob T.Zbc T.ZaE (Nat.le_of_ble_eq_true rfl) fun H'' b e1=>?_
 rw [ZwS] at e1
 have x:=ExtL.lev b Y.ob
 exact kk H'' b ⟨e1,Y.la.keep T x fun _ z=>b _ _ (Zdg z Y.ob (by intro y; cases y)) z,Y.le.keep T x fun _ z=>b _ _ (Zdg z Y.ob (by intro y; cases y)) z,Y.lo.keep T x fun _ z=>b _ _ (Zdg z Y.ob (by intro y; cases y)) z,Y.ae,Y.ao,Y.eo⟩
theorem Zod (T:Txt K mg t):∀ C,isLv t C→MeS P w K mg base 5 C "take_join" ["self","word"] (spAt (ZK0 t) C):=by
 rintro C rfl
 refine ⟨T.Zbc,_,_,T.ZjC.ok ZrS (fun vs H Q E h=>?_) (fun cdv A outer s H vs Q E hr h=>?_),T.ZjH,T.ZjS⟩
 ·obtain ⟨⟨p,dx,a,e,o,L,v,rfl,_⟩,_⟩ :=h
  rfl
 obtain ⟨⟨p,dx,a,e,o,L,v,rfl,Y,hz,k⟩,_⟩ :=h
 have ZH1:=ZG7 (P:=P) (w:=w) (base:=base) T
 have ZCN:=ZB3 (P:=P) (w:=w) (base:=base) T
 have hz':L.ands.length < 900000∧L.eithers.length < 900000∧L.ors.length < 900000:=by unfold Lv.size at hz; omega
 refine ⟨_,(Zac (ZbV (Zav (Zuh hr.units) (pv 1) Zau (ZaQ _))
   (Zac (ZaR (Zc8 PySem.F.plainAttrs_list PySem.F.slot_list_append PySem.F.type_list_append ZaK (Zdf (pv 0) rfl) (Zaa (Zbq ZH1 hr (Zaa (Zdf (pv 0) rfl) Zad)) Zad)))
   (Zae (Zes (pv 0) (Zb0 Zad) rfl)))
   ZaI)
   (Zac (ZbV (Zav (ZbZ hr.units) (pv 1) Zau (ZaQ _))
   (Zac (ZaR (Zc8 PySem.F.plainAttrs_list PySem.F.slot_list_append PySem.F.type_list_append ZaK (Zdf (pv 0) rfl) (Zaa (Zbq ZCN hr (Zaa (Zdf (pv 0) rfl) Zad)) Zad)))
   (Zae (Zes (pv 0) (Zb0 Zad) rfl)))
   ZaI)
   (Zae (Zes (pv 0) ZxA rfl)))),?_⟩
 walk_at "rs"
 refine Zv7 (fun σ H'=>(v=.a→H=H')∧(v ≠ .a→∃ a',H a'=none∧Off2 p e H H'∧LvAt t H' p dx a' e o ⟨L.nots,[],L.eithers ++ [ZcH .a L.ands],L.ors,L.lack⟩)∧σ=[some (.ref p),some (.str (kw3 v))]) ?_ ?_
 rotate_left
 ·intro Kn hK
  have eithers:(v ≠ .a)→tSeq (ZK8 (tBM K "list" Zz2 (tFld K (tVar 0) "eithers") (ZxM (tFn (Zu3 t .a) (ZxM (tFld K (tVar 0) "ands") tNil)) tNil))) (sFld K (tVar 0) (tLst tNil) "ands") { nx:=Kn,rt:=Q } [some (.ref p),some (.str (kw3 v))] H:=fun hv=>by
   obtain ⟨pe,ee,qe⟩ :=id Y.le
   have ze:=Zas qe
   have npe:e ≠ p:=Zdg ee Y.ob (by intro z; cases z)
   walk_at "rd"
   refine ⟨p,_,_,_,_,rfl,Y.ob,T.Zbc,T.Zbj,Zwl _ _ _ _ _,?_⟩
   walk_at "rd"
   refine ⟨tyL ee,?_⟩
   walk_at "rd"
   refine ⟨p,_,_,_,_,rfl,Y.ob,T.Zbc,T.Zb4,ZEr _ _ _ _ _,?_⟩
   walk_at "rd"
   refine ⟨a,_,rfl,Y.la,fun q H1 s1 hq=>?_⟩
   have Y1:=Y.same T s1
   have ee1:=s1 _ _ ee
   walk_at "rd"
   refine Za5 ee1 (by rw [List.length_map]; omega) fun H2 b2 e2=>?_
   have ob2:=b2 _ _ npe.symm Y1.ob
   walk_at "rd"
   refine ZfD (by simp) fun a' H3 s3 n3 e3=>?_
   walk_at "rd"
   refine Zwa (s3 _ _ ob2) T.Zbc T.Zb4 (Nat.le_of_ble_eq_true rfl) fun H4 b4 e4=>?_
   rw [ZIR] at e4
   have x24:ExtL t H2 H4:=(ExtL.of s3).trans (ExtL.lev b4 (s3 _ _ ob2))
   have x14:ExtL t H1 H4:=(ExtL.lst b2 ee1).trans x24
   have nap:a' ≠ p:=(Zaf ob2 n3).symm
   have kp:∀ x u,x ≠ p→x ≠ e→H x=some u→H4 x=some u:=fun x u h1 h2 z=>b4 _ _ h1 (s3 _ _ (b2 _ _ h2 (s1 _ _ z)))
   obtain ⟨po,eo,qo⟩ :=id Y.lo
   have nop:o ≠ p:=Zdg eo Y.ob (by intro z; cases z)
   have na:H a'=none:=by
    cases z:H a' with
    | none=>rfl
    | some u=>
     by_cases y:a'=e
     ·subst y; rw [e2] at n3; cases n3
     ·rw [b2 _ _ y (s1 _ _ z)] at n3; cases n3
   refine hK _ _ ⟨fun z=>absurd z hv,fun _=>⟨a',na,fun x u h1 h3 z=>kp x u h1 h3 z,⟨e4,⟨[],b4 _ _ nap e3,.nil⟩,FmsE.snoc (b4 _ _ npe (s3 _ _ e2)) (Zah (fun _ _ z=>FmE.extL T x14 (FmE.same s1 z)) qe) (hq.extL T x14),Y.lo.keep T ((ExtL.of s1).trans x14) fun xs z=>kp _ _ nop Y.eo.symm z,?_,?_,Y.eo⟩⟩,rfl⟩
   ·exact fun y=>by subst y; rw [e2] at n3; cases n3
   ·exact fun y=>by subst y; rw [b2 _ _ Y.eo.symm (s1 _ _ eo)] at n3; cases n3
  walk_at "rs"
  cases v with
  | a=>
   refine Zbm rfl ?_
   walk_at "rs"
   exact hK _ _ ⟨fun _=>rfl,fun z=>absurd rfl z,rfl⟩
  | e=>exact Zgm (by decide) (eithers (by decide))
  | o=>exact Zgm (by decide) (eithers (by decide))
 rintro σ H1 ⟨ha,hn,rfl⟩
 walk_at "rs"
 cases v with
 | a=>
  obtain rfl:=ha rfl
  refine ZBk ?_
  walk_at "rs"
  refine Zbm rfl ?_
  walk_at "rs"
  refine ZGw T Y fun H2 b2 Y2=>?_
  exact k a e H2 (.inl rfl) (.inl rfl) (fun x u h1 _ _ _ z=>b2 _ _ h1 z) Y2
 | e=>
  obtain ⟨a',na,o1,Y1⟩ :=hn (by decide)
  refine ZBk ?_
  walk_at "rs"
  refine Zbm rfl ?_
  walk_at "rs"
  refine ZGw T Y1 fun H2 b2 Y2=>?_
  exact k a' e H2 (.inr na) (.inl rfl) (fun x u h1 h2 h3 h4 z=>b2 _ _ h1 (o1 _ _ h1 h3 z)) Y2
 | o=>
  obtain ⟨a',na,o1,Y1⟩ :=hn (by decide)
  refine ZBk ?_
  walk_at "rs"
  refine Zgm rfl ?_
  obtain ⟨po,eo,qo⟩ :=id Y1.lo
  have zo:=Zas qo
  have nop:o ≠ p:=Zdg eo Y1.ob (by intro z; cases z)
  obtain ⟨pa1,ea1,_⟩ :=id Y1.la
  obtain ⟨pe1,ee1,_⟩ :=id Y1.le
  walk_at "rd"
  refine ⟨p,_,_,_,_,rfl,Y1.ob,T.Zbc,T.ZdE,ZGI _ _ _ _ _,?_⟩
  walk_at "rd"
  refine ⟨tyL eo,?_⟩
  walk_at "rd"
  refine ⟨p,_,_,_,_,rfl,Y1.ob,T.Zbc,T.Zbj,Zwl _ _ _ _ _,?_⟩
  walk_at "rd"
  refine ⟨e,_,rfl,Y1.le,fun q H2 s2 hq=>?_⟩
  have Y2:=Y1.same T s2
  have eo2:=s2 _ _ eo
  walk_at "rd"
  refine Za5 eo2 (by rw [List.length_map]; dsimp only at zo; omega) fun H3 b3 e3=>?_
  have ob3:=b3 _ _ nop.symm Y2.ob
  walk_at "rd"
  refine ZfD (by simp) fun e' H4 s4 n4 e4=>?_
  walk_at "rs"
  refine Zwa (s4 _ _ ob3) T.Zbc T.Zbj (Nat.le_of_ble_eq_true rfl) fun H5 b5 e5=>?_
  rw [ZDz] at e5
  have x35:ExtL t H3 H5:=(ExtL.of s4).trans (ExtL.lev b5 (s4 _ _ ob3))
  have x25:ExtL t H2 H5:=(ExtL.lst b3 eo2).trans x35
  have nep:e' ≠ p:=(Zaf ob3 n4).symm
  have kp:∀ x u,x ≠ p→x ≠ o→H1 x=some u→H5 x=some u:=fun x u h1 h2 z=>b5 _ _ h1 (s4 _ _ (b3 _ _ h2 (s2 _ _ z)))
  have nap:a' ≠ p:=Zdg ea1 Y1.ob (by intro z; cases z)
  have nf:∀ x u,x ≠ o→H1 x=some u→e' ≠ x:=fun x u h2 z y=>by subst y; rw [b3 _ _ h2 (s2 _ _ z)] at n4; cases n4
  have neo:e' ≠ o:=fun y=>by subst y; rw [e3] at n4; cases n4
  have ne1:H1 e'=none:=by
   cases z:H1 e' with
   | none=>rfl
   | some u=>exact absurd rfl (nf e' u neo z)
  have ne0:H e'=none:=by
   cases z:H e' with
   | none=>rfl
   | some u=>rw [o1 e' u nep (fun y=>by rw [y,ee1] at ne1; cases ne1) z] at ne1; cases ne1
  have Y5:LvAt t H5 p dx a' e' o ⟨L.nots,[],[],L.ors ++ [ZcH .e (L.eithers ++ [ZcH .a L.ands])],L.lack⟩ :=⟨e5,Y1.la.keep T ((ExtL.of s2).trans x25) fun xs z=>kp _ _ nap Y1.ao z,⟨[],b5 _ _ nep e4,.nil⟩,FmsE.snoc (b5 _ _ nop (s4 _ _ e3)) (Zah (fun _ _ z=>FmE.extL T x25 (FmE.same s2 z)) qo) (hq.extL T x25),(nf a' _ Y1.ao ea1).symm,Y1.ao,neo⟩
  walk_at "rs"
  refine ZGw T Y5 fun H6 b6 Y6=>?_
  exact k a' e' H6 (.inr na) (.inr ne0) (fun x u h1 h2 h3 h4 z=>b6 _ _ h1 (kp _ _ h1 h4 (o1 _ _ h1 h3 z))) Y6
def ZI5 (t:Ad):Sp:=fun vs H Q _=>∃ (p dx a e o:Addr) (L:Lv),vs=[.ref p]∧LvAt t H p dx a e o L∧L.size < 900000∧∀ q H',Off4 p a e o H H'→FmE t H' q L.whole→Q (.ref q) H'
theorem ZE1 (T:Txt K mg t):∀ C,isLv t C→MeS P w K mg base 6 C "whole" ["self"] (spAt (ZI5 t) C):=by
 rintro C rfl
 refine ⟨T.Zbc,_,_,T.ZpT.ok ZxG (fun vs H Q E h=>?_) (fun cdv A outer s H vs Q E hr h=>?_),T.Zqa,T.ZqN⟩
 ·obtain ⟨⟨p,dx,a,e,o,L,rfl,_⟩,_⟩ :=h
  rfl
 obtain ⟨⟨p,dx,a,e,o,L,rfl,Y,hz,k⟩,_⟩ :=h
 have ZJ7:=ZIG (P:=P) (w:=w) (base:=base) T
 have D_take_join:=Zod (P:=P) (w:=w) (base:=base) T
 refine ⟨_,(Zac (ZaR (ZxB D_take_join hr (pv 0) (Zaa Zau Zad)))
   (Zae (ZaA (Zbq ZJ7 hr (Zaa (Zdf (pv 0) rfl) Zad))))),?_⟩
 walk_at "rd0"
 refine ⟨p,_,_,_,rfl,Y.ob,rfl,Zrd _ _ _ _ _,?_⟩
 walk_at "rd"
 refine ⟨Y.ob,p,dx,a,e,o,L,.o,rfl,Y,hz,fun a' e' H1 ha he o1 Y1=>?_⟩
 walk_at "rd"
 refine ⟨p,_,_,_,_,rfl,Y1.ob,T.Zbc,T.ZdE,ZGI _ _ _ _ _,?_⟩
 walk_at "rd"
 refine ⟨o,_,rfl,Y1.lo,fun q H2 s2 hq=>?_⟩
 exact k q H2 (fun x u h1 h2 h3 h4 z=>s2 _ _ (o1 _ _ h1 h2 h3 h4 z)) hq
def ZHI (t:Ad):Sp:=fun vs H Q E=>∃ (p dx a e o nl:Addr) (L:Lv) (z:Str) (ns:List Str),vs=[.ref p,.str z,.ref nl]∧LvAt t H p dx a e o L∧L.size < 900000∧H nl=some (.lst (ns.map V.str))∧ns.length≤1000∧Zxk z∧
 (L.word ns z=none→∀ H',Same H H'→E (.ref t.Zaw) none H')∧
 (∀ L',L.word ns z=some L'→∀ a' e' H',(a'=a∨H a'=none)→(e'=e∨H e'=none)→Off4 p a e o H H'→LvAt t H' p dx a' e' o L'→Q .non H')
theorem Zxh (T:Txt K mg t):∀ C,isLv t C→MeS1 P w K mg base 7 C "take_word" ["self","word","names"] (spAt (ZHI t) C):=by
 rintro C rfl
 refine ⟨T.Zbc,_,_,T.ZjE.ok1 ZrT (fun vs H Q E h=>?_) (fun cdv A outer s H vs Q E hr h=>?_),T.ZjJ,T.ZjU⟩
 ·obtain ⟨⟨p,dx,a,e,o,nl,L,z,ns,rfl,_⟩,_⟩ :=h
  rfl
 obtain ⟨⟨p,dx,a,e,o,nl,L,z,ns,rfl,Y,hz,hn,h1000,hpl,k1,k2⟩,_⟩ :=h
 have ZH2:=ZG8 (P:=P) (w:=w) (base:=base) T
 have D_take_part:=Zoe (P:=P) (w:=w) (base:=base) T
 have D_take_join:=Zod (P:=P) (w:=w) (base:=base) T
 unfold Lv.word at k1 k2
 refine ⟨_,(Zae (ZbV (PT.nox (PW.pt (ZyB (Zgj (Zdf (pv 0) rfl) (fun _=>rfl)) (Zz1 (Zav (ZbZ hr.units) (pv 1) Zau (ZaQ _))))))
   (PSs.nox (Zae (Zes (pv 0) (ZaD ZaC (Zdf (pv 0) rfl) Zam) rfl)))
   (Zae (ZbV (PT.nox (Zgj (Zdf (pv 0) rfl) (fun _=>rfl)))
   (Zae (ZaR (ZxB D_take_part hr (pv 0) (Zaa (ZMt ZMp ZH2 hr (Zaa (pv 1) (Zaa (pv 2) Zad))) Zad))))
   (Zae (ZbV (PT.nox (Zav ZwN (pv 1) (ZxC rfl T.g_JOINS) (by with_unfolding_all rfl)))
   (PSs.nox (Zae (ZaR (ZxB D_take_join hr (pv 0) (Zaa (pv 1) Zad)))))
   (Zae (Zz0 rfl ZKA T.Zlo.own rfl T.Zll (PA.nox (Zaa (Zrw (Zln (ZHj (pv 1)) (Zln Zau ZEH))) Zad)))))))))),?_⟩
 walk_at "rd0"
 refine ⟨p,_,_,_,_,rfl,Y.ob,T.Zbc,T.ZaE,ZfW _ _ _ _ _,?_⟩
 walk_at "rd"
 cases hl:L.lack with
 | true=>
  rw [hl,if_pos rfl] at k1 k2
  refine Zgm rfl ?_
  walk_at "rd"
  refine ZhG (fun h1=>?_) (fun h1=>?_)
  ·rw [if_pos h1] at k2
   walk_at "rd"
   refine ⟨p,_,_,_,_,rfl,Y.ob,T.Zbc,T.ZbJ,ZEs _ _ _ _ _,?_⟩
   walk_at "rd"
   refine Zwa Y.ob T.Zbc T.ZbJ (Nat.le_of_ble_eq_true rfl) fun H1 b1 e1=>?_
   rw [show (L.nots:Int) + 1=((L.nots + 1:Nat):Int) by omega,ZEM] at e1
   have x:=ExtL.lev b1 Y.ob
   rw [hl] at e1
   exact k2 _ rfl a e H1 (.inl rfl) (.inl rfl) (fun y u h1 _ _ _ z=>b1 _ _ h1 z) ⟨e1,Y.la.keep T x fun _ z=>b1 _ _ (Zdg z Y.ob (by intro y; cases y)) z,Y.le.keep T x fun _ z=>b1 _ _ (Zdg z Y.ob (by intro y; cases y)) z,Y.lo.keep T x fun _ z=>b1 _ _ (Zdg z Y.ob (by intro y; cases y)) z,Y.ae,Y.ao,Y.eo⟩
  ·rw [if_neg h1] at k1 k2
   walk_at "rd"
   refine ⟨p,_,_,_,_,rfl,Y.ob,T.Zbc,T.ZaE,ZfW _ _ _ _ _,?_⟩
   walk_at "rd"
   rw [hl]
   refine Zgm rfl ?_
   walk_at "rd"
   refine ⟨p,_,_,_,rfl,Y.ob,rfl,Zre _ _ _ _ _,?_⟩
   walk_at "rd"
   refine ⟨z,nl,ns,rfl,hn,h1000,hpl,fun f hf q H1 s1 hq=>?_,fun hf H1 s1=>k1 (by rw [hf]; rfl) H1 s1⟩
   have Y1:=Y.same T s1
   walk_at "rd"
   refine ⟨Y1.ob,p,dx,a,e,o,q,L,f,rfl,Y1,hq,hz,fun H2 o2 Y2=>?_⟩
   walk_at "rd"
   exact k2 _ (by rw [hf]; rfl) a e H2 (.inl rfl) (.inl rfl) (fun y u h1 h2 _ _ z=>o2 _ _ h1 h2 (s1 _ _ z)) Y2
 | false=>
  rw [hl,if_neg (by decide)] at k1 k2
  refine Zbm rfl ?_
  refine Zbm rfl ?_
  walk_at "rd"
  refine ⟨p,_,_,_,_,rfl,Y.ob,T.Zbc,T.ZaE,ZfW _ _ _ _ _,?_⟩
  walk_at "rd"
  rw [hl]
  refine Zbm rfl ?_
  walk_at "rd"
  refine ZLL (T.q_JOINS H) ?_
  walk_at "rd"
  cases hj:ZFe z with
  | some v=>
   have ez:=ZIk hj
   subst ez
   refine Zgm (by cases v <;> decide) ?_
   walk_at "rd"
   refine ⟨p,_,_,_,rfl,Y.ob,rfl,Zrd _ _ _ _ _,?_⟩
   walk_at "rd"
   refine ⟨Y.ob,p,dx,a,e,o,L,v,rfl,Y,hz,fun a' e' H1 ha he o1 Y1=>?_⟩
   walk_at "rd"
   exact k2 _ (by rw [hj]; rfl) a' e' H1 ha he o1 Y1
  | none=>
   have nz:z ∉ (["and","either","or"]:List Str):=fun hm=>by
    unfold ZFe at hj
    simp only [List.mem_cons,List.not_mem_nil,or_false] at hm
    rcases hm with rfl | rfl | rfl
    ·rw [if_pos rfl] at hj; cases hj
    ·exact absurd hj (by decide)
    ·exact absurd hj (by decide)
   refine Zbm (decide_eq_false nz) ?_
   (try dsimp only)
   refine ZC6 ?_
   walk_at "rd"
   have hpl':(reprText z).length≤900000:=hpl
   have e0:Str.empty.length=0:=rfl
   have e:=Zak Str.empty (reprText z)
   have e1:=Zak (Str.empty ++ reprText z) " stands behind a part"
   have e2:Str.length " stands behind a part" = 21:=rfl
   refine ⟨_,rfl,Zbn (by omega),_,rfl,Zbn (by omega),?_⟩
   walk_at "rd"
   refine ⟨_,rfl,Zbn (by omega),Zbn (by omega),?_⟩
   walk_at "rd"
   exact ⟨Nat.le_of_ble_eq_true rfl,k1 (by rw [hj]; rfl) H (Same.refl _)⟩
end
end LW
set_option maxRecDepth 100000
set_option maxHeartbeats 4000000
open PySem L2
namespace LW
open PySem L2 EM
abbrev A5:=Addr × Addr × Addr × Addr × Addr
def cells:List A5→List Addr
 | []=>[]
 | x :: r=>x.1 :: x.2.2.1 :: x.2.2.2.1 :: x.2.2.2.2 :: cells r
def refs (ads:List A5):List V:=(ads.map (·.1)).reverse.map V.ref
theorem ZrP (x:A5) (r:List A5):refs (x :: r)=refs r ++ [.ref x.1]:=by unfold refs; simp
theorem Zz3 (r:List A5):(refs r).length=r.length:=by unfold refs; simp
theorem ZDS {α:Type} (xs:List α) (y:α):atI (xs ++ [y]) (-1)=some y:=by
 unfold atI ixN
 rw [if_neg (by decide),List.length_append,List.length_singleton,if_pos (by omega)]
 have e:((-1:Int) + ((xs.length + 1:Nat):Int)).toNat=xs.length:=by omega
 show (xs ++ [y])[((-1:Int) + ((xs.length + 1:Nat):Int)).toNat]?=some y
 rw [e,List.getElem?_append_right (Nat.le_refl _),Nat.sub_self]
 rfl
def ZuB (t:Ad) (H:Hp):List A5→List Lv→Prop
 | [],[]=>True
 | x :: r,L :: S=>LvAt t H x.1 x.2.1 x.2.2.1 x.2.2.2.1 x.2.2.2.2 L∧ZuB t H r S
 | _,_=>False
section
variable {P:Program} {w:World} {K:PySem.W.Frag} {mg:Str→Option Value} {base:Heap} {t:Ad} {H H' H'' H0:Hp}
theorem ZuB.keep (T:Txt K mg t) (s:ExtL t H H'):∀ {ads:List A5} {S:List Lv},ZuB t H ads S→(∀ x u,x ∈ cells ads→H x=some u→H' x=some u)→ZuB t H' ads S
 | [],[],_,_=>trivial
 | x :: r,L :: S,h,k=>by
  refine ⟨h.1.keep T s fun y u hy z=>k y u ?_ z,h.2.keep T s fun y u hy z=>k y u ?_ z⟩
  ·unfold cells
   rcases hy with rfl | rfl | rfl | rfl <;> simp
  ·unfold cells
   simp [hy]
 | [],_ :: _,h,_=>h.elim
 | _ :: _,[],h,_=>h.elim
theorem ZuB.len:∀ {ads:List A5} {S:List Lv},ZuB t H ads S→ads.length=S.length
 | [],[],_=>rfl
 | _ :: _,_ :: _,h=>congrArg (· + 1) h.2.len
 | [],_ :: _,h=>h.elim
 | _ :: _,[],h=>h.elim
theorem ZuB.there:∀ {ads:List A5} {S:List Lv},ZuB t H ads S→∀ x ∈ cells ads,∃ u,H x=some u
 | [],[],_,x,hx=>by cases hx
 | y :: r,L :: S,h,x,hx=>by
  obtain ⟨pa,ea,_⟩ :=h.1.la
  obtain ⟨pe,ee,_⟩ :=h.1.le
  obtain ⟨po,eo,_⟩ :=h.1.lo
  unfold cells at hx
  simp only [List.mem_cons] at hx
  rcases hx with rfl | rfl | rfl | rfl | hx
  ·exact ⟨_,h.1.ob⟩
  ·exact ⟨_,ea⟩
  ·exact ⟨_,ee⟩
  ·exact ⟨_,eo⟩
  ·exact h.2.there x hx
 | [],_ :: _,h,_,_=>h.elim
 | _ :: _,[],h,_,_=>h.elim
theorem ZuB.bottom:∀ {ads:List A5} {S:List Lv},ZuB t H ads S→ads ≠ []→∃ (b:A5) (L0:Lv),(refs ads)[0]?=some (.ref b.1)∧S.getLast?=some L0∧LvAt t H b.1 b.2.1 b.2.2.1 b.2.2.2.1 b.2.2.2.2 L0∧∀ x ∈ [b.1,b.2.2.1,b.2.2.2.1,b.2.2.2.2],x ∈ cells ads
 | [],_,_,n=>absurd rfl n
 | [y],[L],h,_=>⟨y,L,rfl,rfl,h.1,fun x hx=>by simpa [cells] using hx⟩
 | y :: z :: r,L :: M :: S,h,_=>by
  obtain ⟨b,L0,h1,h2,h3,h4⟩ :=ZuB.bottom h.2 (by simp)
  refine ⟨b,L0,?_,?_,h3,fun x hx=>?_⟩
  ·rw [ZrP,List.getElem?_append_left (by rw [Zz3]; simp)]
   exact h1
  ·rw [List.getLast?_cons_cons]
   exact h2
  ·have:=h4 x hx
   unfold cells
   simp [this]
 | [_],[],h,_=>h.elim
 | [_],_ :: _ :: _,h,_=>h.2.elim
 | _ :: _ :: _,[],h,_=>h.elim
 | _ :: _ :: _,[_],h,_=>h.2.elim
structure SK (t:Ad) (H0 H:Hp) (lv:Addr) (ads:List A5) (S:List Lv):Prop where
 ls:H lv=some (.lst (refs ads))
 st:ZuB t H ads S
 nd:(lv :: cells ads).Nodup
 fr:∀ x ∈ lv :: cells ads,H0 x=none
 sm:Same H0 H
theorem SK.kp {lv:Addr} {ads:List A5} {S:List Lv} (Z:SK t H0 H lv ads S) {x:Addr} (hx:x ∈ lv :: cells ads) {y:Addr} {u:HO} (e:H0 y=some u):y ≠ x:=Zaf e (Z.fr x hx)
theorem SK.top (T:Txt K mg t) {lv p dx a e o a' e':Addr} {r:List A5} {L L':Lv} {S:List Lv} (Z:SK t H0 H lv ((p,dx,a,e,o) :: r) (L :: S)) (ha:a'=a∨H a'=none) (he:e'=e∨H e'=none) (k:Off4 p a e o H H') (Y:LvAt t H' p dx a' e' o L'):SK t H0 H' lv ((p,dx,a',e',o) :: r) (L' :: S):=by
 have hY:LvAt t H p dx a e o L:=Z.st.1
 have nd:=Z.nd
 have fr:=Z.fr
 unfold cells at nd fr
 simp only [List.nodup_cons,List.mem_cons,not_or] at nd
 obtain ⟨⟨n1,n2,n3,n4,n5⟩,⟨m1,m2,m3,m4⟩,⟨l1,l2,l3⟩,⟨k1,k2⟩,j1,jr⟩ :=nd
 have hr:∀ x u,x ∈ cells r→H x=some u→H' x=some u:=fun x u hx z=>k x u (fun y=>m4 (y ▸ hx)) (fun y=>l3 (y ▸ hx)) (fun y=>k2 (y ▸ hx)) (fun y=>j1 (y ▸ hx)) z
 have thr:=Z.st.there
 have nw:∀ x,(x=a∨H x=none)∨(x=e∨H x=none)→x ≠ lv∧x ∉ cells r:=fun x hx=>by
  have free:H x=none→x ≠ lv∧x ∉ cells r:=fun z=>⟨(Zaf Z.ls z).symm,fun hm=>by
   obtain ⟨u,hu⟩ :=thr x (by unfold cells; simp [hm])
   rw [z] at hu
   cases hu⟩
  rcases hx with (rfl | z) | (rfl | z)
  ·exact ⟨fun y=>n2 y.symm,l3⟩
  ·exact free z
  ·exact ⟨fun y=>n3 y.symm,k2⟩
  ·exact free z
 obtain ⟨pa,ea,_⟩ :=Y.la
 obtain ⟨pe,ee,_⟩ :=Y.le
 obtain ⟨po,eo,_⟩ :=Y.lo
 have qa:=nw a' (.inl ha)
 have qe:=nw e' (.inr he)
 have npa:p ≠ a':=Zdg Y.ob ea (by intro z; cases z)
 have npe:p ≠ e':=Zdg Y.ob ee (by intro z; cases z)
 refine ⟨k _ _ n1 n2 n3 n4 Z.ls,⟨Y,Z.st.2.keep T (ExtL.off4 hY k) hr⟩,?_,fun x hx=>?_,fun x u z=>?_⟩
 ·unfold cells
  simp only [List.nodup_cons,List.mem_cons,not_or]
  exact ⟨⟨n1,qa.1.symm,qe.1.symm,n4,n5⟩,⟨npa,npe,m3,m4⟩,⟨Y.ae,Y.ao,qa.2⟩,⟨Y.eo,qe.2⟩,j1,jr⟩
 ·have old:∀ y,y ∈ lv :: cells ((p,dx,a,e,o) :: r)→H0 y=none:=Z.fr
  have mem:∀ y,(y=p∨y=a∨y=e∨y=o)→y ∈ lv :: cells ((p,dx,a,e,o) :: r):=fun y hy=>by unfold cells; simp; exact .inr (by rcases hy with h | h | h | h <;> simp [h])
  unfold cells at hx
  simp only [List.mem_cons] at hx
  rcases hx with rfl | rfl | rfl | rfl | rfl | hx
  ·exact old _ List.mem_cons_self
  ·exact old _ (mem _ (.inl rfl))
  ·rcases ha with rfl | z
   ·exact old _ (mem _ (.inr (.inl rfl)))
   ·exact Z.sm.free z
  ·rcases he with rfl | z
   ·exact old _ (mem _ (.inr (.inr (.inl rfl))))
   ·exact Z.sm.free z
  ·exact old _ (mem _ (.inr (.inr (.inr rfl))))
  ·exact old _ (by unfold cells; simp [hx])
 ·have mem:∀ y,(y=p∨y=a∨y=e∨y=o)→y ∈ lv :: cells ((p,dx,a,e,o) :: r):=fun y hy=>by unfold cells; simp; exact .inr (by rcases hy with h | h | h | h <;> simp [h])
  exact k x u (Z.kp (mem _ (.inl rfl)) z) (Z.kp (mem _ (.inr (.inl rfl))) z) (Z.kp (mem _ (.inr (.inr (.inl rfl)))) z) (Z.kp (mem _ (.inr (.inr (.inr rfl)))) z) (Z.sm x u z)
theorem SK.push (T:Txt K mg t) {lv p dx a e o:Addr} {ads:List A5} {S:List Lv} (Z:SK t H0 H lv ads S) (s:Same H H') (np:H p=none) (na:H a=none) (ne:H e=none) (no:H o=none) (Y:LvAt t H' p dx a e o Lv.new) (b:But lv H' H'') (el:H'' lv=some (.lst (refs ads ++ [.ref p]))):SK t H0 H'' lv ((p,dx,a,e,o) :: ads) (Lv.new :: S):=by
 have hl':=s _ _ Z.ls
 have thr:=Z.st.there
 have fre:∀ x,H x=none→x ≠ lv∧x ∉ cells ads:=fun x z=>⟨(Zaf Z.ls z).symm,fun hm=>by
  obtain ⟨u,hu⟩ :=thr x hm
  rw [z] at hu
  cases hu⟩
 have nlv:∀ x,x ∈ cells ads→x ≠ lv:=fun x hx y=>by
  have:=(List.nodup_cons.mp Z.nd).1
  rw [y] at hx
  exact this hx
 have ex:ExtL t H H'':=(ExtL.of s).trans (ExtL.lst b hl')
 obtain ⟨pa,ea,_⟩ :=id Y.la
 obtain ⟨pe,ee,_⟩ :=id Y.le
 obtain ⟨po,eo,_⟩ :=id Y.lo
 have Y2:LvAt t H'' p dx a e o Lv.new:=Y.keep T (ExtL.lst b hl') fun x u hx z=>b x u (by
  rcases hx with rfl | rfl | rfl | rfl
  ·exact (fre _ np).1
  ·exact (fre _ na).1
  ·exact (fre _ ne).1
  ·exact (fre _ no).1) z
 refine ⟨by rw [ZrP]; exact el,⟨Y2,Z.st.keep T ex fun x u hx z=>b x u (nlv x hx) (s _ _ z)⟩,?_,fun x hx=>?_,fun x u z=>b x u (Z.kp List.mem_cons_self z) (s _ _ (Z.sm x u z))⟩
 ·have nd:=List.nodup_cons.mp Z.nd
  unfold cells
  simp only [List.nodup_cons,List.mem_cons,not_or]
  exact ⟨⟨(fre _ np).1.symm,(fre _ na).1.symm,(fre _ ne).1.symm,(fre _ no).1.symm,nd.1⟩,⟨Zdg Y.ob ea (by intro z; cases z),Zdg Y.ob ee (by intro z; cases z),Zdg Y.ob eo (by intro z; cases z),(fre _ np).2⟩,⟨Y.ae,Y.ao,(fre _ na).2⟩,⟨Y.eo,(fre _ ne).2⟩,(fre _ no).2,nd.2⟩
 ·unfold cells at hx
  simp only [List.mem_cons] at hx
  rcases hx with rfl | rfl | rfl | rfl | rfl | hx
  ·exact Z.fr _ List.mem_cons_self
  ·exact Z.sm.free np
  ·exact Z.sm.free na
  ·exact Z.sm.free ne
  ·exact Z.sm.free no
  ·exact Z.fr _ (List.mem_cons_of_mem _ hx)
theorem SK.pop (T:Txt K mg t) {lv p dx a e o:Addr} {r:List A5} {L:Lv} {S:List Lv} (Z:SK t H0 H lv ((p,dx,a,e,o) :: r) (L :: S)) (b:But lv H H') (el:H' lv=some (.lst (refs r))):SK t H0 H' lv r S∧LvAt t H' p dx a e o L:=by
 have ex:ExtL t H H':=ExtL.lst b Z.ls
 have nd:=List.nodup_cons.mp Z.nd
 have nlv:∀ x,x ∈ cells ((p,dx,a,e,o) :: r)→x ≠ lv:=fun x hx y=>nd.1 (y ▸ hx)
 have sub:∀ x,x ∈ cells r→x ∈ cells ((p,dx,a,e,o) :: r):=fun x hx=>by unfold cells; simp [hx]
 have nd2:=nd.2
 unfold cells at nd2
 simp only [List.nodup_cons] at nd2
 refine ⟨⟨el,Z.st.2.keep T ex fun x u hx z=>b x u (nlv x (sub x hx)) z,List.nodup_cons.mpr ⟨fun z=>nd.1 (sub _ z),nd2.2.2.2.2⟩,fun x hx=>?_,fun x u z=>b x u (Z.kp List.mem_cons_self z) (Z.sm x u z)⟩,?_⟩
 ·rcases List.mem_cons.mp hx with rfl | hx
  ·exact Z.fr _ List.mem_cons_self
  ·exact Z.fr _ (List.mem_cons_of_mem _ (sub x hx))
 ·exact (show LvAt t H p dx a e o L from Z.st.1).keep T ex fun x u hx z=>b x u (nlv x (by unfold cells; rcases hx with rfl | rfl | rfl | rfl <;> simp)) z
theorem SK.off (T:Txt K mg t) {lv p dx a e o:Addr} {r:List A5} {L:Lv} {S:List Lv} (Z:SK t H0 H lv r S) (Y:LvAt t H p dx a e o L) (hx:∀ x ∈ [p,a,e,o],x ∉ lv :: cells r∧H0 x=none) (k:Off4 p a e o H H'):SK t H0 H' lv r S:=by
 have st:∀ x u,x ∈ lv :: cells r→H x=some u→H' x=some u:=fun x u hm z=>k x u (fun y=>(hx p (by simp)).1 (y ▸ hm)) (fun y=>(hx a (by simp)).1 (y ▸ hm)) (fun y=>(hx e (by simp)).1 (y ▸ hm)) (fun y=>(hx o (by simp)).1 (y ▸ hm)) z
 exact ⟨st _ _ List.mem_cons_self Z.ls,Z.st.keep T (ExtL.off4 Y k) fun x u hm z=>st x u (List.mem_cons_of_mem _ hm) z,Z.nd,Z.fr,fun x u z=>k x u (Zaf z (hx p (by simp)).2) (Zaf z (hx a (by simp)).2) (Zaf z (hx e (by simp)).2) (Zaf z (hx o (by simp)).2) (Z.sm x u z)⟩
theorem SK.out {lv p dx a e o:Addr} {r:List A5} {L:Lv} {S:List Lv} (Z:SK t H0 H lv ((p,dx,a,e,o) :: r) (L :: S)):∀ x ∈ [p,a,e,o],x ∉ lv :: cells r∧H0 x=none:=fun x hx=>by
 have nd:=Z.nd
 unfold cells at nd
 simp only [List.nodup_cons,List.mem_cons,not_or] at nd
 obtain ⟨⟨n1,n2,n3,n4,n5⟩,⟨m1,m2,m3,m4⟩,⟨l1,l2,l3⟩,⟨k1,k2⟩,j1,jr⟩ :=nd
 have f:∀ y,y ∈ [p,a,e,o]→H0 y=none:=fun y hy=>Z.fr y (by unfold cells; simp only [List.mem_cons,List.not_mem_nil,or_false] at hy; simp; exact .inr (by rcases hy with h | h | h | h <;> simp [h]))
 refine ⟨?_,f x hx⟩
 simp only [List.mem_cons,List.not_mem_nil,or_false] at hx
 simp only [List.mem_cons,not_or]
 rcases hx with rfl | rfl | rfl | rfl
 ·exact ⟨fun y=>n1 y.symm,m4⟩
 ·exact ⟨fun y=>n2 y.symm,l3⟩
 ·exact ⟨fun y=>n3 y.symm,k2⟩
 ·exact ⟨fun y=>n4 y.symm,j1⟩
theorem ZFB {ns:List Str} {L:Lv} {R:List Lv} {z:Str} (h1 : ¬ (z = "("∧L.lack=true)) (h2 : ¬ (z = ")"∧L.lack=false∧R ≠ [])):ZdY ns (L :: R) z=(L.word ns z).map (· :: R):=by
 cases R with
 | nil=>simp only [ZdY]; rw [if_neg h1]
 | cons M R'=>
  simp only [ZdY]
  rw [if_neg h1,if_neg fun y=>h2 ⟨y.1,y.2,by simp⟩]
def ZMR (t:Ad):Sp:=fun vs H Q E=>∃ (fo nl:Addr) (ws ns:List Str),vs=[.ref fo,.ref nl]∧H fo=some (.lst (ws.map V.str))∧H nl=some (.lst (ns.map V.str))∧ns.length≤1000∧ws.length≤800000∧(∀ z ∈ ws,Zxk z)∧
 (ZsE ns ws=none→∀ H',Same H H'→E (.ref t.Zaw) none H')∧(∀ f,ZsE ns ws=some f→∀ q H',Same H H'→FmE t H' q f→Q (.ref q) H')
theorem Zrs (T:Txt K mg t):FnS1 P w K mg base 8 "formula_in" ["found","names"] ((ZMR t)):=by
 refine ⟨_,_,T.ZlW.ok1 Zhi (fun vs H Q E h=>?_) (fun cdv A outer s H vs Q E hr h=>?_),T.Zte,T.ZlW.kp,T.Zud⟩
 ·obtain ⟨fo,nl,ws,ns,rfl,hf,hn,h1000,hz,hpl,k1,k2⟩ :=h
  rfl
 obtain ⟨fo,nl,ws,ns,rfl,hf,hn,h1000,hz,hpl,k1,k2⟩ :=h
 have ZFK:=ZIC (P:=P) (w:=w) (base:=base) T
 have D_take_part:=Zoe (P:=P) (w:=w) (base:=base) T
 have D_take_word:=Zxh (P:=P) (w:=w) (base:=base) T
 have D_whole:=ZE1 (P:=P) (w:=w) (base:=base) T
 refine ⟨_,(Zac (PS.nox (ss 2 Zhi.nd (Zb0 (Zaa (ZJV ZFK hr) Zad))))
   (Zac (Zb5 PassesOwn.leaving rfl (ZdK (pv 0)) (sg 3 Zhi.nd)
   (Zac (PS.nox (ss 4 Zhi.nd (ZbE ZaW (pv 2) (ZFv ZyE Zam) (fun _ _=>rfl))))
   (Zae (ZbV (PT.nox (PW.pt (ZyB (Zav (ZbZ hr.units) (pv 3) Zau (ZaQ _)) (Zz1 (Zgj (Zdf (pv 4) rfl) (fun _=>rfl))))))
   (PSs.nox (Zae (ZaR (Zc8 PySem.F.plainAttrs_list PySem.F.slot_list_append PySem.F.type_list_append ZaK (pv 2) (Zaa (ZJV ZFK hr) Zad)))))
   (Zae (ZbV (PT.nox (PW.pt (ZyB (Zav (ZbZ hr.units) (pv 3) Zau (ZaQ _)) (ZyB (ZCb (Zgj (Zdf (pv 4) rfl) (fun _=>rfl))) (Zz1 (Zav ZKJ (Zbr Zbl rfl T.B.len ZfG (Zaa (pv 2) Zad)) Zam (ZaQ _)))))))
   (PSs.nox (Zac (ZaR (ZB7 PySem.F.plainAttrs_list PySem.F.slot_list_pop PySem.F.type_list_pop ZMa (pv 2)))
   (Zae (ZaR (ZxB D_take_part hr (ZbE ZaW (pv 2) (ZFv ZyE Zam) (fun _ _=>rfl)) (Zaa (ZB8 D_whole hr (pv 4)) Zad))))))
   (Zae (ZaR (ZMs ZMp D_take_word hr (pv 4) (Zaa (pv 3) (Zaa (pv 1) Zad)))))))))))
   (Zac (ZbV (PT.nox (Zgj (Zdf (ZbE ZaW (pv 2) Zam (fun _ _=>rfl)) rfl) (fun _=>rfl)))
   (Zae (Zz0 rfl ZKA T.Zlo.own rfl T.Zll (PA.nox (Zaa Zau Zad))))
   (PSs.nox ZaI))
   (PSs.nox (Zae (ZaA (ZB8 D_whole hr (ZbE ZaW (pv 2) Zam (fun _ _=>rfl))))))))),?_⟩
 walk_at "rd0"
 refine ZGr fun p dx a e o H1 s1 np na ne no Y1=>?_
 walk_at "rd"
 refine ZfD (Nat.le_of_ble_eq_true rfl) fun lv H2 s2 n2 e2=>?_
 have Z0:SK t H H2 lv [(p,dx,a,e,o)] [Lv.new]:=by
  obtain ⟨pa,ea,_⟩ :=id Y1.la
  obtain ⟨pe,ee,_⟩ :=id Y1.le
  obtain ⟨po,eo,_⟩ :=id Y1.lo
  refine ⟨e2,⟨Y1.same T s2,trivial⟩,?_,fun x hx=>?_,s1.trans s2⟩
  ·simp only [cells,List.nodup_cons,List.mem_cons,List.not_mem_nil,or_false,not_or,not_false_eq_true,List.nodup_nil,and_true]
   exact ⟨⟨(Zaf Y1.ob n2).symm,(Zaf ea n2).symm,(Zaf ee n2).symm,(Zaf eo n2).symm⟩,⟨Zdg Y1.ob ea (by intro z; cases z),Zdg Y1.ob ee (by intro z; cases z),Zdg Y1.ob eo (by intro z; cases z)⟩,⟨Y1.ae,Y1.ao⟩,Y1.eo⟩
  ·simp only [cells,List.mem_cons,List.not_mem_nil,or_false] at hx
   rcases hx with rfl | rfl | rfl | rfl | rfl
   ·exact s1.free n2
   ·exact np
   ·exact na
   ·exact ne
   ·exact no
 clear Y1 s1 s2 n2 e2 np na ne no
 walk_at "rd"
 refine seqL (xs:=ws.map V.str) (fun i σ H'=>∃ ads S v3 v4,SK t H H' lv ads S∧runW ns [Lv.new] (ws.take i)=some S∧(∀ L ∈ S,L.size≤i)∧S ≠ []∧ads.length≤i + 1∧σ=[some (.ref fo),some (.ref nl),some (.ref lv),v3,v4]) ⟨_,_,_,_,Z0,rfl,(fun L hL=>by rw [List.mem_singleton.mp hL]; exact Nat.le_refl 0),by simp,Nat.le_refl _,rfl⟩ (fun i σ H' _ hp=>by obtain ⟨ads,S,v3,v4,Z,_⟩ :=hp; exact SqL.of (Z.sm _ _ hf)) ?_ ?_
 ·rintro i x σ H3 hx ⟨ads,S,v3,v4,Z,hrun,hsz,hne,hal,rfl⟩
  rw [List.getElem?_map] at hx
  obtain ⟨z,hzi,rfl⟩ :=Option.map_eq_some_iff.mp hx
  have hil:=(List.getElem?_eq_some_iff.mp hzi).1
  have rn:runW ns [Lv.new] (ws.take (i + 1))=(ZdY ns S z):=by
   rw [ZaY hzi,Zif,hrun]
   show runW ns S [z]=_
   unfold runW
   cases ZdY ns S z <;> rfl
  have rno:ZdY ns S z=none→ZsE ns ws=none:=fun h=>by
   unfold ZsE
   have:runW ns [Lv.new] ws=none:=by
    rw [← List.take_append_drop (i + 1) ws,Zif,rn,h]
    rfl
   rw [this]
   rfl
  have zpl:=hpl z (List.mem_of_getElem? hzi)
  match ads,S,Z,hne with
  | [],[],_,hne=>exact absurd rfl hne
  | [],_ :: _,Z,_=>exact Z.st.elim
  | _ :: _,[],Z,_=>exact Z.st.elim
  | (p,dx,a,e,o) :: r,L :: R,Z,_=>
   have Y:LvAt t H3 p dx a e o L:=Z.st.1
   have hls:=Z.ls
   rw [ZrP] at hls
   have rl:=Z.st.2.len
   have hL:=hsz L List.mem_cons_self
   have fin:∀ (H':Hp) (v3 v4:Option V) (ads':List A5) (S':List Lv),SK t H H' lv ads' S'→ZdY ns (L :: R) z=some S'→ads'.length≤i + 2→∃ ads S w3 w4,SK t H H' lv ads S∧runW ns [Lv.new] (ws.take (i + 1))=some S∧(∀ L ∈ S,L.size≤i + 1)∧S ≠ []∧ads.length≤i + 1 + 1∧[some (.ref fo),some (.ref nl),some (.ref lv),v3,v4]=[some (.ref fo),some (.ref nl),some (.ref lv),w3,w4]:=fun H' v3 v4 ads' S' Z' h hl'=>⟨ads',S',v3,v4,Z',by rw [rn,h],ZHK h hsz,ZK5 h,hl',rfl⟩
   have wrd:∀ (Q':VK),(∀ L' a' e' H',L.word ns z=some L'→SK t H H' lv ((p,dx,a',e',o) :: r) (L' :: R)→Q' .non H')→(L.word ns z=none→ZdY ns (L :: R) z=none)→ZHI t [.ref p,.str z,.ref nl] H3 Q' E:=fun Q' h1 h2=>
    ⟨p,dx,a,e,o,nl,L,z,ns,rfl,Y,by omega,Z.sm _ _ hn,h1000,zpl,fun hw H' s'=>k1 (rno (h2 hw)) H' (Z.sm.trans s'),fun L' hw a' e' H' ha he k Y'=>h1 L' a' e' H' hw (Z.top T ha he k Y')⟩
   walk_at "rd"
   refine ZEg hls (ZDS _ _) ?_
   walk_at "rd"
   have lp:((p,dx,a,e,o) :: r:List A5).length≤i + 1:=hal
   rw [List.length_cons] at lp
   refine (fun (key : ¬ (z = "("∧L.lack=true)→?G)=>?main) ?key
   case main=>
    refine ZhG (fun h1=>?_) (fun h1=>?_)
    ·walk_at "rd"
     refine ⟨p,_,_,_,_,rfl,Y.ob,T.Zbc,T.ZaE,ZfW _ _ _ _ _,?_⟩
     walk_at "rd"
     cases hl:L.lack with
     | true=>
      refine Zgm rfl ?_
      walk_at "rd"
      refine ⟨tyL Z.ls,?_⟩
      walk_at "rd"
      refine ZGr fun p' dx' a' e' o' H4 s4 np na ne no Y4=>?_
      walk_at "rd"
      refine Za5 (s4 _ _ Z.ls) (by rw [Zz3]; simp only [List.length_cons]; omega) fun H5 b5 e5=>?_
      walk_at "rd"
      exact fin H5 _ _ _ _ (Z.push T s4 np na ne no Y4 b5 e5) (by simp only [ZdY]; rw [if_pos ⟨h1,hl⟩]) (by simp only [List.length_cons]; omega)
     | false=>
      refine Zbm rfl ?_
      exact key fun y=>by rw [hl] at y; exact absurd y.2 (by decide)
    ·refine Zbm rfl ?_
     exact key fun y=>h1 y.1
   intro hno
   refine (fun (key : ¬ (z = ")"∧L.lack=false∧R ≠ [])→?W)=>?main2) ?key2
   case main2=>
    walk_at "rd"
    refine ZhG (fun h2=>?_) (fun h2=>?_)
    ·walk_at "rd"
     refine ⟨p,_,_,_,_,rfl,Y.ob,T.Zbc,T.ZaE,ZfW _ _ _ _ _,?_⟩
     walk_at "rd"
     cases hl:L.lack with
     | true=>
      refine Zbm rfl ?_
      refine Zbm rfl ?_
      exact key fun y=>by rw [hl] at y; exact absurd y.2.1 (by decide)
     | false=>
      refine Zgm rfl ?_
      walk_at "rd"
      rw [List.length_append,Zz3,List.length_singleton]
      refine ZhG (fun h3=>?_) (fun h3=>?_)
      ·match r,R,Z,rl with
       | [],_,_,_=>exact absurd h3 (by decide)
       | _ :: _,[],_,rl=>cases rl
       | (p2,dx2,a2,e2,o2) :: r',M :: R',Z,_=>
        walk_at "rd"
        refine ⟨tyL hls,?_⟩
        walk_at "rd"
        refine ZNq hls fun H4 b4 e4=>?_
        obtain ⟨Z4,Y4⟩ :=Z.pop T b4 e4
        have ls4:=Z4.ls
        rw [ZrP] at ls4
        have Y2:LvAt t H4 p2 dx2 a2 e2 o2 M:=Z4.st.1
        have hM:=hsz M (List.mem_cons_of_mem _ List.mem_cons_self)
        walk_at "rd"
        refine ZEg ls4 (ZDS _ _) ?_
        walk_at "rd"
        refine ⟨p2,_,_,_,rfl,Y2.ob,rfl,Zre _ _ _ _ _,?_⟩
        walk_at "rd"
        refine ⟨p,_,_,_,rfl,Y4.ob,rfl,ZBv _ _ _ _ _,?_⟩
        walk_at "rd"
        refine ⟨Y4.ob,p,dx,a,e,o,L,rfl,Y4,by omega,fun q H5 k5 hq=>?_⟩
        have Z5:=Z4.off T Y4 Z.out k5
        have Y25:LvAt t H5 p2 dx2 a2 e2 o2 M:=Z5.st.1
        walk_at "rd"
        refine ⟨Y25.ob,p2,dx2,a2,e2,o2,q,M,L.whole,rfl,Y25,hq,by omega,fun H6 o6 Y6=>?_⟩
        walk_at "rd"
        refine fin H6 _ _ _ _ (Z5.top T (.inl rfl) (.inl rfl) (fun x u h1 h2 _ _ zz=>o6 _ _ h1 h2 zz) Y6) ?_ (by simp only [List.length_cons] at lp ⊢; omega)
        simp only [ZdY]
        rw [if_neg hno,if_pos ⟨h2,hl⟩]
      ·exact key fun y=>by
        cases r with
        | nil=>exact y.2.2 (List.length_eq_zero_iff.mp rl.symm)
        | cons x r'=>simp only [List.length_cons] at h3; omega
    ·refine Zbm rfl ?_
     exact key fun y=>h2 y.1
   intro hn2
   have sw:=ZFB (ns:=ns) hno hn2
   walk_at "rd"
   refine ⟨p,_,_,_,rfl,Y.ob,rfl,Zze _ _ _ _ _,?_⟩
   walk_at "rd"
   refine ⟨Y.ob,wrd _ (fun L' a' e' H' hw Z'=>?_) fun hw=>by rw [sw,hw]; rfl⟩
   walk_at "rd"
   exact fin H' _ _ _ _ Z' (by rw [sw,hw]; rfl) (by simp only [List.length_cons]; omega)
 ·rintro σ H3 ⟨ads,S,v3,v4,Z,hrun,hsz,hne,hal,rfl⟩
  rw [List.length_map,List.take_length] at hrun
  rw [List.length_map] at hsz
  have hane:ads ≠ []:=fun z=>by
   have:=Z.st.len
   rw [z] at this
   exact hne (List.length_eq_zero_iff.mp this.symm)
  obtain ⟨b,L0,hb,hS,Y0,hmem⟩ :=Z.st.bottom hane
  have hls:=Z.ls
  have rd:ZsE ns ws=endF L0:=by
   unfold ZsE
   rw [hrun]
   show S.getLast?.bind endF=_
   rw [hS]
   rfl
  have hL0:=hsz L0 (List.mem_of_getLast? hS)
  rw [rd] at k1 k2
  unfold endF at k1 k2
  walk_at "rd"
  refine ZdP (j:=0) hls hb ?_
  walk_at "rd"
  refine ⟨b.1,_,_,_,_,rfl,Y0.ob,T.Zbc,T.ZaE,ZfW _ _ _ _ _,?_⟩
  walk_at "rd"
  cases hl:L0.lack with
  | true=>
   rw [hl,if_pos rfl] at k1
   refine Zgm rfl ?_
   (try dsimp only)
   refine ZC6 ?_
   walk_at "rd"
   exact ⟨Nat.le_of_ble_eq_true rfl,k1 rfl H3 Z.sm⟩
  | false=>
   rw [hl,if_neg (by decide)] at k2
   refine Zbm rfl ?_
   walk_at "rd"
   refine ZdP (j:=0) hls hb ?_
   walk_at "rd"
   refine ⟨b.1,_,_,_,rfl,Y0.ob,rfl,ZBv _ _ _ _ _,?_⟩
   walk_at "rd"
   refine ⟨Y0.ob,b.1,_,_,_,_,L0,rfl,Y0,by omega,fun q H4 k4 hq=>?_⟩
   have kp:∀ y,y ∈ [b.1,b.2.2.1,b.2.2.2.1,b.2.2.2.2]→∀ {x u},H x=some u→x ≠ y:=fun y hy {x u} zz=>Z.kp (List.mem_cons_of_mem _ (hmem y hy)) zz
   exact k2 _ rfl q H4 (fun x u zz=>k4 x u (kp _ (by simp) zz) (kp _ (by simp) zz) (kp _ (by simp) zz) (kp _ (by simp) zz) (Z.sm x u zz)) hq
end
theorem ZC8 {z p:List Nat} {r:List (List Nat)} (h:r ≠ []):jn z (p :: r)=p ++ z ++ jn z r:=by
 cases r with
 | nil=>exact absurd rfl h
 | cons q r=>rfl
def Wd (p:List Nat):Prop:=p=[40]∨p=[41]∨(p ≠ []∧∀ c ∈ p,97≤c∧c≤122)
def glue:List (List Nat)→List Nat
 | []=>[]
 | [p]=>p
 | p :: q :: r=>p ++ (if p=[40]∨q=[41] then [] else [32]) ++ glue (q :: r)
def ZsK:W3→Str
 | .a=>" and "
 | .e=>" either "
 | .o=>" or "
def ZfE:W3→Nat
 | .a=>1
 | .e=>2
 | .o=>3
def ZjR:Fm→Nat
 | .join w _=>ZfE w
 | _=>0
def brk (b:Bool) (z:Str):Str:=if b=true then Str.empty ++ "(" ++ z ++ ")" else z
mutual
def ZaJ (ns:List Str):Fm→Str
 | .lamp k=>ns.getD k Str.empty
 | .sure b=>if b=true then "yes" else "no"
 | .neg f=>Str.empty ++ "not " ++ brk (decide (1≤(ZjR f))) (ZaJ ns f)
 | .join w fs=>Txt.join (ZsK w) (Zb8 ns (ZfE w) fs)
def Zb8 (ns:List Str) (r:Nat):List Fm→List Str
 | []=>[]
 | f :: fs=>brk (decide (r≤(ZjR f))) (ZaJ ns f) :: Zb8 ns r fs
end
def Zf0 (ns:List Str) (r:Nat) (f:Fm):Str:=brk (decide (r≤(ZjR f))) (ZaJ ns f)
theorem ZrV (ns:List Str) (r:Nat):∀ fs:List Fm,Zb8 ns r fs=fs.map (Zf0 ns r)
 | []=>by simp [Zb8]
 | f :: fs=>by simp [Zb8,ZrV ns r fs,Zf0]
theorem Zn6 (ns:List Str) (w:W3) (fs:List Fm):ZaJ ns (Fm.join w fs)=Txt.join (ZsK w) (fs.map (Zf0 ns (ZfE w))):=by
 simp [ZaJ,ZrV]
mutual
def fWt:Fm→Nat
 | .lamp _=>1
 | .sure _=>1
 | .neg f=>1 + fWt f
 | .join _ fs=>1 + fWtL fs
def fWtL:List Fm→Nat
 | []=>0
 | f :: fs=>1 + fWt f + fWtL fs
end
theorem ZM8 {fs:List Fm} {f:Fm} (h:f ∈ fs):fWt f < fWtL fs:=by
 induction fs with
 | nil=>cases h
 | cons g gs ih=>
  rw [fWtL]
  rcases List.mem_cons.mp h with rfl | h
  ·omega
  ·have:=ih h
   omega
theorem ZJ5:∀ fs:List Fm,fs.length≤fWtL fs
 | []=>Nat.zero_le _
 | f :: fs=>by rw [List.length_cons,fWtL]; have:=ZJ5 fs; omega
theorem ZyS (b:Bool) (z:Str):(brk b z).length≤z.length + 2:=by
 unfold brk
 split
 ·rw [Zak,Zak,Zak]
  have:Str.length Str.empty=0:=rfl
  have:Str.length "(" = 1:=by decide +kernel
  have:Str.length ")" = 1:=by decide +kernel
  omega
 ·omega
theorem ZCE (w:W3):(ZsK w).length≤8:=by cases w <;> decide +kernel
theorem ZqK {ns:List Str} {B:Nat} (h:∀ z ∈ ns,z.length≤B) (k:Nat):(ns.getD k Str.empty).length≤B:=by
 rw [List.getD_eq_getElem?_getD]
 cases e:ns[k]? with
 | none=>exact Nat.zero_le _
 | some z=>exact h z (List.mem_of_getElem? e)
mutual
theorem ZfC {ns:List Str} (h:∀ z ∈ ns,z.length≤20):∀ f:Fm,(ZaJ ns f).length≤20 * fWt f
 | .lamp k=>by simp only [ZaJ,fWt]; exact ZqK h k
 | .sure b=>by cases b <;> simp only [ZaJ,fWt] <;> decide +kernel
 | .neg f=>by
  have a:=ZfC h f
  have b:=ZyS (decide (1≤(ZjR f))) (ZaJ ns f)
  have c:Str.length "not " = 4:=by decide +kernel
  have d:Str.length Str.empty=0:=rfl
  simp only [ZaJ,fWt]
  rw [Zak,Zak]
  omega
 | .join w fs=>by
  have a:=ZsH h (ZfE w) fs
  have b:=ZCE w
  simp only [ZaJ,fWt]
  have c:(Txt.join (ZsK w) (Zb8 ns (ZfE w) fs)).length≤((Zb8 ns (ZfE w) fs).map (·.length)).sum + (Zb8 ns (ZfE w) fs).length * (ZsK w).length:=by
   show (Builtin.Str.glued _ _).length≤_
   rw [StrLaws.glued_eq_join]
   exact StrLaws.join_length_le _ _
  have d:(Zb8 ns (ZfE w) fs).length * (ZsK w).length≤(Zb8 ns (ZfE w) fs).length * 8:=Nat.mul_le_mul_left _ b
  omega
theorem ZsH {ns:List Str} (h:∀ z ∈ ns,z.length≤20) (r:Nat):∀ fs:List Fm,((Zb8 ns r fs).map (·.length)).sum + (Zb8 ns r fs).length * 8≤20 * fWtL fs
 | []=>by simp [Zb8]
 | f :: fs=>by
  have a:=ZfC h f
  have b:=ZyS (decide (r≤(ZjR f))) (ZaJ ns f)
  have c:=ZsH h r fs
  simp only [Zb8,fWtL,List.map_cons,List.sum_cons,List.length_cons]
  omega
end
theorem ZBo {ns:List Str} (h:∀ z ∈ ns,z.length≤20) (w:W3) (fs:List Fm) (hw:fWtL fs≤1000):JoinOk (ZsK w) (fs.map (Zf0 ns (ZfE w)))=true:=by
 rw [← ZrV]
 unfold JoinOk Builtin.Str.tooLong
 rw [StrLaws.joinTotal]
 have a:=ZsH h (ZfE w) fs
 have b:=ZCE w
 have d:(Zb8 ns (ZfE w) fs).length * (ZsK w).length≤(Zb8 ns (ZfE w) fs).length * 8:=Nat.mul_le_mul_left _ b
 rw [decide_eq_false (Nat.not_lt.mpr (Zbn (by omega)))]
 rfl
section
variable {P:Program} {w:World} {K:PySem.W.Frag} {mg:Str→Option Value} {base:Heap} {t:Ad} {n:Nat}
def ZK1 (t:Ad):Sp:=fun vs H Q _=>∃ (p:Addr) (f:Fm) (n:Nat),vs=[.ref p]∧FmAt t H (n + 1) p f∧Q (.int (ZjR f:Int)) H
theorem Zoc (T:Txt K mg t):∀ C,isFm t C→MeS P w K mg base 1 C "looseness" ["self"] (spAt (ZK1 t) C):=by
 rintro C (rfl | rfl | rfl | rfl | rfl | rfl)
 ·refine ⟨T.Zx3,_,_,T.ZcJ.ok ZdX (fun vs H Q E h=>?_) (fun cdv A outer s H vs Q E hr h=>?_),T.ZcK,T.ZlG⟩
  ·obtain ⟨⟨p,f,n,rfl,_⟩,_⟩ :=h
   rfl
  ·obtain ⟨⟨p,f,n,rfl,hf,q⟩,a,dx,fs,r,e,ea⟩ :=h
   cases e
   obtain ⟨k,rfl,rfl⟩ :=hf.lamp T ea
   refine ⟨_,(Zae (ZaA Zam)),?_⟩
   walk_at "rd0"
   exact q
 ·refine ⟨T.Zx4,_,_,T.ZcJ.ok ZdX (fun vs H Q E h=>?_) (fun cdv A outer s H vs Q E hr h=>?_),T.ZcK,T.ZlH⟩
  ·obtain ⟨⟨p,f,n,rfl,_⟩,_⟩ :=h
   rfl
  ·obtain ⟨⟨p,f,n,rfl,hf,q⟩,a,dx,fs,r,e,ea⟩ :=h
   cases e
   obtain ⟨b,rfl,rfl⟩ :=hf.sure T ea
   refine ⟨_,(Zae (ZaA Zam)),?_⟩
   walk_at "rd0"
   exact q
 ·refine ⟨T.c_Not,_,_,T.ZcJ.ok ZdX (fun vs H Q E h=>?_) (fun cdv A outer s H vs Q E hr h=>?_),T.ZcK,T.ZmR⟩
  ·obtain ⟨⟨p,f,n,rfl,_⟩,_⟩ :=h
   rfl
  ·obtain ⟨⟨p,f,n,rfl,hf,q⟩,a,dx,fs,r,e,ea⟩ :=h
   cases e
   obtain ⟨g,p2,rfl,rfl,hg⟩ :=hf.neg T ea
   refine ⟨_,(Zae (ZaA Zam)),?_⟩
   walk_at "rd0"
   exact q
 ·refine ⟨T.c_And,_,_,T.ZlQ.ok ZuG (fun vs H Q E h=>?_) (fun cdv A outer s H vs Q E hr h=>?_),T.Zmd,T.ZmP⟩
  ·obtain ⟨⟨p,f,n,rfl,_⟩,_⟩ :=h
   rfl
  ·obtain ⟨⟨p,f,n,rfl,hf,q⟩,a,dx,fs,r,e,ea⟩ :=h
   cases e
   obtain ⟨gs,tp,ps,rfl,rfl,htp,hg⟩ :=hf.join (w:=.a) T ea
   refine ⟨_,(Zae (ZaA Zam)),?_⟩
   walk_at "rd0"
   exact q
 ·refine ⟨T.ZnF,_,_,T.Zii.ok ZpL (fun vs H Q E h=>?_) (fun cdv A outer s H vs Q E hr h=>?_),T.Zin,T.ZiM⟩
  ·obtain ⟨⟨p,f,n,rfl,_⟩,_⟩ :=h
   rfl
  ·obtain ⟨⟨p,f,n,rfl,hf,q⟩,a,dx,fs,r,e,ea⟩ :=h
   cases e
   obtain ⟨gs,tp,ps,rfl,rfl,htp,hg⟩ :=hf.join (w:=.e) T ea
   refine ⟨_,(Zae (ZaA Zam)),?_⟩
   walk_at "rd0"
   exact q
 ·refine ⟨T.c_Or,_,_,T.Zoh.ok ZwV (fun vs H Q E h=>?_) (fun cdv A outer s H vs Q E hr h=>?_),T.Zoo,T.ZoF⟩
  ·obtain ⟨⟨p,f,n,rfl,_⟩,_⟩ :=h
   rfl
  ·obtain ⟨⟨p,f,n,rfl,hf,q⟩,a,dx,fs,r,e,ea⟩ :=h
   cases e
   obtain ⟨gs,tp,ps,rfl,rfl,htp,hg⟩ :=hf.join (w:=.o) T ea
   refine ⟨_,(Zae (ZaA Zam)),?_⟩
   walk_at "rd0"
   exact q
def isJn (t:Ad) (C:Addr):Prop:=∃ w,C=cw t w
def ZHC (t:Ad):Sp:=fun vs H Q _=>∃ (p dx:Addr) (fs:List (Str × V)) (w:W3),vs=[.ref p]∧H p=some (.ins (cw t w) dx fs)∧Q (.str (ZsK w)) H
theorem ZAJ (T:Txt K mg t):∀ C,isJn t C→MeS P w K mg base 1 C "between" ["self"] (spAt (ZHC t) C):=by
 rintro C ⟨v,rfl⟩
 cases v
 ·refine ⟨T.c_And,_,_,T.ZpR.ok ZxE (fun vs H Q E h=>?_) (fun cdv A outer s H vs Q E hr h=>?_),T.Zp9,T.ZqL⟩
  ·obtain ⟨⟨p,dx,fs,w,rfl,_⟩,_⟩ :=h
   rfl
  ·obtain ⟨⟨p,dx,fs,w,rfl,hp,q⟩,a,dx',fs',r,e,ea⟩ :=h
   cases e
   rw [ea] at hp
   have e1:cw t .a=cw t w:=(HO.ins.inj (Option.some.inj hp)).1
   obtain rfl:=ZD3 T e1
   refine ⟨_,(Zae (ZaA Zau)),?_⟩
   walk_at "rd0"
   exact q
 ·refine ⟨T.ZnF,_,_,T.Zlu.ok ZsG (fun vs H Q E h=>?_) (fun cdv A outer s H vs Q E hr h=>?_),T.Zlx,T.ZlF⟩
  ·obtain ⟨⟨p,dx,fs,w,rfl,_⟩,_⟩ :=h
   rfl
  ·obtain ⟨⟨p,dx,fs,w,rfl,hp,q⟩,a,dx',fs',r,e,ea⟩ :=h
   cases e
   rw [ea] at hp
   have e1:cw t .e=cw t w:=(HO.ins.inj (Option.some.inj hp)).1
   obtain rfl:=ZD3 T e1
   refine ⟨_,(Zae (ZaA Zau)),?_⟩
   walk_at "rd0"
   exact q
 ·refine ⟨T.c_Or,_,_,T.ZsS.ok Zz9 (fun vs H Q E h=>?_) (fun cdv A outer s H vs Q E hr h=>?_),T.Zs8,T.ZtU⟩
  ·obtain ⟨⟨p,dx,fs,w,rfl,_⟩,_⟩ :=h
   rfl
  ·obtain ⟨⟨p,dx,fs,w,rfl,hp,q⟩,a,dx',fs',r,e,ea⟩ :=h
   cases e
   rw [ea] at hp
   have e1:cw t .o=cw t w:=(HO.ins.inj (Option.some.inj hp)).1
   obtain rfl:=ZD3 T e1
   refine ⟨_,(Zae (ZaA Zau)),?_⟩
   walk_at "rd0"
   exact q
def ZND (t:Ad):Sp:=fun vs H Q _=>∃ (p:Addr) (f:Fm) (n r:Nat) (z:Str),vs=[.ref p,.str z,.int (r:Int)]∧FmAt t H (n + 1) p f∧z.length≤900000∧Q (.str (brk (decide (r≤ZjR f)) z)) H
theorem Zuf (T:Txt K mg t):FnS P w K mg base 2 "bracketed" ["part","text","bound"] ((ZND t)):=by
 refine ⟨_,_,T.ZoV.ok ZCg (fun vs H Q E h=>?_) (fun cdv A outer s H vs Q E hr h=>?_),T.Zvv,T.ZoV.kp,T.Zwr⟩
 ·obtain ⟨p,f,n,r,z,rfl,hf,hz,q⟩ :=h
  rfl
 obtain ⟨p,f,n,r,z,rfl,hf,hz,q⟩ :=h
 have D_looseness:=Zoc (P:=P) (w:=w) (base:=base) T
 obtain ⟨C,dx',fs',e',hC,hl⟩ :=hf.ins "looseness" (by decide +kernel) (by decide +kernel) (by decide +kernel) (by decide +kernel)
 have l0:Str.length Str.empty=0:=rfl
 have l1:Str.length "(" = 1:=by decide +kernel
 have l2:Str.length ")" = 1:=by decide +kernel
 refine ⟨_,(Zae (ZaA (Zrv (Zav ZMj (ZB8 D_looseness hr (pv 0)) (pv 2) (ZaQ _)) (Zrw (Zln Zau (Zln (ZHi (pv 1)) (Zln Zau ZEH)))) (pv 1)))),?_⟩
 walk_at "rd0"
 refine ⟨p,C,dx',fs',rfl,e',hC,hl,?_⟩
 walk_at "rd"
 refine ⟨e',p,f,n,rfl,hf,?_⟩
 walk_at "rd"
 refine ZhG (fun h=>?_) (fun h=>?_)
 ·rw [decide_eq_true (by omega)] at q
  walk_at "rd"
  refine ⟨_,rfl,Zbn (by rw [Zak]; omega),?_⟩
  walk_at "rd"
  refine ⟨_,rfl,Zbn (by omega),_,rfl,Zbn (by rw [Zak,Zak]; omega),?_⟩
  walk_at "rd"
  refine ⟨_,rfl,Zbn (by rw [Zak,Zak,Zak]; omega),?_⟩
  refine i_jn (by rw [Zak,Zak,Zak]; omega) ?_
  exact q
 ·rw [decide_eq_false (by omega)] at q
  walk_at "rd"
  exact q
def Znu (t:Ad) (n:Nat):Sp:=fun vs H Q _=>∃ (p nl:Addr) (f:Fm) (ns:List Str),vs=[.ref p,.ref nl]∧FmAt t H n p f∧H nl=some (.lst (ns.map V.str))∧(∀ z ∈ ns,z.length≤20)∧f.low ns.length=true∧fWt f≤1000∧∀ H',Same H H'→Q (.str (ZaJ ns f)) H'
theorem ZzM (T:Txt K mg t):MeS P w K mg base (n + 3) t.Zax "shown" ["self","names"] (spAt (Znu t (n + 1)) t.Zax):=by
 refine ⟨T.Zx3,_,_,T.ZsQ.ok Zz7 (fun vs H Q E h=>?_) (fun cdv A outer s H vs Q E hr h=>?_),T.Zme,T.ZmQ⟩
 ·obtain ⟨⟨p,nl,f,ns,rfl,_⟩,_⟩ :=h
  rfl
 ·obtain ⟨⟨p,nl,f,ns,rfl,hf,hn,h20,hlow,hwt,q⟩,a,dx,fs,r,e,ea⟩ :=h
  cases e
  obtain ⟨k,rfl,rfl⟩ :=hf.lamp T ea
  simp only [Fm.low,decide_eq_true_iff] at hlow
  refine ⟨_,(Zae (ZaA (ZbE ZaW (pv 1) (Zdf (pv 0) rfl) (fun _ _=>rfl)))),?_⟩
  walk_at "rd0"
  refine ⟨p,_,_,_,_,rfl,ea,T.Zx3,T.ZhS,lk1 _ _,?_⟩
  walk_at "rd"
  refine ZdP (v:=.str (ns.getD k Str.empty)) hn (by rw [List.getElem?_map,List.getD_eq_getElem?_getD,List.getElem?_eq_getElem hlow]; rfl) ?_
  have:=q H (Same.refl _)
  simpa only [ZaJ] using this
theorem ZzN (T:Txt K mg t):MeS P w K mg base (n + 3) t.Zay "shown" ["self","names"] (spAt (Znu t (n + 1)) t.Zay):=by
 refine ⟨T.Zx4,_,_,T.ZsT.ok ZAa (fun vs H Q E h=>?_) (fun cdv A outer s H vs Q E hr h=>?_),T.Zmf,T.ZmS⟩
 ·obtain ⟨⟨p,nl,f,ns,rfl,_⟩,_⟩ :=h
  rfl
 ·obtain ⟨⟨p,nl,f,ns,rfl,hf,hn,h20,hlow,hwt,q⟩,a,dx,fs,r,e,ea⟩ :=h
  cases e
  obtain ⟨b,rfl,rfl⟩ :=hf.sure T ea
  have q':=q H (Same.refl _)
  simp only [ZaJ] at q'
  refine ⟨_,(Zae (ZaA (Zrv (Zgj (Zdf (pv 0) rfl) (fun _=>rfl)) Zau Zau))),?_⟩
  walk_at "rd0"
  refine ⟨p,_,_,_,_,rfl,ea,T.Zx4,T.ZdJ,lk1 _ _,?_⟩
  walk_at "rd"
  refine ZNk (fun h=>?_) (fun h=>?_)
  ·rw [if_pos h] at q'
   walk_at "rd"
   exact q'
  ·rw [if_neg (by rw [h]; decide)] at q'
   walk_at "rd"
   exact q'
theorem ZB2 (T:Txt K mg t) (D_shown:∀ C,isFm t C→MeS P w K mg base (n + 2) C "shown" ["self","names"] (spAt (Znu t n) C)):MeS P w K mg base (n + 3) t.C_Not "shown" ["self","names"] (spAt (Znu t (n + 1)) t.C_Not):=by
 refine ⟨T.c_Not,_,_,T.Zu7.ok Zuv (fun vs H Q E h=>?_) (fun cdv A outer s H vs Q E hr h=>?_),T.Zpa,T.Zpu⟩
 ·obtain ⟨⟨p,nl,f,ns,rfl,_⟩,_⟩ :=h
  rfl
 ·obtain ⟨⟨p,nl,f,ns,rfl,hf,hn,h20,hlow,hwt,q⟩,a,dx,fs,r,e,ea⟩ :=h
  cases e
  obtain ⟨g,p',rfl,rfl,hg⟩ :=hf.neg T ea
  simp only [Fm.low] at hlow
  simp only [fWt] at hwt
  have ZoZ:=Zuf (P:=P) (w:=w) (base:=base) T
  obtain ⟨C,dx',fs',e',hC,hl⟩ :=hg.ins "shown" (by decide +kernel) (by decide +kernel) (by decide +kernel) (by decide +kernel)
  have hsl:=ZfC h20 g
  have hbl:=ZyS (decide (1≤ZjR g)) (ZaJ ns g)
  have l0:Str.length Str.empty=0:=rfl
  have l1:Str.length "not " = 4:=by decide +kernel
  refine ⟨_,(Zac (ss 2 Zuv.nd (Zbq ZoZ hr (Zaa (Zdf (pv 0) rfl) (Zaa (ZxB D_shown hr (Zdf (pv 0) rfl) (Zaa (pv 1) Zad)) (Zaa Zam Zad)))))
   (Zae (ZaA (Zrw (Zln Zau (Zln (ZHi (pv 2)) ZEH)))))),?_⟩
  walk_at "rd0"
  refine ⟨p,_,_,_,_,rfl,ea,T.c_Not,T.ZeT,lk1 _ _,?_⟩
  walk_at "rd"
  refine ⟨p,_,_,_,_,rfl,ea,T.c_Not,T.ZeT,lk1 _ _,?_⟩
  walk_at "rd"
  refine ⟨p',C,dx',fs',rfl,e',hC,hl,?_⟩
  walk_at "rd"
  refine ⟨e',p',nl,g,ns,rfl,hg,hn,h20,hlow,by omega,fun H1 s1=>?_⟩
  walk_at "rd"
  cases n with
  | zero=>exact hg.elim
  | succ n=>
   refine ⟨p',g,n,1,_,rfl,FmAt.mono (Ext.of s1) hg,by omega,?_⟩
   walk_at "rd"
   refine ⟨_,rfl,Zbn (by rw [Zak]; omega),?_⟩
   walk_at "rd"
   refine ⟨_,rfl,Zbn (by omega),_,rfl,Zbn (by rw [Zak,Zak]; omega),?_⟩
   refine i_jn (by rw [Zak,Zak]; omega) ?_
   have:=q H1 s1
   simpa only [ZaJ] using this
theorem Zia {v:W3} (T:Txt K mg t) (cl:Cls K (cw t v)) (na:Zag K (cw t v) "parts") (me:Meth K (cw t v) "shown" t.ZaG) (D_shown:∀ C,isFm t C→MeS P w K mg base (n + 2) C "shown" ["self","names"] (spAt (Znu t n) C)):MeS P w K mg base (n + 3) (cw t v) "shown" ["self","names"] (spAt (Znu t (n + 1)) (cw t v)):=by
 refine ⟨cl,_,_,T.Zof.ok Zig (fun vs H Q E h=>?_) (fun cdv A outer s H vs Q E hr h=>?_),T.ZdZ,me⟩
 ·obtain ⟨⟨p,nl,f,ns,rfl,_⟩,_⟩ :=h
  rfl
 ·obtain ⟨⟨p,nl,f,ns,rfl,hf,hn,h20,hlow,hwt,q⟩,a,dx,fs,r,e,ea⟩ :=h
  cases e
  obtain ⟨gs,tp,ps,rfl,rfl,htp,hg⟩ :=hf.join T ea
  rw [ZEt,List.all_eq_true] at hlow
  simp only [fWt] at hwt
  have ZoZ:=Zuf (P:=P) (w:=w) (base:=base) T
  have D_looseness:=Zoc (P:=P) (w:=w) (base:=base) T
  have D_between:=ZAJ (P:=P) (w:=w) (base:=base) T
  obtain ⟨C0,dx0,fs0,e0,hC0,hl0⟩ :=hf.ins "looseness" (by decide +kernel) (by decide +kernel) (by decide +kernel) (by decide +kernel)
  refine ⟨_,(Zac (ss 2 Zig.nd (Zb0 Zad))
   (Zac (Zb5 PassesOwn.never rfl (ZdK (Zdf (pv 0) rfl)) (sg 3 Zig.nd)
   (Zae (ZaR (Zc8 PySem.F.plainAttrs_list PySem.F.slot_list_append PySem.F.type_list_append ZaK (pv 2) (Zaa (Zbq ZoZ hr (Zaa (pv 3) (Zaa (ZxB D_shown hr (pv 3) (Zaa (pv 1) Zad)) (Zaa (ZB8 D_looseness hr (pv 0)) Zad)))) Zad)))))
   (Zae (ZaA (Zc8 PySem.F.plainAttrs_str PySem.F.slot_str_join PySem.F.type_str_join Zwx (ZB8 D_between hr (pv 0)) (Zaa (pv 2) Zad)))))),?_⟩
  walk_at "rd0"
  refine ZfD (by simp) fun tl H1 s1 n1 e1=>?_
  walk_at "rd"
  refine ⟨p,_,_,_,_,rfl,s1 _ _ ea,cl,na,lk1 _ _,?_⟩
  refine seqT (xs:=ps.map V.ref) (fun i σ H'=>Same H H'∧H' tl=some (.lst (((gs.take i).map (Zf0 ns (ZfE v))).map V.str))∧∃ v3,σ=[some (.ref p),some (.ref nl),some (.ref tl),v3]) ⟨s1,e1,_,rfl⟩ (fun i σ H' _ hp=>by obtain ⟨s2,_⟩ :=hp; exact SqT.of (s2 _ _ htp)) ?_ ?_
  ·rintro i x σ H2 hx ⟨s2,e2,v3,rfl⟩
   obtain ⟨p',rfl,hx'⟩ :=Zcb hx
   obtain ⟨g,hgi,hf'⟩ :=Zyv hg hx'
   have hgm:=List.mem_of_getElem? hgi
   have hgw:=ZM8 hgm
   have hsl:=ZfC h20 g
   have hf2:=FmAt.mono (Ext.of s2) hf'
   obtain ⟨C,dx',fs',e',hC,hl⟩ :=hf2.ins "shown" (by decide +kernel) (by decide +kernel) (by decide +kernel) (by decide +kernel)
   walk_at "rd"
   refine ⟨tyL e2,?_⟩
   walk_at "rd"
   refine ⟨p',C,dx',fs',rfl,e',hC,hl,?_⟩
   walk_at "rd"
   refine ⟨e',p',nl,g,ns,rfl,hf2,s2 _ _ hn,h20,hlow g hgm,by omega,fun H3 s3=>?_⟩
   walk_at "rd"
   refine ⟨p,C0,dx0,fs0,rfl,s3 _ _ (s2 _ _ e0),hC0,hl0,?_⟩
   walk_at "rd"
   have hfj:=FmAt.mono (Ext.of (s2.trans s3)) hf
   refine ⟨s3 _ _ (s2 _ _ e0),p,_,n,rfl,hfj,?_⟩
   walk_at "rd"
   cases n with
   | zero=>exact hf'.elim
   | succ n=>
    refine ⟨p',g,n,ZfE v,_,rfl,FmAt.mono (Ext.of s3) hf2,by omega,?_⟩
    walk_at "rd"
    refine Za5 (s3 _ _ e2) (by rw [List.length_map,List.length_map,List.length_take]; have:=ZJ5 gs; omega) fun H4 b4 e4=>?_
    walk_at "rd"
    refine ⟨b4.same n1 (s2.trans s3),?_,_,rfl⟩
    rw [ZaY hgi,List.map_append,List.map_append]
    exact e4
  ·rintro σ H2 ⟨s2,e2,v3,rfl⟩
   rw [List.length_map,Zas hg,List.take_length] at e2
   walk_at "rd"
   refine ⟨p,_,dx,_,rfl,s2 _ _ ea,⟨v,rfl⟩,lk0 _ (by decide +kernel),?_⟩
   walk_at "rd"
   refine ⟨s2 _ _ ea,p,dx,_,v,rfl,s2 _ _ ea,?_⟩
   walk_at "rd"
   refine ⟨tyS,?_⟩
   walk_at "rd"
   refine ⟨_,tl,_,rfl,rfl,SqL.of e2,ZBo h20 v gs (by omega),?_⟩
   have:=q H2 s2
   rw [Zn6] at this
   exact this
theorem ZnX {k:Nat} {C f:Addr} {fd:FuncData} {m:Str} {ps:List Str} {sp:Sp} (no:∀ vs H Q E,¬ sp vs H Q E) (c:Cls K C) (b:ZaZ K fd ps []) (h:Meth K C m f):MeS P w K mg base k C m ps sp:=
 ⟨c,f,fd,⟨fun vs H Q E h=>absurd h (no vs H Q E),fun A outer s H args us vs Q E _ _ _ _ h=>absurd h (no vs H Q E)⟩,b,h⟩
theorem Zr3 (T:Txt K mg t):∀ n:Nat,∀ C,isFm t C→MeS P w K mg base (n + 2) C "shown" ["self","names"] (spAt (Znu t n) C)
 | 0=>by
  have no:∀ C vs H Q E,¬ spAt (Znu t 0) C vs H Q E:=fun C vs H Q E h=>by
   obtain ⟨⟨p,nl,f,ns,_,h,_⟩,_⟩ :=h
   exact h
  rintro C (rfl | rfl | rfl | rfl | rfl | rfl)
  ·exact ZnX (no _) T.Zx3 T.Zme T.ZmQ
  ·exact ZnX (no _) T.Zx4 T.Zmf T.ZmS
  ·exact ZnX (no _) T.c_Not T.Zpa T.Zpu
  ·exact ZnX (no _) T.c_And T.ZdZ T.Zps
  ·exact ZnX (no _) T.ZnF T.ZdZ T.Zjx
  ·exact ZnX (no _) T.c_Or T.ZdZ T.Zsj
 | n + 1=>by
  have ih:=Zr3 T n
  rintro C (rfl | rfl | rfl | rfl | rfl | rfl)
  ·exact ZzM T
  ·exact ZzN T
  ·exact ZB2 T ih
  ·exact Zia (v:=.a) T T.c_And T.ZeN T.Zps ih
  ·exact Zia (v:=.e) T T.ZnF T.Zcc T.Zjx ih
  ·exact Zia (v:=.o) T T.c_Or T.ZfY T.Zsj ih
end
inductive Tr where
 | lamp (k:Nat)
 | sure (b:Bool)
 | neg (t:Tr)
 | wrap (t:Tr)
 | join (w:W3) (ts:List Tr)
mutual
def fmT (π:Nat→Nat):Tr→Fm
 | .lamp k=>.lamp (π k)
 | .sure b=>.sure b
 | .neg t=>.neg (fmT π t)
 | .wrap t=>fmT π t
 | .join w ts=>.join w (fmTL π ts)
def fmTL (π:Nat→Nat):List Tr→List Fm
 | []=>[]
 | t :: ts=>fmT π t :: fmTL π ts
end
def rkG (b:Bool):Tr→Nat
 | .wrap t=>if b=true then 0 else rkG b t
 | .join w _=>ZfE w
 | _=>0
def brW (b:Bool) (ws:List Str):List Str:=if b=true then "(" :: (ws ++ ([")"]:List Str)) else ws
def jnW (k:Str):List (List Str)→List Str
 | []=>[]
 | [p]=>p
 | p :: q :: r=>p ++ k :: jnW k (q :: r)
mutual
def wdG (b:Bool) (ns:List Str):Tr→List Str
 | .lamp k=>[ns.getD k Str.empty]
 | .sure c=>[if c=true then "yes" else "no"]
 | .neg t=>"not" :: brW (decide (1≤rkG b t)) (wdG b ns t)
 | .wrap t=>brW b (wdG b ns t)
 | .join w ts=>jnW (kw3 w) (wdGL b ns (ZfE w) ts)
def wdGL (b:Bool) (ns:List Str) (r:Nat):List Tr→List (List Str)
 | []=>[]
 | t :: ts=>brW (decide (r≤rkG b t)) (wdG b ns t) :: wdGL b ns r ts
end
mutual
def okT (m:Nat):Tr→Bool
 | .lamp k=>decide (k < m)
 | .sure _=>true
 | .neg t=>okT m t
 | .wrap t=>okT m t
 | .join _ ts=>decide (2≤ts.length) && okTL m ts
def okTL (m:Nat):List Tr→Bool
 | []=>true
 | t :: ts=>okT m t && okTL m ts
end
theorem ZD9 (π:Nat→Nat):∀ ts:List Tr,(fmTL π ts).length=ts.length
 | []=>rfl
 | _ :: ts=>congrArg (· + 1) (ZD9 π ts)
def ZLp (v:W3) (L:Lv):Prop:=L.nots=0∧L.lack=true∧(v ≠ .a→L.ands=[])∧(v=.o→L.eithers=[])
def cl0:W3→Lv→List Fm
 | .a,L=>L.ands
 | .e,L=>L.eithers
 | .o,L=>L.ors
def cl:W3→Lv→List Fm
 | .a,L=>L.ands
 | .e,L=>L.eithers ++ [ZcH .a L.ands]
 | .o,L=>L.ors ++ [ZcH .e (L.eithers ++ [ZcH .a L.ands])]
def up3 (v:W3) (L L':Lv):Prop:=(v=.a→L'.eithers=L.eithers)∧(v ≠ .o→L'.ors=L.ors)
def D0 (ns:List Str) (ws:List Str) (f:Fm):Prop:=∀ (L:Lv) (R:List Lv),L.lack=true→runW ns (L :: R) ws=some (L.part f :: R)
def Pw (ns:List Str) (v:W3) (ws:List Str) (fs:List Fm):Prop:=∀ (L:Lv) (R:List Lv),ZLp v L→∃ L',runW ns (L :: R) ws=some (L' :: R)∧L'.lack=false∧L'.nots=0∧cl v L'=cl0 v L ++ fs∧up3 v L L'
def Ww (ns:List Str) (ws:List Str) (f:Fm):Prop:=∀ R:List Lv,∃ L',runW ns (Lv.new :: R) ws=some (L' :: R)∧L'.lack=false∧L'.whole=f
theorem D0.a {ns ws:List Str} {f:Fm} (h:D0 ns ws f):Pw ns .a ws [f]:=fun L R c=>⟨L.part f,h L R c.2.1,rfl,rfl,by show L.ands ++ [negs L.nots f]=_; rw [c.1]; rfl,fun _=>rfl,fun _=>rfl⟩
theorem Pw.ae {ns ws:List Str} {fs:List Fm} {f:Fm} (h:Pw ns .a ws fs) (e:ZcH .a fs=f):Pw ns .e ws [f]:=fun L R c=>by
 obtain ⟨L',h1,h2,h3,h4,h5⟩ :=h L R ⟨c.1,c.2.1,fun z=>absurd rfl z,fun z=>nomatch z⟩
 have ha:L'.ands=fs:=by
  have:L'.ands=L.ands ++ fs:=h4
  rw [this,c.2.2.1 (by decide)]
  rfl
 refine ⟨L',h1,h2,h3,?_,(fun z=>nomatch z),fun z=>h5.2 (by decide)⟩
 show L'.eithers ++ [ZcH .a L'.ands]=L.eithers ++ [f]
 rw [h5.1 rfl,ha,e]
theorem Pw.eo {ns ws:List Str} {fs:List Fm} {f:Fm} (h:Pw ns .e ws fs) (e:ZcH .e fs=f):Pw ns .o ws [f]:=fun L R c=>by
 obtain ⟨L',h1,h2,h3,h4,h5⟩ :=h L R ⟨c.1,c.2.1,fun _=>c.2.2.1 (by decide),fun z=>nomatch z⟩
 have he:L'.eithers ++ [ZcH .a L'.ands]=fs:=by
  have:L'.eithers ++ [ZcH .a L'.ands]=L.eithers ++ fs:=h4
  rw [this,c.2.2.2 rfl]
  rfl
 refine ⟨L',h1,h2,h3,?_,(fun z=>nomatch z),fun z=>absurd rfl z⟩
 show L'.ors ++ [ZcH .e (L'.eithers ++ [ZcH .a L'.ands])]=L.ors ++ [f]
 rw [h5.2 (by decide),he,e]
theorem Pw.w {ns ws:List Str} {fs:List Fm} {f:Fm} (h:Pw ns .o ws fs) (e:ZcH .o fs=f):Ww ns ws f:=fun R=>by
 obtain ⟨L',h1,h2,h3,h4,h5⟩ :=h Lv.new R ⟨rfl,rfl,fun _=>rfl,fun _=>rfl⟩
 refine ⟨L',h1,h2,?_⟩
 have:L'.ors ++ [ZcH .e (L'.eithers ++ [ZcH .a L'.ands])]=fs:=h4
 show ZcH .o (L'.ors ++ [ZcH .e (L'.eithers ++ [ZcH .a L'.ands])])=f
 rw [this,e]
theorem ZKz (v:W3):ZFe (kw3 v)=some v:=by cases v <;> decide
theorem ZL8 (v:W3):kw3 v ≠ "("∧kw3 v ≠ ")":=by cases v <;> decide
theorem ZHJ {ns:List Str} {L:Lv} {R:List Lv} (v:W3) (h:L.lack=false):ZdY ns (L :: R) (kw3 v)=some (L.join v :: R):=by
 have hw:L.word ns (kw3 v)=some (L.join v):=by
  unfold Lv.word
  rw [if_neg (by rw [h]; decide),ZKz]
  rfl
 have h1 : ¬ (kw3 v = "("∧L.lack=true):=fun y=>(ZL8 v).1 y.1
 cases R with
 | nil=>simp only [ZdY]; rw [if_neg h1,hw]; rfl
 | cons M R=>simp only [ZdY]; rw [if_neg h1,if_neg fun y=>(ZL8 v).2 y.1,hw]; rfl
theorem Znp {ns:List Str} {S S':List Lv} {z:Str} {r:List Str} (h:ZdY ns S z=some S'):runW ns S (z :: r)=runW ns S' r:=by
 show (ZdY ns S z).bind _=_
 rw [h]
 rfl
theorem Pw.join {ns:List Str} {v:W3}:∀ {txs:List (List Str)} {fs:List Fm},txs ≠ []→Paired (fun tx f=>Pw ns v tx [f]) txs fs→Pw ns v (jnW (kw3 v) txs) fs
 | [],_,n,_=>absurd rfl n
 | [tx],_,_,.cons h .nil=>h
 | tx :: ty :: r,f :: fs,_,.cons h t=>fun L R c=>by
  obtain ⟨L1,a1,a2,a3,a4,a5⟩ :=h L R c
  have ih:=Pw.join (txs:=ty :: r) (by simp) t
  have c1:ZLp v (L1.join v):=by
   refine ⟨?_,?_,fun hv=>?_,fun hv=>?_⟩
   ·cases v <;> exact a3
   ·cases v <;> rfl
   ·cases v
    ·exact absurd rfl hv
    ·rfl
    ·rfl
   ·subst hv; rfl
  have e0:cl0 v (L1.join v)=cl v L1:=by cases v <;> rfl
  obtain ⟨L2,b1,b2,b3,b4,b5⟩ :=ih (L1.join v) R c1
  refine ⟨L2,?_,b2,b3,?_,?_,?_⟩
  ·show runW ns (L :: R) (tx ++ kw3 v :: jnW (kw3 v) (ty :: r))=_
   rw [Zif,a1]
   show runW ns (L1 :: R) (kw3 v :: jnW (kw3 v) (ty :: r))=_
   rw [Znp (ZHJ v a2)]
   exact b1
  ·rw [b4,e0,a4,List.append_assoc]
   rfl
  ·intro hv
   subst hv
   exact (b5.1 rfl).trans (a5.1 rfl)
  ·intro hv
   refine (b5.2 hv).trans ?_
   have:(L1.join v).ors=L1.ors:=by
    cases v
    ·rfl
    ·rfl
    ·exact absurd rfl hv
   rw [this]
   exact a5.2 hv
theorem D0.br {ns ws:List Str} {f:Fm} (h:Ww ns ws f):D0 ns ("(" :: (ws ++ ([")"]:List Str))) f:=fun L R hl=>by
 obtain ⟨L',h1,h2,h3⟩ :=h (L :: R)
 have s1:ZdY ns (L :: R) "(" = some (Lv.new :: L :: R):=by simp only [ZdY]; rw [if_pos ⟨trivial,hl⟩]
 rw [Znp s1,Zif,h1]
 show runW ns (L' :: L :: R) [")"]=_
 have s2:ZdY ns (L' :: L :: R) ")" = some (L.part L'.whole :: R):=by
  simp only [ZdY]
  rw [if_neg (by rintro ⟨y,_⟩; exact absurd y (by decide)),if_pos ⟨trivial,h2⟩]
 rw [Znp s2,h3]
 rfl
theorem D0.one {ns:List Str} {z:Str} {f:Fm} (h:Znt ns z=some f) (h1:z ≠ "(") (h2:z ≠ ")") (h3:z ≠ "not"):D0 ns [z] f:=fun L R hl=>by
 have hw:L.word ns z=some (L.part f):=by
  unfold Lv.word
  rw [if_pos hl,if_neg h3,h]
  rfl
 have s1:ZdY ns (L :: R) z=some (L.part f :: R):=by
  cases R with
  | nil=>simp only [ZdY]; rw [if_neg fun y=>h1 y.1,hw]; rfl
  | cons M R=>simp only [ZdY]; rw [if_neg fun y=>h1 y.1,if_neg fun y=>h2 y.1,hw]; rfl
 rw [Znp s1]
 rfl
theorem ZGX (n:Nat) (f:Fm):negs n (.neg f)=negs (n + 1) f:=by
 induction n with
 | zero=>rfl
 | succ n ih=>show Fm.neg (negs n (.neg f))=_; rw [ih]; rfl
theorem D0.not {ns ws:List Str} {f:Fm} (h:D0 ns ws f):D0 ns ("not" :: ws) (.neg f):=fun L R hl=>by
 have hw:L.word ns "not" = some ⟨L.nots + 1,L.ands,L.eithers,L.ors,L.lack⟩ :=by
  unfold Lv.word
  rw [if_pos hl,if_pos rfl]
 have s1:ZdY ns (L :: R) "not" = some (⟨L.nots + 1,L.ands,L.eithers,L.ors,L.lack⟩ :: R):=by
  cases R with
  | nil=>simp only [ZdY]; rw [if_neg (by rintro ⟨y,_⟩; exact absurd y (by decide)),hw]; rfl
  | cons M R=>simp only [ZdY]; rw [if_neg (by rintro ⟨y,_⟩; exact absurd y (by decide)),if_neg (by rintro ⟨y,_⟩; exact absurd y (by decide)),hw]; rfl
 rw [Znp s1,h ⟨L.nots + 1,L.ands,L.eithers,L.ors,L.lack⟩ R hl]
 unfold Lv.part
 rw [ZGX]
structure GoodT (ns' ns:List Str) (π:Nat→Nat) (t:Tr):Prop where
 z:rkG true t=0→D0 ns' (wdG true ns t) (fmT π t)
 e:rkG true t≤1→Pw ns' .e (wdG true ns t) [fmT π t]
 o:rkG true t≤2→Pw ns' .o (wdG true ns t) [fmT π t]
 w:Ww ns' (wdG true ns t) (fmT π t)
theorem GoodT.of0 {ns' ns:List Str} {π:Nat→Nat} {t:Tr} (h:D0 ns' (wdG true ns t) (fmT π t)):GoodT ns' ns π t:=⟨fun _=>h,fun _=>h.a.ae rfl,fun _=>(h.a.ae rfl).eo rfl,((h.a.ae rfl).eo rfl).w rfl⟩
theorem GoodT.br0 {ns' ns:List Str} {π:Nat→Nat} {t:Tr} (g:GoodT ns' ns π t) {r:Nat} (h:r≤1):D0 ns' (brW (decide (r≤rkG true t)) (wdG true ns t)) (fmT π t):=by
 by_cases e:r≤rkG true t
 ·rw [decide_eq_true e]; exact D0.br g.w
 ·rw [decide_eq_false e]; exact g.z (by omega)
theorem GoodT.br1 {ns' ns:List Str} {π:Nat→Nat} {t:Tr} (g:GoodT ns' ns π t):Pw ns' .e (brW (decide (2≤rkG true t)) (wdG true ns t)) [fmT π t]:=by
 by_cases e:2≤rkG true t
 ·rw [decide_eq_true e]; exact (D0.br g.w).a.ae rfl
 ·rw [decide_eq_false e]; exact g.e (by omega)
theorem GoodT.br2 {ns' ns:List Str} {π:Nat→Nat} {t:Tr} (g:GoodT ns' ns π t):Pw ns' .o (brW (decide (3≤rkG true t)) (wdG true ns t)) [fmT π t]:=by
 by_cases e:3≤rkG true t
 ·rw [decide_eq_true e]; exact ((D0.br g.w).a.ae rfl).eo rfl
 ·rw [decide_eq_false e]; exact g.o (by omega)
structure NmsOk (ns' ns:List Str) (π:Nat→Nat) (m:Nat):Prop where
 at':∀ k,k < m→idxS (ns.getD k Str.empty) ns'=some (π k)
 no:∀ k,k < m→ns.getD k Str.empty ∉ (["yes","no","not","(",")"]:List Str)
mutual
theorem ZuR {ns' ns:List Str} {π:Nat→Nat} {m:Nat} (N:NmsOk ns' ns π m):∀ t:Tr,okT m t=true→GoodT ns' ns π t
 | .lamp k,h=>by
  have hk:k < m:=by simpa [okT] using h
  have no:=N.no k hk
  simp only [List.mem_cons,List.not_mem_nil,or_false,not_or] at no
  refine .of0 ?_
  show D0 ns' [ns.getD k Str.empty] (.lamp (π k))
  refine D0.one ?_ no.2.2.2.1 no.2.2.2.2 no.2.2.1
  unfold Znt
  rw [if_neg no.1,if_neg no.2.1,N.at' k hk]
  rfl
 | .sure b,_=>by
  refine .of0 ?_
  cases b
  ·exact D0.one (z:="no") (by unfold Znt; rw [if_neg (by decide),if_pos rfl]; rfl) (by decide) (by decide) (by decide)
  ·exact D0.one (z:="yes") (by unfold Znt; rw [if_pos rfl]; rfl) (by decide) (by decide) (by decide)
 | .neg t,h=>.of0 (D0.not ((ZuR N t (by simpa [okT] using h)).br0 (Nat.le_refl 1)))
 | .wrap t,h=>.of0 (D0.br (ZuR N t (by simpa [okT] using h)).w)
 | .join v ts,h=>by
  simp only [okT,Bool.and_eq_true,decide_eq_true_iff] at h
  have gl:=ZBg N ts h.2
  have ne:∀ r,wdGL true ns r ts ≠ []:=fun r=>by
   cases ts with
   | nil=>simp at h
   | cons _ _=>simp [wdGL]
  have jl:∀ v,ZcH v (fmTL π ts)=.join v (fmTL π ts):=fun v=>ZqS (by rw [ZD9]; omega)
  cases v with
  | a=>
   have p:=Pw.join (v:=.a) (ne 1) (gl.1)
   exact ⟨(fun z:(1:Nat)=0=>nomatch z),fun _=>p.ae (jl .a),fun _=>(p.ae (jl .a)).eo rfl,((p.ae (jl .a)).eo rfl).w rfl⟩
  | e=>
   have p:=Pw.join (v:=.e) (ne 2) (gl.2.1)
   exact ⟨(fun z:(2:Nat)=0=>nomatch z),(fun z:(2:Nat)≤1=>absurd z (by decide)),fun _=>p.eo (jl .e),(p.eo (jl .e)).w rfl⟩
  | o=>
   have p:=Pw.join (v:=.o) (ne 3) (gl.2.2)
   exact ⟨(fun z:(3:Nat)=0=>nomatch z),(fun z:(3:Nat)≤1=>absurd z (by decide)),(fun z:(3:Nat)≤2=>absurd z (by decide)),p.w (jl .o)⟩
theorem ZBg {ns' ns:List Str} {π:Nat→Nat} {m:Nat} (N:NmsOk ns' ns π m):∀ ts:List Tr,okTL m ts=true→Paired (fun tx f=>Pw ns' .a tx [f]) (wdGL true ns 1 ts) (fmTL π ts)∧Paired (fun tx f=>Pw ns' .e tx [f]) (wdGL true ns 2 ts) (fmTL π ts)∧Paired (fun tx f=>Pw ns' .o tx [f]) (wdGL true ns 3 ts) (fmTL π ts)
 | [],_=>⟨.nil,.nil,.nil⟩
 | t :: ts,h=>by
  simp only [okTL,Bool.and_eq_true] at h
  have g:=ZuR N t h.1
  have r:=ZBg N ts h.2
  exact ⟨.cons (g.br0 (Nat.le_refl 1)).a r.1,.cons g.br1 r.2.1,.cons g.br2 r.2.2⟩
end
theorem ZHu {ns' ns:List Str} {π:Nat→Nat} {m:Nat} (N:NmsOk ns' ns π m) {t:Tr} (h:okT m t=true):ZsE ns' (wdG true ns t)=some (fmT π t):=by
 obtain ⟨L',h1,h2,h3⟩ :=(ZuR N t h).w []
 unfold ZsE
 rw [h1]
 show (some L').bind endF=_
 show endF L'=_
 unfold endF
 rw [if_neg (by rw [h2]; decide),h3]
def ZFg:Tr→Str
 | .lamp _=>"lamp"
 | .sure _=>"sure"
 | .neg _=>"not"
 | .wrap _=>"wrap"
 | .join v _=>kw3 v
def anyA:Addr→Prop:=fun _=>True
def TwAt (S:Addr→Prop) (H:Hp):Nat→Addr→Tr→Prop
 | 0,_,_=>False
 | n + 1,p,t=>match t with
  | .lamp k=>H p=some (.tup [.str "lamp",.int (k:Int)])
  | .sure b=>H p=some (.tup [.str "sure",.bl b])
  | .neg g=>∃ l q,H p=some (.tup [.str "not",.ref l])∧S l∧H l=some (.lst [.ref q])∧TwAt S H n q g
  | .wrap g=>∃ l q,H p=some (.tup [.str "wrap",.ref l])∧S l∧H l=some (.lst [.ref q])∧TwAt S H n q g
  | .join v gs=>∃ l ps,H p=some (.tup [.str (kw3 v),.ref l])∧S l∧H l=some (.lst (ps.map V.ref))∧Paired (TwAt S H n) ps gs
theorem TwAt.imp {S S':Addr→Prop} {H H':Hp} (ht:∀ p xs,H p=some (.tup xs)→H' p=some (.tup xs)) (hl:∀ l xs,S l→H l=some (.lst xs)→S' l∧H' l=some (.lst xs)):∀ {n:Nat} {p:Addr} {f:Tr},TwAt S H n p f→TwAt S' H' n p f
 | 0,_,_,h=>h
 | n + 1,p,f,h=>by
  cases f with
  | lamp k=>exact ht _ _ h
  | sure b=>exact ht _ _ h
  | neg g=>obtain ⟨l,q,e,sl,e2,h⟩ :=h; exact ⟨l,q,ht _ _ e,(hl _ _ sl e2).1,(hl _ _ sl e2).2,TwAt.imp ht hl h⟩
  | wrap g=>obtain ⟨l,q,e,sl,e2,h⟩ :=h; exact ⟨l,q,ht _ _ e,(hl _ _ sl e2).1,(hl _ _ sl e2).2,TwAt.imp ht hl h⟩
  | join w gs=>obtain ⟨l,ps,e,sl,e2,h⟩ :=h; exact ⟨l,ps,ht _ _ e,(hl _ _ sl e2).1,(hl _ _ sl e2).2,Zah (fun a b h=>TwAt.imp ht hl h) h⟩
theorem TwAt.same {S:Addr→Prop} {H H':Hp} (s:Same H H') {n:Nat} {p:Addr} {f:Tr} (h:TwAt S H n p f):TwAt S H' n p f:=h.imp (fun _ _ e=>s _ _ e) fun _ _ z e=>⟨z,s _ _ e⟩
theorem TwAt.any {S:Addr→Prop} {H:Hp} {n:Nat} {p:Addr} {f:Tr} (h:TwAt S H n p f):TwAt anyA H n p f:=h.imp (fun _ _ e=>e) fun _ _ _ e=>⟨trivial,e⟩
theorem TwAt.kind {S:Addr→Prop} {H:Hp} {n:Nat} {p:Addr} {f:Tr} (h:TwAt S H n p f):∃ v,H p=some (.tup [.str (ZFg f),v]):=by
 cases n with
 | zero=>exact h.elim
 | succ n=>
  cases f with
  | lamp k=>exact ⟨_,h⟩
  | sure b=>exact ⟨_,h⟩
  | neg g=>obtain ⟨l,q,e,_⟩ :=h; exact ⟨_,e⟩
  | wrap g=>obtain ⟨l,q,e,_⟩ :=h; exact ⟨_,e⟩
  | join w gs=>obtain ⟨l,ps,e,_⟩ :=h; exact ⟨_,e⟩
mutual
def nT:Tr→Nat
 | .lamp _=>1
 | .sure _=>1
 | .neg t=>1 + nT t
 | .wrap t=>1 + nT t
 | .join _ ts=>1 + nTL ts
def nTL:List Tr→Nat
 | []=>0
 | t :: ts=>nT t + nTL ts
end
theorem Zyq:∀ a b:List Tr,nTL (a ++ b)=nTL a + nTL b
 | [],b=>by simp [nTL]
 | t :: a,b=>by
  show nT t + nTL (a ++ b)=nT t + nTL a + nTL b
  rw [Zyq a b]
  omega
theorem ZKE (t:Tr):nTL [t]=nT t:=by simp [nTL]
theorem ZzL (m:Nat):∀ ts:List Tr,okTL m ts=ts.all (okT m)
 | []=>rfl
 | t :: ts=>by
  show (okT m t && okTL m ts)=(okT m t && ts.all (okT m))
  rw [ZzL m ts]
def rkK:Tr→Nat
 | .join v _=>ZfE v
 | _=>0
def w3of (i:Nat):W3:=if i=0 then .a else if i=1 then .e else .o
theorem ZM6 {i:Nat} (h:i < 3):([.str "and",.str "either",.str "or"]:List V)[i]?=some (.str (kw3 (w3of i))):=by
 rcases (show i=0∨i=1∨i=2 by omega) with rfl | rfl | rfl <;> rfl
theorem ZCV (b:Bool) (ws:List Str):(brW b ws).length≤ws.length + 2:=by
 unfold brW
 by_cases h:b=true
 ·rw [if_pos h,List.length_cons,List.length_append]; exact Nat.le_refl _
 ·rw [if_neg h]; omega
theorem ZGz (k:Str):∀ txs:List (List Str),(jnW k txs).length≤(txs.map (·.length)).sum + (txs.length - 1)
 | []=>Nat.le_refl _
 | [p]=>by simp [jnW]
 | p :: q :: r=>by
  have:=ZGz k (q :: r)
  show (p ++ k :: jnW k (q :: r)).length≤_
  simp only [List.length_append,List.length_cons,List.map_cons,List.sum_cons] at *
  omega
mutual
theorem ZEZ (b:Bool) (ns:List Str):∀ t:Tr,(wdG b ns t).length + 3≤4 * nT t
 | .lamp k=>Nat.le_refl _
 | .sure c=>Nat.le_refl _
 | .neg t=>by
  have:=ZEZ b ns t
  have h2:=ZCV (decide (1≤rkG b t)) (wdG b ns t)
  show (brW _ _).length + 1 + 3≤4 * (1 + nT t)
  omega
 | .wrap t=>by
  have:=ZEZ b ns t
  have h2:=ZCV b (wdG b ns t)
  show (brW _ _).length + 3≤4 * (1 + nT t)
  omega
 | .join v ts=>by
  have h1:=ZGz (kw3 v) (wdGL b ns (ZfE v) ts)
  have h2:=ZHT b ns (ZfE v) ts
  show (jnW _ _).length + 3≤4 * (1 + nTL ts)
  omega
theorem ZHT (b:Bool) (ns:List Str) (r:Nat):∀ ts:List Tr,((wdGL b ns r ts).map (·.length)).sum + ((wdGL b ns r ts).length - 1)≤4 * nTL ts∧((wdGL b ns r ts).map (·.length)).sum + (wdGL b ns r ts).length≤4 * nTL ts
 | []=>⟨Nat.zero_le _,Nat.zero_le _⟩
 | t :: ts=>by
  have h0:=ZEZ b ns t
  have h1:=(ZHT b ns r ts).2
  have h2:=ZCV (decide (r≤rkG b t)) (wdG b ns t)
  have e:((wdGL b ns r (t :: ts)).map (·.length)).sum=(brW (decide (r≤rkG b t)) (wdG b ns t)).length + ((wdGL b ns r ts).map (·.length)).sum:=by simp [wdGL]
  have e2:(wdGL b ns r (t :: ts)).length=(wdGL b ns r ts).length + 1:=by simp [wdGL]
  have e3:nTL (t :: ts)=nT t + nTL ts:=by simp [nTL]
  rw [e,e2,e3]
  omega
end
def cl1 (z:Str):List Nat:=z.cps.toList
def Nc (ws:List (List Nat)):Prop:=ws ≠ []∧ws.head? ≠ some [41]∧ws.getLast? ≠ some [40]
theorem ZnM:∀ {a b:List (List Nat)},a ≠ []→b ≠ []→glue (a ++ b)=glue a ++ (if a.getLast?=some [40]∨b.head?=some [41] then [] else [32]) ++ glue b
 | [],b,ha,_=>absurd rfl ha
 | [p],[],_,hb=>absurd rfl hb
 | [p],q :: r,_,_=>by
  show p ++ (if p=[40]∨q=[41] then [] else [32]) ++ glue (q :: r)=p ++ _ ++ glue (q :: r)
  simp
 | p :: q :: r,b,_,hb=>by
  have ih:=ZnM (a:=q :: r) (b:=b) (by simp) hb
  have e:(p :: q :: r).getLast?=(q :: r).getLast?:=by simp [List.getLast?_cons]
  show p ++ (if p=[40]∨q=[41] then [] else [32]) ++ glue (q :: r ++ b)=(p ++ (if p=[40]∨q=[41] then [] else [32]) ++ glue (q :: r)) ++ _ ++ glue b
  rw [ih,e]
  simp only [List.append_assoc]
theorem ZKj {ws:List (List Nat)} (h:Nc ws):glue ([40] :: (ws ++ [[41]]))=[40] ++ glue ws ++ [41]:=by
 have a:glue (ws ++ [[41]])=glue ws ++ [41]:=by
  rw [ZnM h.1 (by simp),if_pos (.inr rfl),List.append_nil]
  rfl
 have b:=ZnM (a:=[[40]]) (b:=ws ++ [[41]]) (by simp) (by simp)
 rw [if_pos (.inl rfl),List.append_nil,a] at b
 exact b.trans (List.append_assoc ..).symm
theorem ZIc {a b:List (List Nat)} {k:List Nat} (ha:Nc a) (hb:Nc b) (k1:k ≠ [40]) (k2:k ≠ [41]):glue (a ++ k :: b)=glue a ++ ([32] ++ k ++ [32]) ++ glue b:=by
 have e2:=ZnM (a:=[k]) (b:=b) (by simp) hb.1
 rw [if_neg (by rintro (h | h); exact k1 (by simpa using h); exact hb.2.1 h)] at e2
 rw [ZnM ha.1 (by simp),if_neg (by rintro (h | h); exact ha.2.2 h; exact k2 (by simpa using h))]
 have:glue (k :: b)=k ++ [32] ++ glue b:=e2
 rw [this]
 simp only [List.append_assoc]
theorem ZId {b:List (List Nat)} {k:List Nat} (hb:Nc b) (k1:k ≠ [40]):glue (k :: b)=k ++ [32] ++ glue b:=by
 have e2:=ZnM (a:=[k]) (b:=b) (by simp) hb.1
 rw [if_neg (by rintro (h | h); exact k1 (by simpa using h); exact hb.2.1 h)] at e2
 exact e2
theorem ZIe:∀ {a b:List (List Nat)},a ≠ []→(a ++ b).head?=a.head?
 | [],_,h=>absurd rfl h
 | _ :: _,_,_=>rfl
theorem Zzd:∀ {a b:List (List Nat)},b ≠ []→(a ++ b).getLast?=b.getLast?
 | [],_,_=>rfl
 | x :: a,b,h=>by
  have:=Zzd (a:=a) h
  rw [List.cons_append,List.getLast?_cons_of_ne_nil (by simp [h]),this]
theorem Nc.mid {a b:List (List Nat)} {k:List Nat} (ha:Nc a) (hb:Nc b):Nc (a ++ k :: b):=by
 refine ⟨by simp,?_,?_⟩
 ·rw [ZIe ha.1]; exact ha.2.1
 ·rw [Zzd (by simp),List.getLast?_cons_of_ne_nil hb.1]; exact hb.2.2
theorem Nc.pre {b:List (List Nat)} {k:List Nat} (hb:Nc b) (k2:k ≠ [41]):Nc (k :: b):=by
 refine ⟨by simp,?_,?_⟩
 ·simpa using k2
 ·rw [List.getLast?_cons_of_ne_nil hb.1]; exact hb.2.2
theorem Nc.one {k:List Nat} (k1:k ≠ [40]) (k2:k ≠ [41]):Nc [k]:=⟨by simp,by simpa using k2,by simpa using k1⟩
theorem Nc.br (ws:List (List Nat)):Nc ([40] :: (ws ++ [[41]])):=by
 refine ⟨by simp,by simp,?_⟩
 rw [List.getLast?_cons_of_ne_nil (by simp),Zzd (by simp)]
 simp
theorem ZEN (π:Nat→Nat):∀ t:Tr,ZjR (fmT π t)=rkG false t
 | .lamp _=>rfl
 | .sure _=>rfl
 | .neg _=>rfl
 | .wrap t=>ZEN π t
 | .join _ _=>rfl
theorem ZH4 (b:Bool) (ws:List Str):(brW b ws).map cl1=if b=true then [40] :: (ws.map cl1 ++ [[41]]) else ws.map cl1:=by
 unfold brW
 by_cases h:b=true
 ·rw [if_pos h,if_pos h,List.map_cons,List.map_append]; rfl
 ·rw [if_neg h,if_neg h]
theorem ZH5 (b:Bool) (z:Str):cl1 (brk b z)=if b=true then [40] ++ cl1 z ++ [41] else cl1 z:=by
 unfold brk
 by_cases h:b=true
 ·rw [if_pos h,if_pos h]
  show ((Str.empty ++ "(") ++ z ++ ")" : Str).cps.toList=_
  rw [list_append,list_append,list_append]
  rfl
 ·rw [if_neg h,if_neg h]
theorem ZEl (v:W3):∀ txs:List (List Str),txs ≠ []→(∀ p ∈ txs,Nc (p.map cl1))→Nc ((jnW (kw3 v) txs).map cl1)∧glue ((jnW (kw3 v) txs).map cl1)=jn (cl1 (ZsK v)) (txs.map fun p=>glue (p.map cl1))
 | [],h,_=>absurd rfl h
 | [p],_,h=>⟨h p List.mem_cons_self,rfl⟩
 | p :: q :: r,_,h=>by
  obtain ⟨n1,e1⟩ :=ZEl v (q :: r) (by simp) fun x hx=>h x (List.mem_cons_of_mem _ hx)
  have n0:=h p List.mem_cons_self
  have em:(jnW (kw3 v) (p :: q :: r)).map cl1=p.map cl1 ++ cl1 (kw3 v) :: (jnW (kw3 v) (q :: r)).map cl1:=by
   show (p ++ kw3 v :: jnW (kw3 v) (q :: r)).map cl1=_
   rw [List.map_append,List.map_cons]
  rw [em]
  refine ⟨n0.mid n1,?_⟩
  rw [ZIc n0 n1 (by cases v <;> decide) (by cases v <;> decide),e1]
  have ew:cl1 (ZsK v)=[32] ++ cl1 (kw3 v) ++ [32]:=by cases v <;> decide
  rw [← ew]
  rfl
def NmL (z:Str):Prop:=z.cps.toList ≠ []∧∀ c ∈ z.cps.toList,97≤c∧c≤122
theorem NmL.no {z:Str} (h:NmL z):cl1 z ≠ [40]∧cl1 z ≠ [41]:=⟨fun e=>by have:=h.2 40 (by show 40 ∈ cl1 z; rw [e]; simp); omega,fun e=>by have:=h.2 41 (by show 41 ∈ cl1 z; rw [e]; simp); omega⟩
theorem ZFS {ns' ns:List Str} {π:Nat→Nat} {t:Tr} (r:Nat) (g:Nc ((wdG false ns t).map cl1)∧cl1 (ZaJ ns' (fmT π t))=glue ((wdG false ns t).map cl1)):Nc ((brW (decide (r≤rkG false t)) (wdG false ns t)).map cl1)∧cl1 (Zf0 ns' r (fmT π t))=glue ((brW (decide (r≤rkG false t)) (wdG false ns t)).map cl1):=by
 unfold Zf0
 rw [ZH4,ZH5,ZEN]
 by_cases h:decide (r≤rkG false t)=true
 ·rw [if_pos h,if_pos h,g.2]
  exact ⟨Nc.br _,(ZKj g.1).symm⟩
 ·rw [if_neg h,if_neg h]
  exact g
mutual
theorem Zn5 {ns' ns:List Str} {π:Nat→Nat} {m:Nat} (hπ:∀ k,k < m→ns'.getD (π k) Str.empty=ns.getD k Str.empty) (hN:∀ k,k < m→NmL (ns.getD k Str.empty)):∀ t:Tr,okT m t=true→Nc ((wdG false ns t).map cl1)∧cl1 (ZaJ ns' (fmT π t))=glue ((wdG false ns t).map cl1)
 | .lamp k,h=>by
  have hk:k < m:=by simpa [okT] using h
  refine ⟨Nc.one (hN k hk).no.1 (hN k hk).no.2,?_⟩
  show cl1 (ns'.getD (π k) Str.empty)=cl1 (ns.getD k Str.empty)
  rw [hπ k hk]
 | .sure c,_=>by
  refine ⟨?_,rfl⟩
  cases c
  ·exact Nc.one (by decide) (by decide)
  ·exact Nc.one (by decide) (by decide)
 | .neg t,h=>by
  have g:=ZFS 1 (Zn5 hπ hN t (by simpa [okT] using h))
  have e:(wdG false ns (.neg t)).map cl1=cl1 "not" :: (brW (decide (1≤rkG false t)) (wdG false ns t)).map cl1:=rfl
  rw [e]
  refine ⟨g.1.pre (by decide),?_⟩
  rw [ZId g.1 (by decide),← g.2]
  show ((Str.empty ++ "not " ++ Zf0 ns' 1 (fmT π t)):Str).cps.toList=_
  rw [list_append,list_append]
  rfl
 | .wrap t,h=>by
  have g:=Zn5 hπ hN t (by simpa [okT] using h)
  exact g
 | .join v ts,h=>by
  simp only [okT,Bool.and_eq_true,decide_eq_true_iff] at h
  obtain ⟨a,b⟩ :=ZwX hπ hN (ZfE v) ts h.2
  have ne:wdGL false ns (ZfE v) ts ≠ []:=by
   cases ts with
   | nil=>exact absurd h.1 (by decide)
   | cons x r=>simp [wdGL]
  obtain ⟨n,e⟩ :=ZEl v (wdGL false ns (ZfE v) ts) ne a
  refine ⟨n,?_⟩
  show cl1 (ZaJ ns' (.join v (fmTL π ts)))=glue ((jnW (kw3 v) (wdGL false ns (ZfE v) ts)).map cl1)
  rw [e,Zn6,← ZrV]
  show (Builtin.Str.glued _ _).cps.toList=_
  rw [StrLaws.glued_eq_join,ZjV]
  exact congrArg _ b
theorem ZwX {ns' ns:List Str} {π:Nat→Nat} {m:Nat} (hπ:∀ k,k < m→ns'.getD (π k) Str.empty=ns.getD k Str.empty) (hN:∀ k,k < m→NmL (ns.getD k Str.empty)) (r:Nat):∀ ts:List Tr,okTL m ts=true→(∀ p ∈ wdGL false ns r ts,Nc (p.map cl1))∧(Zb8 ns' r (fmTL π ts)).map (fun p=>p.cps.toList)=(wdGL false ns r ts).map fun p=>glue (p.map cl1)
 | [],_=>⟨fun p hp=>(by simp [wdGL] at hp),by simp [Zb8,fmTL,wdGL]⟩
 | t :: ts,h=>by
  simp only [okTL,Bool.and_eq_true] at h
  have g:=ZFS r (Zn5 hπ hN t h.1)
  obtain ⟨a,b⟩ :=ZwX hπ hN r ts h.2
  have e:wdGL false ns r (t :: ts)=brW (decide (r≤rkG false t)) (wdG false ns t) :: wdGL false ns r ts:=by simp [wdGL]
  have e2:Zb8 ns' r (fmTL π (t :: ts))=Zf0 ns' r (fmT π t) :: Zb8 ns' r (fmTL π ts):=by simp [Zb8,fmTL,Zf0]
  rw [e,e2]
  refine ⟨fun p hp=>?_,?_⟩
  ·rcases List.mem_cons.mp hp with rfl | hp
   ·exact g.1
   ·exact a p hp
  ·rw [List.map_cons,List.map_cons,b,← g.2]
   rfl
end
def kwsX:List Str:=["yes","no","not","(",")","and","either","or"]
theorem ZCU {Pz:Str→Prop} (hk:∀ z ∈ kwsX,Pz z) {b:Bool} {ws:List Str} (h:∀ z ∈ ws,Pz z):∀ z ∈ brW b ws,Pz z:=by
 intro z hz
 unfold brW at hz
 by_cases e:b=true
 ·rw [if_pos e] at hz
  rcases List.mem_cons.mp hz with rfl | hz
  ·exact hk _ (by decide)
  ·rcases List.mem_append.mp hz with hz | hz
   ·exact h z hz
   ·rw [List.mem_singleton.mp hz]; exact hk _ (by decide)
 ·rw [if_neg e] at hz; exact h z hz
theorem ZGy {Pz:Str→Prop} {k:Str} (hk:Pz k):∀ {txs:List (List Str)},(∀ p ∈ txs,∀ z ∈ p,Pz z)→∀ z ∈ jnW k txs,Pz z
 | [],_,z,hz=>absurd hz (by simp [jnW])
 | [p],h,z,hz=>h p List.mem_cons_self z hz
 | p :: q :: r,h,z,hz=>by
  have hz:z ∈ p ++ k :: jnW k (q :: r):=hz
  rcases List.mem_append.mp hz with hz | hz
  ·exact h p List.mem_cons_self z hz
  ·rcases List.mem_cons.mp hz with rfl | hz
   ·exact hk
   ·exact ZGy hk (txs:=q :: r) (fun x hx=>h x (List.mem_cons_of_mem _ hx)) z hz
mutual
theorem ZEY {Pz:Str→Prop} (hk:∀ z ∈ kwsX,Pz z) {b:Bool} {ns:List Str} {m:Nat} (hn:∀ k,k < m→Pz (ns.getD k Str.empty)):∀ t:Tr,okT m t=true→∀ z ∈ wdG b ns t,Pz z
 | .lamp k,h,z,hz=>by
  have hz:z ∈ [ns.getD k Str.empty]:=hz
  rw [List.mem_singleton.mp hz]
  exact hn k (by simpa [okT] using h)
 | .sure c,h,z,hz=>by
  have hz:z ∈ [(if c=true then "yes" else "no" : Str)]:=hz
  rw [List.mem_singleton.mp hz]
  cases c
  ·exact hk "no" (by decide)
  ·exact hk "yes" (by decide)
 | .neg t,h,z,hz=>by
  have hz:z ∈ ("not" : Str) :: brW (decide (1≤rkG b t)) (wdG b ns t):=hz
  rcases List.mem_cons.mp hz with rfl | hz
  ·exact hk _ (by decide)
  ·exact ZCU hk (ZEY hk hn t (by simpa [okT] using h)) z hz
 | .wrap t,h,z,hz=>ZCU hk (ZEY hk hn t (by simpa [okT] using h)) z hz
 | .join v ts,h,z,hz=>by
  simp only [okT,Bool.and_eq_true,decide_eq_true_iff] at h
  exact ZGy (hk _ (by cases v <;> decide)) (ZHS hk hn (ZfE v) ts h.2) z hz
theorem ZHS {Pz:Str→Prop} (hk:∀ z ∈ kwsX,Pz z) {b:Bool} {ns:List Str} {m:Nat} (hn:∀ k,k < m→Pz (ns.getD k Str.empty)) (r:Nat):∀ ts:List Tr,okTL m ts=true→∀ p ∈ wdGL b ns r ts,∀ z ∈ p,Pz z
 | [],_,p,hp=>absurd hp (by simp [wdGL])
 | t :: ts,h,p,hp=>by
  simp only [okTL,Bool.and_eq_true] at h
  have e:wdGL b ns r (t :: ts)=brW (decide (r≤rkG b t)) (wdG b ns t) :: wdGL b ns r ts:=by simp [wdGL]
  rw [e] at hp
  rcases List.mem_cons.mp hp with rfl | hp
  ·exact ZCU hk (ZEY hk hn t h.1)
  ·exact ZHS hk hn r ts h.2 p hp
end
def WdS (z:Str):Prop:=Wd (cl1 z)∧z.length≤8
theorem Wd.let {z:Str} (h:NmL z):Wd (cl1 z):=.inr (.inr h)
theorem ZL9:∀ z ∈ kwsX,WdS z:=by
 intro z hz
 unfold kwsX at hz
 simp only [List.mem_cons,List.not_mem_nil,or_false] at hz
 rcases hz with rfl | rfl | rfl | rfl | rfl | rfl | rfl | rfl
 ·exact ⟨.inr (.inr ⟨by decide,by decide⟩),by decide⟩
 ·exact ⟨.inr (.inr ⟨by decide,by decide⟩),by decide⟩
 ·exact ⟨.inr (.inr ⟨by decide,by decide⟩),by decide⟩
 ·exact ⟨.inl rfl,by decide⟩
 ·exact ⟨.inr (.inl rfl),by decide⟩
 ·exact ⟨.inr (.inr ⟨by decide,by decide⟩),by decide⟩
 ·exact ⟨.inr (.inr ⟨by decide,by decide⟩),by decide⟩
 ·exact ⟨.inr (.inr ⟨by decide,by decide⟩),by decide⟩
def Ww1 (l:List Nat):List (List Nat):=wl (padL l) []
theorem ZJb {x:Str} (h:∀ d ∈ x.cps.toList,al d=true):(Txt.words (pad x)).map cl1=Ww1 x.cps.toList:=by
 have:=ZDJ (pad x) fun c hc=>ZH3 c (ZNf (ZJU h c hc)) (ZJU h c hc)
 rw [ZED] at this
 exact this
theorem ZyL (r:List Nat):Ww1 (32 :: r)=Ww1 r:=rfl
theorem Zvf {c:Nat} (h:isM c=true) (r:List Nat):Ww1 (c :: r)=[c] :: Ww1 r:=by
 have hc:c ≠ 32:=fun e=>by subst e; exact absurd h (by decide)
 unfold Ww1
 have e:padL (c :: r)=32 :: c :: 32 :: padL r:=by
  show (if isM c=true then [32,c,32] else [c]) ++ padL r=_
  rw [if_pos h]; rfl
 rw [e]
 show (if c=32 then _ else wl (32 :: padL r) ([] ++ [c]))=_
 rw [if_neg hc]
 rfl
theorem ZHW:∀ (p rest cur:List Nat),32 ∉ p→wl (p ++ rest) cur=wl rest (cur ++ p)
 | [],rest,cur,_=>by rw [List.append_nil]; rfl
 | d :: p,rest,cur,h=>by
  have h1 : ¬ d=32:=fun e=>h (by rw [e]; exact List.mem_cons_self)
  have h2:32 ∉ p:=fun e=>h (List.mem_cons_of_mem _ e)
  show (if d=32 then _ else wl (p ++ rest) (cur ++ [d]))=_
  rw [if_neg h1,ZHW p rest _ h2,List.append_assoc]
  rfl
def opn (r:List Nat):Prop:=r=[]∨∃ c r',r=c :: r'∧(c=32∨isM c=true)
theorem ZB6:∀ {p:List Nat},(∀ c ∈ p,97≤c∧c≤122)→padL p=p
 | [],_=>rfl
 | c :: p,h=>by
  have hc:=h c List.mem_cons_self
  have e:isM c=false:=by
   unfold isM
   simp only [Bool.or_eq_false_iff,beq_eq_false_iff_ne]
   omega
  show (if isM c=true then [32,c,32] else [c]) ++ padL p=c :: p
  rw [if_neg (by rw [e]; decide),ZB6 fun d hd=>h d (List.mem_cons_of_mem _ hd)]
  rfl
theorem ZCO {p:List Nat} (hp:p ≠ []) (h:∀ c ∈ p,97≤c∧c≤122) {r:List Nat} (hr:opn r):Ww1 (p ++ r)=p :: Ww1 r:=by
 unfold Ww1
 rw [ZEB,ZB6 h,ZHW _ _ _ (fun e=>by have:=h 32 e; omega),List.nil_append]
 have k:∀ rest,wl (32 :: rest) p=p :: wl rest []:=fun rest=>by
  show (if (32:Nat)=32 then (if p=[] then _ else p :: wl rest []) else _)=_
  rw [if_pos rfl,if_neg hp]
 rcases hr with rfl | ⟨c,r',rfl,hc⟩
 ·show (if p=[] then [] else [p])=_
  rw [if_neg hp]
  rfl
 ·by_cases hm:isM c=true
  ·have e:padL (c :: r')=32 :: c :: 32 :: padL r':=by
    show (if isM c=true then [32,c,32] else [c]) ++ padL r'=_
    rw [if_pos hm]; rfl
   rw [e,k]
   rfl
  ·have e2:c=32:=hc.resolve_right hm
   subst e2
   have e:padL (32 :: r')=32 :: padL r':=rfl
   rw [e,k]
   rfl
theorem But.trans {l:Addr} {H H' H'':Hp} (a:But l H H') (b:But l H' H''):But l H H'':=fun c o h e=>b c o h (a c o h e)
section
variable {P:Program} {w:World} {K:PySem.W.Frag} {mg:Str→Option Value} {base:Heap} {t:Ad} {n:Nat}
def ZFl (g tp:Addr):List (Str × V):=putF "changes" (.ref tp) (putF "guard" (.ref g) [])
theorem ZFi (g tp:Addr):(ZFl g tp).lookup ("changes" : Str)=some (.ref tp):=by
 unfold ZFl
 rw [Za0,if_pos rfl]
theorem ZIp (g tp:Addr):(ZFl g tp).lookup ("guard" : Str)=some (.ref g):=by
 unfold ZFl
 rw [Za0,if_neg (by decide),Za0,if_pos rfl]
def ZHE (C:Addr):Sp:=fun vs H Q _=>∃ (p dx g l:Addr) (ys:List V),vs=[.ref p,.ref g,.ref l]∧H p=some (.ins C dx [])∧H l=some (.lst ys)∧∀ tp H',(∀ b o,b ≠ p→H b=some o→H' b=some o)→H' tp=some (.tup ys)→H' p=some (.ins C dx (ZFl g tp))→Q .non H'
theorem Zrb (f:Str) (v:V):∀ fs:List (Str × V),(putF f v fs).length≤fs.length + 1
 | []=>Nat.le_refl _
 | (g,x) :: r=>by
  unfold putF
  by_cases h:g=f
  ·rw [if_pos h]; exact Nat.le_succ _
  ·rw [if_neg h]; exact Nat.succ_le_succ (Zrb f v r)
theorem ZG5 (T:Txt K mg t):MkS P w K mg base 2 "Move" t.ZaB ["self","guard","changes"] (ZHE t.ZaB):=by
 refine ⟨T.ZJQ,_,_,T.ZJK,T.Zu6.ok ZCd (fun vs H Q E h=>?_) (fun cdv A outer s H vs Q E hr h=>?_),T.Zvq⟩
 ·obtain ⟨p,dx,g,l,ys,rfl,_⟩ :=h
  rfl
 obtain ⟨p,dx,g,l,ys,rfl,hp,hl,q⟩ :=h
 have z1:=Zrb "guard" (.ref g) []
 rw [List.length_nil] at z1
 have hlp:l ≠ p:=fun e=>by rw [e,hp] at hl; cases hl
 refine ⟨_,(Zac (Zes (pv 0) (pv 1) rfl)
   (Zae (Zes (pv 0) (Zeq ZfK rfl T.B.tuple ZnE (Zaa (pv 2) Zad)) rfl))),?_⟩
 walk_at "rd0"
 refine ⟨p,_,_,_,rfl,hp,T.ZA3,T.ZdI,by decide,?_⟩
 walk_at "rd"
 refine Zyg (ys:=ys) (by rw [ZaS hlp]; exact hl) fun tp htp=>?_
 have hpt:tp ≠ p:=fun e=>by rw [e,Zaz] at htp; cases htp
 walk_at "rd"
 refine ⟨p,_,_,_,rfl,by rw [ZaS (Ne.symm hpt)]; exact Zaz,T.ZA3,T.Zce,by omega,?_⟩
 refine q tp _ (fun b o hb e=>?_) (by rw [ZaS hpt]; exact Zaz) Zaz
 have hb':b ≠ tp:=fun z=>by rw [← z,ZaS hb,e] at htp; cases htp
 rw [ZaS hb,ZaS hb',ZaS hb]
 exact e
def macF (n s b v:Addr):List (Str × V):=putF "moves" (.ref v) (putF "bads" (.ref b) (putF "starts" (.ref s) (putF "names" (.ref n) [])))
theorem ZIq (n s b v:Addr):(macF n s b v).lookup ("moves" : Str)=some (.ref v):=by
 unfold macF
 rw [Za0,if_pos rfl]
theorem ZKB (n s b v:Addr):(macF n s b v).lookup ("bads" : Str)=some (.ref b):=by
 unfold macF
 rw [Za0,if_neg (by decide),Za0,if_pos rfl]
theorem ZGJ (n s b v:Addr):(macF n s b v).lookup ("starts" : Str)=some (.ref s):=by
 unfold macF
 rw [Za0,if_neg (by decide),Za0,if_neg (by decide),Za0,if_pos rfl]
theorem ZIr (n s b v:Addr):(macF n s b v).lookup ("names" : Str)=some (.ref n):=by
 unfold macF
 rw [Za0,if_neg (by decide),Za0,if_neg (by decide),Za0,if_neg (by decide),Za0,if_pos rfl]
def ZCx (C:Addr):Sp:=fun vs H Q _=>∃ (p dx ln ls lb lv:Addr) (xn xs xb xv:List V),vs=[.ref p,.ref ln,.ref ls,.ref lb,.ref lv]∧H p=some (.ins C dx [])∧H ln=some (.lst xn)∧H ls=some (.lst xs)∧H lb=some (.lst xb)∧H lv=some (.lst xv)∧
 ∀ n s b v H',But p H H'→H' n=some (.tup xn)→H' s=some (.tup xs)→H' b=some (.tup xb)→H' v=some (.tup xv)→H' p=some (.ins C dx (macF n s b v))→Q .non H'
theorem ZuY {H:Hp} {p tp:Addr} {o o':HO} {ys:List V} (h:H p=some o) (n:H tp=none):But p H (upd (upd H tp (.tup ys)) p o')∧(upd (upd H tp (.tup ys)) p o') p=some o'∧(upd (upd H tp (.tup ys)) p o') tp=some (.tup ys):=by
 have ne:tp ≠ p:=fun e=>by rw [e,h] at n; cases n
 exact ⟨fun b u hb e=>by rw [ZaS hb,ZaS (Zaf e n)]; exact e,Zaz,by rw [ZaS ne]; exact Zaz⟩
theorem Zyr (T:Txt K mg t):MkS P w K mg base 2 "Machine" t.Zal ["self","names","starts","bads","moves"] (ZCx t.Zal):=by
 refine ⟨T.ZBw,_,_,T.ZBs,T.Zog.ok ZwU (fun vs H Q E h=>?_) (fun cdv A outer s H vs Q E hr h=>?_),T.Zon⟩
 ·obtain ⟨p,dx,ln,ls,lb,lv,xn,xs,xb,xv,rfl,_⟩ :=h
  rfl
 obtain ⟨p,dx,ln,ls,lb,lv,xn,xs,xb,xv,rfl,hp,hn,hs,hb,hv,q⟩ :=h
 have z1:=fun v:V=>Zrb "names" v []
 have z2:=fun (v:V) fs=>Zrb "starts" v fs
 have z3:=fun (v:V) fs=>Zrb "bads" v fs
 have nn:ln ≠ p:=fun e=>by rw [e,hp] at hn; cases hn
 have ns:ls ≠ p:=fun e=>by rw [e,hp] at hs; cases hs
 have nb:lb ≠ p:=fun e=>by rw [e,hp] at hb; cases hb
 have nv:lv ≠ p:=fun e=>by rw [e,hp] at hv; cases hv
 refine ⟨_,(Zac (Zes (pv 0) (Zeq ZfK rfl T.B.tuple ZnE (Zaa (pv 1) Zad)) rfl)
   (Zac (Zes (pv 0) (Zeq ZfK rfl T.B.tuple ZnE (Zaa (pv 2) Zad)) rfl)
   (Zac (Zes (pv 0) (Zeq ZfK rfl T.B.tuple ZnE (Zaa (pv 3) Zad)) rfl)
   (Zae (Zes (pv 0) (Zeq ZfK rfl T.B.tuple ZnE (Zaa (pv 4) Zad)) rfl))))),?_⟩
 walk_at "rd0"
 refine Zyg hn fun t1 n1=>?_
 walk_at "rd"
 refine ⟨p,_,_,_,rfl,by rw [ZaS (Zaf hp n1)]; exact hp,T.ZeY,T.ZbY,by decide,?_⟩
 obtain ⟨b1,p1,e1⟩ :=ZuY (o':=.ins t.Zal dx (putF "names" (.ref t1) [])) (ys:=xn) hp n1
 generalize upd (upd H t1 (.tup xn)) p (.ins t.Zal dx (putF "names" (.ref t1) []))=H1 at b1 p1 e1 ⊢
 walk_at "rd"
 refine Zyg (b1 _ _ ns hs) fun t2 n2=>?_
 walk_at "rd"
 refine ⟨p,_,_,_,rfl,by rw [ZaS (Zaf p1 n2)]; exact p1,T.ZeY,T.ZbC,by have:=z1 (.ref t1); rw [List.length_nil] at this; omega,?_⟩
 obtain ⟨b2,p2,e2⟩ :=ZuY (o':=.ins t.Zal dx (putF "starts" (.ref t2) (putF "names" (.ref t1) []))) (ys:=xs) p1 n2
 generalize upd (upd H1 t2 (.tup xs)) p (.ins t.Zal dx (putF "starts" (.ref t2) (putF "names" (.ref t1) [])))=H2 at b2 p2 e2 ⊢
 walk_at "rd"
 refine Zyg (b2 _ _ nb (b1 _ _ nb hb)) fun t3 n3=>?_
 walk_at "rd"
 refine ⟨p,_,_,_,rfl,by rw [ZaS (Zaf p2 n3)]; exact p2,T.ZeY,T.Zcd,by have:=z1 (.ref t1); have:=z2 (.ref t2) (putF "names" (.ref t1) []); rw [List.length_nil] at *; omega,?_⟩
 obtain ⟨b3,p3,e3⟩ :=ZuY (o':=.ins t.Zal dx (putF "bads" (.ref t3) (putF "starts" (.ref t2) (putF "names" (.ref t1) [])))) (ys:=xb) p2 n3
 generalize upd (upd H2 t3 (.tup xb)) p (.ins t.Zal dx (putF "bads" (.ref t3) (putF "starts" (.ref t2) (putF "names" (.ref t1) []))))=H3 at b3 p3 e3 ⊢
 walk_at "rd"
 refine Zyg (b3 _ _ nv (b2 _ _ nv (b1 _ _ nv hv))) fun t4 n4=>?_
 walk_at "rd"
 refine ⟨p,_,_,_,rfl,by rw [ZaS (Zaf p3 n4)]; exact p3,T.ZeY,T.ZbX,by have:=z1 (.ref t1); have:=z2 (.ref t2) (putF "names" (.ref t1) []); have:=z3 (.ref t3) (putF "starts" (.ref t2) (putF "names" (.ref t1) [])); rw [List.length_nil] at *; omega,?_⟩
 obtain ⟨b4,p4,e4⟩ :=ZuY (o':=.ins t.Zal dx (macF t1 t2 t3 t4)) (ys:=xv) p3 n4
 have n1p:t1 ≠ p:=Zdg e1 p1 (fun z=>nomatch z)
 have n2p:t2 ≠ p:=Zdg e2 p2 (fun z=>nomatch z)
 have n3p:t3 ≠ p:=Zdg e3 p3 (fun z=>nomatch z)
 exact q t1 t2 t3 t4 _ (But.trans (But.trans (But.trans b1 b2) b3) b4) (b4 _ _ n1p (b3 _ _ n1p (b2 _ _ n1p e1))) (b4 _ _ n2p (b3 _ _ n2p e2)) (b4 _ _ n3p e3) e4 p4
def ChW (t:Ad) (H:Hp) (p:Addr) (c:Nat × Fm):Prop:=∃ b,H p=some (.tup [.int (c.1:Int),.ref b])∧FmE t H b c.2
def MvW (t:Ad) (H:Hp) (x:Addr) (v:Fm × List (Nat × Fm)):Prop:=∃ dx g tp hs,H x=some (.ins t.ZaB dx (ZFl g tp))∧H tp=some (.tup (hs.map V.ref))∧FmE t H g v.1∧Paired (ChW t H) hs v.2
def MacW (t:Ad) (H:Hp) (x:Addr) (ns:List Str) (ss bs:List Fm) (vs:List (Fm × List (Nat × Fm))):Prop:=
 ∃ dx n s b v ps pb pv,H x=some (.ins t.Zal dx (macF n s b v))∧H n=some (.tup (ns.map V.str))∧H s=some (.tup (ps.map V.ref))∧H b=some (.tup (pb.map V.ref))∧H v=some (.tup (pv.map V.ref))∧Paired (FmE t H) ps ss∧Paired (FmE t H) pb bs∧Paired (MvW t H) pv vs
theorem FmE.ext {H H':Hp} (s:Ext H H') {p:Addr} {f:Fm} (h:FmE t H p f):FmE t H' p f:=let ⟨n,h⟩ :=h; ⟨n,h.mono s⟩
theorem ChW.ext {H H':Hp} (s:Ext H H') {p:Addr} {c:Nat × Fm} (h:ChW t H p c):ChW t H' p c:=by
 obtain ⟨b,e,f⟩ :=h
 exact ⟨b,s _ _ e (fun _ z=>nomatch z),f.ext s⟩
theorem MvW.ext {H H':Hp} (s:Ext H H') {x:Addr} {v:Fm × List (Nat × Fm)} (h:MvW t H x v):MvW t H' x v:=by
 obtain ⟨dx,g,tp,hs,e1,e2,f,p⟩ :=h
 exact ⟨dx,g,tp,hs,s _ _ e1 (fun _ z=>nomatch z),s _ _ e2 (fun _ z=>nomatch z),f.ext s,Zah (fun _ _ q=>q.ext s) p⟩
theorem MacW.ext {H H':Hp} (e:Ext H H') {x:Addr} {ns:List Str} {ss bs:List Fm} {vs:List (Fm × List (Nat × Fm))} (h:MacW t H x ns ss bs vs):MacW t H' x ns ss bs vs:=by
 obtain ⟨dx,n,s,b,v,ps,pb,pv,h1,h2,h3,h4,h5,p1,p2,p3⟩ :=h
 exact ⟨dx,n,s,b,v,ps,pb,pv,e _ _ h1 (fun _ z=>nomatch z),e _ _ h2 (fun _ z=>nomatch z),e _ _ h3 (fun _ z=>nomatch z),e _ _ h4 (fun _ z=>nomatch z),e _ _ h5 (fun _ z=>nomatch z),Zah (fun _ _ q=>q.ext e) p1,Zah (fun _ _ q=>q.ext e) p2,Zah (fun _ _ q=>q.ext e) p3⟩
theorem ZGs {l g:Addr} {hs:List Addr} {v:Fm × List (Nat × Fm)} {H:Hp} {Q:VK} (hl:H l=some (.lst (hs.map V.ref))) (hf:FmE t H g v.1) (hc:Paired (ChW t H) hs v.2) (h:∀ (x:Addr) (H':Hp),Same H H'→H x=none→MvW t H' x v→Q (.ref x) H') :
  MkG t.ZaB (ZHE t.ZaB) [.ref g,.ref l] H Q:=by
 intro x dx hx hdx ne
 have s2:=Znq hx hdx (.ins t.ZaB dx []) (.own x)
 refine ⟨x,dx,g,l,_,rfl,Zaz,s2 _ _ hl,fun tp H' s3 h1 h2=>⟨rfl,?_⟩⟩
 have s4:Same H H':=fun b o e=>s3 b o (Zaf e hx) (s2 b o e)
 exact h x H' s4 hx ⟨dx,g,tp,hs,h2,h1,hf.ext (Ext.of s4),Zah (fun _ _ q=>q.ext (Ext.of s4)) hc⟩
theorem Zyf {ln ls lb lv:Addr} {ns:List Str} {ss bs:List Fm} {ps pb pv:List Addr} {vs:List (Fm × List (Nat × Fm))} {H:Hp} {Q:VK} (hn:H ln=some (.lst (ns.map V.str))) (hs:H ls=some (.lst (ps.map V.ref))) (hb:H lb=some (.lst (pb.map V.ref))) (hv:H lv=some (.lst (pv.map V.ref)))
  (fs:Paired (FmE t H) ps ss) (fb:Paired (FmE t H) pb bs) (fv:Paired (MvW t H) pv vs)
  (h:∀ (x:Addr) (H':Hp),Same H H'→H x=none→MacW t H' x ns ss bs vs→Q (.ref x) H') :
  MkG t.Zal (ZCx t.Zal) [.ref ln,.ref ls,.ref lb,.ref lv] H Q:=by
 intro x dx hx hdx ne
 have s2:=Znq hx hdx (.ins t.Zal dx []) (.own x)
 refine ⟨x,dx,ln,ls,lb,lv,_,_,_,_,rfl,Zaz,s2 _ _ hn,s2 _ _ hs,s2 _ _ hb,s2 _ _ hv,fun n s b v H' s3 h1 h2 h3 h4 h5=>⟨rfl,?_⟩⟩
 have s4:Same H H':=fun b o e=>s3 b o (Zaf e hx) (s2 b o e)
 exact h x H' s4 hx ⟨dx,n,s,b,v,ps,pb,pv,h5,h1,h2,h3,h4,Zah (fun _ _ q=>q.ext (Ext.of s4)) fs,Zah (fun _ _ q=>q.ext (Ext.of s4)) fb,Zah (fun _ _ q=>q.ext (Ext.of s4)) fv⟩
end
def ZfF (pcs:List (List Str)) (z:Str):List (List Str):=if z = "," then pcs ++ [[]] else pcs.dropLast ++ [(pcs.getLast?.getD []) ++ [z]]
def ZfZ (ws:List Str):List (List Str):=ws.foldl ZfF [[]]
theorem ZEU (pcs:List (List Str)) (z:Str):ZfF pcs z ≠ []:=by
 unfold ZfF
 split <;> simp
theorem Zru (ws:List Str):ZfZ ws ≠ []:=by
 unfold ZfZ
 have:∀ (ws:List Str) (pcs:List (List Str)),pcs ≠ []→ws.foldl ZfF pcs ≠ []:=by
  intro ws
  induction ws with
  | nil=>intro pcs h; exact h
  | cons z r ih=>intro pcs _; exact ih _ (ZEU pcs z)
 exact this ws [[]] (by simp)
theorem ZFu (ws:List Str) (z:Str):ZfZ (ws ++ [z])=ZfF (ZfZ ws) z:=by
 unfold ZfZ
 rw [List.foldl_append]
 rfl
theorem ZvZ:∀ (p:List Str) (pcs:List (List Str)) (cur:List Str),("," : Str) ∉ p→p.foldl ZfF (pcs ++ [cur])=pcs ++ [cur ++ p]
 | [],pcs,cur,_=>by simp
 | z :: p,pcs,cur,h=>by
  have hz : ¬ z = ",":=fun e=>h (by rw [e]; simp)
  have hp:("," : Str) ∉ p:=fun e=>h (List.mem_cons_of_mem _ e)
  show p.foldl ZfF (ZfF (pcs ++ [cur]) z)=_
  have e:ZfF (pcs ++ [cur]) z=pcs ++ [cur ++ [z]]:=by
   unfold ZfF
   rw [if_neg hz]
   simp
  rw [e,ZvZ p pcs (cur ++ [z]) hp]
  simp
theorem Zye:∀ (ps:List (List Str)) (pcs:List (List Str)),ps ≠ []→(∀ p ∈ ps,("," : Str) ∉ p)→(jnW "," ps).foldl ZfF (pcs ++ [[]])=pcs ++ ps
 | [],_,h,_=>absurd rfl h
 | [p],pcs,_,h=>by
  have:=ZvZ p pcs [] (h p List.mem_cons_self)
  simpa [jnW] using this
 | p :: q :: r,pcs,_,h=>by
  have e:jnW "," (p :: q :: r)=p ++ ("," : Str) :: jnW "," (q :: r):=rfl
  rw [e,List.foldl_append,ZvZ p pcs [] (h p List.mem_cons_self)]
  show (jnW "," (q :: r)).foldl ZfF (ZfF (pcs ++ [[] ++ p]) ",")=_
  have e2:ZfF (pcs ++ [[] ++ p]) "," = (pcs ++ [p]) ++ [[]]:=by unfold ZfF; rw [if_pos rfl]; simp
  rw [e2,Zye (q :: r) (pcs ++ [p]) (by simp) fun x hx=>h x (List.mem_cons_of_mem _ hx)]
  simp
theorem ZFt {ps:List (List Str)} (hn:ps ≠ []) (h:∀ p ∈ ps,("," : Str) ∉ p):ZfZ (jnW "," ps)=ps:=by
 have:=Zye ps [] hn h
 simpa [ZfZ] using this
theorem ZI7 {pcs:List (List Str)} {z:Str} {B:Nat} (h:∀ pc ∈ pcs,pc.length≤B):∀ pc ∈ ZfF pcs z,pc.length≤B + 1:=by
 intro pc hp
 unfold ZfF at hp
 split at hp
 ·rcases List.mem_append.mp hp with hp | hp
  ·exact Nat.le_succ_of_le (h pc hp)
  ·rw [List.mem_singleton.mp hp]; exact Nat.zero_le _
 ·rcases List.mem_append.mp hp with hp | hp
  ·exact Nat.le_succ_of_le (h pc ((List.dropLast_sublist _).subset hp))
  ·rw [List.mem_singleton.mp hp,List.length_append,List.length_singleton]
   cases e:pcs.getLast? with
   | none=>simp
   | some q=>exact Nat.succ_le_succ (h q (List.mem_of_getLast? e))
theorem ZHd (ws:List Str):(ZfZ ws).length≤ws.length + 1:=by
 have:∀ (ws:List Str) (pcs:List (List Str)),pcs ≠ []→(ws.foldl ZfF pcs).length≤pcs.length + ws.length:=by
  intro ws
  induction ws with
  | nil=>intro pcs _; exact Nat.le_refl _
  | cons z r ih=>
   intro pcs hp
   have h1:=ih (ZfF pcs z) (ZEU pcs z)
   have h2:(ZfF pcs z).length≤pcs.length + 1:=by
    unfold ZfF
    split
    ·simp
    ·rw [List.length_append,List.length_dropLast,List.length_singleton]; omega
   rw [List.length_cons]
   exact Nat.le_trans h1 (by omega)
 have:=this ws [[]] (by simp)
 simp only [List.length_singleton] at this
 unfold ZfZ
 omega
theorem ZEE (ws:List Str):∀ pc ∈ ZfZ ws,pc.length≤ws.length:=by
 have:∀ (ws:List Str) (pcs:List (List Str)) (B:Nat),(∀ pc ∈ pcs,pc.length≤B)→∀ pc ∈ ws.foldl ZfF pcs,pc.length≤B + ws.length:=by
  intro ws
  induction ws with
  | nil=>intro pcs B h; exact h
  | cons z r ih=>
   intro pcs B h pc hp
   have:=ih (ZfF pcs z) (B + 1) (ZI7 h) pc hp
   rw [List.length_cons]
   omega
 intro pc hp
 have:=this ws [[]] 0 (fun pc h=>by rw [List.mem_singleton.mp h]; exact Nat.le_refl _) pc hp
 omega
seal PE PA PS PSs
section
variable {P:Program} {w:World} {K:PySem.W.Frag} {mg:Str→Option Value} {base:Heap} {t:Ad} {n:Nat}
def ZNE:Sp:=fun vs H Q _=>∃ z:Str,vs=[.str z]∧Asc z∧z.length≤16000∧okW z=true∧Txt.words (pad z) ≠ []∧∀ p H',Same H H'→H p=none→H' p=some (.lst ((Txt.words (pad z)).map V.str))→Q (.ref p) H'
theorem ZlL (T:Txt K mg t):FnS P w K mg base 3 "words_of_line" ["line"] (ZNE):=by
 refine ⟨_,_,T.Zhk.ok ZlO (fun vs H Q E h=>?_) (fun cdv A outer s H vs Q E hr h=>?_),T.Zmg,T.Zhk.kp,T.Zm6⟩
 ·obtain ⟨z,rfl,ha,hz,hok,hne,q⟩ :=h
  rfl
 obtain ⟨z,rfl,ha,hz,hok,hne,q⟩ :=h
 have ZJ8:=ZIH (P:=P) (w:=w) (base:=base) T
 refine ⟨_,(Zac (ss 1 ZlO.nd (Zbq ZJ8 hr (Zaa (pv 0) Zad)))
   (Zac (ZbV (PW.pt (ZxD (Zav ZMk (pv 1) ZJW (ZaQ _)) (ZoQ (Zav (ZbZ hr.units) (Zbr Zbl rfl T.B.len ZfG (Zaa (pv 1) Zad)) Zam (ZaQ _)))))
   (Zae Zgi)
   ZaI)
   (Zae (ZaA (pv 1))))),?_⟩
 walk_at "rd0"
 refine ⟨z,rfl,ha,hz,fun h=>(absurd h (by rw [hok]; decide)),fun _ H1 p s1 n1 e1=>?_⟩
 walk_at "rd"
 refine ⟨rfl,?_⟩
 walk_at "rd"
 refine Zbm (by simp) ?_
 walk_at "rd"
 rw [List.length_map]
 refine Zbm (decide_eq_false fun e=>hne (List.length_eq_zero_iff.mp (by omega))) ?_
 walk_at "rd"
 exact q p H1 s1 n1 e1
theorem ZuQ {ps:List Str} {i:Nat} {x:V} (h:(ps.map V.str)[i]?=some x):∃ p,x=V.str p∧ps[i]?=some p:=by
 rw [List.getElem?_map] at h
 cases e:ps[i]? with
 | none=>rw [e] at h; cases h
 | some p=>rw [e] at h; cases h; exact ⟨p,rfl,rfl⟩
theorem Zlm {α β:Type} {R S:α→β→Prop}:∀ {as:List α} {bs:List β},Paired R as bs→(∀ a b,a ∈ as→R a b→S a b)→Paired S as bs
 | _,_,.nil,_=>.nil
 | _,_,.cons h r,f=>.cons (f _ _ List.mem_cons_self h) (Zlm r fun a b ha z=>f a b (List.mem_cons_of_mem _ ha) z)
def ZKa (H0 H:Hp) (ps:List Addr) (pcs:List (List Str)):Prop:=Paired (fun p pc=>H0 p=none∧H p=some (.lst (pc.map V.str))) ps pcs
def ZI2:Sp:=fun vs H Q _=>∃ (l:Addr) (ws:List Str),vs=[.ref l]∧H l=some (.lst (ws.map V.str))∧ws.length≤100000∧∀ o ps H',Same H H'→H o=none→H' o=some (.lst (ps.map V.ref))→ZKa H H' ps (ZfZ ws)→Q (.ref o) H'
theorem ZsB {α β:Type} {R:α→β→Prop}:∀ {as:List α} {bs:List β},Paired R as bs→∀ a ∈ as,∃ b,R a b
 | _,_,.nil,a,h=>by cases h
 | _,_,.cons h r,a,ha=>by
  rcases List.mem_cons.mp ha with rfl | ha
  ·exact ⟨_,h⟩
  ·exact ZsB r a ha
theorem Za1 {α β:Type} {R:α→β→Prop}:∀ {as:List α} {bs:List β},Paired R as bs→∀ {i:Nat} {a:α},as[i]?=some a→∃ b,bs[i]?=some b∧R a b
 | _,_,.nil,i,a,h=>by cases h
 | _,_,.cons h r,0,a,ha=>by cases ha; exact ⟨_,rfl,h⟩
 | _,_,.cons h r,i + 1,a,ha=>Za1 r (i:=i) (by simpa using ha)
theorem Zyu {α β:Type} {R:α→β→Prop}:∀ {as:List α} {bs:List β},Paired R as bs→∀ {i:Nat} {b:β},bs[i]?=some b→∃ a,as[i]?=some a∧R a b
 | _,_,.nil,i,a,h=>by cases h
 | _,_,.cons h r,0,a,ha=>by cases ha; exact ⟨_,rfl,h⟩
 | _,_,.cons h r,i + 1,a,ha=>Zyu r (i:=i) (by simpa using ha)
theorem Zyw {α β γ:Type} {R:α→β→Prop} {S:α→γ→Prop} {f:β→γ} (h:∀ a b,R a b→S a (f b)):∀ {as:List α} {bs:List β},Paired R as bs→Paired S as (bs.map f)
 | _,_,.nil=>.nil
 | _,_,.cons h1 r=>.cons (h _ _ h1) (Zyw h r)
theorem ZHB {α β:Type} {R:α→β→Prop} {as:List α} {bs:List β} (h:Paired R as bs) (hb:bs ≠ []):∃ as' a,as=as' ++ [a]∧Paired R as' bs.dropLast∧R a (bs.getLast hb):=by
 induction h with
 | nil=>exact absurd rfl hb
 | cons h1 h2 ih=>
  rename_i a b as bs
  cases h2 with
  | nil=>exact ⟨[],a,rfl,.nil,h1⟩
  | cons h3 h4=>
   obtain ⟨as',a',e,h5,h6⟩ :=ih (by simp)
   refine ⟨a :: as',a',by rw [e]; rfl,?_,?_⟩
   ·rw [List.dropLast_cons_cons]
    exact .cons h1 h5
   ·rw [List.getLast_cons_cons]
    exact h6
theorem ZpI (T:Txt K mg t):FnS P w K mg base 1 "parted_by_commas" ["found"] (ZI2):=by
 refine ⟨_,_,T.ZeV.ok ZeO (fun vs H Q E h=>?_) (fun cdv A outer s H vs Q E hr h=>?_),T.Zip,T.ZeV.kp,T.Zjf⟩
 ·obtain ⟨l,ws,rfl,hl,hz,q⟩ :=h
  rfl
 obtain ⟨l,ws,rfl,hl,hz,q⟩ :=h
 refine ⟨_,(Zac (ss 1 ZeO.nd (Zb0 (Zaa (Zb0 Zad) Zad)))
   (Zac (Zb5 PassesOwn.never rfl (ZdK (pv 0)) (sg 2 ZeO.nd)
   (Zae (ZbV (Zav (ZbZ hr.units) (pv 2) Zau (ZaQ _))
   (Zae (ZaR (Zc8 PySem.F.plainAttrs_list PySem.F.slot_list_append PySem.F.type_list_append ZaK (pv 1) (Zaa (Zb0 Zad) Zad))))
   (Zae (ZaR (Zc8 PySem.F.plainAttrs_list PySem.F.slot_list_append PySem.F.type_list_append ZaK (ZbE ZaW (pv 1) (ZFv ZyE Zam) (fun _ _=>rfl)) (Zaa (pv 2) Zad)))))))
   (Zae (ZaA (pv 1))))),?_⟩
 walk_at "rd0"
 refine ZfD (by simp) fun p0 H0 s0 n0 e0=>?_
 walk_at "rd"
 refine ZfD (by simp) fun o H1 s1 n1 e1=>?_
 walk_at "rd"
 have no:H o=none:=s0.free n1
 have nd0:(o :: [p0]).Nodup:=by
  rw [List.nodup_cons]
  refine ⟨fun hm=>?_,by simp⟩
  rw [List.mem_singleton.mp hm,e0] at n1
  cases n1
 refine seqL (xs:=ws.map V.str) (fun i σ H'=>∃ ps v2,σ=[some (.ref l),some (.ref o),v2]∧Same H H'∧H' o=some (.lst (ps.map V.ref))∧ZKa H H' ps (ZfZ (ws.take i))∧(o :: ps).Nodup∧(ZfZ (ws.take i)).length≤i + 1)
  ⟨[p0],_,rfl,s0.trans s1,e1,.cons ⟨n0,s1 _ _ e0⟩ .nil,nd0,Nat.le_refl _⟩ (fun i σ H' _ hp=>by obtain ⟨ps,v2,_,s,_⟩ :=hp; exact SqL.of (s _ _ hl)) ?_ ?_
 ·rintro i x σ H2 hx ⟨ps,v2,rfl,s2,e2,pp,nd,hln⟩
  obtain ⟨z,rfl,hz'⟩ :=ZuQ hx
  have hil:i < ws.length:=(List.getElem?_eq_some_iff.mp hz').1
  rw [List.nodup_cons] at nd
  have hpl:=Zas pp
  have ets:ZfZ (ws.take (i + 1))=ZfF (ZfZ (ws.take i)) z:=by rw [ZaY hz',ZFu]
  walk_at "rd"
  refine ZhG (fun h=>?_) (fun h=>?_)
  ·walk_at "rd"
   refine ⟨tyL e2,?_⟩
   walk_at "rd"
   refine ZfD (by simp) fun p3 H3 s3 n3 e3=>?_
   have e23:=s3 _ _ e2
   walk_at "rd"
   refine Za5 e23 (by rw [List.length_map]; omega) fun H4 b4 e4=>?_
   walk_at "rd"
   have n3':H p3=none:=s2.free n3
   have np:p3 ∉ ps:=fun hm=>by
    obtain ⟨pc,_,e⟩ :=ZsB pp p3 hm
    rw [n3] at e; cases e
   have neo:o ≠ p3:=fun e=>by rw [← e] at n3; rw [n3] at e2; cases e2
   refine ⟨ps ++ [p3],_,rfl,b4.same no (s2.trans s3),by rw [e4,List.map_append]; rfl,?_,?_,?_⟩
   ·rw [ets]
    unfold ZfF
    rw [if_pos h]
    refine ZaF (Zlm pp fun p pc hp z=>⟨z.1,b4 _ _ (fun e=>nd.1 (by rw [← e]; exact hp)) (s3 _ _ z.2)⟩) (.cons ⟨n3',b4 _ _ (fun e=>neo e.symm) e3⟩ .nil)
   ·rw [List.nodup_cons]
    refine ⟨?_,?_⟩
    ·simp only [List.mem_append,List.mem_singleton,not_or]
     exact ⟨nd.1,neo⟩
    ·rw [List.nodup_append]
     exact ⟨nd.2,by simp,fun a ha b hb e=>np (by rw [← List.mem_singleton.mp hb,← e]; exact ha)⟩
   ·rw [ets]
    unfold ZfF
    rw [if_pos h,List.length_append,List.length_singleton]
    omega
  ·walk_at "rd"
   obtain ⟨ps',p,rfl,pp',hp⟩ :=ZHB pp (Zru _)
   obtain ⟨np,ep⟩ :=hp
   have hlast:ZfF (ZfZ (ws.take i)) z=(ZfZ (ws.take i)).dropLast ++ [(ZfZ (ws.take i)).getLast (Zru _) ++ [z]]:=by
    unfold ZfF
    rw [if_neg h,List.getLast?_eq_some_getLast (Zru _)]
    rfl
   have e2':H2 o=some (.lst (ps'.map V.ref ++ [V.ref p])):=by rw [e2,List.map_append]; rfl
   refine ZEg e2' (ZDS _ _) ?_
   walk_at "rd"
   refine ⟨tyL ep,?_⟩
   have hpl':=Zas pp'
   have hlz:((ZfZ (ws.take i)).getLast (Zru _)).length≤100000:=by
    have:=ZEE (ws.take i) _ (List.getLast_mem (Zru _))
    rw [List.length_take] at this
    omega
   walk_at "rd"
   refine Za5 ep (by rw [List.length_map]; omega) fun H4 b4 e4=>?_
   walk_at "rd"
   have nd':=nd
   rw [List.nodup_append] at nd'
   have nop:o ≠ p:=fun e=>nd.1 (by rw [e]; simp)
   refine ⟨ps' ++ [p],_,rfl,b4.same np s2,b4 _ _ nop e2,?_,?_,?_⟩
   ·rw [ets,hlast]
    refine ZaF (Zlm pp' fun a pc ha z=>⟨z.1,b4 _ _ (fun e=>nd'.2.2.2 a ha p (List.mem_singleton.mpr rfl) e) z.2⟩) (.cons ⟨np,by rw [e4,List.map_append]; rfl⟩ .nil)
   ·rw [List.nodup_cons]; exact nd
   ·rw [ets,hlast,List.length_append,List.length_dropLast,List.length_singleton]; omega
 ·rintro σ H2 ⟨ps,v2,rfl,s2,e2,pp,nd,hln⟩
  walk_at "rd"
  rw [List.length_map,List.take_length] at pp
  exact q o ps H2 s2 no e2 pp
theorem Zv8 {z:Str}:∀ {ns:List Str} {k:Nat},ns.Nodup→ns[k]?=some z→idxS z ns=some k
 | [],k,_,h=>by simp at h
 | y :: r,k,nd,h=>by
  unfold idxS
  rw [List.nodup_cons] at nd
  cases k with
  | zero=>
   have:y=z:=by simpa using h
   rw [if_pos this]
  | succ k=>
   have h:r[k]?=some z:=by simpa using h
   have : ¬ y=z:=fun e=>nd.1 (by rw [e]; exact List.mem_of_getElem? h)
   rw [if_neg this,Zv8 nd.2 h]
   rfl
theorem ZLQ {p:Addr} {x:Str} {ns:List Str} {H:Hp} {Q:VK} (h:H p=some (.lst (ns.map V.str))∨H p=some (.tup (ns.map V.str))) (k:Q (.bl (!decide (x ∈ ns))) H):ZDA K (.str x) (.ref p) H Q:=by
 refine .inr ⟨p,ns.map V.str,rfl,h.imp SqL.of SqT.of,rfl,?_,?_⟩
 ·rw [List.all_eq_true]
  intro v hv
  obtain ⟨z,_,rfl⟩ :=List.mem_map.mp hv
  rfl
 ·rw [ZqR]
  exact k
theorem ZLR {p:Addr} {x:Str} {ns:List Str} {H:Hp} {Q:VK} (h:SqT K H p (ns.map V.str)) (k:Q (.bl (!decide (x ∈ ns))) H):ZDA K (.str x) (.ref p) H Q:=by
 refine .inr ⟨p,ns.map V.str,rfl,.inr h,rfl,?_,?_⟩
 ·rw [List.all_eq_true]
  intro v hv
  obtain ⟨z,_,rfl⟩ :=List.mem_map.mp hv
  rfl
 ·rw [ZqR]
  exact k
def ZBA (ks:List Nat):List V:=ks.map fun k:Nat=>V.int (k:Int)
theorem ZGW {α:Type}:∀ {l:List α} {i j:Nat} {x:α},l.Nodup→l[i]?=some x→l[j]?=some x→i=j
 | [],i,j,x,_,h,_=>by simp at h
 | y :: l,0,0,x,_,_,_=>rfl
 | y :: l,0,j + 1,x,nd,h1,h2=>by
  rw [List.nodup_cons] at nd
  have h1:y=x:=by simpa using h1
  have h2:l[j]?=some x:=by simpa using h2
  exact absurd (List.mem_of_getElem? h2) (by rw [← h1]; exact nd.1)
 | y :: l,i + 1,0,x,nd,h1,h2=>by
  rw [List.nodup_cons] at nd
  have h2:y=x:=by simpa using h2
  have h1:l[i]?=some x:=by simpa using h1
  exact absurd (List.mem_of_getElem? h1) (by rw [← h2]; exact nd.1)
 | y :: l,i + 1,j + 1,x,nd,h1,h2=>by
  rw [List.nodup_cons] at nd
  exact congrArg (· + 1) (ZGW nd.2 (by simpa using h1) (by simpa using h2))
theorem ZEi (x:Nat):∀ ns:List Nat,inV (.int (x:Int)) (ZBA ns)=decide (x ∈ ns)
 | []=>by simp [inV,ZBA]
 | y :: ns=>by
  have ih:=ZEi x ns
  unfold inV ZBA at ih ⊢
  rw [List.map_cons,List.any_cons,ih]
  have e:eqV (.int (y:Int)) (.int (x:Int))=decide (y=x):=by
   show decide ((y:Int)=(x:Int))=_
   exact decide_eq_decide.mpr (by omega)
  rw [e]
  by_cases h:y=x
  ·simp [h]
  ·have h' : ¬ x=y:=fun z=>h z.symm
   simp [h,h']
theorem ZKp {p:Addr} {x:Nat} {ns:List Nat} {H:Hp} {Q:VK} (h:H p=some (.lst (ZBA ns))) (k:Q (.bl (decide (x ∈ ns))) H):rInG K (.int (x:Int)) (.ref p) H Q:=by
 refine .inr ⟨p,ZBA ns,rfl,.inl (SqL.of h),rfl,?_,?_⟩
 ·rw [List.all_eq_true]
  intro v hv
  obtain ⟨z,_,rfl⟩ :=List.mem_map.mp hv
  rfl
 ·rw [ZEi]
  exact k
theorem ZNg {ws:List Str} {k:Nat} (h:k≤ws.length):cutV (ws.map V.str) none (some (k:Int))=(ws.take k).map V.str:=by
 rw [ZLq (by rw [List.length_map]; exact h),List.map_take]
theorem ZuT {a b:List Str} (h:("then" : Str) ∉ a):(a ++ ("then" : Str) :: b)[a.length]?=some "then"∧∀ m,m < a.length→(a ++ ("then" : Str) :: b)[m]? ≠ some "then":=by
 refine ⟨by simp,fun m hm e=>?_⟩
 rw [List.getElem?_append_left hm] at e
 exact h (List.mem_of_getElem? e)
def ZI3:Sp:=fun vs H Q _=>∃ (l:Addr) (a b:List Str),vs=[.ref l]∧H l=some (.lst ((a ++ ("then" : Str) :: b).map V.str))∧("then" : Str) ∉ a∧a.length + b.length≤90000∧∀ o ps H',Same H H'→H o=none→H' o=some (.lst (ps.map V.ref))→ZKa H H' ps (ZfZ b)→Q (.ref o) H'
theorem Zug (T:Txt K mg t):FnS P w K mg base 3 "pieces_in" ["found"] (ZI3):=by
 refine ⟨_,_,T.ZoX.ok ZCi (fun vs H Q E h=>?_) (fun cdv A outer s H vs Q E hr h=>?_),T.Zvx,T.ZoX.kp,T.Zwt⟩
 ·obtain ⟨l,a,b,rfl,hl,ha,hz,q⟩ :=h
  rfl
 obtain ⟨l,a,b,rfl,hl,ha,hz,q⟩ :=h
 have ZpU:=ZpI (P:=P) (w:=w) (base:=base) T
 refine ⟨_,(Zae (ZaA (Zbq ZpU hr (Zaa (Zhh ZrZ (pv 0) (Zie (ZaD ZaC (Zc8 PySem.F.plainAttrs_list PySem.F.slot_list_index PySem.F.type_list_index Zrh (pv 0) (Zaa Zau Zad)) Zam)) ZpJ) Zad)))),?_⟩
 walk_at "rd0"
 refine ⟨tyL hl,?_⟩
 walk_at "rd"
 refine Zv6 hl (ZuT ha).1 (ZuT ha).2 (by omega) ?_
 walk_at "rd"
 have ec:cutV ((a ++ ("then" : Str) :: b).map V.str) (some ((a.length:Int) + 1)) none=b.map V.str:=by
  have:=ZnL (xs:=(a ++ ("then" : Str) :: b).map V.str) (k:=a.length + 1) (by simp)
  have e:(a ++ ("then" : Str) :: b).drop (a.length + 1)=b:=by
   rw [show a ++ ("then" : Str) :: b=(a ++ [("then" : Str)]) ++ b by simp,List.drop_left' (by simp)]
  rw [← List.map_drop,e] at this
  exact this
 refine Zy6 (SqL.of hl) ec fun l2 H1 s1 n1 e1=>?_
 walk_at "rd"
 refine ⟨l2,b,rfl,e1,by omega,fun o ps H2 s2 n2 e2 pp=>?_⟩
 exact q o ps H2 (s1.trans s2) (s1.free n2) e2 (Zah (fun _ _ z=>⟨s1.free z.1,z.2⟩) pp)
def ZMP:Sp:=fun vs H Q _=>∃ (l:Addr) (ws:List Str),vs=[.ref l]∧H l=some (.lst (ws.map V.str))∧2≤ws.length∧ws.length≤7∧Q .non H
theorem Zxz (T:Txt K mg t):FnS P w K mg base 1 "check_lamps" ["found"] (ZMP):=by
 refine ⟨_,_,T.Zkk.ok ZxH (fun vs H Q E h=>?_) (fun cdv A outer s H vs Q E hr h=>?_),T.Zqb,T.Zkk.kp,T.Zrf⟩
 ·obtain ⟨l,ws,rfl,hl,h2,h7,q⟩ :=h
  rfl
 obtain ⟨l,ws,rfl,hl,h2,h7,q⟩ :=h
 refine ⟨_,(Zae (ZbV (PW.pt (ZxD (Zav ZDw (Zbr Zbl rfl T.B.len ZfG (Zaa (pv 0) Zad)) Zam (ZaQ _)) (ZoQ (Zav ZKJ (Zbr Zbl rfl T.B.len ZfG (Zaa (pv 0) Zad)) (ZaD ZaC (ZxC rfl T.g_MOST_LAMPS) Zam) (ZaQ _)))))
   (Zae Zgi)
   ZaI)),?_⟩
 walk_at "rd0"
 rw [List.length_map]
 refine Zbm (decide_eq_false (by omega)) ?_
 walk_at "rd"
 rw [List.length_map]
 refine Zbm (decide_eq_false (by omega)) ?_
 walk_at "rd"
 exact q
structure MvWs (a b:List Str):Prop where
 na:("then" : Str) ∉ a
 nb:("then" : Str) ∉ b
 ln:a.length + b.length≤90000
 pc:∀ p ∈ ZfZ b,2≤p.length∧p[1]?=some ("is" : Str)
def ZMQ:Sp:=fun vs H Q _=>∃ (l:Addr) (a b:List Str),vs=[.ref l]∧H l=some (.lst ((a ++ ("then" : Str) :: b).map V.str))∧MvWs a b∧∀ H',Same H H'→Q .non H'
theorem ZzO (T:Txt K mg t):FnS P w K mg base 5 "check_move" ["found"] (ZMQ):=by
 refine ⟨_,_,T.ZlV.ok ZrU (fun vs H Q E h=>?_) (fun cdv A outer s H vs Q E hr h=>?_),T.Ztd,T.ZlV.kp,T.Zuc⟩
 ·obtain ⟨l,a,b,rfl,hl,M,q⟩ :=h
  rfl
 obtain ⟨l,a,b,rfl,hl,M,q⟩ :=h
 have Zo0:=Zug (P:=P) (w:=w) (base:=base) T
 refine ⟨_,(Zac (ZbV (Zav (Zuh hr.units) (Zc8 PySem.F.plainAttrs_list PySem.F.slot_list_count PySem.F.type_list_count ZGU (pv 0) (Zaa Zau Zad)) Zam (ZaQ _))
   (Zae Zgi)
   ZaI)
   (Zae (Zb5 PassesOwn.never rfl (ZdK (Zbq Zo0 hr (Zaa (pv 0) Zad))) (sg 1 ZrU.nd)
   (Zae (ZbV (PW.pt (ZxD (Zav ZDw (Zbr Zbl rfl T.B.len ZfG (Zaa (pv 1) Zad)) Zam (ZaQ _)) (ZoQ (Zav (Zuh hr.units) (ZbE ZaW (pv 1) Zam (fun _ _=>rfl)) Zau (ZaQ _)))))
   (Zae Zgi)
   ZaI))))),?_⟩
 walk_at "rd0"
 refine ⟨tyL hl,?_⟩
 walk_at "rd"
 refine ZIh hl ?_
 have hc:(a ++ ("then" : Str) :: b).count ("then" : Str)=1:=by
  rw [List.count_append,List.count_cons_self,List.count_eq_zero.mpr M.na,List.count_eq_zero.mpr M.nb]
 rw [hc]
 walk_at "rd"
 refine Zbm (by decide) ?_
 walk_at "rd"
 refine ⟨l,a,b,rfl,hl,M.na,M.ln,fun o ps H1 s1 n1 e1 pp=>?_⟩
 refine seqL (xs:=ps.map V.ref) (fun i σ H'=>H'=H1∧∃ v1,σ=[some (.ref l),v1]) ⟨rfl,_,rfl⟩ (fun i σ H' _ hp=>by obtain ⟨rfl,_⟩ :=hp; exact SqL.of e1) ?_ ?_
 ·rintro i x σ H' hx ⟨rfl,v1,rfl⟩
  obtain ⟨p,rfl,hp⟩ :=Zcb hx
  obtain ⟨pc,hpc,np,ep⟩ :=Za1 pp hp
  obtain ⟨h2,h1⟩ :=M.pc pc (List.mem_of_getElem? hpc)
  walk_at "rd"
  rw [List.length_map]
  refine Zbm (decide_eq_false (by omega)) ?_
  walk_at "rd"
  refine ZdP (j:=1) ep (v:=.str "is") (by rw [List.getElem?_map,h1]; rfl) ?_
  walk_at "rd"
  refine Zbm (by decide) ?_
  walk_at "rd"
  exact ⟨rfl,_,rfl⟩
 ·rintro σ H' ⟨rfl,v1,rfl⟩
  walk_at "rd"
  exact q _ s1
def ZMO:Sp:=fun vs H Q _=>∃ (l:Addr) (x:Str) (ws:List Str),vs=[.ref l]∧H l=some (.lst ((x :: ws).map V.str))∧(x = "lamps"→1≤ws.length∧ws.length≤6)∧(x = "move"→∃ a b,ws=a ++ ("then" : Str) :: b∧MvWs ("move" :: a) b)∧∀ H',Same H H'→Q .non H'
theorem Zrr (T:Txt K mg t):FnS P w K mg base 7 "check_form" ["found"] (ZMO):=by
 refine ⟨_,_,T.ZlU.ok ZAb (fun vs H Q E h=>?_) (fun cdv A outer s H vs Q E hr h=>?_),T.Ztc,T.ZlU.kp,T.Zub⟩
 ·obtain ⟨l,x,ws,rfl,hl,h1,h2,q⟩ :=h
  rfl
 obtain ⟨l,x,ws,rfl,hl,h1,h2,q⟩ :=h
 have ZyJ:=Zxz (P:=P) (w:=w) (base:=base) T
 have ZAP:=ZzO (P:=P) (w:=w) (base:=base) T
 refine ⟨_,(Zac (ZbV (Zav (ZbZ hr.units) (ZbE ZaW (pv 0) Zam (fun _ _=>rfl)) Zau (ZaQ _))
   (Zae (ZaR (Zbq ZyJ hr (Zaa (pv 0) Zad))))
   ZaI)
   (Zae (ZbV (Zav (ZbZ hr.units) (ZbE ZaW (pv 0) Zam (fun _ _=>rfl)) Zau (ZaQ _))
   (Zae (ZaR (Zbq ZAP hr (Zaa (pv 0) Zad))))
   ZaI))),?_⟩
 walk_at "rd0"
 refine ZdP (j:=0) hl (v:=.str x) rfl ?_
 walk_at "rd"
 refine ZhG (fun h=>?_) (fun h=>?_)
 ·obtain ⟨a1,a6⟩ :=h1 h
  subst h
  walk_at "rd"
  refine ⟨l,_,rfl,hl,by rw [List.length_cons]; omega,by rw [List.length_cons]; omega,?_⟩
  walk_at "rd"
  refine ZdP (j:=0) hl (v:=.str "lamps") rfl ?_
  walk_at "rd"
  refine Zbm (by decide) ?_
  walk_at "rd"
  exact q _ (Same.refl _)
 ·walk_at "rd"
  refine ZdP (j:=0) hl (v:=.str x) rfl ?_
  walk_at "rd"
  refine ZhG (fun h'=>?_) (fun h'=>?_)
  ·obtain ⟨a,b,rfl,M⟩ :=h2 h'
   subst h'
   walk_at "rd"
   refine ⟨l,"move" :: a,b,rfl,hl,M,fun H1 s1=>?_⟩
   walk_at "rd"
   exact q _ s1
  ·walk_at "rd"
   exact q _ (Same.refl _)
def noNm:List Str:=["and","or","not","either","yes","no","then","is","(",")",","]
def ZMS:Sp:=fun vs H Q _=>∃ (l:Addr) (x:Str) (ns:List Str),vs=[.ref l]∧H l=some (.lst ((x :: ns).map V.str))∧ns.length≤6∧(∀ z ∈ ns,z ∉ noNm∧z.length≤8)∧ns.Nodup∧∀ p H',Same H H'→H p=none→H' p=some (.lst (ns.map V.str))→Q (.ref p) H'
theorem ZDu (T:Txt K mg t):FnS P w K mg base 1 "names_in" ["found"] (ZMS):=by
 refine ⟨_,_,T.Zr5.ok Zlr (fun vs H Q E h=>?_) (fun cdv A outer s H vs Q E hr h=>?_),T.Zx1,T.Zr5.kp,T.Zyo⟩
 ·obtain ⟨l,x,ns,rfl,hl,h6,hn,nd,q⟩ :=h
  rfl
 obtain ⟨l,x,ns,rfl,hl,h6,hn,nd,q⟩ :=h
 refine ⟨_,(Zac (ss 1 Zlr.nd (Zhh ZrZ (pv 0) (Zie Zam) ZpJ))
   (Zac (Zb5 PassesOwn.never rfl (ZKP rfl T.B.enumerate (pv 1)) (Zyx rfl (ZeA (sg 2 Zlr.nd) (ZeA (sg 3 Zlr.nd) ZsC)))
   (Zac (ZbV (PW.pt (ZxD (Zav ZwN (pv 3) (ZxC rfl T.g_NO_NAMES) (by with_unfolding_all rfl)) (ZoQ (Zav ZKJ (Zbr Zbl rfl T.B.len ZfG (Zaa (pv 3) Zad)) (ZxC rfl T.g_LONGEST_NAME) (ZaQ _)))))
   (Zae Zgi)
   ZaI)
   (Zae (ZbV (Zav ZwN (pv 3) (Zhh ZrZ (pv 1) ZpJ (Zie (pv 2))) (by with_unfolding_all rfl))
   (Zae Zgi)
   ZaI))))
   (Zae (ZaA (pv 1))))),?_⟩
 walk_at "rd0"
 refine Zy6 (SqL.of hl) (ZnL (k:=1) (by simp)) fun nl H1 s1 n1 e1=>?_
 have e1:H1 nl=some (.lst (ns.map V.str)):=e1
 walk_at "rd"
 refine ZNC (xs:=ns.map V.str) (fun i σ H'=>Same H1 H'∧∃ v v',σ=[some (.ref l),some (.ref nl),v,v']) ⟨Same.refl _,_,_,rfl⟩ (fun i σ H' _ hp=>SqL.of (hp.1 _ _ e1)) ?_ ?_
 ·rintro i x T' σ H0 H' hx ⟨s2,v,v',rfl⟩ s3 n3 eT
  obtain ⟨z,rfl,hz⟩ :=ZuQ hx
  obtain ⟨z1,z2⟩ :=hn z (List.mem_of_getElem? hz)
  have hil:=(List.getElem?_eq_some_iff.mp hz).1
  refine ZFc eT ?_
  walk_at "rd"
  refine ZLL (T.q_NO_NAMES H') ?_
  walk_at "rd"
  refine Zbm (decide_eq_false z1) ?_
  walk_at "rd"
  refine ZLM (Zbn (by omega)) ?_
  walk_at "rd"
  refine Zbm (decide_eq_false (by omega)) ?_
  walk_at "rd"
  have w3:=s2.trans s3
  refine Zy6 (SqL.of (w3 _ _ e1)) (ZNg (by omega)) fun l2 H4 s4 n4 e4=>?_
  walk_at "rd"
  refine ZIi (.inl e4) ?_
  walk_at "rd"
  refine Zbm (decide_eq_false fun hm=>?_) ?_
  ·obtain ⟨j,hj,ej⟩ :=List.getElem_of_mem hm
   rw [List.length_take] at hj
   rw [List.getElem_take] at ej
   have x1:=Zv8 nd hz
   have x2:=Zv8 nd (k:=j) (z:=z) (by rw [List.getElem?_eq_getElem (by omega),ej])
   rw [x1] at x2
   have:=Option.some.inj x2
   omega
  walk_at "rd"
  exact ⟨w3.trans s4,_,_,rfl⟩
 ·rintro σ H' ⟨s2,v,v',rfl⟩
  walk_at "rd"
  exact q nl H' (s1.trans s2) n1 (s2 _ _ e1)
def ZHF:Sp:=fun vs H Q _=>∃ (o nl:Addr) (ps:List Addr) (pcs:List (List Str)) (ns:List Str) (ls:List Nat),vs=[.ref o,.ref nl]∧H o=some (.lst (ps.map V.ref))∧Paired (fun p pc=>H p=some (.lst (pc.map V.str))) ps pcs∧H nl=some (.lst (ns.map V.str))∧ns.length≤6∧Paired (fun pc k=>∃ z r,pc=z :: r∧idxS z ns=some k) pcs ls∧ls.Nodup∧∀ p H',Same H H'→H p=none→H' p=some (.lst (ls.map fun k:Nat=>V.int (k:Int)))→Q (.ref p) H'
theorem ZDt (T:Txt K mg t):FnS P w K mg base 1 "lamps_in" ["pieces","names"] (ZHF):=by
 refine ⟨_,_,T.Zr4.ok Zlq (fun vs H Q E h=>?_) (fun cdv A outer s H vs Q E hr h=>?_),T.Zx0,T.Zr4.kp,T.Zyn⟩
 ·obtain ⟨o,nl,ps,pcs,ns,ls,rfl,ho,hp,hn,h6,hk,nd,q⟩ :=h
  rfl
 obtain ⟨o,nl,ps,pcs,ns,ls,rfl,ho,hp,hn,h6,hk,nd,q⟩ :=h
 have hpl:=Zas hp
 have hkl:=Zas hk
 have hnl:ls.length≤6:=by
  have:∀ k ∈ ls,k < 6:=fun k hm=>by
   obtain ⟨i,hi,e⟩ :=List.getElem_of_mem hm
   obtain ⟨pc,_,z,r,_,hx⟩ :=Zyu hk (i:=i) (b:=k) (by rw [List.getElem?_eq_getElem hi,e])
   have:=(List.getElem?_eq_some_iff.mp (ZqQ hx).1).1
   omega
  have:=ZHl (fun i=>ls.getD i 0) ls.length (List.range 6) (fun i hi=>by
   rw [List.mem_range]
   apply this
   rw [List.getD_eq_getElem?_getD,List.getElem?_eq_getElem hi]
   exact List.getElem_mem hi) (fun i j hij hj e=>by
   rw [List.getD_eq_getElem?_getD,List.getD_eq_getElem?_getD,List.getElem?_eq_getElem (by omega),List.getElem?_eq_getElem hj] at e
   have:=ZGW nd (List.getElem?_eq_getElem (l:=ls) (i:=i) (by omega)) (by rw [List.getElem?_eq_getElem hj]; exact congrArg some e.symm)
   omega)
  simpa using this
 refine ⟨_,(Zac (ss 2 Zlq.nd (Zb0 Zad))
   (Zac (Zb5 PassesOwn.never rfl (ZdK (pv 0)) (sg 3 Zlq.nd)
   (Zac (ss 4 Zlq.nd (ZbE ZaW (pv 3) Zam (fun _ _=>rfl)))
   (Zac (ZbV (PW.pt (ZxD (Zav Zrt (pv 4) (pv 1) (by with_unfolding_all rfl)) (ZoQ (Zav ZwN (Zc8 PySem.F.plainAttrs_list PySem.F.slot_list_index PySem.F.type_list_index Zrh (pv 1) (Zaa (pv 4) Zad)) (pv 2) (by with_unfolding_all rfl)))))
   (Zae Zgi)
   ZaI)
   (Zae (ZaR (Zc8 PySem.F.plainAttrs_list PySem.F.slot_list_append PySem.F.type_list_append ZaK (pv 2) (Zaa (Zc8 PySem.F.plainAttrs_list PySem.F.slot_list_index PySem.F.type_list_index Zrh (pv 1) (Zaa (pv 4) Zad)) Zad)))))))
   (Zae (ZaA (pv 2))))),?_⟩
 walk_at "rd0"
 refine ZfD (by simp) fun a H1 s1 n1 e1=>?_
 walk_at "rd"
 refine seqL (xs:=ps.map V.ref) (fun i σ H'=>Same H H'∧H' a=some (.lst (ZBA (ls.take i)))∧∃ v3 v4,σ=[some (.ref o),some (.ref nl),some (.ref a),v3,v4]) ⟨s1,e1,_,_,rfl⟩ (fun i σ H' _ hp=>SqL.of (hp.1 _ _ ho)) ?_ ?_
 ·rintro i x σ H2 hx ⟨s2,e2,v3,v4,rfl⟩
  obtain ⟨p,rfl,hpi⟩ :=Zcb hx
  obtain ⟨pc,hpc,ep⟩ :=Za1 hp hpi
  obtain ⟨k,hki,z,r,rfl,hix⟩ :=Za1 hk hpc
  obtain ⟨ix1,ix2⟩ :=ZqQ hix
  have hil:=(List.getElem?_eq_some_iff.mp hki).1
  have hk6:=(List.getElem?_eq_some_iff.mp ix1).1
  have ep2:=s2 _ _ ep
  have hn2:=s2 _ _ hn
  walk_at "rd"
  refine ZdP (j:=0) ep2 (v:=.str z) rfl ?_
  walk_at "rd"
  refine ZLQ (.inl hn2) ?_
  rw [decide_eq_true (List.mem_of_getElem? ix1)]
  walk_at "rd"
  refine Zbm rfl ?_
  walk_at "rd"
  refine ⟨tyL hn2,?_⟩
  walk_at "rd"
  refine Zv6 hn2 ix1 ix2 (by omega) ?_
  walk_at "rd"
  refine ZKp e2 ?_
  walk_at "rd"
  refine Zbm (decide_eq_false fun hm=>?_) ?_
  ·obtain ⟨j,hj,ej⟩ :=List.getElem_of_mem hm
   rw [List.length_take] at hj
   rw [List.getElem_take] at ej
   have:=ZGW nd (i:=j) (by rw [List.getElem?_eq_getElem (by omega),ej]) hki
   omega
  walk_at "rd"
  refine ⟨tyL e2,?_⟩
  walk_at "rd"
  refine ⟨tyL hn2,?_⟩
  walk_at "rd"
  refine Zv6 hn2 ix1 ix2 (by omega) ?_
  walk_at "rd"
  refine Za5 e2 (by unfold ZBA; rw [List.length_map,List.length_take]; omega) fun H3 b3 e3=>?_
  walk_at "rd"
  refine ⟨b3.same n1 s2,?_,_,_,rfl⟩
  rw [e3,ZaY hki]
  unfold ZBA
  rw [List.map_append]
  rfl
 ·rintro σ H2 ⟨s2,e2,v3,v4,rfl⟩
  walk_at "rd"
  rw [List.length_map,hpl,hkl,List.take_length] at e2
  exact q a H2 s2 n1 e2
structure MvRd (ns a b:List Str) (v:Fm × List (Nat × Fm)):Prop where
 ws:MvWs ("move" :: a) b
 gd:ZsE ns a=some v.1
 cs:Paired (fun pc (c:Nat × Fm)=>∃ z r,pc=z :: ("is" : Str) :: r∧idxS z ns=some c.1∧ZsE ns r=some c.2) (ZfZ b) v.2
 nd:(v.2.map Prod.fst).Nodup
 pa:∀ z ∈ a,Zxk z
 pb:∀ p ∈ ZfZ b,∀ z ∈ p,Zxk z
def ZI0 (t:Ad):Sp:=fun vs H Q _=>∃ (l nl:Addr) (a b ns:List Str) (v:Fm × List (Nat × Fm)),vs=[.ref l,.ref nl]∧H l=some (.lst ((("move" : Str) :: (a ++ ("then" : Str) :: b)).map V.str))∧H nl=some (.lst (ns.map V.str))∧ns.length≤6∧MvRd ns a b v∧∀ x H',Same H H'→MvW t H' x v→Q (.ref x) H'
theorem ZFq (T:Txt K mg t):FnS P w K mg base 12 "move_in" ["found","names"] ((ZI0 t)):=by
 refine ⟨_,_,T.Zu9.ok Zf1 (fun vs H Q E h=>?_) (fun cdv A outer s H vs Q E hr h=>?_),T.ZAW,T.Zu9.kp,T.ZBx⟩
 ·obtain ⟨l,nl,a,b,ns,v,rfl,hl,hn,h6,M,q⟩ :=h
  rfl
 obtain ⟨l,nl,a,b,ns,v,rfl,hl,hn,h6,M,q⟩ :=h
 have Zo0:=Zug (P:=P) (w:=w) (base:=base) T
 have ZE2:=ZDt (P:=P) (w:=w) (base:=base) T
 have Zij:=Zrs (P:=P) (w:=w) (base:=base) T
 have ZFL:=ZG5 (P:=P) (w:=w) (base:=base) T
 have hln:=M.ws.ln
 have hl':H l=some (.lst (((("move" : Str) :: a) ++ ("then" : Str) :: b).map V.str)):=hl
 refine ⟨_,(Zac (ss 2 Zf1.nd (Zbq Zo0 hr (Zaa (pv 0) Zad)))
   (Zac (ss 3 Zf1.nd (Zbq ZE2 hr (Zaa (pv 2) (Zaa (pv 1) Zad))))
   (Zac (ss 4 Zf1.nd (ZHk Zij hr (Zaa (Zhh ZrZ (pv 0) (Zie Zam) (Zie (Zc8 PySem.F.plainAttrs_list PySem.F.slot_list_index PySem.F.type_list_index Zrh (pv 0) (Zaa Zau Zad)))) (Zaa (pv 1) Zad))))
   (Zac (ss 5 Zf1.nd (Zb0 Zad))
   (Zac (Zb5 PassesOwn.never rfl (ZMv rfl T.B.zip (Zaa (pv 3) (Zaa (pv 2) Zad))) (Zyx rfl (ZeA (sg 6 Zf1.nd) (ZeA (sg 7 Zf1.nd) ZsC)))
   (Zae (ZaR (Zc8 PySem.F.plainAttrs_list PySem.F.slot_list_append PySem.F.type_list_append ZaK (pv 5) (Zaa (Zkd (Zaa (pv 6) (Zaa (ZHk Zij hr (Zaa (Zhh ZrZ (pv 7) (Zie Zam) ZpJ) (Zaa (pv 1) Zad))) Zad))) Zad)))))
   (Zae (ZaA (Zng ZFL hr (Zaa (pv 4) (Zaa (pv 5) Zad)))))))))),?_⟩
 walk_at "rd0"
 refine ⟨l,"move" :: a,b,rfl,hl',M.ws.na,M.ws.ln,fun o ps H1 s1 n1 e1 pp=>?_⟩
 walk_at "rd"
 have hcl:=Zas M.cs
 have hpl:=Zas pp
 refine ⟨o,nl,ps,ZfZ b,ns,v.2.map Prod.fst,rfl,e1,Zah (fun _ _ z=>z.2) pp,s1 _ _ hn,h6,Zyw (fun _ _ ⟨z,r,e,hx,_⟩ =>⟨z,_,e,hx⟩) M.cs,M.nd,fun la H2 s2 n2 e2=>?_⟩
 walk_at "rd"
 refine ⟨tyL ((s1.trans s2) _ _ hl'),?_⟩
 walk_at "rd"
 refine Zv6 ((s1.trans s2) _ _ hl') (ZuT M.ws.na).1 (ZuT M.ws.na).2 (by omega) ?_
 walk_at "rd"
 have ec:cutV (((("move" : Str) :: a) ++ ("then" : Str) :: b).map V.str) (some 1) (some (((("move" : Str) :: a).length:Nat):Int))=a.map V.str:=by
  have:=ZF2 (((("move" : Str) :: a) ++ ("then" : Str) :: b).map V.str) 1 (("move" : Str) :: a).length
  refine this.trans ?_
  rw [← List.map_drop,← List.map_take]
  congr 1
  simp
 refine Zy6 (SqL.of ((s1.trans s2) _ _ hl')) ec fun l3 H3 s3 n3 e3=>?_
 have w3:=s1.trans (s2.trans s3)
 walk_at "rd"
 refine ⟨l3,nl,a,ns,rfl,e3,w3 _ _ hn,by omega,by simp only [List.length_cons] at hln; omega,M.pa,fun h=>(by rw [M.gd] at h; cases h),fun f hf g H4 s4 fE=>?_⟩
 obtain rfl:v.1=f:=Option.some.inj (M.gd.symm.trans hf)
 walk_at "rd"
 refine ZfD (by simp) fun cl H5 s5 n5 e5=>?_
 walk_at "rd"
 have w5:=w3.trans (s4.trans s5)
 have e2':=(s3.trans (s4.trans s5)) _ _ e2
 have e1':=(s2.trans (s3.trans (s4.trans s5))) _ _ e1
 have n5':H cl=none:=(w3.trans s4).free n5
 have nla:la ≠ cl:=Zaf ((s3.trans s4) _ _ e2) n5
 have no:o ≠ cl:=Zaf ((s2.trans (s3.trans s4)) _ _ e1) n5
 have nps:∀ a ∈ ps,a ≠ cl:=fun a ha=>by
  obtain ⟨pc,_,e⟩ :=ZsB pp a ha
  exact Zaf ((s2.trans (s3.trans s4)) _ _ e) n5
 have hpc:=ZHd b
 refine ⟨la,o,_,_,rfl,SqL.of e2',SqL.of e1',?_⟩
 refine ZNu v.2.length (by rw [List.length_map,List.length_map,List.length_map]; omega) (fun i σ H'=>Same H H'∧FmE t H' g v.1∧H' la=some (.lst ((v.2.map Prod.fst).map fun k:Nat=>V.int (k:Int)))∧H' o=some (.lst (ps.map V.ref))∧Paired (fun p pc=>H' p=some (.lst (pc.map V.str))) ps (ZfZ b)∧(∃ hs,H' cl=some (.lst (hs.map V.ref))∧Paired (ChW t H') hs (v.2.take i))∧∃ v6 v7,σ=[some (.ref l),some (.ref nl),some (.ref o),some (.ref la),some (.ref g),some (.ref cl),v6,v7]) ⟨w5,fE.same s5,e2',e1',Zah (fun _ _ z=>(s2.trans (s3.trans (s4.trans s5))) _ _ z.2) pp,⟨[],e5,.nil⟩,_,_,rfl⟩ (fun i σ H' _ hp=>⟨SqL.of hp.2.2.1,SqL.of hp.2.2.2.1⟩) ?_ ?_
 ·rintro i x y T' σ H6 H7 hx hy ⟨s6,f6,e6,o6,p6,⟨hs,c6,d6⟩,v6,v7,rfl⟩ s7 n7 eT
  obtain ⟨p,rfl,hpi⟩ :=Zcb hy
  obtain ⟨pc,hpc,ep⟩ :=Za1 p6 hpi
  obtain ⟨c,hci,z,r,rfl,hix,hrd⟩ :=Za1 M.cs hpc
  have ex:x=.int (c.1:Int):=by
   rw [List.getElem?_map,List.getElem?_map,hci] at hx
   exact (Option.some.inj hx).symm
  subst ex
  have hil:=(List.getElem?_eq_some_iff.mp hci).1
  have hmem:=List.mem_of_getElem? hpc
  have hle:=ZEE b _ hmem
  simp only [List.length_cons] at hle hln
  have hcl':=c6
  refine ZFc eT ?_
  walk_at "rd"
  refine ⟨tyL (s7 _ _ c6),?_⟩
  walk_at "rd"
  refine Zy6 (SqL.of (s7 _ _ ep)) (ZnL (k:=2) (by simp)) fun l8 H8 s8 n8 e8=>?_
  walk_at "rd"
  have w8:=s7.trans s8
  refine ⟨l8,nl,r,ns,rfl,e8,(s6.trans w8) _ _ hn,by omega,by omega,fun z hz=>M.pb _ hmem z (List.mem_cons_of_mem _ (List.mem_cons_of_mem _ hz)),fun h=>(by rw [hrd] at h; cases h),fun f hf g9 H9 s9 fE9=>?_⟩
  obtain rfl:c.2=f:=Option.some.inj (hrd.symm.trans hf)
  walk_at "rd"
  refine Zxp (by simp) fun tp H10 s10 n10 e10=>?_
  walk_at "rd"
  have w10:=w8.trans (s9.trans s10)
  have c10:=w10 _ _ c6
  have hsl:=Zas d6
  rw [List.length_take] at hsl
  have hsl2:hs.length≤v.2.length:=by rw [hsl]; exact Nat.min_le_right _ _
  refine Za5 c10 (by rw [List.length_map]; omega) fun H11 b11 e11=>?_
  walk_at "rd"
  have x11:=b11.ext c10
  refine ⟨b11.same n5' (s6.trans w10),(f6.ext (Ext.of w10)).ext x11,b11 _ _ nla (w10 _ _ e6),b11 _ _ no (w10 _ _ o6),Zlm p6 fun a pc ha e=>b11 _ _ (nps a ha) (w10 _ _ e),⟨hs ++ [tp],by rw [e11,List.map_append]; rfl,?_⟩,_,_,rfl⟩
  ·rw [ZaY hci]
   exact ZaF (Zah (fun _ _ z=>(z.ext (Ext.of w10)).ext x11) d6) (.cons ⟨g9,x11 _ _ e10 (fun _ z=>nomatch z),(fE9.ext (Ext.of s10)).ext x11⟩ .nil)
 ·rintro σ H6 ⟨s6,f6,e6,o6,p6,⟨hs,c6,d6⟩,v6,v7,rfl⟩
  walk_at "rd"
  rw [List.take_length] at d6
  refine ZGs c6 f6 d6 fun x H7 s7 n7 mv=>?_
  exact q x H7 (s6.trans s7) mv
inductive Ent
 | st (f:Fm)
 | bd (f:Fm)
 | mv (v:Fm × List (Nat × Fm))
inductive EntW (ns:List Str):List Str→Ent→Prop
 | st {r:List Str} {f:Fm}:ZsE ns r=some f→(∀ z ∈ r,Zxk z)→r.length≤90000→EntW ns ("start" :: r) (.st f)
 | bd {r:List Str} {f:Fm}:ZsE ns r=some f→(∀ z ∈ r,Zxk z)→r.length≤90000→EntW ns ("bad" :: r) (.bd f)
 | mv {a b:List Str} {v:Fm × List (Nat × Fm)}:MvRd ns a b v→EntW ns ("move" :: (a ++ ("then" : Str) :: b)) (.mv v)
def ZNd (t:Ad) (H:Hp) (x:Addr):Ent→Prop
 | .st f=>FmE t H x f
 | .bd f=>FmE t H x f
 | .mv v=>MvW t H x v
def ZK3 (t:Ad):Sp:=fun vs H Q _=>∃ (l nl:Addr) (ws ns:List Str) (e:Ent),vs=[.ref l,.ref nl]∧H l=some (.lst (ws.map V.str))∧H nl=some (.lst (ns.map V.str))∧ns.length≤6∧EntW ns ws e∧∀ x H',Same H H'→ZNd t H' x e→Q (.ref x) H'
theorem ZDv (T:Txt K mg t):FnS P w K mg base 14 "thing_in" ["found","names"] ((ZK3 t)):=by
 refine ⟨_,_,T.Zr6.ok ZDC (fun vs H Q E h=>?_) (fun cdv A outer s H vs Q E hr h=>?_),T.Zx2,T.Zr6.kp,T.Zyp⟩
 ·obtain ⟨l,nl,ws,ns,e,rfl,hl,hn,h6,E0,q⟩ :=h
  rfl
 obtain ⟨l,nl,ws,ns,e,rfl,hl,hn,h6,E0,q⟩ :=h
 have ZFI:=ZFq (P:=P) (w:=w) (base:=base) T
 have Zij:=Zrs (P:=P) (w:=w) (base:=base) T
 refine ⟨_,(Zac (ZbV (Zav (ZbZ hr.units) (ZbE ZaW (pv 0) Zam (fun _ _=>rfl)) Zau (ZaQ _))
   (Zae (ZaA (Zbq ZFI hr (Zaa (pv 0) (Zaa (pv 1) Zad)))))
   ZaI)
   (Zae (ZaA (ZHk Zij hr (Zaa (Zhh ZrZ (pv 0) (Zie Zam) ZpJ) (Zaa (pv 1) Zad)))))),?_⟩
 walk_at "rd0"
 cases E0 with
 | st h1 h2 h3=>
  refine ZdP (j:=0) hl (v:=.str "start") rfl ?_
  walk_at "rd"
  refine Zbm (by decide) ?_
  walk_at "rd"
  refine Zy6 (SqL.of hl) (ZnL (k:=1) (by simp)) fun l2 H1 s1 n1 e1=>?_
  walk_at "rd"
  refine ⟨l2,nl,_,ns,rfl,e1,s1 _ _ hn,by omega,by omega,h2,fun h=>(by rw [h1] at h; cases h),fun f' hf y H2 s2 fE=>?_⟩
  obtain rfl:=Option.some.inj (h1.symm.trans hf)
  exact q y H2 (s1.trans s2) fE
 | bd h1 h2 h3=>
  refine ZdP (j:=0) hl (v:=.str "bad") rfl ?_
  walk_at "rd"
  refine Zbm (by decide) ?_
  walk_at "rd"
  refine Zy6 (SqL.of hl) (ZnL (k:=1) (by simp)) fun l2 H1 s1 n1 e1=>?_
  walk_at "rd"
  refine ⟨l2,nl,_,ns,rfl,e1,s1 _ _ hn,by omega,by omega,h2,fun h=>(by rw [h1] at h; cases h),fun f' hf y H2 s2 fE=>?_⟩
  obtain rfl:=Option.some.inj (h1.symm.trans hf)
  exact q y H2 (s1.trans s2) fE
 | mv M=>
  refine ZdP (j:=0) hl (v:=.str "move") rfl ?_
  walk_at "rd"
  refine Zgm (by decide) ?_
  walk_at "rd"
  exact ⟨l,nl,_,_,ns,_,rfl,hl,hn,h6,M,fun x H1 s1 mv=>q x H1 s1 mv⟩
structure LmpW (ns:List Str):Prop where
 n1:1≤ns.length
 n6:ns.length≤6
 no:∀ z ∈ ns,z ∉ noNm∧z.length≤8
 nd:ns.Nodup
def LnW (z:Str) (ws:List Str):Prop:=Asc z∧z.length≤16000∧okW z=true∧Txt.words (pad z)=ws∧ws ≠ []
def ZKY:Sp:=fun vs H Q _=>∃ (z:Str) (ns:List Str),vs=[.str z]∧LnW z ("lamps" :: ns)∧LmpW ns∧∀ p H',Same H H'→H p=none→H' p=some (.lst (ns.map V.str))→Q (.ref p) H'
theorem Zsy (T:Txt K mg t):FnS P w K mg base 9 "names_of_first" ["line"] (ZKY):=by
 refine ⟨_,_,T.ZgS.ok Zkg (fun vs H Q E h=>?_) (fun cdv A outer s H vs Q E hr h=>?_),T.Zly,T.ZgS.kp,T.ZlK⟩
 ·obtain ⟨z,ns,rfl,⟨ha,hz,hok,hw,hne⟩,L,q⟩ :=h
  rfl
 obtain ⟨z,ns,rfl,⟨ha,hz,hok,hw,hne⟩,L,q⟩ :=h
 have Zhm:=ZlL (P:=P) (w:=w) (base:=base) T
 have ZlY:=Zrr (P:=P) (w:=w) (base:=base) T
 have ZE3:=ZDu (P:=P) (w:=w) (base:=base) T
 refine ⟨_,(Zac (ss 1 Zkg.nd (Zbq Zhm hr (Zaa (pv 0) Zad)))
   (Zac (ZbV (Zav (Zuh hr.units) (ZbE ZaW (pv 1) Zam (fun _ _=>rfl)) Zau (ZaQ _))
   (Zae Zgi)
   ZaI)
   (Zac (ZaR (Zbq ZlY hr (Zaa (pv 1) Zad)))
   (Zae (ZaA (Zbq ZE3 hr (Zaa (pv 1) Zad))))))),?_⟩
 walk_at "rd0"
 refine ⟨z,rfl,ha,hz,hok,by rw [hw]; exact hne,fun p H1 s1 n1 e1=>?_⟩
 rw [hw] at e1
 walk_at "rd"
 refine ZdP (j:=0) e1 (v:=.str "lamps") rfl ?_
 walk_at "rd"
 refine Zbm (by decide) ?_
 walk_at "rd"
 refine ⟨p,"lamps",ns,rfl,e1,fun _=>⟨L.n1,L.n6⟩,fun h=>absurd h (by decide),fun H2 s2=>?_⟩
 walk_at "rd"
 refine ⟨p,"lamps",ns,rfl,s2 _ _ e1,L.n6,L.no,L.nd,fun p3 H3 s3 n3 e3=>?_⟩
 exact q p3 H3 (s1.trans (s2.trans s3)) ((s1.trans s2).free n3) e3
def stE (es:List Ent):List Fm:=es.filterMap fun | .st f=>some f | _=>none
def bdE (es:List Ent):List Fm:=es.filterMap fun | .bd f=>some f | _=>none
def mvE (es:List Ent):List (Fm × List (Nat × Fm)):=es.filterMap fun | .mv v=>some v | _=>none
def ZK2 (t:Ad):Sp:=fun vs H Q _=>∃ (l:Addr) (z0:Str) (zs:List Str) (ns:List Str) (es:List Ent),vs=[.ref l]∧H l=some (.lst ((z0 :: zs).map V.str))∧LnW z0 ("lamps" :: ns)∧LmpW ns∧Paired (fun z e=>∃ ws,LnW z ws∧EntW ns ws e) zs es∧zs.length≤1000∧∀ x H',Same H H'→MacW t H' x ns (stE es) (bdE es) (mvE es)→Q (.ref x) H'
def ZKX:List Str:=["start","bad","move"]
def thK (as:List Addr):List (Key × V):=List.zipWith (fun s a=>((Sum.inr s:Key),V.ref a)) ZKX as
structure MI (t:Ad) (H H':Hp) (d s b m:Addr) (ps pb pv:List Addr) (es:List Ent):Prop where
 sm:Same H H'
 ed:H' d=some (.dK (thK [s,b,m]))
 e1:H' s=some (.lst (ps.map V.ref))
 e2:H' b=some (.lst (pb.map V.ref))
 e3:H' m=some (.lst (pv.map V.ref))
 f1:H s=none
 f2:H b=none
 f3:H m=none
 d1:s ≠ b
 d2:s ≠ m
 d3:b ≠ m
 p1:Paired (FmE t H') ps (stE es)
 p2:Paired (FmE t H') pb (bdE es)
 p3:Paired (MvW t H') pv (mvE es)
theorem MI.same {H H' H'':Hp} {d s b m:Addr} {ps pb pv:List Addr} {es:List Ent} (I:MI t H H' d s b m ps pb pv es) (x:Same H' H''):MI t H H'' d s b m ps pb pv es:=
 ⟨I.sm.trans x,x _ _ I.ed,x _ _ I.e1,x _ _ I.e2,x _ _ I.e3,I.f1,I.f2,I.f3,I.d1,I.d2,I.d3,Zah (fun _ _ z=>z.ext (Ext.of x)) I.p1,Zah (fun _ _ z=>z.ext (Ext.of x)) I.p2,Zah (fun _ _ z=>z.ext (Ext.of x)) I.p3⟩
theorem ZAs (es:List Ent) (e:Ent):stE (es ++ [e])=stE es ++ stE [e]:=List.filterMap_append ..
theorem ZyR (es:List Ent) (e:Ent):bdE (es ++ [e])=bdE es ++ bdE [e]:=List.filterMap_append ..
theorem Zzh (es:List Ent) (e:Ent):mvE (es ++ [e])=mvE es ++ mvE [e]:=List.filterMap_append ..
theorem MI.ne {H H':Hp} {d s b m:Addr} {ps pb pv:List Addr} {es:List Ent} (I:MI t H H' d s b m ps pb pv es):d ≠ s∧d ≠ b∧d ≠ m:=⟨Zdg I.ed I.e1 (fun z=>nomatch z),Zdg I.ed I.e2 (fun z=>nomatch z),Zdg I.ed I.e3 (fun z=>nomatch z)⟩
theorem MI.st {H H' H'':Hp} {d s b m y:Addr} {ps pb pv:List Addr} {es:List Ent} {f:Fm} (I:MI t H H' d s b m ps pb pv es) (h:FmE t H' y f) (c:But s H' H'') (e:H'' s=some (.lst (ps.map V.ref ++ [V.ref y]))):MI t H H'' d s b m (ps ++ [y]) pb pv (es ++ [.st f]):=by
 have x:=c.ext I.e1
 refine ⟨c.same I.f1 I.sm,c _ _ I.ne.1 I.ed,by rw [e,List.map_append]; rfl,c _ _ I.d1.symm I.e2,c _ _ I.d2.symm I.e3,I.f1,I.f2,I.f3,I.d1,I.d2,I.d3,?_,?_,?_⟩
 ·rw [ZAs]; exact ZaF (Zah (fun _ _ z=>z.ext x) I.p1) (.cons (h.ext x) .nil)
 ·rw [ZyR]; exact (List.append_nil (bdE es)).symm ▸ Zah (fun _ _ z=>z.ext x) I.p2
 ·rw [Zzh]; exact (List.append_nil (mvE es)).symm ▸ Zah (fun _ _ z=>z.ext x) I.p3
theorem MI.bd {H H' H'':Hp} {d s b m y:Addr} {ps pb pv:List Addr} {es:List Ent} {f:Fm} (I:MI t H H' d s b m ps pb pv es) (h:FmE t H' y f) (c:But b H' H'') (e:H'' b=some (.lst (pb.map V.ref ++ [V.ref y]))):MI t H H'' d s b m ps (pb ++ [y]) pv (es ++ [.bd f]):=by
 have x:=c.ext I.e2
 refine ⟨c.same I.f2 I.sm,c _ _ I.ne.2.1 I.ed,c _ _ I.d1 I.e1,by rw [e,List.map_append]; rfl,c _ _ I.d3.symm I.e3,I.f1,I.f2,I.f3,I.d1,I.d2,I.d3,?_,?_,?_⟩
 ·rw [ZAs]; exact (List.append_nil (stE es)).symm ▸ Zah (fun _ _ z=>z.ext x) I.p1
 ·rw [ZyR]; exact ZaF (Zah (fun _ _ z=>z.ext x) I.p2) (.cons (h.ext x) .nil)
 ·rw [Zzh]; exact (List.append_nil (mvE es)).symm ▸ Zah (fun _ _ z=>z.ext x) I.p3
theorem MI.mv {H H' H'':Hp} {d s b m y:Addr} {ps pb pv:List Addr} {es:List Ent} {v:Fm × List (Nat × Fm)} (I:MI t H H' d s b m ps pb pv es) (h:MvW t H' y v) (c:But m H' H'') (e:H'' m=some (.lst (pv.map V.ref ++ [V.ref y]))):MI t H H'' d s b m ps pb (pv ++ [y]) (es ++ [.mv v]):=by
 have x:=c.ext I.e3
 refine ⟨c.same I.f3 I.sm,c _ _ I.ne.2.2 I.ed,c _ _ I.d2 I.e1,c _ _ I.d3 I.e2,by rw [e,List.map_append]; rfl,I.f1,I.f2,I.f3,I.d1,I.d2,I.d3,?_,?_,?_⟩
 ·rw [ZAs]; exact (List.append_nil (stE es)).symm ▸ Zah (fun _ _ z=>z.ext x) I.p1
 ·rw [ZyR]; exact (List.append_nil (bdE es)).symm ▸ Zah (fun _ _ z=>z.ext x) I.p2
 ·rw [Zzh]; exact ZaF (Zah (fun _ _ z=>z.ext x) I.p3) (.cons (h.ext x) .nil)
theorem EntW.hd {ns ws:List Str} {e:Ent} (h:EntW ns ws e):∃ x r,ws=x :: r∧x ∈ ZKX∧x ≠ "lamps"∧(x = "move"→∃ a b,r=a ++ ("then" : Str) :: b∧MvWs ("move" :: a) b):=by
 cases h with
 | st _ _ _=>exact ⟨_,_,rfl,by decide,by decide,fun h=>absurd h (by decide)⟩
 | bd _ _ _=>exact ⟨_,_,rfl,by decide,by decide,fun h=>absurd h (by decide)⟩
 | mv M=>exact ⟨_,_,rfl,by decide,by decide,fun _=>⟨_,_,rfl,M.ws⟩⟩
theorem ZKx {σ:St} {H:Hp} {Q:VK} (k:∀ d H',Same H H'→H d=none→H' d=some (.dK [])→Q (.ref d) H'):ZJ3 σ H Q:=fun d hd=>k d _ (ZdU hd _) hd Zaz
theorem ZLE {σ:St} {H:Hp} {td ty tv:TE} {D:Ends} (h:tv σ H fun v H1=>td σ H1 fun x H2=>ty σ H2 fun y H3=>∃ a H4,x=.ref a∧DPut H3 a y v H4∧D.nx σ H4):ZMH td ty tv D σ H:=h
theorem ZMW (es:List Ent):(stE es).length≤es.length∧(bdE es).length≤es.length∧(mvE es).length≤es.length:=⟨List.length_filterMap_le ..,List.length_filterMap_le ..,List.length_filterMap_le ..⟩
theorem ZzP (T:Txt K mg t):FnS P w K mg base 16 "machine_of" ["lines"] ((ZK2 t)):=by
 refine ⟨_,_,T.ZlX.ok ZdV (fun vs H Q E h=>?_) (fun cdv A outer s H vs Q E hr h=>?_),T.Ztf,T.ZlX.kp,T.Zue⟩
 ·obtain ⟨l,z0,zs,ns,es,rfl,hl,L0,L,pe,hz,q⟩ :=h
  rfl
 obtain ⟨l,z0,zs,ns,es,rfl,hl,L0,L,pe,hz,q⟩ :=h
 have ZuA:=Zsy (P:=P) (w:=w) (base:=base) T
 have Zhm:=ZlL (P:=P) (w:=w) (base:=base) T
 have ZlY:=Zrr (P:=P) (w:=w) (base:=base) T
 have ZE4:=ZDv (P:=P) (w:=w) (base:=base) T
 have Zvd:=Zyr (P:=P) (w:=w) (base:=base) T
 refine ⟨_,(Zac (ZbV (Zav (ZbZ hr.units) (Zbr Zbl rfl T.B.len ZfG (Zaa (pv 0) Zad)) Zam (ZaQ _))
   (Zae Zgi)
   ZaI)
   (Zac (ss 1 ZdV.nd (Zbq ZuA hr (Zaa (ZbE ZaW (pv 0) Zam (fun _ _=>rfl)) Zad)))
   (Zac (ss 2 ZdV.nd ZIL)
   (Zac (Zb5 PassesOwn.never rfl (ZdK (ZxC rfl T.g_SORTS)) (sg 3 ZdV.nd)
   (Zae (ZKS (Nat.lt_of_le_of_lt (Nat.add_le_add_left (by decide) _) hr.units) (pv 2) (pv 3) (Zb0 Zad) rfl)))
   (Zac (Zb5 PassesOwn.never rfl (ZdK (Zhh ZrZ (pv 0) (Zie Zam) ZpJ)) (sg 4 ZdV.nd)
   (Zac (ss 5 ZdV.nd (Zbq Zhm hr (Zaa (pv 4) Zad)))
   (Zac (ZbV (Zav Zrt (ZbE ZaW (pv 5) Zam (fun _ _=>rfl)) (ZxC rfl T.g_SORTS) (by with_unfolding_all rfl))
   (Zae Zgi)
   ZaI)
   (Zac (ZaR (Zbq ZlY hr (Zaa (pv 5) Zad)))
   (Zae (ZaR (Zc8 PySem.F.plainAttrs_list PySem.F.slot_list_append PySem.F.type_list_append ZaK (ZzQ (Nat.lt_of_le_of_lt (Nat.add_le_add_left (by decide) _) hr.units) (pv 2) (ZbE ZaW (pv 5) Zam (fun _ _=>rfl)) (fun _ _=>rfl)) (Zaa (Zbq ZE4 hr (Zaa (pv 5) (Zaa (pv 1) Zad))) Zad))))))))
   (Zae (ZaA (Zng Zvd hr (Zaa (pv 1) (Zaa (ZzQ (Nat.lt_of_le_of_lt (Nat.add_le_add_left (by decide) _) hr.units) (pv 2) Zau (fun _ _=>rfl)) (Zaa (ZzQ (Nat.lt_of_le_of_lt (Nat.add_le_add_left (by decide) _) hr.units) (pv 2) Zau (fun _ _=>rfl)) (Zaa (ZzQ (Nat.lt_of_le_of_lt (Nat.add_le_add_left (by decide) _) hr.units) (pv 2) Zau (fun _ _=>rfl)) Zad)))))))))))),?_⟩
 walk_at "rd0"
 rw [List.length_map]
 refine Zbm (decide_eq_false (by rw [List.length_cons]; omega)) ?_
 walk_at "rd"
 refine ZdP (j:=0) hl (v:=.str z0) rfl ?_
 walk_at "rd"
 refine ⟨z0,ns,rfl,L0,L,fun nl H1 s1 n1 e1=>?_⟩
 walk_at "rd"
 refine ZKx fun d H2 s2 n2 e2=>?_
 walk_at "rd"
 have nd:H d=none:=s1.free n2
 have w2:=s1.trans s2
 refine seqT (xs:=ZKX.map V.str) (fun i σ H'=>∃ as:List Addr,as.length=i∧Same H1 H'∧H' d=some (.dK (thK as))∧(∀ a ∈ as,H1 a=none∧H' a=some (.lst []))∧as.Nodup∧∃ v3,σ=[some (.ref l),some (.ref nl),some (.ref d),v3,none,none]) ⟨[],rfl,s2,e2,(fun a ha=>by cases ha),List.nodup_nil,_,rfl⟩ (fun i σ H' _ _=>T.q_SORTS H') ?_ ?_
 ·rintro i x σ H3 hx ⟨as,hal,s3,e3,ha,hnd,v3,rfl⟩
  obtain ⟨z,rfl,hz'⟩ :=ZuQ hx
  walk_at "rd"
  refine ZLE ?_
  walk_at "rd"
  refine ZfD (by simp) fun a H4 s4 n4 e4=>?_
  walk_at "rd"
  have hi3:i < 3:=(List.getElem?_eq_some_iff.mp hz').1
  have kv:valV (thK as) (Sum.inr z:Key)=none∧putK (thK as) (Sum.inr z:Key) (V.ref a)=thK (as ++ [a])∧(thK as).length≤3:=by
   match as,i,hal,hz' with
   | [],0,_,hz'=>cases hz'; exact ⟨rfl,rfl,by decide⟩
   | [a1],1,_,hz'=>cases hz'; exact ⟨rfl,rfl,by show 1≤3; decide⟩
   | [a1,a2],2,_,hz'=>cases hz'; exact ⟨rfl,rfl,by show 2≤3; decide⟩
   | _ :: _ :: _ :: _,i,hal,_=>simp only [List.length_cons] at hal; omega
  have na:H1 a=none:=s3.free n4
  have nad:a ≠ d:=fun e=>by rw [e] at n4; rw [n4] at e3; cases e3
  refine ⟨d,_,rfl,DPut.k (k:=Sum.inr z) (s4 _ _ e3) (Zbn (by omega)),?_⟩
  rw [kv.2.1]
  have b5:But d H4 (upd H4 d (.dK (thK (as ++ [a])))):=Zpd
  refine ⟨as ++ [a],by rw [List.length_append,hal]; rfl,b5.same n2 (s3.trans s4),Zaz,fun y hy=>?_,?_,_,rfl⟩
  ·rcases List.mem_append.mp hy with hy | hy
   ·obtain ⟨h1,h2⟩ :=ha y hy
    exact ⟨h1,b5 _ _ (Zdg h2 e3 (fun z=>nomatch z)) (s4 _ _ h2)⟩
   ·rw [List.mem_singleton.mp hy]
    exact ⟨na,b5 _ _ nad e4⟩
  ·rw [List.nodup_append]
   refine ⟨hnd,by simp,fun y hy y' hy' e=>?_⟩
   rw [List.mem_singleton.mp hy'] at e
   rw [e] at hy
   rw [(ha a hy).2] at n4
   cases n4
 rintro σ H3 ⟨as,hal,s3,e3,ha,hnd,v3,rfl⟩
 obtain ⟨s,b,m,rfl⟩ : ∃ s b m,as=[s,b,m]:=by
  match as,hal with
  | [s,b,m],_=>exact ⟨s,b,m,rfl⟩
 simp only [List.nodup_cons,List.mem_cons,List.not_mem_nil,or_false,not_or,List.nodup_nil,not_false_eq_true,and_true] at hnd
 have w3:=s1.trans s3
 have I0:MI t H H3 d s b m [] [] [] []:=⟨w3,e3,(ha s (by simp)).2,(ha b (by simp)).2,(ha m (by simp)).2,s1.free (ha s (by simp)).1,s1.free (ha b (by simp)).1,s1.free (ha m (by simp)).1,hnd.1.1,hnd.1.2,hnd.2,.nil,.nil,.nil⟩
 have nlm:nl ≠ s∧nl ≠ b∧nl ≠ m:=⟨Zaf e1 (ha s (by simp)).1,Zaf e1 (ha b (by simp)).1,Zaf e1 (ha m (by simp)).1⟩
 have el3:=s3 _ _ e1
 clear ha e3 e2 hnd
 walk_at "rd"
 refine Zy6 (SqL.of (w3 _ _ hl)) (ZnL (k:=1) (by simp)) fun tl H4 s4 n4 e4=>?_
 have e4:H4 tl=some (.lst (zs.map V.str)):=e4
 walk_at "rd"
 have hes:=Zas pe
 have ntl:tl ≠ s∧tl ≠ b∧tl ≠ m:=⟨(Zaf I0.e1 n4).symm,(Zaf I0.e2 n4).symm,(Zaf I0.e3 n4).symm⟩
 refine seqL (xs:=zs.map V.str) (fun i σ H'=>∃ ps pb pv v4 v5,MI t H H' d s b m ps pb pv (es.take i)∧H' nl=some (.lst (ns.map V.str))∧H' tl=some (.lst (zs.map V.str))∧σ=[some (.ref l),some (.ref nl),some (.ref d),v3,v4,v5]) ⟨[],[],[],_,_,I0.same s4,s4 _ _ el3,e4,rfl⟩ (fun i σ H' _ hp=>by obtain ⟨_,_,_,_,_,_,_,h,_⟩ :=hp; exact SqL.of h) ?_ ?_
 ·rintro i x σ H5 hx ⟨ps,pb,pv,v4,v5,I,en5,et5,rfl⟩
  obtain ⟨z,rfl,hz'⟩ :=ZuQ hx
  obtain ⟨e,hei,ws,⟨ha,hzl,hok,hw,hne⟩,E1⟩ :=Za1 pe hz'
  obtain ⟨x,r,rfl,hx1,hx2,hx3⟩ :=E1.hd
  walk_at "rd"
  refine ⟨z,rfl,ha,hzl,hok,by rw [hw]; exact hne,fun p H6 s6 n6 e6=>?_⟩
  rw [hw] at e6
  walk_at "rd"
  refine ZdP (j:=0) e6 (v:=.str x) rfl ?_
  walk_at "rd"
  refine ZLR (T.q_SORTS H6) ?_
  have hx1':x ∈ ([Str.ofString "start",Str.ofString "bad",Str.ofString "move"]:List Str):=hx1
  rw [decide_eq_true hx1']
  walk_at "rd"
  refine Zbm rfl ?_
  walk_at "rd"
  refine ⟨p,x,r,rfl,e6,fun h=>absurd h hx2,hx3,fun H7 s7=>?_⟩
  walk_at "rd"
  have I7:=I.same (s6.trans s7)
  have e7:=s7 _ _ e6
  have en7:=(s6.trans s7) _ _ en5
  have et7:=(s6.trans s7) _ _ et5
  have hil:=(List.getElem?_eq_some_iff.mp hei).1
  have hst:=ZMW (es.take i)
  rw [List.length_take] at hst
  cases E1 with
  | st h1 h2 h3=>
   refine ZdP (j:=0) e7 (v:=.str "start") rfl ?_
   walk_at "rd"
   refine ⟨d,.ref s,rfl,DGet.k (k:=Sum.inr "start") I7.ed,?_⟩
   walk_at "rd"
   refine ⟨tyL I7.e1,?_⟩
   walk_at "rd"
   refine ⟨p,nl,_,ns,_,rfl,e7,en7,L.n6,.st h1 h2 h3,fun y H8 s8 hy=>?_⟩
   walk_at "rd"
   have I8:=I7.same s8
   have hln:=Zas I8.p1
   refine Za5 I8.e1 (by rw [List.length_map]; omega) fun H9 b9 e9=>?_
   walk_at "rd"
   refine ⟨ps ++ [y],pb,pv,_,_,?_,b9 _ _ nlm.1 (s8 _ _ en7),b9 _ _ ntl.1 (s8 _ _ et7),rfl⟩
   rw [ZaY hei]
   exact I8.st hy b9 e9
  | bd h1 h2 h3=>
   refine ZdP (j:=0) e7 (v:=.str "bad") rfl ?_
   walk_at "rd"
   refine ⟨d,.ref b,rfl,DGet.k (k:=Sum.inr "bad") I7.ed,?_⟩
   walk_at "rd"
   refine ⟨tyL I7.e2,?_⟩
   walk_at "rd"
   refine ⟨p,nl,_,ns,_,rfl,e7,en7,L.n6,.bd h1 h2 h3,fun y H8 s8 hy=>?_⟩
   walk_at "rd"
   have I8:=I7.same s8
   have hln:=Zas I8.p2
   refine Za5 I8.e2 (by rw [List.length_map]; omega) fun H9 b9 e9=>?_
   walk_at "rd"
   refine ⟨ps,pb ++ [y],pv,_,_,?_,b9 _ _ nlm.2.1 (s8 _ _ en7),b9 _ _ ntl.2.1 (s8 _ _ et7),rfl⟩
   rw [ZaY hei]
   exact I8.bd hy b9 e9
  | mv M=>
   refine ZdP (j:=0) e7 (v:=.str "move") rfl ?_
   walk_at "rd"
   refine ⟨d,.ref m,rfl,DGet.k (k:=Sum.inr "move") I7.ed,?_⟩
   walk_at "rd"
   refine ⟨tyL I7.e3,?_⟩
   walk_at "rd"
   refine ⟨p,nl,_,ns,_,rfl,e7,en7,L.n6,.mv M,fun y H8 s8 hy=>?_⟩
   walk_at "rd"
   have I8:=I7.same s8
   have hln:=Zas I8.p3
   refine Za5 I8.e3 (by rw [List.length_map]; omega) fun H9 b9 e9=>?_
   walk_at "rd"
   refine ⟨ps,pb,pv ++ [y],_,_,?_,b9 _ _ nlm.2.2 (s8 _ _ en7),b9 _ _ ntl.2.2 (s8 _ _ et7),rfl⟩
   rw [ZaY hei]
   exact I8.mv hy b9 e9
 ·rintro σ H5 ⟨ps,pb,pv,v4,v5,I,en5,et5,rfl⟩
  rw [List.length_map,hes,List.take_length] at I
  walk_at "rd"
  refine ⟨d,.ref s,rfl,DGet.k (k:=Sum.inr "start") I.ed,?_⟩
  walk_at "rd"
  refine ⟨d,.ref b,rfl,DGet.k (k:=Sum.inr "bad") I.ed,?_⟩
  walk_at "rd"
  refine ⟨d,.ref m,rfl,DGet.k (k:=Sum.inr "move") I.ed,?_⟩
  walk_at "rd"
  exact Zyf en5 I.e1 I.e2 I.e3 I.p1 I.p2 I.p3 fun x H6 s6 _ M=>q x H6 (I.sm.trans s6) M
end
unseal PE PA PS PSs
def okS (t:Ad) (ns:List Str) (f:Fm):Prop:=(∀ H p,FmE t H p f→FmAt t H 61 p f)∧f.low ns.length=true∧fWt f≤100
def ZcA (ns:List Str) (c:Nat × Fm):Str:=ns.getD c.1 Str.empty ++ " is " ++ ZaJ ns c.2
def shM (ns:List Str) (v:Fm × List (Nat × Fm)):Str:=("move " : Str) ++ ZaJ ns v.1 ++ " then " ++ Txt.join ", " (v.2.map (ZcA ns))
structure okM (t:Ad) (ns:List Str) (v:Fm × List (Nat × Fm)):Prop where
 gd:okS t ns v.1
 cs:∀ c ∈ v.2,okS t ns c.2∧c.1 < ns.length
 ln:v.2.length≤6
def Zym (ns:List Str) (ss bs:List Fm) (vs:List (Fm × List (Nat × Fm))):List Str:=[("lamps " : Str) ++ Txt.join " " ns] ++ ss.map (fun f=>("start " : Str) ++ ZaJ ns f) ++ bs.map (fun f=>("bad " : Str) ++ ZaJ ns f) ++ vs.map (shM ns)
theorem Zy7 (z:Str) (ts:List Str):(Txt.join z ts).length≤(ts.map (·.length)).sum + ts.length * z.length:=by
 show (Builtin.Str.glued _ _).length≤_
 rw [StrLaws.glued_eq_join]
 exact StrLaws.join_length_le _ _
theorem ZAt {B:Nat}:∀ {zs:List Str},(∀ z ∈ zs,z.length≤B)→(zs.map (·.length)).sum≤B * zs.length
 | [],_=>Nat.zero_le _
 | z :: zs,h=>by
  have a:=h z List.mem_cons_self
  have b:=ZAt (zs:=zs) fun x hx=>h x (List.mem_cons_of_mem _ hx)
  rw [List.map_cons,List.sum_cons,List.length_cons,Nat.mul_succ]
  omega
theorem Zsq {B:Nat} {z:Str} {ts:List Str} (h:∀ y ∈ ts,y.length≤B) (hb:B≤3000) (hz:z.length≤10) (hn:ts.length≤10):JoinOk z ts=true∧(Txt.join z ts).length≤B * 10 + 100:=by
 have a:=ZAt h
 have c:B * ts.length≤B * 10:=Nat.mul_le_mul_left _ hn
 have d:ts.length * z.length≤10 * 10:=Nat.mul_le_mul hn hz
 refine ⟨?_,?_⟩
 ·unfold JoinOk Builtin.Str.tooLong
  rw [StrLaws.joinTotal]
  rw [decide_eq_false (Nat.not_lt.mpr (Zbn (by omega)))]
  rfl
 ·have:=Zy7 z ts
  omega
theorem Zkh {ns:List Str} (h:∀ z ∈ ns,z.length≤8) (f:Fm):(ZaJ ns f).length≤20 * fWt f:=ZfC (fun z hz=>by have:=h z hz; omega) f
seal PE PA PS PSs
section
variable {P:Program} {w:World} {K:PySem.W.Frag} {mg:Str→Option Value} {base:Heap} {t:Ad} {n:Nat}
def ZNF (t:Ad):Sp:=fun vs H Q _=>∃ (x nl:Addr) (ns:List Str) (v:Fm × List (Nat × Fm)),vs=[.ref x,.ref nl]∧MvW t H x v∧H nl=some (.lst (ns.map V.str))∧ns.length≤6∧(∀ z ∈ ns,z.length≤8)∧okM t ns v∧∀ H',Same H H'→Q (.str (shM ns v)) H'
theorem ZwM (T:Txt K mg t):FnS P w K mg base 66 "written_move" ["move","names"] ((ZNF t)):=by
 refine ⟨_,_,T.Zjk.ok ZfB (fun vs H Q E h=>?_) (fun cdv A outer s H vs Q E hr h=>?_),T.Zoq,T.Zjk.kp,T.ZoL⟩
 ·obtain ⟨x,nl,ns,v,rfl,⟨dx,g,tp,hs,e1,e2,f1,p⟩,hn,h6,h8,ok,q⟩ :=h
  rfl
 obtain ⟨x,nl,ns,v,rfl,⟨dx,g,tp,hs,e1,e2,f1,p⟩,hn,h6,h8,ok,q⟩ :=h
 have D_shown:=Zr3 (P:=P) (w:=w) (base:=base) T 61
 have h20:∀ z ∈ ns,z.length≤20:=fun z hz=>by have:=h8 z hz; omega
 refine ⟨_,(Zac (ss 2 ZfB.nd (Zb0 Zad))
   (Zac (Zb5 PassesOwn.never rfl (ZdK (Zdf (pv 0) rfl)) (Zyx rfl (ZeA (sg 3 ZfB.nd) (ZeA (sg 4 ZfB.nd) ZsC)))
   (Zae (ZaR (Zc8 PySem.F.plainAttrs_list PySem.F.slot_list_append PySem.F.type_list_append ZaK (pv 2) (Zaa (ZaD ZaC (ZaD ZaC (ZbE ZaW (pv 1) (pv 3) (fun _ _=>rfl)) Zau) (ZxB D_shown hr (pv 4) (Zaa (pv 1) Zad))) Zad)))))
   (Zae (ZaA (ZaD ZaC (ZaD ZaC (ZaD ZaC Zau (ZxB D_shown hr (Zdf (pv 0) rfl) (Zaa (pv 1) Zad))) Zau) (Zc8 PySem.F.plainAttrs_str PySem.F.slot_str_join PySem.F.type_str_join Zwx Zau (Zaa (pv 2) Zad))))))),?_⟩
 walk_at "rd0"
 refine ZfD (by simp) fun pl H1 s1 n1 e3=>?_
 walk_at "rd"
 refine ⟨x,_,_,_,_,rfl,s1 _ _ e1,T.ZA3,T.Zce,ZFi _ _,?_⟩
 have hpl:=Zas p
 have hl6:=ok.ln
 refine seqT (xs:=hs.map V.ref) (fun i σ H'=>Same H H'∧H' pl=some (.lst (((v.2.take i).map (ZcA ns)).map V.str))∧∃ v3 v4,σ=[some (.ref x),some (.ref nl),some (.ref pl),v3,v4]) ⟨s1,e3,_,_,rfl⟩ (fun i σ H' _ hp=>by obtain ⟨s2,_⟩ :=hp; exact SqT.of (s2 _ _ e2)) ?_ ?_
 ·rintro i y σ H2 hy ⟨s2,c2,v3,v4,rfl⟩
  obtain ⟨h,rfl,hx'⟩ :=Zcb hy
  obtain ⟨c,hgi,b,ht,hf⟩ :=Za1 p hx'
  obtain ⟨okc,hc6⟩ :=ok.cs c (List.mem_of_getElem? hgi)
  have hsl:=Zkh h8 c.2
  have hfw:=okc.2.2
  have hil:=(List.getElem?_eq_some_iff.mp hgi).1
  have hf2:=okc.1 H2 b (hf.ext (Ext.of s2))
  refine ZFc (s2 _ _ ht) ?_
  walk_at "rd"
  refine ⟨tyL c2,?_⟩
  walk_at "rd"
  have hgz:ns[c.1]?=some (ns.getD c.1 Str.empty):=by rw [List.getD_eq_getElem?_getD,List.getElem?_eq_getElem hc6]; rfl
  refine ZdP (j:=c.1) (s2 _ _ hn) (v:=.str (ns.getD c.1 Str.empty)) (by rw [List.getElem?_map,hgz]; rfl) ?_
  walk_at "rd"
  have l1:=h8 _ (List.mem_of_getElem? hgz)
  have l2:Str.length " is " = 4:=by decide +kernel
  refine ZcR (Zbn (by omega)) ?_
  walk_at "rd"
  obtain ⟨C,dx',fs',e',hC,hlk⟩ :=hf2.ins "shown" (by decide +kernel) (by decide +kernel) (by decide +kernel) (by decide +kernel)
  refine ⟨b,C,dx',fs',rfl,e',hC,hlk,?_⟩
  walk_at "rd"
  refine ⟨e',b,nl,c.2,ns,rfl,hf2,s2 _ _ hn,h20,okc.2.1,by omega,fun H3 s3=>?_⟩
  refine ZcR (Zbn (by rw [Zak]; omega)) ?_
  walk_at "rd"
  refine Za5 (s3 _ _ c2) (by rw [List.length_map,List.length_map,List.length_take]; omega) fun H4 b4 e4=>?_
  walk_at "rd"
  refine ⟨b4.same n1 (s2.trans s3),?_,_,_,rfl⟩
  rw [ZaY hgi,List.map_append,List.map_append]
  exact e4
 ·rintro σ H2 ⟨s2,c2,v3,v4,rfl⟩
  rw [List.length_map,hpl,List.take_length] at c2
  have hsl:=Zkh h8 v.1
  have hfw:=ok.gd.2.2
  have hf2:=ok.gd.1 H2 g (f1.ext (Ext.of s2))
  have l1:Str.length "move " = 5:=by decide +kernel
  have l2:Str.length " then " = 6:=by decide +kernel
  obtain ⟨j1,j2⟩ :=Zsq (B:=2020) (z:=", ") (ts:=v.2.map (ZcA ns)) (fun y hy=>by
   obtain ⟨c,hc,rfl⟩ :=List.mem_map.mp hy
   obtain ⟨okc,hc6⟩ :=ok.cs c hc
   have a:=Zkh h8 c.2
   have b:=okc.2.2
   have hgz:ns[c.1]?=some (ns.getD c.1 Str.empty):=by rw [List.getD_eq_getElem?_getD,List.getElem?_eq_getElem hc6]; rfl
   have d:=h8 _ (List.mem_of_getElem? hgz)
   have e:Str.length " is " = 4:=by decide +kernel
   unfold ZcA
   rw [Zak,Zak]
   omega) (by omega) (by decide) (by rw [List.length_map]; omega)
  walk_at "rd"
  refine ⟨x,_,_,_,_,rfl,s2 _ _ e1,T.ZA3,T.ZdI,ZIp _ _,?_⟩
  walk_at "rd"
  obtain ⟨C,dx',fs',e',hC,hlk⟩ :=hf2.ins "shown" (by decide +kernel) (by decide +kernel) (by decide +kernel) (by decide +kernel)
  refine ⟨g,C,dx',fs',rfl,e',hC,hlk,?_⟩
  walk_at "rd"
  refine ⟨e',g,nl,v.1,ns,rfl,hf2,s2 _ _ hn,h20,ok.gd.2.1,by omega,fun H3 s3=>?_⟩
  refine ZcR (Zbn (by omega)) ?_
  walk_at "rd"
  refine ZcR (Zbn (by rw [Zak]; omega)) ?_
  walk_at "rd"
  refine ⟨tyS,?_⟩
  walk_at "rd"
  refine ⟨_,pl,_,rfl,rfl,SqL.of (s3 _ _ c2),j1,?_⟩
  refine ZcR (Zbn (by rw [Zak,Zak]; omega)) ?_
  exact q H3 (s2.trans s3)
def spWr (t:Ad):Sp:=fun vs H Q _=>∃ (x:Addr) (ns:List Str) (ss bs:List Fm) (us:List (Fm × List (Nat × Fm))),vs=[.ref x]∧MacW t H x ns ss bs us∧ns.length≤6∧(∀ z ∈ ns,z.length≤8)∧(∀ f ∈ ss,okS t ns f)∧(∀ f ∈ bs,okS t ns f)∧(∀ v ∈ us,okM t ns v)∧ss.length + bs.length + us.length≤1000∧∀ l H',Same H H'→H l=none→H' l=some (.lst ((Zym ns ss bs us).map V.str))→Q (.ref l) H'
theorem ZFr (T:Txt K mg t):FnS P w K mg base 68 "written" ["machine"] ((spWr t)):=by
 refine ⟨_,_,T.Zva.ok Zhj (fun vs H Q E h=>?_) (fun cdv A outer s H vs Q E hr h=>?_),T.ZAX,T.Zva.kp,T.ZBy⟩
 ·obtain ⟨x,ns,fs,bs,us,rfl,⟨dx,n0,s0,b0,v0,qs,qb,qv,h1,h2,h3,h4,h5,p1,p2,p3⟩,h6,h8,k1,k2,k3,hz,q⟩ :=h
  rfl
 obtain ⟨x,ns,fs,bs,us,rfl,⟨dx,n0,s0,b0,v0,qs,qb,qv,h1,h2,h3,h4,h5,p1,p2,p3⟩,h6,h8,k1,k2,k3,hz,q⟩ :=h
 have Zxj:=ZwM (P:=P) (w:=w) (base:=base) T
 have D_shown:=Zr3 (P:=P) (w:=w) (base:=base) T 61
 have h20:∀ z ∈ ns,z.length≤20:=fun z hz=>by have:=h8 z hz; omega
 have hp1:=Zas p1
 have hp2:=Zas p2
 have hp3:=Zas p3
 refine ⟨_,(Zac (ss 1 Zhj.nd (Zeq Zsa rfl T.B.list ZyT (Zaa (Zdf (pv 0) rfl) Zad)))
   (Zac (ss 2 Zhj.nd (Zb0 (Zaa (ZaD ZaC Zau (Zc8 PySem.F.plainAttrs_str PySem.F.slot_str_join PySem.F.type_str_join Zwx Zau (Zaa (pv 1) Zad))) Zad)))
   (Zac (Zb5 PassesOwn.never rfl (ZdK (Zdf (pv 0) rfl)) (sg 3 Zhj.nd)
   (Zae (ZaR (Zc8 PySem.F.plainAttrs_list PySem.F.slot_list_append PySem.F.type_list_append ZaK (pv 2) (Zaa (ZaD ZaC Zau (ZxB D_shown hr (pv 3) (Zaa (pv 1) Zad))) Zad)))))
   (Zac (Zb5 PassesOwn.never rfl (ZdK (Zdf (pv 0) rfl)) (sg 3 Zhj.nd)
   (Zae (ZaR (Zc8 PySem.F.plainAttrs_list PySem.F.slot_list_append PySem.F.type_list_append ZaK (pv 2) (Zaa (ZaD ZaC Zau (ZxB D_shown hr (pv 3) (Zaa (pv 1) Zad))) Zad)))))
   (Zac (Zb5 PassesOwn.never rfl (ZdK (Zdf (pv 0) rfl)) (sg 4 Zhj.nd)
   (Zae (ZaR (Zc8 PySem.F.plainAttrs_list PySem.F.slot_list_append PySem.F.type_list_append ZaK (pv 2) (Zaa (Zbq Zxj hr (Zaa (pv 4) (Zaa (pv 1) Zad))) Zad)))))
   (Zae (ZaA (pv 2)))))))),?_⟩
 walk_at "rd0"
 refine ⟨x,_,_,_,_,rfl,h1,T.ZeY,T.ZbY,ZIr _ _ _ _,?_⟩
 walk_at "rd"
 refine ZGx (.inr (SqT.of h2)) fun nl H1 s1 n1 e1=>?_
 walk_at "rd"
 refine ⟨tyS,?_⟩
 walk_at "rd"
 obtain ⟨j1,j2⟩ :=Zsq (B:=8) (z:=" ") (ts:=ns) h8 (by omega) (by decide) (by omega)
 have l1:Str.length "lamps " = 6:=by decide +kernel
 have l2:Str.length "start " = 6:=by decide +kernel
 have l3:Str.length "bad " = 4:=by decide +kernel
 refine ⟨_,nl,_,rfl,rfl,SqL.of e1,j1,?_⟩
 refine ZcR (Zbn (by omega)) ?_
 walk_at "rd"
 refine ZfD (by simp) fun ll H2 s2 n2 e2=>?_
 have e2:H2 ll=some (.lst ([("lamps " : Str) ++ Txt.join " " ns].map V.str)):=e2
 have nll:H ll=none:=s1.free n2
 have nln:nl ≠ ll:=Zaf e1 n2
 have w2:=s1.trans s2
 have en2:=s2 _ _ e1
 walk_at "rd"
 refine ⟨x,_,_,_,_,rfl,w2 _ _ h1,T.ZeY,T.ZbC,ZGJ _ _ _ _,?_⟩
 generalize hA:[("lamps " : Str) ++ Txt.join " " ns]=A0 at e2
 have hA1:A0.length=1:=by rw [← hA]; rfl
 refine seqT (xs:=qs.map V.ref) (fun i σ H'=>Same H H'∧H' nl=some (.lst (ns.map V.str))∧H' ll=some (.lst ((A0 ++ (fs.take i).map (fun f=>("start " : Str) ++ ZaJ ns f)).map V.str))∧∃ v3,σ=[some (.ref x),some (.ref nl),some (.ref ll),v3,none]) ⟨w2,en2,by rw [e2]; simp,_,rfl⟩ (fun i σ H' _ hp=>by obtain ⟨s,_⟩ :=hp; exact SqT.of (s _ _ h3)) ?_ ?_
 ·rintro i y σ H3 hy ⟨s3,en3,el3,v3,rfl⟩
  obtain ⟨y,rfl,hy'⟩ :=Zcb hy
  obtain ⟨f,hfi,hf⟩ :=Za1 p1 hy'
  have okf:=k1 f (List.mem_of_getElem? hfi)
  have hf2:=okf.1 H3 y (hf.ext (Ext.of s3))
  have hsl:=Zkh h8 f
  have hfw:=okf.2.2
  have hil:=(List.getElem?_eq_some_iff.mp hfi).1
  walk_at "rd"
  refine ⟨tyL el3,?_⟩
  walk_at "rd"
  obtain ⟨C,dx',fs',e',hC,hlk⟩ :=hf2.ins "shown" (by decide +kernel) (by decide +kernel) (by decide +kernel) (by decide +kernel)
  refine ⟨y,C,dx',fs',rfl,e',hC,hlk,?_⟩
  walk_at "rd"
  refine ⟨e',y,nl,f,ns,rfl,hf2,en3,h20,okf.2.1,by omega,fun H4 s4=>?_⟩
  refine ZcR (Zbn (by omega)) ?_
  walk_at "rd"
  refine Za5 (s4 _ _ el3) (by rw [List.length_map,List.length_append,List.length_map,List.length_take]; omega) fun H5 b5 e5=>?_
  walk_at "rd"
  refine ⟨b5.same nll (s3.trans s4),b5 _ _ nln (s4 _ _ en3),?_,_,rfl⟩
  rw [e5,ZaY hfi]
  simp only [List.map_append,List.map_cons,List.map_nil,List.append_assoc]
 rintro σ H3 ⟨s3,en3,el3,v3,rfl⟩
 rw [List.length_map,hp1,List.take_length] at el3
 generalize hB:A0 ++ fs.map (fun f=>("start " : Str) ++ ZaJ ns f)=B0 at el3
 have hB1:B0.length=1 + fs.length:=by rw [← hB,List.length_append,List.length_map,hA1]
 clear e2 en2 w2
 walk_at "rd"
 refine ⟨x,_,_,_,_,rfl,s3 _ _ h1,T.ZeY,T.Zcd,ZKB _ _ _ _,?_⟩
 refine seqT (xs:=qb.map V.ref) (fun i σ H'=>Same H H'∧H' nl=some (.lst (ns.map V.str))∧H' ll=some (.lst ((B0 ++ (bs.take i).map (fun f=>("bad " : Str) ++ ZaJ ns f)).map V.str))∧∃ v3,σ=[some (.ref x),some (.ref nl),some (.ref ll),v3,none]) ⟨s3,en3,by rw [el3]; simp,_,rfl⟩ (fun i σ H' _ hp=>by obtain ⟨s,_⟩ :=hp; exact SqT.of (s _ _ h4)) ?_ ?_
 ·clear s3 en3 el3 v3
  rintro i y σ H3 hy ⟨s3,en3,el3,v3,rfl⟩
  obtain ⟨y,rfl,hy'⟩ :=Zcb hy
  obtain ⟨f,hfi,hf⟩ :=Za1 p2 hy'
  have okf:=k2 f (List.mem_of_getElem? hfi)
  have hf2:=okf.1 H3 y (hf.ext (Ext.of s3))
  have hsl:=Zkh h8 f
  have hfw:=okf.2.2
  have hil:=(List.getElem?_eq_some_iff.mp hfi).1
  walk_at "rd"
  refine ⟨tyL el3,?_⟩
  walk_at "rd"
  obtain ⟨C,dx',fs',e',hC,hlk⟩ :=hf2.ins "shown" (by decide +kernel) (by decide +kernel) (by decide +kernel) (by decide +kernel)
  refine ⟨y,C,dx',fs',rfl,e',hC,hlk,?_⟩
  walk_at "rd"
  refine ⟨e',y,nl,f,ns,rfl,hf2,en3,h20,okf.2.1,by omega,fun H4 s4=>?_⟩
  refine ZcR (Zbn (by omega)) ?_
  walk_at "rd"
  refine Za5 (s4 _ _ el3) (by rw [List.length_map,List.length_append,List.length_map,List.length_take]; omega) fun H5 b5 e5=>?_
  walk_at "rd"
  refine ⟨b5.same nll (s3.trans s4),b5 _ _ nln (s4 _ _ en3),?_,_,rfl⟩
  rw [e5,ZaY hfi]
  simp only [List.map_append,List.map_cons,List.map_nil,List.append_assoc]
 clear s3 en3 el3 v3
 rintro σ H3 ⟨s3,en3,el3,v3,rfl⟩
 rw [List.length_map,hp2,List.take_length] at el3
 generalize hC0:B0 ++ bs.map (fun f=>("bad " : Str) ++ ZaJ ns f)=C0 at el3
 have hC1:C0.length=1 + fs.length + bs.length:=by rw [← hC0,List.length_append,List.length_map,hB1]
 walk_at "rd"
 refine ⟨x,_,_,_,_,rfl,s3 _ _ h1,T.ZeY,T.ZbX,ZIq _ _ _ _,?_⟩
 refine seqT (xs:=qv.map V.ref) (fun i σ H'=>Same H H'∧H' nl=some (.lst (ns.map V.str))∧H' ll=some (.lst ((C0 ++ (us.take i).map (shM ns)).map V.str))∧∃ v4,σ=[some (.ref x),some (.ref nl),some (.ref ll),v3,v4]) ⟨s3,en3,by rw [el3]; simp,_,rfl⟩ (fun i σ H' _ hp=>by obtain ⟨s,_⟩ :=hp; exact SqT.of (s _ _ h5)) ?_ ?_
 ·clear s3 en3 el3
  rintro i y σ H3 hy ⟨s3,en3,el3,v4,rfl⟩
  obtain ⟨y,rfl,hy'⟩ :=Zcb hy
  obtain ⟨v,hfi,hf⟩ :=Za1 p3 hy'
  have okv:=k3 v (List.mem_of_getElem? hfi)
  have hil:=(List.getElem?_eq_some_iff.mp hfi).1
  walk_at "rd"
  refine ⟨tyL el3,?_⟩
  walk_at "rd"
  refine ⟨y,nl,ns,v,rfl,hf.ext (Ext.of s3),en3,h6,h8,okv,fun H4 s4=>?_⟩
  walk_at "rd"
  refine Za5 (s4 _ _ el3) (by rw [List.length_map,List.length_append,List.length_map,List.length_take]; omega) fun H5 b5 e5=>?_
  walk_at "rd"
  refine ⟨b5.same nll (s3.trans s4),b5 _ _ nln (s4 _ _ en3),?_,_,rfl⟩
  rw [e5,ZaY hfi]
  simp only [List.map_append,List.map_cons,List.map_nil,List.append_assoc]
 clear s3 en3 el3
 rintro σ H3 ⟨s3,en3,el3,v4,rfl⟩
 rw [List.length_map,hp3,List.take_length] at el3
 walk_at "rd"
 refine q ll H3 s3 nll ?_
 rw [el3,← hC0,← hB,← hA]
 rfl
end
unseal PE PA PS PSs
theorem ZBp (sep:Str) (xs:List Str) (x:Str):Txt.join sep (xs ++ [x])=if xs=[] then x else Txt.join sep xs ++ sep ++ x:=by
 cases xs with
 | nil=>rfl
 | cons y ys=>
  rw [if_neg (List.cons_ne_nil _ _)]
  show Builtin.Str.glued sep _=Builtin.Str.glued sep _ ++ _ ++ _
  unfold Builtin.Str.glued
  simp only [List.cons_append,List.drop_succ_cons,List.drop_zero,List.foldl_append,List.foldl_cons,List.foldl_nil,List.headD_cons]
  rfl
theorem ZJh {b:Bool} {z:Str} (h:z.length ≠ 0):(brk b z).length ≠ 0:=by
 unfold brk
 split
 ·rw [Zak,Zak]
  omega
 ·exact h
theorem ZGA {sep:Str} {xs:List Str} (h0:xs ≠ []) (h:∀ x ∈ xs,x.length ≠ 0):(Txt.join sep xs).length ≠ 0:=by
 rcases List.eq_nil_or_concat xs with rfl | ⟨ys,y,rfl⟩
 ·exact absurd rfl h0
 ·rw [List.concat_eq_append,ZBp]
  have:=h y (by simp)
  split
  ·exact this
  ·rw [Zak]
   omega
theorem ZvX (x:Str):Str.empty ++ x=x:=by
 show Str.append Str.empty x=x
 unfold Str.append Str.empty
 simp
theorem ZHL (x y z:Str):x ++ y ++ z=x ++ (y ++ z):=by
 show Str.append (Str.append x y) z=Str.append x (Str.append y z)
 unfold Str.append
 simp [Array.append_assoc]
def Nm8 (z:Str):Prop:=Lt z∧1≤z.length∧z.length≤8
def Zn7:List Str:=["and","or","not","either","yes","no","then","is"]
theorem ZIm:Zn7.length=8:=rfl
def noW:Tr→Bool
 | .lamp _=>true
 | .sure _=>true
 | .neg t=>noW t
 | .wrap _=>false
 | .join _ ts=>noWL ts
where noWL:List Tr→Bool
 | []=>true
 | t :: ts=>noW t && noWL ts
theorem ZEy:∀ {ts:List Tr},(∀ g ∈ ts,noW g=true)→noW.noWL ts=true
 | [],_=>rfl
 | t :: ts,h=>by
  show (noW t && noW.noWL ts)=true
  rw [h t List.mem_cons_self,ZEy fun g hg=>h g (List.mem_cons_of_mem _ hg)]
  rfl
def depB:Nat→Nat
 | 0=>1
 | n + 1=>1 + 3 * depB n
seal PE PA PS PSs
section
variable {P:Program} {w:World} {K:PySem.W.Frag} {mg:Str→Option Value} {base:Heap} {t:Ad} {n:Nat}
def ZKZ (n:Nat):Sp:=fun vs H Q _=>∃ (c:Int) (m:Nat),vs=[.int c,.int (m:Int),.int (n:Int)]∧1≤m∧m≤6∧∀ p tr H',Same H H'→TwAt (fun l=>H l=none) H' (n + 1) p tr→okT m tr=true→noW tr=true→nT tr≤depB n→Q (.ref p) H'
theorem ZJ6 (T:Txt K mg t):∀ n:Nat,FnS P w K mg base (n + 1) "_law_grown" ["_law_cell","_law_many","_law_deep"] (ZKZ n):=by
 intro n
 induction n with
 | zero=>
  refine ⟨_,_,T.ZeP.ok ZaX (fun vs H Q E h=>?_) (fun cdv A outer s H vs Q E hr h=>?_),T.Zio,T.ZeP.kp,T.Zje⟩
  ·obtain ⟨c,m,rfl,_⟩ :=h
   rfl
  obtain ⟨c,m,rfl,h1,h6,q⟩ :=h
  have Zdh:FnS P w K mg base 0 "_law_grown" ["_law_cell","_law_many","_law_deep"] (fun _ _ _ _=>False):=⟨_,_,⟨fun vs H Q E h=>h.elim,fun A outer s H args us vs Q E _ _ _ _ h=>h.elim⟩,T.Zio,T.ZeP.kp,T.Zje⟩
  refine ⟨_,(Zac (ss 3 ZaX.nd (ZaD ZeU (pv 0) Zam))
   (Zac (ss 4 ZaX.nd (ZaD Zde (pv 0) Zam))
   (Zac (ZbV (PW.pt (ZxD (Zav (ZbZ hr.units) (pv 2) Zam (ZaQ _)) (ZoQ (Zav ZDw (pv 3) Zam (ZaQ _)))))
   (Zae (ZaA (Zkd (Zaa Zau (Zaa (ZaD ZeU (pv 4) (pv 1)) Zad)))))
   ZaI)
   (Zac (ZbV (Zav (ZbZ hr.units) (pv 3) Zam (ZaQ _))
   (Zae (ZaA (Zkd (Zaa Zau (Zaa (ZHg (ZbZ hr.units) (ZaD ZeU (pv 4) Zam) Zam (ZaQ _)) Zad)))))
   ZaI)
   (Zac (ZbV (Zav ZDw (pv 3) Zam (ZaQ _))
   (Zae (ZaA (Zkd (Zaa Zau (Zaa (Zb0 (Zaa (Zbq Zdh hr (Zaa (pv 4) (Zaa (pv 1) (Zaa (ZaD Zyt (pv 2) Zam) Zad)))) Zad)) Zad)))))
   ZaI)
   (Zac (ss 5 ZaX.nd (ZaD Zde (pv 4) Zam))
   (Zac (ss 6 ZaX.nd (Zb0 Zad))
   (Zac (Zb5 PassesOwn.never rfl (Zer rfl T.B.range (Zaa (ZaD ZaC Zam (ZaD ZeU (pv 4) Zam)) Zad)) (sg 7 ZaX.nd)
   (Zac (ZaR (Zc8 PySem.F.plainAttrs_list PySem.F.slot_list_append PySem.F.type_list_append ZaK (pv 6) (Zaa (Zbq Zdh hr (Zaa (ZaD ZaC (ZaD ZeU (pv 5) Zam) (ZaD Zsz Zam (pv 7))) (Zaa (pv 1) (Zaa (ZaD Zyt (pv 2) Zam) Zad)))) Zad)))
   (Zae (ss 5 ZaX.nd (ZaD Zde (pv 5) Zam)))))
   (Zae (ZaA (Zkd (Zaa (ZbE ZaW (Zb0 (Zaa Zau (Zaa Zau (Zaa Zau Zad)))) (ZaD Zyt (pv 3) Zam) (fun _ _=>rfl)) (Zaa (pv 6) Zad))))))))))))),?_⟩
  obtain ⟨k,hk,hkm⟩ : ∃ k:Nat,(c / 9) % (m:Int)=(k:Int)∧k < m:=by
   have v1:=Int.emod_nonneg (c / 9) (show (m:Int) ≠ 0 by omega)
   have v2:=Int.emod_lt_of_pos (c / 9) (show (0:Int) < (m:Int) by omega)
   exact ⟨(c / 9 % (m:Int)).toNat,by omega,by omega⟩
  walk_at "rd0"
  refine Zgm (by decide) ?_
  walk_at "rd"
  refine Zgm rfl ?_
  walk_at "rd"
  rw [hk]
  refine Zxp (by simp) fun p H1 s1 n1 e2=>?_
  exact q p (.lamp k) H1 s1 e2 (decide_eq_true hkm) rfl (Nat.le_refl _)
 | succ n ih=>
  have Zdh:=ih
  refine ⟨_,_,T.ZeP.ok ZaX (fun vs H Q E h=>?_) (fun cdv A outer s H vs Q E hr h=>?_),T.Zio,T.ZeP.kp,T.Zje⟩
  ·obtain ⟨c,m,rfl,_⟩ :=h
   rfl
  obtain ⟨c,m,rfl,h1,h6,q⟩ :=h
  refine ⟨_,(Zac (ss 3 ZaX.nd (ZaD ZeU (pv 0) Zam))
   (Zac (ss 4 ZaX.nd (ZaD Zde (pv 0) Zam))
   (Zac (ZbV (PW.pt (ZxD (Zav (ZbZ hr.units) (pv 2) Zam (ZaQ _)) (ZoQ (Zav ZDw (pv 3) Zam (ZaQ _)))))
   (Zae (ZaA (Zkd (Zaa Zau (Zaa (ZaD ZeU (pv 4) (pv 1)) Zad)))))
   ZaI)
   (Zac (ZbV (Zav (ZbZ hr.units) (pv 3) Zam (ZaQ _))
   (Zae (ZaA (Zkd (Zaa Zau (Zaa (ZHg (ZbZ hr.units) (ZaD ZeU (pv 4) Zam) Zam (ZaQ _)) Zad)))))
   ZaI)
   (Zac (ZbV (Zav ZDw (pv 3) Zam (ZaQ _))
   (Zae (ZaA (Zkd (Zaa Zau (Zaa (Zb0 (Zaa (Zbq Zdh hr (Zaa (pv 4) (Zaa (pv 1) (Zaa (ZaD Zyt (pv 2) Zam) Zad)))) Zad)) Zad)))))
   ZaI)
   (Zac (ss 5 ZaX.nd (ZaD Zde (pv 4) Zam))
   (Zac (ss 6 ZaX.nd (Zb0 Zad))
   (Zac (Zb5 PassesOwn.never rfl (Zer rfl T.B.range (Zaa (ZaD ZaC Zam (ZaD ZeU (pv 4) Zam)) Zad)) (sg 7 ZaX.nd)
   (Zac (ZaR (Zc8 PySem.F.plainAttrs_list PySem.F.slot_list_append PySem.F.type_list_append ZaK (pv 6) (Zaa (Zbq Zdh hr (Zaa (ZaD ZaC (ZaD ZeU (pv 5) Zam) (ZaD Zsz Zam (pv 7))) (Zaa (pv 1) (Zaa (ZaD Zyt (pv 2) Zam) Zad)))) Zad)))
   (Zae (ss 5 ZaX.nd (ZaD Zde (pv 5) Zam)))))
   (Zae (ZaA (Zkd (Zaa (ZbE ZaW (Zb0 (Zaa Zau (Zaa Zau (Zaa Zau Zad)))) (ZaD Zyt (pv 3) Zam) (fun _ _=>rfl)) (Zaa (pv 6) Zad))))))))))))),?_⟩
  have md:∀ z:Int,∃ k:Nat,z % (m:Int)=(k:Int)∧k < m:=fun z=>by
   have v1:=Int.emod_nonneg z (show (m:Int) ≠ 0 by omega)
   have v2:=Int.emod_lt_of_pos z (show (0:Int) < (m:Int) by omega)
   exact ⟨(z % (m:Int)).toNat,by omega,by omega⟩
  have c0:=Int.emod_nonneg c (show (9:Int) ≠ 0 by decide)
  have c9:=Int.emod_lt_of_pos c (show (0:Int) < 9 by decide)
  obtain ⟨k,hk,hkm⟩ :=md (c / 9)
  have e1:((n + 1:Nat):Int) - 1=(n:Int):=by omega
  walk_at "rd0"
  generalize c % 9=kd at c0 c9 ⊢
  generalize c / 9=mo at hk ⊢
  walk_at "rd"
  refine Zbm (decide_eq_false (by omega)) ?_
  walk_at "rd"
  refine ZhG (fun h3=>?_) (fun h3=>?_)
  ·walk_at "rd"
   rw [hk]
   refine Zxp (by simp) fun p H1 s1 n1 e2=>?_
   exact q p (.lamp k) H1 s1 e2 (decide_eq_true hkm) rfl (by show 1≤1 + _; omega)
  walk_at "rd"
  refine ZhG (fun h4=>?_) (fun h4=>?_)
  ·walk_at "rd"
   refine Zxp (by simp) fun p H1 s1 n1 e2=>?_
   exact q p (.sure (decide (mo % 2=0))) H1 s1 e2 rfl rfl (by show 1≤1 + _; omega)
  walk_at "rd"
  refine ZhG (fun h5=>?_) (fun h5=>?_)
  ·walk_at "rd"
   refine ⟨mo,m,by rw [e1],h1,h6,fun q1 tr H1 s1 t1 ok1 nw1 nt1=>?_⟩
   walk_at "rd"
   refine ZfD (by simp) fun l H2 s2 n2 e2=>?_
   walk_at "rd"
   refine Zxp (by simp) fun p H3 s3 n3 e3=>?_
   refine q p (.neg tr) H3 (s1.trans (s2.trans s3)) ⟨l,q1,e3,s1.free n2,s3 _ _ e2,t1.same (s2.trans s3)⟩ ok1 nw1 (by show 1 + nT tr≤1 + 3 * depB n; omega)
  obtain ⟨j,hj,hj3⟩ : ∃ j:Nat,kd - 6=(j:Int)∧j < 3:=⟨(kd - 6).toNat,by omega,by omega⟩
  obtain ⟨z,hz,hz2⟩ : ∃ z:Nat,2 + mo % 2=(z:Int)∧2≤z∧z≤3:=⟨(2 + mo % 2).toNat,by omega,by omega,by omega⟩
  walk_at "rd"
  refine ZfD (by simp) fun pl H1 s1 n1 e2=>?_
  walk_at "rd"
  rw [hz]
  refine ⟨_,rfl,by omega,by omega,?_⟩
  rw [show ((z:Int)).toNat=z by omega]
  refine Zwm (n:=z) (fun i σ H'=>∃ (ps:List Addr) (gs:List Tr) (r:Int) (v7:Option V),Same H H'∧H' pl=some (.lst (ps.map V.ref))∧ps.length=i∧Paired (TwAt (fun l=>H l=none∧l ≠ pl) H' (n + 1)) ps gs∧(∀ g ∈ gs,okT m g=true∧noW g=true)∧nTL gs≤i * depB n∧σ=[some (.int c),some (.int (m:Int)),some (.int ((n + 1:Nat):Int)),some (.int kd),some (.int mo),some (.int r),some (.ref pl),v7]) ⟨[],[],_,_,s1,e2,rfl,.nil,(fun g hg=>by cases hg),Nat.zero_le _,rfl⟩ ?_ ?_
  ·rintro i σ H2 hi ⟨ps,gs,r,v7,s2,e3,hpl,pp,okg,ntg,rfl⟩
   walk_at "rd"
   refine ⟨tyL e3,?_⟩
   walk_at "rd"
   refine ZBj (.inl ⟨by decide,by decide⟩) ?_
   walk_at "rd"
   refine ⟨_,m,by rw [e1],h1,h6,fun q1 tr H3 s3 t3 ok3 nw3 nt3=>?_⟩
   walk_at "rd"
   refine Za5 (s3 _ _ e3) (by rw [List.length_map]; omega) fun H4 b4 e4=>?_
   walk_at "rd"
   have e33:=s3 _ _ e3
   have npl:H3 pl ≠ none:=fun z=>by rw [z] at e33; cases e33
   refine ⟨ps ++ [q1],gs ++ [tr],_,_,b4.same n1 (s2.trans s3),by rw [e4,List.map_append]; rfl,by rw [List.length_append,hpl]; rfl,?_,?_,?_,rfl⟩
   ·refine ZaF (Zah (fun _ _ h=>h.imp (fun p xs e=>b4 _ _ (Zdg (s3 _ _ e) e33 (by intro z; cases z)) (s3 _ _ e)) (fun l xs sl e=>⟨sl,b4 _ _ sl.2 (s3 _ _ e)⟩)) pp) (.cons (t3.imp (fun p xs e=>b4 _ _ (Zdg e e33 (by intro z; cases z)) e) (fun l xs sl e=>⟨⟨s2.free sl,fun z=>by rw [z,e3] at sl; cases sl⟩,b4 _ _ (fun z=>by rw [z,e3] at sl; cases sl) e⟩)) .nil)
   ·intro g hg
    rcases List.mem_append.mp hg with hg | hg
    ·exact okg g hg
    ·rw [List.mem_singleton.mp hg]; exact ⟨ok3,nw3⟩
   ·rw [Zyq,ZKE,Nat.add_mul]; omega
  ·rintro σ H2 ⟨ps,gs,r,v7,s2,e3,hpl,pp,okg,ntg,rfl⟩
   walk_at "rd"
   refine ZfD (by simp) fun l3 H3 s3 n3 e4=>?_
   walk_at "rd"
   rw [hj]
   refine ZdP e4 (ZM6 hj3) ?_
   walk_at "rd"
   refine Zxp (by simp) fun p H4 s4 n4 e5=>?_
   have hgl:=Zas pp
   refine q p (.join (w3of j) gs) H4 (s2.trans (s3.trans s4)) ⟨pl,ps,e5,n1,(s3.trans s4) _ _ e3,Zah (fun _ _ h=>(h.same (s3.trans s4)).imp (fun _ _ e=>e) fun _ _ z e=>⟨z.1,e⟩) pp⟩ ?_ ?_ ?_
   ·simp only [okT,Bool.and_eq_true,decide_eq_true_iff]
    refine ⟨by omega,?_⟩
    rw [ZzL,List.all_eq_true]
    exact fun g hg=>(okg g hg).1
   ·show noW.noWL gs=true
    exact ZEy fun g hg=>(okg g hg).2
   ·show 1 + nTL gs≤1 + 3 * depB n
    have:z * depB n≤3 * depB n:=Nat.mul_le_mul_right _ hz2.2
    omega
def ZMV (K:PySem.W.Frag):Sp:=fun vs H Q _=>∃ (sc:Addr) (cs:List Int) (m nu:Nat),vs=[.ref sc,.int (m:Int),.int (nu:Int)]∧SqL K H sc (cs.map V.int)∧cs.length≤63∧1≤m∧m≤6∧nu≤1000∧∀ p tr H',Same H H'→TwAt (fun l=>H l=none) H' 4 p tr→okT m tr=true→noW tr=true→nT tr≤40→Q (.ref p) H'
theorem ZG9 (T:Txt K mg t):FnS P w K mg base 6 "_law_slot" ["_law_script","_law_many","_law_number"] ((ZMV K)):=by
 refine ⟨_,_,T.ZoU.ok Zns (fun vs H Q E h=>?_) (fun cdv A outer s H vs Q E hr h=>?_),T.Zvu,T.ZoU.kp,T.Zwq⟩
 ·obtain ⟨sc,cs,m,nu,rfl,hS,h63,h1,h6,hnu,q⟩ :=h
  rfl
 obtain ⟨sc,cs,m,nu,rfl,hS,h63,h1,h6,hnu,q⟩ :=h
 have Zdh:=ZJ6 (P:=P) (w:=w) (base:=base) T 3
 refine ⟨_,(Zac (ss 3 Zns.nd (Zhh ZrZ (pv 0) (Zie Zam) (Zie Zam)))
   (Zac (ZbV (Zav (ZbZ hr.units) (Zbr Zbl rfl T.B.len ZfG (Zaa (pv 3) Zad)) Zam (ZaQ _))
   (Zae (ss 3 Zns.nd (Zb0 (Zaa (Zbr Zbl rfl T.B.len ZfG (Zaa (pv 0) Zad)) Zad))))
   ZaI)
   (Zae (ZaA (Zbq Zdh hr (Zaa (ZaD ZaC (ZbE ZaW (pv 3) (ZaD ZeU (pv 2) (Zbr Zbl rfl T.B.len ZfG (Zaa (pv 3) Zad))) (fun _ _=>rfl)) (ZaD Zsz Zam (ZaD Zde (pv 2) (Zbr Zbl rfl T.B.len ZfG (Zaa (pv 3) Zad))))) (Zaa (pv 1) (Zaa Zam Zad)))))))),?_⟩
 walk_at "rs0"
 refine ZBk ?_
 walk_at "rs"
 refine Zy6 hS ((ZF2 _ 7 63).trans (ZDd cs 7 56)) fun cl H1 s1 n1 e1=>?_
 walk_at "rs"
 have hl1:((cs.drop 7).take 56).length≤56:=by rw [List.length_take]; omega
 generalize (cs.drop 7).take 56=ds at e1 hl1
 refine Zv7 (fun σ H'=>∃ (cl':Addr) (ds:List Int),Same H H'∧H' cl'=some (.lst (ds.map V.int))∧1≤ds.length∧ds.length≤56∧σ=[some (.ref sc),some (.int (m:Int)),some (.int (nu:Int)),some (.ref cl')]) ?_ ?_
 rotate_left
 ·intro Kn hK
  walk_at "rs"
  rw [List.length_map]
  refine ZhG (fun h=>?_) (fun h=>?_)
  ·walk_at "rs"
   refine ZGq (s1.seq hS) ?_
   walk_at "rs"
   refine ZfD (by simp) fun c2 H2 s2 n2 e2=>?_
   walk_at "rs"
   exact hK _ _ ⟨c2,[_],s1.trans s2,e2,Nat.le_refl _,Nat.le_of_ble_eq_true rfl,rfl⟩
  ·walk_at "rs"
   exact hK _ _ ⟨cl,ds,s1,e1,by omega,hl1,rfl⟩
 clear e1 hl1
 rintro σ H2 ⟨c2,ds,s2,e2,d1,d2,rfl⟩
 walk_at "rd"
 rw [List.length_map]
 refine i_rI (by omega) ?_
 have hk:(nu:Int) % (ds.length:Int)=((nu % ds.length:Nat):Int):=(Int.natCast_emod ..).symm
 rw [hk]
 have hkl:nu % ds.length < ds.length:=Nat.mod_lt _ (by omega)
 refine ZdP (j:=nu % ds.length) e2 (v:=.int ds[nu % ds.length]) (by rw [List.getElem?_map,List.getElem?_eq_getElem hkl]; rfl) ?_
 walk_at "rd"
 rw [List.length_map]
 refine i_rI (by unfold ZLe; omega) ?_
 refine ZBj (.inl ⟨by decide,by decide⟩) ?_
 walk_at "rd"
 exact ⟨_,m,rfl,h1,h6,fun p tr H3 s3 t3 ok nw nt=>q p tr H3 (s2.trans s3) (t3.imp (fun _ _ e=>e) fun _ _ z e=>⟨s2.free z,e⟩) ok nw nt⟩
def ZHG (t:Ad) (n:Nat):Sp:=fun vs H Q _=>∃ (p:Addr) (tr:Tr),vs=[.ref p]∧TwAt anyA H n p tr∧noW tr=true∧nT tr≤61∧∀ x H',Same H H'→FmE t H' x (fmT id tr)→Q (.ref x) H'
theorem ZEz {ts:List Tr} {g:Tr} (h:noW.noWL ts=true) (hg:g ∈ ts):noW g=true:=by
 induction ts with
 | nil=>cases hg
 | cons x r ih=>
  have h:(noW x && noW.noWL r)=true:=h
  rw [Bool.and_eq_true] at h
  rcases List.mem_cons.mp hg with rfl | hg
  ·exact h.1
  ·exact ih h.2 hg
theorem ZGV {ts:List Tr} {tr:Tr} (h:tr ∈ ts):nT tr≤nTL ts:=by
 induction ts with
 | nil=>cases h
 | cons x r ih=>
  show _≤nT x + nTL r
  rcases List.mem_cons.mp h with rfl | h
  ·omega
  ·have:=ih h; omega
theorem ZDj:∀ ts:List Tr,ts.length≤nTL ts
 | []=>Nat.le_refl _
 | t :: ts=>by
  show ts.length + 1≤nT t + nTL ts
  have:=ZDj ts
  have:1≤nT t:=by cases t <;> simp only [nT] <;> omega
  omega
theorem ZvY (π:Nat→Nat):∀ ts:List Tr,fmTL π ts=ts.map (fmT π)
 | []=>rfl
 | t :: ts=>congrArg (fmT π t :: ·) (ZvY π ts)
theorem ZJe (T:Txt K mg t):∀ n:Nat,FnS P w K mg base (n + 3) "_law_made" ["_law_tree"] (ZHG t n)
  | 0=>by
    have no:∀ vs H Q E,¬ ZHG t 0 vs H Q E:=fun vs H Q E h=>by
      obtain ⟨p,tr,_,h,_⟩ :=h
      exact h
    exact ⟨_,_,⟨fun vs H Q E h=>absurd h (no vs H Q E),fun A outer s H args us vs Q E _ _ _ _ h=>absurd h (no vs H Q E)⟩,T.Zpb,T.Zki.kp,T.ZpC⟩
  | n + 1=>by
    have ZfI:=ZJe T n
    have ZFJ:=ZG4 (P:=P) (w:=w) (base:=base) T
    have ZDN:=ZG6 (P:=P) (w:=w) (base:=base) T
    have M_Not:=ZJT (P:=P) (w:=w) (base:=base) T
    have M_And:=ZJS (P:=P) (w:=w) (base:=base) T
    have ZyK:=ZB1 (P:=P) (w:=w) (base:=base) T
    have M_Or:=ZMf (P:=P) (w:=w) (base:=base) T
    refine ⟨_,_,T.Zki.ok Znr (fun vs H Q E h=>?_) (fun cdv A outer s H vs Q E hr h=>?_),T.Zpb,T.Zki.kp,T.ZpC⟩
    · obtain ⟨p,tr,rfl,_⟩ :=h
      rfl
    obtain ⟨p,tr,rfl,hT,hnw,h61,q⟩ :=h
    refine ⟨_,(Zac (ZbV (Zav (ZbZ hr.units) (ZbE ZaW (pv 0) Zam (fun _ _=>rfl)) Zau (ZaQ _))
      (Zae (ZaA (Zng ZFJ hr (Zaa (ZbE ZaW (pv 0) Zam (fun _ _=>rfl)) Zad))))
      ZaI)
      (Zac (ZbV (Zav (ZbZ hr.units) (ZbE ZaW (pv 0) Zam (fun _ _=>rfl)) Zau (ZaQ _))
      (Zae (ZaA (Zng ZDN hr (Zaa (ZbE ZaW (pv 0) Zam (fun _ _=>rfl)) Zad))))
      ZaI)
      (Zac (ss 1 Znr.nd (Zb0 Zad))
      (Zac (Zb5 PassesOwn.never rfl (ZdK (ZbE ZaW (pv 0) Zam (fun _ _=>rfl))) (sg 2 Znr.nd)
      (Zae (ZaR (Zc8 PySem.F.plainAttrs_list PySem.F.slot_list_append PySem.F.type_list_append ZaK (pv 1) (Zaa (Zbq ZfI hr (Zaa (pv 2) Zad)) Zad)))))
      (Zac (ZbV (Zav (ZbZ hr.units) (ZbE ZaW (pv 0) Zam (fun _ _=>rfl)) Zau (ZaQ _))
      (Zae (ZaA (Zng M_Not hr (Zaa (ZbE ZaW (pv 1) Zam (fun _ _=>rfl)) Zad))))
      ZaI)
      (Zac (ZbV (Zav (ZbZ hr.units) (ZbE ZaW (pv 0) Zam (fun _ _=>rfl)) Zau (ZaQ _))
      (Zae (ZaA (Zng M_And hr (Zaa (pv 1) Zad))))
      ZaI)
      (Zac (ZbV (Zav (ZbZ hr.units) (ZbE ZaW (pv 0) Zam (fun _ _=>rfl)) Zau (ZaQ _))
      (Zae (ZaA (Zng ZyK hr (Zaa (pv 1) Zad))))
      ZaI)
      (Zae (ZaA (Zng M_Or hr (Zaa (pv 1) Zad))))))))))),?_⟩
    walk_at "rd0"
    refine (fun (key:(∃ (z:Str) (l:Addr) (ps:List Addr) (gs:List Tr),H p=some (.tup [.str z,.ref l])∧H l=some (.lst (ps.map V.ref))∧Paired (TwAt anyA H n) ps gs∧z ≠ "lamp"∧z ≠ "sure"∧(∀ g ∈ gs,noW g=true∧nT g≤61)∧gs.length≤61∧((z = "not"∧∃ g,gs=[g]∧tr=.neg g)∨∃ v,z=kw3 v∧tr=.join v gs))→?G)=>?main) ?key
    case main=>
     cases tr with
     | lamp k=>
      refine ZkW hT (v:=.str "lamp") rfl ?_
      walk_at "rd"
      refine Zgm (by decide) ?_
      walk_at "rd"
      refine ZkW hT (v:=.int (k:Int)) rfl ?_
      walk_at "rd"
      refine ZpA fun x dx H1 s1 n1 e1=>?_
      exact q x H1 s1 ⟨1,dx,e1⟩
     | sure b=>
      refine ZkW hT (v:=.str "sure") rfl ?_
      walk_at "rd"
      refine Zbm (by decide) ?_
      walk_at "rd"
      refine ZkW hT (v:=.str "sure") rfl ?_
      walk_at "rd"
      refine Zgm (by decide) ?_
      walk_at "rd"
      refine ZkW hT (v:=.bl b) rfl ?_
      walk_at "rd"
      refine ZpA fun x dx H1 s1 n1 e1=>?_
      exact q x H1 s1 ⟨1,dx,e1⟩
     | wrap g=>exact absurd hnw (by show ¬ (false=true); decide)
     | neg g=>
      obtain ⟨l,q',e1,_,e2,hq⟩ :=hT
      have h61:1 + nT g≤61:=h61
      exact key ⟨"not",l,[q'],[g],e1,e2,.cons hq .nil,by decide,by decide,fun x hx=>by rw [List.mem_singleton.mp hx]; exact ⟨hnw,by omega⟩,Nat.le_of_ble_eq_true rfl,.inl ⟨rfl,g,rfl,rfl⟩⟩
     | join v gs=>
      obtain ⟨l,ps,e1,_,e2,hq⟩ :=hT
      have h61:1 + nTL gs≤61:=h61
      have:=ZDj gs
      exact key ⟨kw3 v,l,ps,gs,e1,e2,hq,by cases v <;> decide,by cases v <;> decide,fun x hx=>⟨ZEz hnw hx,by have:=ZGV hx; omega⟩,by omega,.inr ⟨v,rfl,rfl⟩⟩
    case key=>
      rintro ⟨z,l,ps,gs,e1,e2,pp,z1,z2,hg,h61',hc⟩
      refine ZkW e1 (v:=.str z) rfl ?_
      walk_at "rd"
      refine Zbm (decide_eq_false z1) ?_
      walk_at "rd"
      refine ZkW e1 (v:=.str z) rfl ?_
      walk_at "rd"
      refine Zbm (decide_eq_false z2) ?_
      walk_at "rd"
      refine ZfD (by simp) fun pl H1 s1 n1 e3=>?_
      walk_at "rd"
      refine ZkW (s1 _ _ e1) (v:=.ref l) rfl ?_
      have hpl:=Zas pp
      refine seqL (xs:=ps.map V.ref) (fun i σ H'=>∃ fs v2,Same H H'∧H' pl=some (.lst (fs.map V.ref))∧Paired (FmE t H') fs ((gs.take i).map (fmT id))∧σ=[some (.ref p),some (.ref pl),v2]) ⟨[],_,s1,e3,.nil,rfl⟩ (fun i σ H' _ hp=>by obtain ⟨_,_,s,_⟩ :=hp; exact SqL.of (s _ _ e2)) ?_ ?_
      · rintro i x σ H2 hx ⟨fs,v2,s2,e4,f4,rfl⟩
        obtain ⟨y,rfl,hy⟩ :=Zcb hx
        obtain ⟨g,hgi,hT'⟩ :=Za1 pp hy
        obtain ⟨nw,nt⟩ :=hg g (List.mem_of_getElem? hgi)
        have hil:=(List.getElem?_eq_some_iff.mp hgi).1
        have hfl:=Zas f4
        rw [List.length_map,List.length_take] at hfl
        walk_at "rd"
        refine ⟨tyL e4,?_⟩
        walk_at "rd"
        refine ⟨y,g,rfl,hT'.same s2,nw,nt,fun x' H3 s3 hx'=>?_⟩
        walk_at "rd"
        have e43:=s3 _ _ e4
        refine Za5 e43 (by rw [List.length_map]; omega) fun H4 b4 e5=>?_
        walk_at "rd"
        have ex:=b4.ext e43
        refine ⟨fs ++ [x'],_,b4.same n1 (s2.trans s3),by rw [e5,List.map_append]; rfl,?_,rfl⟩
        rw [ZaY hgi,List.map_append]
        exact ZaF (Zah (fun _ _ h=>(h.ext (Ext.of s3)).ext ex) f4) (.cons (hx'.ext ex) .nil)
      rintro σ H2 ⟨fs,v2,s2,e4,f4,rfl⟩
      rw [List.length_map,hpl,List.take_length] at f4
      have e12:=s2 _ _ e1
      walk_at "rd"
      refine ZkW e12 (v:=.str z) rfl ?_
      walk_at "rd"
      rcases hc with ⟨rfl,g,rfl,rfl⟩ | ⟨v,rfl,rfl⟩
      · refine Zgm (by decide) ?_
        walk_at "rd"
        obtain ⟨f0,rfl,h0⟩ : ∃ f0,fs=[f0]∧FmE t H2 f0 (fmT id g):=by
          match fs,f4 with
          | [f0],.cons h0 .nil=>exact ⟨f0,rfl,h0⟩
        refine ZdP (j:=0) e4 (v:=.ref f0) rfl ?_
        walk_at "rd"
        refine ZpA fun x dx H3 s3 n3 e5=>?_
        exact q x H3 (s2.trans s3) (FmE.neg e5 (h0.ext (Ext.of s3)))
      · refine Zbm (by cases v <;> decide) ?_
        walk_at "rd"
        refine ZkW e12 (v:=.str (kw3 v)) rfl ?_
        walk_at "rd"
        have fin:∀ x dx tp H3,Same H2 H3→H3 x=some (.ins (cw t v) dx [(("parts" : Str),.ref tp)])→H3 tp=some (.tup (fs.map V.ref))→Q (.ref x) H3:=fun x dx tp H3 s3 h1 h2=>by
          refine q x H3 (s2.trans s3) ?_
          show FmE t H3 x (.join v (fmTL id gs))
          rw [ZvY]
          exact FmE.join h1 h2 (Zah (fun _ _ z=>z.ext (Ext.of s3)) f4)
        cases v with
        | a=>
          refine Zgm (by decide) ?_
          walk_at "rd"
          exact Zsp e4 fun x dx tp H3 s3 n3 h1 h2=>fin x dx tp H3 s3 h1 h2
        | e=>
          refine Zbm (by decide) ?_
          walk_at "rd"
          refine ZkW e12 (v:=.str (kw3 .e)) rfl ?_
          walk_at "rd"
          refine Zgm (by decide) ?_
          walk_at "rd"
          exact Zsp e4 fun x dx tp H3 s3 n3 h1 h2=>fin x dx tp H3 s3 h1 h2
        | o=>
          refine Zbm (by decide) ?_
          walk_at "rd"
          refine ZkW e12 (v:=.str (kw3 .o)) rfl ?_
          walk_at "rd"
          refine Zbm (by decide) ?_
          walk_at "rd"
          exact Zsp e4 fun x dx tp H3 s3 n3 h1 h2=>fin x dx tp H3 s3 h1 h2
end
unseal PE PA PS PSs
seal PE PA PS PSs
section
variable {P:Program} {w:World} {K:PySem.W.Frag} {mg:Str→Option Value} {base:Heap} {t:Ad} {n:Nat}
theorem ZKm {td ty tx:TE} {σ:St} {H:Hp} {Q:VK} (h:td σ H fun x H1=>∃ a,x=.ref a∧IsD H1 a∧ty σ H1 fun y H2=>tx σ H2 fun z H3=>∃ o,DGet H3 a y o∧Q (o.getD z) H3):ZJ2 td ty tx σ H Q:=h
theorem ZLD {trs:List (TE × TE)} {σ:St} {H:Hp} {Q:VK} (h:∀ p,H p=none→ZCA trs σ (upd H p (.dK [])) fun ps H2=>H2 p=some (.dK [])∧∃ kvs:List (Key × V),ps=kvs.map (fun kv=>(kV kv.1,kv.2))∧kvs.length≤15∧Q (.ref p) (upd H2 p (.dK (Zwu [] kvs)))):ZMY trs σ H Q:=h
def spRk:Sp:=fun vs H Q _=>∃ g:Tr,vs=[.str (ZFg g)]∧∀ H',Same H H'→Q (.int (rkK g:Int)) H'
theorem ZKH (T:Txt K mg t):FnS P w K mg base 1 "_law_rank" ["_law_kind"] (spRk):=by
 refine ⟨_,_,T.ZoS.ok ZCf (fun vs H Q E h=>?_) (fun cdv A outer s H vs Q E hr h=>?_),T.Zvs,T.ZoS.kp,T.Zwo⟩
 ·obtain ⟨g,rfl,q⟩ :=h
  rfl
 obtain ⟨g,rfl,q⟩ :=h
 refine ⟨_,(Zae (ZaA (ZIK (Nat.lt_of_le_of_lt (Nat.add_le_add_left (by decide) _) hr.units) (ZKM (ZzZ Zau Zam (ZzZ Zau Zam (ZzZ Zau Zam ZKR))) rfl rfl (List.cons_ne_nil _ _) (Nat.le_of_ble_eq_true rfl)) (pv 0) Zam ⟨rfl,rfl,rfl,rfl⟩))),?_⟩
 walk_at "rd0"
 refine ZKm ?_
 refine ZLD fun d hd=>?_
 simp only [ZCA]
 walk_at "rd"
 refine ⟨Zaz,[(Sum.inr "and",.int 1),(Sum.inr "either",.int 2),(Sum.inr "or",.int 3)],rfl,by decide,d,rfl,.inl ⟨_,.inl Zaz⟩,?_⟩
 walk_at "rd"
 refine ⟨_,DGet.k (k:=Sum.inr (ZFg g)) Zaz,?_⟩
 have e:(valV (Zwu [] [(Sum.inr "and",V.int 1),(Sum.inr "either",.int 2),(Sum.inr "or",.int 3)]) (Sum.inr (ZFg g):Key)).getD (.int 0)=.int (rkK g:Int):=by
  cases g with
  | lamp k=>rfl
  | sure b=>rfl
  | neg g=>rfl
  | wrap g=>rfl
  | join w gs=>cases w <;> rfl
 rw [e]
 refine q _ fun b u hb=>?_
 have hbd:b ≠ d:=Zaf hb hd
 rw [ZaS hbd,ZaS hbd]
 exact hb
theorem ZNB:∀ {g:Tr},noW g=true→rkK g=ZjR (fmT id g)
 | .lamp _,_=>rfl
 | .sure _,_=>rfl
 | .neg _,_=>rfl
 | .wrap _,h=>absurd h (by show ¬ (false=true); decide)
 | .join _ _,_=>rfl
mutual
theorem wt_T (π:Nat→Nat):∀ t:Tr,fWt (fmT π t) + 1≤2 * nT t
 | .lamp k=>by simp [fmT,fWt,nT]
 | .sure c=>by simp [fmT,fWt,nT]
 | .neg t=>by
  have:=wt_T π t
  simp only [fmT,fWt,nT]
  omega
 | .wrap t=>by
  have:=wt_T π t
  simp only [fmT,nT]
  omega
 | .join v ts=>by
  have:=ZM7 π ts
  simp only [fmT,fWt,nT]
  omega
theorem ZM7 (π:Nat→Nat):∀ ts:List Tr,fWtL (fmTL π ts)≤2 * nTL ts
 | []=>by simp [fmTL,fWtL]
 | t :: ts=>by
  have:=wt_T π t
  have:=ZM7 π ts
  simp only [fmTL,fWtL,nTL]
  omega
end
mutual
theorem ZwY {ns:List Str} (h:∀ z ∈ ns,z.length ≠ 0):∀ t:Tr,okT ns.length t=true→(ZaJ ns (fmT id t)).length ≠ 0
 | .lamp k,hk=>by
  have hk:k < ns.length:=by simpa [okT] using hk
  show (ns.getD k Str.empty).length ≠ 0
  rw [List.getD_eq_getElem?_getD,List.getElem?_eq_getElem hk]
  exact h _ (List.getElem_mem hk)
 | .sure b,_=>by cases b <;> (simp only [fmT,ZaJ]; decide +kernel)
 | .neg t,_=>by
  simp only [fmT,ZaJ]
  rw [Zak,Zak]
  have:Str.length "not " = 4:=by decide +kernel
  omega
 | .wrap t,hk=>ZwY h t hk
 | .join v ts,hk=>by
  simp only [okT,Bool.and_eq_true,decide_eq_true_iff] at hk
  show (ZaJ ns (.join v (fmTL id ts))).length ≠ 0
  rw [Zn6]
  refine ZGA ?_ fun x hx=>?_
  ·cases ts with
   | nil=>simp at hk
   | cons _ _=>simp [fmTL]
  ·obtain ⟨f,hf,rfl⟩ :=List.mem_map.mp hx
   unfold Zf0
   exact ZJh (ZyC h ts hk.2 f hf)
theorem ZyC {ns:List Str} (h:∀ z ∈ ns,z.length ≠ 0):∀ ts:List Tr,okTL ns.length ts=true→∀ f ∈ fmTL id ts,(ZaJ ns f).length ≠ 0
 | [],_,f,hf=>by simp [fmTL] at hf
 | t :: ts,hk,f,hf=>by
  simp only [okTL,Bool.and_eq_true] at hk
  have hf:f ∈ fmT id t :: fmTL id ts:=hf
  rcases List.mem_cons.mp hf with rfl | hf
  ·exact ZwY h t hk.1
  ·exact ZyC h ts hk.2 f hf
end
def ZJ1 (n:Nat):Sp:=fun vs H Q _=>∃ (p nl:Addr) (tr:Tr) (ns:List Str),vs=[.ref p,.ref nl]∧TwAt anyA H n p tr∧H nl=some (.lst (ns.map V.str))∧(∀ z ∈ ns,1≤z.length∧z.length≤8)∧okT ns.length tr=true∧noW tr=true∧nT tr≤61∧∀ H',Same H H'→Q (.str (ZaJ ns (fmT id tr))) H'
theorem ZJf (T:Txt K mg t):∀ n:Nat,FnS P w K mg base (n + 2) "_law_text" ["_law_tree","_law_names_here"] (ZJ1 n)
  | 0=>by
    have no:∀ vs H Q E,¬ ZJ1 0 vs H Q E:=fun vs H Q E h=>by
      obtain ⟨p,nl,tr,ns,_,h,_⟩ :=h
      exact h
    exact ⟨_,_,⟨fun vs H Q E h=>absurd h (no vs H Q E),fun A outer s H args us vs Q E _ _ _ _ h=>absurd h (no vs H Q E)⟩,T.Zpc,T.Zkj.kp,T.ZpD⟩
  | n + 1=>by
    have ZfJ:=ZJf T n
    have Zvb:=ZKH (P:=P) (w:=w) (base:=base) T
    refine ⟨_,_,T.Zkj.ok ZcI (fun vs H Q E h=>?_) (fun cdv A outer s H vs Q E hr h=>?_),T.Zpc,T.Zkj.kp,T.ZpD⟩
    · obtain ⟨p,nl,tr,ns,rfl,_⟩ :=h
      rfl
    obtain ⟨p,nl,tr,ns,rfl,hT,hn,h8,hok,hnw,h61,q⟩ :=h
    have h20:∀ z ∈ ns,z.length≤20:=fun z hz=>by have:=(h8 z hz).2; omega
    have hne:∀ z ∈ ns,z.length ≠ 0:=fun z hz=>by have:=(h8 z hz).1; omega
    refine ⟨_,(Zac (ss 2 ZcI.nd (ZbE ZaW (pv 0) Zam (fun _ _=>rfl)))
      (Zac (ZbV (Zav (ZbZ hr.units) (pv 2) Zau (ZaQ _))
      (Zae (ZaA (ZbE ZaW (pv 1) (ZbE ZaW (pv 0) Zam (fun _ _=>rfl)) (fun _ _=>rfl))))
      ZaI)
      (Zac (ZbV (Zav (ZbZ hr.units) (pv 2) Zau (ZaQ _))
      (Zae (ZaA (ZbE ZaW (Zb0 (Zaa Zau (Zaa Zau Zad))) (Zeq ZFV rfl T.B.int ZLl (Zaa (ZbE ZaW (pv 0) Zam (fun _ _=>rfl)) Zad)) (fun _ _=>rfl))))
      ZaI)
      (Zac (ss 3 ZcI.nd Zau)
      (Zac (Zb5 PassesOwn.never rfl (ZdK (ZbE ZaW (pv 0) Zam (fun _ _=>rfl))) (sg 4 ZcI.nd)
      (Zac (ss 5 ZcI.nd (Zbq ZfJ hr (Zaa (pv 4) (Zaa (pv 1) Zad))))
      (Zac (ZbV (Zav ZMj (Zbq Zvb hr (Zaa (ZbE ZaW (pv 4) Zam (fun _ _=>rfl)) Zad)) (Zbr (ZFX rfl) rfl T.B.max ZLm (Zaa Zam (Zaa (Zbq Zvb hr (Zaa (pv 2) Zad)) Zad))) (ZaQ _))
      (Zae (ss 5 ZcI.nd (ZaD ZaC (ZaD ZaC Zau (pv 5)) Zau)))
      ZaI)
      (Zac (ZbV (Zav (ZbZ hr.units) (pv 2) Zau (ZaQ _))
      (Zae (ZaA (ZaD ZaC Zau (pv 5))))
      ZaI)
      (Zac (ZbV (Zav (Zuh hr.units) (pv 3) Zau (ZaQ _))
      (Zae (ss 3 ZcI.nd (ZaD ZaC (ZaD ZaC (ZaD ZaC (pv 3) Zau) (pv 2)) Zau)))
      ZaI)
      (Zae (ss 3 ZcI.nd (ZaD ZaC (pv 3) (pv 5)))))))))
      (Zae (ZaA (pv 3)))))))),?_⟩
    walk_at "rd0"
    refine (fun (key:(∃ (z:Str) (l:Addr) (ps:List Addr) (gs:List Tr),H p=some (.tup [.str z,.ref l])∧H l=some (.lst (ps.map V.ref))∧Paired (TwAt anyA H n) ps gs∧ZFg tr=z∧z ≠ "lamp"∧z ≠ "sure"∧(∀ g ∈ gs,okT ns.length g=true∧noW g=true∧nT g≤61)∧gs.length≤61∧((z = "not"∧∃ g,gs=[g]∧tr=.neg g)∨∃ v,z=kw3 v∧tr=.join v gs))→?G)=>?main) ?key
    case main=>
     cases tr with
     | lamp k=>
      have hk:k < ns.length:=by simpa [okT] using hok
      refine ZkW hT (v:=.str "lamp") rfl ?_
      walk_at "rd"
      refine Zgm (by decide) ?_
      walk_at "rd"
      refine ZkW hT (v:=.int (k:Int)) rfl ?_
      refine ZdP (j:=k) hn (v:=.str (ns.getD k Str.empty)) (by rw [List.getElem?_map,List.getD_eq_getElem?_getD,List.getElem?_eq_getElem hk]; rfl) ?_
      exact q H (Same.refl _)
     | sure b=>
      refine ZkW hT (v:=.str "sure") rfl ?_
      walk_at "rd"
      refine Zbm (by decide) ?_
      walk_at "rd"
      refine Zgm (by decide) ?_
      walk_at "rd"
      refine ZfD (by simp) fun l1 H1 s1 n1 e1=>?_
      walk_at "rd"
      refine ZkW (s1 _ _ hT) (v:=.bl b) rfl ?_
      walk_at "rd"
      cases b with
      | true=>exact ZdP (j:=1) e1 (v:=.str "yes") rfl (q H1 s1)
      | false=>exact ZdP (j:=0) e1 (v:=.str "no") rfl (q H1 s1)
     | wrap g=>exact absurd hnw (by show ¬ (false=true); decide)
     | neg g=>
      obtain ⟨l,q',e1,_,e2,hq⟩ :=hT
      have h61:1 + nT g≤61:=h61
      exact key ⟨"not",l,[q'],[g],e1,e2,.cons hq .nil,rfl,by decide,by decide,fun x hx=>by rw [List.mem_singleton.mp hx]; exact ⟨hok,hnw,by omega⟩,Nat.le_of_ble_eq_true rfl,.inl ⟨rfl,g,rfl,rfl⟩⟩
     | join v gs=>
      obtain ⟨l,ps,e1,_,e2,hq⟩ :=hT
      have h61:1 + nTL gs≤61:=h61
      have:=ZDj gs
      simp only [okT,Bool.and_eq_true,decide_eq_true_iff] at hok
      rw [ZzL,List.all_eq_true] at hok
      exact key ⟨kw3 v,l,ps,gs,e1,e2,hq,rfl,by cases v <;> decide,by cases v <;> decide,fun x hx=>⟨hok.2 x hx,ZEz hnw hx,by have:=ZGV hx; omega⟩,by omega,.inr ⟨v,rfl,rfl⟩⟩
    case key=>
      rintro ⟨z,l,ps,gs,e1,e2,pp,ek,z1,z2,hg,hgl,hc⟩
      refine ZkW e1 (v:=.str z) rfl ?_
      walk_at "rd"
      refine Zbm (decide_eq_false z1) ?_
      walk_at "rd"
      refine Zbm (decide_eq_false z2) ?_
      walk_at "rd"
      refine ZkW e1 (v:=.ref l) rfl ?_
      have hpl:=Zas pp
      have rz:rkK tr≤3:=by
        cases tr with
        | join v gs=>cases v <;> exact Nat.le_of_ble_eq_true rfl
        | _=>exact Nat.zero_le _
      generalize hR:max 1 (rkK tr)=R
      have hR1:1≤R:=by omega
      have hRi:max (1:Int) (rkK tr:Int)=(R:Int):=by omega
      have zl:z.length≤8:=by rw [← ek]; cases tr with | join v gs=>cases v <;> exact Nat.le_of_ble_eq_true rfl | _=>exact Nat.le_of_ble_eq_true rfl
      generalize hsep:(" " : Str) ++ z ++ " " = sep
      have sepl:sep.length=z.length + 2:=by
        have:Str.length " " = 1:=by decide
        rw [← hsep,Zak,Zak]; omega
      have txl:∀ g ∈ gs,(Zf0 ns R (fmT id g)).length≤2450∧(Zf0 ns R (fmT id g)).length ≠ 0:=fun g hgm=>by
        obtain ⟨a,b,c⟩ :=hg g hgm
        have l1:=ZfC h20 (fmT id g)
        have l2:=wt_T id g
        have l3:=ZyS (decide (R≤ZjR (fmT id g))) (ZaJ ns (fmT id g))
        unfold Zf0
        exact ⟨by omega,ZJh (ZwY hne g a)⟩
      have jl:∀ i,(Txt.join sep ((gs.take i).map fun g=>Zf0 ns R (fmT id g))).length≤2450 * 61 + 61 * 10:=fun i=>by
        have a:=Zy7 sep ((gs.take i).map fun g=>Zf0 ns R (fmT id g))
        have b:=ZAt (B:=2450) (zs:=(gs.take i).map fun g=>Zf0 ns R (fmT id g)) (fun y hy=>by
          obtain ⟨g,hgm,rfl⟩ :=List.mem_map.mp hy
          exact (txl g (List.mem_of_mem_take hgm)).1)
        rw [List.length_map,List.length_take] at a b
        have c:min i gs.length≤61:=by omega
        have d:2450 * min i gs.length≤2450 * 61:=Nat.mul_le_mul_left _ c
        have e:min i gs.length * sep.length≤61 * 10:=Nat.mul_le_mul c (by omega)
        omega
      refine seqL (xs:=ps.map V.ref) (fun i σ H'=>∃ v4 v5,Same H H'∧(0 < i→z ≠ "not")∧σ=[some (.ref p),some (.ref nl),some (.str z),some (.str (Txt.join sep ((gs.take i).map fun g=>Zf0 ns R (fmT id g)))),v4,v5]) ⟨_,_,Same.refl _,fun h=>absurd h (by omega),rfl⟩ (fun i σ H' _ hp=>by obtain ⟨_,_,s,_⟩ :=hp; exact SqL.of (s _ _ e2)) ?_ ?_
      · rintro i x σ H2 hx ⟨v4,v5,s2,hi0,rfl⟩
        obtain ⟨y,rfl,hy⟩ :=Zcb hx
        obtain ⟨g,hgi,hT'⟩ :=Za1 pp hy
        have hgm:=List.mem_of_getElem? hgi
        obtain ⟨okg,nwg,ntg⟩ :=hg g hgm
        obtain ⟨tx1,tx2⟩ :=txl g hgm
        have hil:=(List.getElem?_eq_some_iff.mp hgi).1
        have jli:=jl i
        have l1:=ZfC h20 (fmT id g)
        have l2:=wt_T id g
        have hT2:=hT'.same s2
        obtain ⟨v,ekg⟩ :=hT2.kind
        have lb:Str.length "(" = 1:=by decide
        have lc:Str.length ")" = 1:=by decide
        have ld:Str.length " " = 1:=by decide
        walk_at "rs"
        refine ZBk ?_
        walk_at "rs"
        refine ⟨y,nl,g,ns,rfl,hT2,s2 _ _ hn,h8,okg,nwg,ntg,fun H3 s3=>?_⟩
        walk_at "rs"
        refine Zv7 (fun σ H'=>Same H2 H'∧σ=[some (.ref p),some (.ref nl),some (.str z),some (.str (Txt.join sep ((gs.take i).map fun g=>Zf0 ns R (fmT id g)))),some (.ref y),some (.str (Zf0 ns R (fmT id g)))]) ?_ ?_
        rotate_left
        · intro Kn hK
          walk_at "rs"
          refine ZkW (s3 _ _ ekg) (v:=.str (ZFg g)) rfl ?_
          walk_at "rs"
          refine ⟨g,rfl,fun H4 s4=>?_⟩
          walk_at "rs"
          refine ⟨tr,by rw [ek],fun H5 s5=>?_⟩
          walk_at "rs"
          rw [hRi]
          walk_at "rs"
          have w5:=s3.trans (s4.trans s5)
          have rk:=ZNB nwg
          unfold Zf0 at hK ⊢
          refine ZhG (fun h=>?_) (fun h=>?_)
          · walk_at "rs"
            refine ZcR (Zbn (by omega)) ?_
            walk_at "rs"
            refine ZcR (Zbn (by rw [Zak]; omega)) ?_
            walk_at "rs"
            refine hK _ _ ⟨w5,?_⟩
            rw [decide_eq_true (show R≤ZjR (fmT id g) by omega)]
            unfold brk
            rw [if_pos rfl,ZvX]
          · walk_at "rs"
            refine hK _ _ ⟨w5,?_⟩
            rw [decide_eq_false (show ¬ R≤ZjR (fmT id g) by omega)]
            rfl
        rintro σ H4 ⟨s4,rfl⟩
        generalize hP:Zf0 ns R (fmT id g)=px at tx1 tx2
        walk_at "rs"
        refine Zv7 (fun σ H'=>H4=H'∧z ≠ "not"∧σ=[some (.ref p),some (.ref nl),some (.str z),some (.str (Txt.join sep ((gs.take i).map fun g=>Zf0 ns R (fmT id g)))),some (.ref y),some (.str px)]) ?_ ?_
        rotate_left
        · intro Kn hK
          walk_at "rs"
          refine ZhG (fun h=>?_) (fun h=>?_)
          · walk_at "rs"
            have le:Str.length "not " = 4:=by decide
            refine ZcR (Zbn (by omega)) ?_
            rcases hc with ⟨_,g',rfl,rfl⟩ | ⟨v',rfl,_⟩
            · have e0:g=g':=by
                have:=hgm
                simpa using this
              subst e0
              have:=q H4 (s2.trans s4)
              simp only [fmT,ZaJ] at this
              rw [ZvX] at this
              have hR':R=1:=by rw [← hR]; rfl
              rw [← hP,hR']
              exact this
            · exact absurd h (by cases v' <;> decide)
          · walk_at "rs"
            exact hK _ _ ⟨rfl,h,rfl⟩
        rintro σ H5 ⟨rfl,hzn,rfl⟩
        refine Zv7 (fun σ H'=>H4=H'∧∃ ln:Str,ln ++ px=Txt.join sep ((gs.take (i + 1)).map fun g=>Zf0 ns R (fmT id g))∧ln.length≤2450 * 61 + 61 * 10 + 20∧σ=[some (.ref p),some (.ref nl),some (.str z),some (.str ln),some (.ref y),some (.str px)]) ?_ ?_
        rotate_left
        · intro Kn hK
          walk_at "rs"
          rw [show ∀ y:Str,(!decide (y=Str.ofString ""))=decide (y ≠ Str.ofString "") from fun y=>(decide_not ..).symm]
          refine ZhG (fun h=>?_) (fun h=>?_)
          · walk_at "rs"
            refine ZcR (Zbn (by omega)) ?_
            walk_at "rs"
            refine ZcR (Zbn (by rw [Zak]; omega)) ?_
            walk_at "rs"
            refine ZcR (Zbn (by rw [Zak,Zak]; omega)) ?_
            walk_at "rs"
            refine hK _ _ ⟨rfl,_,?_,by rw [Zak,Zak,Zak]; omega,rfl⟩
            have hne':((gs.take i).map fun g=>Zf0 ns R (fmT id g)) ≠ []:=fun e=>h (by rw [e]; rfl)
            rw [ZaY hgi,List.map_append,List.map_cons,List.map_nil,ZBp,if_neg hne',hP,← hsep]
            simp only [ZHL]
          · walk_at "rs"
            refine hK _ _ ⟨rfl,_,?_,by omega,rfl⟩
            have he:((gs.take i).map fun g=>Zf0 ns R (fmT id g))=[]:=Classical.byContradiction fun hne'=>ZGA (sep:=sep) hne' (fun x hx=>by
              obtain ⟨g',hg',rfl⟩ :=List.mem_map.mp hx
              exact (txl g' (List.mem_of_mem_take hg')).2) (by
                have h:=Classical.not_not.mp h
                rw [h]; rfl)
            rw [ZaY hgi,List.map_append,List.map_cons,List.map_nil,he,hP]
            exact ZvX px
        rintro σ H5 ⟨rfl,ln,hln,hll,rfl⟩
        walk_at "rs"
        refine ZcR (Zbn (by omega)) ?_
        walk_at "rs"
        exact ⟨_,_,s2.trans s4,fun _=>hzn,by rw [hln]⟩
      · rintro σ H2 ⟨v4,v5,s2,hi0,rfl⟩
        walk_at "rd"
        rw [List.length_map,hpl,List.take_length]
        rcases hc with ⟨rfl,g',rfl,rfl⟩ | ⟨v',rfl,rfl⟩
        · exact absurd rfl (hi0 (by rw [List.length_map,hpl]; exact Nat.zero_lt_one))
        · have:=q H2 s2
          have e1:ZaJ ns (fmT id (.join v' gs))=Txt.join (ZsK v') ((fmTL id gs).map (Zf0 ns (ZfE v'))):=Zn6 ns v' (fmTL id gs)
          rw [e1,ZvY,List.map_map] at this
          have hR':R=ZfE v':=by rw [← hR]; cases v' <;> rfl
          have hs':sep=ZsK v':=by rw [← hsep]; cases v' <;> decide
          rw [hR',hs']
          exact this
end
unseal PE PA PS PSs
def fmM (v:Tr × List (Nat × Tr)):Fm × List (Nat × Fm):=(fmT id v.1,v.2.map fun c=>(c.1,fmT id c.2))
structure OkTr (m:Nat) (tr:Tr):Prop where
 ok:okT m tr=true
 nw:noW tr=true
 nt:nT tr≤40
structure OkMv (m:Nat) (v:Tr × List (Nat × Tr)):Prop where
 gd:OkTr m v.1
 cs:∀ c ∈ v.2,OkTr m c.2∧c.1 < m
 nd:(v.2.map Prod.fst).Nodup
 l1:1≤v.2.length
 l6:v.2.length≤6
def TrC (H:Hp) (h:Addr) (c:Nat × Tr):Prop:=∃ q,H h=some (.tup [.int (c.1:Int),.ref q])∧TwAt anyA H 4 q c.2
def MvT (H:Hp) (x:Addr) (v:Tr × List (Nat × Tr)):Prop:=∃ gp cl hs,H x=some (.tup [.ref gp,.ref cl])∧TwAt anyA H 4 gp v.1∧H cl=some (.lst (hs.map V.ref))∧Paired (TrC H) hs v.2
theorem TrC.same {H H':Hp} (s:Same H H') {h:Addr} {c:Nat × Tr} (a:TrC H h c):TrC H' h c:=by
 obtain ⟨q,e,x⟩ :=a
 exact ⟨q,s _ _ e,x.same s⟩
theorem MvT.same {H H':Hp} (s:Same H H') {x:Addr} {v:Tr × List (Nat × Tr)} (a:MvT H x v):MvT H' x v:=by
 obtain ⟨gp,cl,hs,e,x,e2,p⟩ :=a
 exact ⟨gp,cl,hs,s _ _ e,x.same s,s _ _ e2,Zah (fun _ _ z=>z.same s) p⟩
seal PE PA PS PSs
section
variable {P:Program} {w:World} {K:PySem.W.Frag} {mg:Str→Option Value} {base:Heap} {t:Ad} {n:Nat}
def ZIZ:Sp:=fun vs H Q _=>∃ (nl sl bl ml:Addr) (ns:List Str) (qs qb qv:List Addr) (fs bs:List Tr) (us:List (Tr × List (Nat × Tr))),vs=[.ref nl,.ref sl,.ref bl,.ref ml]∧H nl=some (.lst (ns.map V.str))∧H sl=some (.lst (qs.map V.ref))∧H bl=some (.lst (qb.map V.ref))∧H ml=some (.lst (qv.map V.ref))∧Paired (TwAt anyA H 4) qs fs∧Paired (TwAt anyA H 4) qb bs∧Paired (MvT H) qv us∧ns.length≤6∧(∀ z ∈ ns,1≤z.length∧z.length≤8)∧(∀ g ∈ fs,OkTr ns.length g)∧(∀ g ∈ bs,OkTr ns.length g)∧(∀ v ∈ us,OkMv ns.length v)∧fs.length≤8∧bs.length≤8∧us.length≤8∧
 ∀ l H',Same H H'→H l=none→H' l=some (.lst ((Zym ns (fs.map (fmT id)) (bs.map (fmT id)) (us.map fmM)).map V.str))→Q (.ref l) H'
theorem ZID (T:Txt K mg t):FnS P w K mg base 8 "_law_lines" ["_law_names_here","_law_starts","_law_bads","_law_moves_here"] (ZIZ):=by
 refine ⟨_,_,T.ZlR.ok ZcQ (fun vs H Q E h=>?_) (fun cdv A outer s H vs Q E hr h=>?_),T.Zs9,T.ZlR.kp,T.Zt8⟩
 ·obtain ⟨nl,sl,bl,ml,ns,qs,qb,qv,fs,bs,us,rfl,hn,h3,h4,h5,p1,p2,p3,h6,h8,k1,k2,k3,z1,z2,z3,q⟩ :=h
  rfl
 obtain ⟨nl,sl,bl,ml,ns,qs,qb,qv,fs,bs,us,rfl,hn,h3,h4,h5,p1,p2,p3,h6,h8,k1,k2,k3,z1,z2,z3,q⟩ :=h
 have ZfJ:=ZJf (P:=P) (w:=w) (base:=base) T 4
 have h20:∀ z ∈ ns,z.length≤20:=fun z hz=>by have:=(h8 z hz).2; omega
 have h8':∀ z ∈ ns,z.length≤8:=fun z hz=>(h8 z hz).2
 have hp1:=Zas p1
 have hp2:=Zas p2
 have hp3:=Zas p3
 have tl:∀ {g:Tr},OkTr ns.length g→(ZaJ ns (fmT id g)).length≤1600:=fun {g} o=>by
  have a:=ZfC h20 (fmT id g)
  have b:=wt_T id g
  have c:=o.nt
  omega
 refine ⟨_,(Zac (ss 4 ZcQ.nd (Zb0 (Zaa (ZaD ZaC Zau (Zc8 PySem.F.plainAttrs_str PySem.F.slot_str_join PySem.F.type_str_join Zwx Zau (Zaa (pv 0) Zad))) Zad)))
   (Zac (Zb5 PassesOwn.never rfl (ZdK (pv 1)) (sg 5 ZcQ.nd)
   (Zae (ZaR (Zc8 PySem.F.plainAttrs_list PySem.F.slot_list_append PySem.F.type_list_append ZaK (pv 4) (Zaa (ZaD ZaC Zau (Zbq ZfJ hr (Zaa (pv 5) (Zaa (pv 0) Zad)))) Zad)))))
   (Zac (Zb5 PassesOwn.never rfl (ZdK (pv 2)) (sg 5 ZcQ.nd)
   (Zae (ZaR (Zc8 PySem.F.plainAttrs_list PySem.F.slot_list_append PySem.F.type_list_append ZaK (pv 4) (Zaa (ZaD ZaC Zau (Zbq ZfJ hr (Zaa (pv 5) (Zaa (pv 0) Zad)))) Zad)))))
   (Zac (Zb5 PassesOwn.never rfl (ZdK (pv 3)) (Zyx rfl (ZeA (sg 6 ZcQ.nd) (ZeA (sg 7 ZcQ.nd) ZsC)))
   (Zac (ZIO 8 ZcQ.nd (sc:=Zab ZbA) (N:=["_law_names_here","_law_starts","_law_bads","_law_moves_here","_law_lines_here","_law_tree","_law_guard","_law_changes","_law_pieces"]) (ns:=["_law_names_here"]) (ix:=[0]) rfl rfl (by decide +kernel) rfl (ZdK (pv 7)) (fun _ _ _ _=>ZsD) (fun _ _ _ _=>(ZaD ZaC (ZaD ZaC (ZbE (ZKw (K:=K) rfl) (pv 2) (pv 0) (fun _ _=>rfl)) Zau) (Zbq ZfJ hr (Zaa (pv 1) (Zaa (pv 2) Zad))))))
   (Zae (ZaR (Zc8 PySem.F.plainAttrs_list PySem.F.slot_list_append PySem.F.type_list_append ZaK (pv 4) (Zaa (ZaD ZaC (ZaD ZaC (ZaD ZaC Zau (Zbq ZfJ hr (Zaa (pv 6) (Zaa (pv 0) Zad)))) Zau) (Zc8 PySem.F.plainAttrs_str PySem.F.slot_str_join PySem.F.type_str_join Zwx Zau (Zaa (pv 8) Zad))) Zad))))))
   (Zae (ZaA (pv 4))))))),?_⟩
 walk_at "rd0"
 refine ⟨tyS,?_⟩
 walk_at "rd"
 obtain ⟨j1,j2⟩ :=Zsq (B:=8) (z:=" ") (ts:=ns) h8' (by omega) (by decide) (by omega)
 have l1:Str.length "lamps " = 6:=by decide +kernel
 have l2:Str.length "start " = 6:=by decide +kernel
 have l3:Str.length "bad " = 4:=by decide +kernel
 refine ⟨_,nl,_,rfl,rfl,SqL.of hn,j1,?_⟩
 refine ZcR (Zbn (by omega)) ?_
 walk_at "rd"
 refine ZfD (by simp) fun ll H2 s2 nll e2=>?_
 have e2:H2 ll=some (.lst ([("lamps " : Str) ++ Txt.join " " ns].map V.str)):=e2
 walk_at "rd"
 generalize hA:[("lamps " : Str) ++ Txt.join " " ns]=A0 at e2
 have hA1:A0.length=1:=by rw [← hA]; rfl
 refine seqL (xs:=qs.map V.ref) (fun i σ H'=>Same H H'∧H' ll=some (.lst ((A0 ++ (fs.take i).map (fun f=>("start " : Str) ++ ZaJ ns (fmT id f))).map V.str))∧∃ v5,σ=[some (.ref nl),some (.ref sl),some (.ref bl),some (.ref ml),some (.ref ll),v5,none,none,none]) ⟨s2,by rw [e2]; simp,_,rfl⟩ (fun i σ H' _ hp=>by obtain ⟨s,_⟩ :=hp; exact SqL.of (s _ _ h3)) ?_ ?_
 ·rintro i y σ H3 hy ⟨s3,el3,v3,rfl⟩
  obtain ⟨y,rfl,hy'⟩ :=Zcb hy
  obtain ⟨f,hfi,hf⟩ :=Za1 p1 hy'
  have okf:=k1 f (List.mem_of_getElem? hfi)
  have hsl:=tl okf
  have hil:=(List.getElem?_eq_some_iff.mp hfi).1
  walk_at "rd"
  refine ⟨tyL el3,?_⟩
  walk_at "rd"
  refine ⟨y,nl,f,ns,rfl,hf.same s3,s3 _ _ hn,h8,okf.ok,okf.nw,by have:=okf.nt; omega,fun H4 s4=>?_⟩
  refine ZcR (Zbn (by omega)) ?_
  walk_at "rd"
  refine Za5 (s4 _ _ el3) (by rw [List.length_map,List.length_append,List.length_map,List.length_take]; omega) fun H5 b5 e5=>?_
  walk_at "rd"
  refine ⟨b5.same nll (s3.trans s4),?_,_,rfl⟩
  rw [e5,ZaY hfi]
  simp only [List.map_append,List.map_cons,List.map_nil,List.append_assoc]
 rintro σ H3 ⟨s3,el3,v5,rfl⟩
 rw [List.length_map,hp1,List.take_length] at el3
 generalize hB:A0 ++ fs.map (fun f=>("start " : Str) ++ ZaJ ns (fmT id f))=B0 at el3
 have hB1:B0.length=1 + fs.length:=by rw [← hB,List.length_append,List.length_map,hA1]
 clear e2 s2
 walk_at "rd"
 refine seqL (xs:=qb.map V.ref) (fun i σ H'=>Same H H'∧H' ll=some (.lst ((B0 ++ (bs.take i).map (fun f=>("bad " : Str) ++ ZaJ ns (fmT id f))).map V.str))∧∃ v5,σ=[some (.ref nl),some (.ref sl),some (.ref bl),some (.ref ml),some (.ref ll),v5,none,none,none]) ⟨s3,by rw [el3]; simp,_,rfl⟩ (fun i σ H' _ hp=>by obtain ⟨s,_⟩ :=hp; exact SqL.of (s _ _ h4)) ?_ ?_
 ·clear s3 el3 v5
  rintro i y σ H3 hy ⟨s3,el3,v3,rfl⟩
  obtain ⟨y,rfl,hy'⟩ :=Zcb hy
  obtain ⟨f,hfi,hf⟩ :=Za1 p2 hy'
  have okf:=k2 f (List.mem_of_getElem? hfi)
  have hsl:=tl okf
  have hil:=(List.getElem?_eq_some_iff.mp hfi).1
  walk_at "rd"
  refine ⟨tyL el3,?_⟩
  walk_at "rd"
  refine ⟨y,nl,f,ns,rfl,hf.same s3,s3 _ _ hn,h8,okf.ok,okf.nw,by have:=okf.nt; omega,fun H4 s4=>?_⟩
  refine ZcR (Zbn (by omega)) ?_
  walk_at "rd"
  refine Za5 (s4 _ _ el3) (by rw [List.length_map,List.length_append,List.length_map,List.length_take]; omega) fun H5 b5 e5=>?_
  walk_at "rd"
  refine ⟨b5.same nll (s3.trans s4),?_,_,rfl⟩
  rw [e5,ZaY hfi]
  simp only [List.map_append,List.map_cons,List.map_nil,List.append_assoc]
 clear s3 el3
 rintro σ H3 ⟨s3,el3,v6,rfl⟩
 rw [List.length_map,hp2,List.take_length] at el3
 generalize hC0:B0 ++ bs.map (fun f=>("bad " : Str) ++ ZaJ ns (fmT id f))=C0 at el3
 have hC1:C0.length=1 + fs.length + bs.length:=by rw [← hC0,List.length_append,List.length_map,hB1]
 walk_at "rd"
 refine seqL (xs:=qv.map V.ref) (fun i σ H'=>Same H H'∧H' ll=some (.lst ((C0 ++ (us.take i).map (fun v=>shM ns (fmM v))).map V.str))∧∃ a b c,σ=[some (.ref nl),some (.ref sl),some (.ref bl),some (.ref ml),some (.ref ll),v6,a,b,c]) ⟨s3,by rw [el3]; simp,_,_,_,rfl⟩ (fun i σ H' _ hp=>by obtain ⟨s,_⟩ :=hp; exact SqL.of (s _ _ h5)) ?_ ?_
 ·clear s3 el3
  rintro i y σ H3 hy ⟨s3,el3,a,b,c,rfl⟩
  obtain ⟨y,rfl,hy'⟩ :=Zcb hy
  obtain ⟨v,hfi,hM⟩ :=Za1 p3 hy'
  have okv:=k3 v (List.mem_of_getElem? hfi)
  have hil:=(List.getElem?_eq_some_iff.mp hfi).1
  obtain ⟨gp,cl,hs,m1,m2,m3,m4⟩ :=hM.same s3
  have hcl:=Zas m4
  have l6:=okv.l6
  have pl:∀ c ∈ v.2,(ZcA ns (c.1,fmT id c.2)).length≤1620:=fun c hc=>by
   obtain ⟨o,hk⟩ :=okv.cs c hc
   have a:=tl o
   have b:(ns.getD c.1 Str.empty).length≤8:=ZqK h8' c.1
   have e:Str.length " is " = 4:=by decide +kernel
   unfold ZcA
   rw [Zak,Zak]
   show (ns.getD c.1 Str.empty).length + _ + (ZaJ ns (fmT id c.2)).length≤_
   omega
  refine ZFc m1 ?_
  walk_at "rd"
  refine .inl ⟨cl,_,rfl,SqL.of m3,?_⟩
  refine ZDX (fun i ys H'=>ys=((v.2.take i).map fun c=>ZcA ns (c.1,fmT id c.2)).map V.str) (ZAx (SqL.of m3)) (by rw [List.length_map]; omega) (fun i x hx=>?_) (fun H' _=>rfl) (fun i ys H1 H2 x h=>h) ?_ ?_
  ·obtain ⟨h,rfl,hx''⟩ :=Zcb hx
   obtain ⟨c,hgc,q',e',_⟩ :=Za1 m4 hx''
   exact ⟨h,_,_,rfl,e'⟩
  ·rintro i2 h va vb ys acc H4 hx eh s4 hacc ea rfl _ R' kk
   obtain ⟨h',e',hx''⟩ :=Zcb hx
   cases e'
   obtain ⟨c,hgc,q',e',hT⟩ :=Za1 m4 hx''
   obtain ⟨o,hk⟩ :=okv.cs c (List.mem_of_getElem? hgc)
   have hs1:=tl o
   have hb:(ns.getD c.1 Str.empty).length≤8:=ZqK h8' c.1
   have he:Str.length " is " = 4:=by decide +kernel
   rw [e'] at eh
   cases eh
   simp only [subS,List.map_cons,List.map_nil]
   walk_at "rd"
   refine kk true H4 (Same.refl _) (fun z=>by cases z) fun _ R2 k2=>?_
   walk_at "rd"
   refine ZdP (j:=c.1) ((s3.trans s4) _ _ hn) (v:=.str (ns.getD c.1 Str.empty)) (by rw [List.getElem?_map,List.getD_eq_getElem?_getD,List.getElem?_eq_getElem hk]; rfl) ?_
   walk_at "rd"
   refine ZcR (Zbn (by omega)) ?_
   walk_at "rd"
   refine ⟨q',nl,c.2,ns,rfl,hT.same s4,(s3.trans s4) _ _ hn,h8,o.ok,o.nw,by have:=o.nt; omega,fun H5 s5=>?_⟩
   refine ZcR (Zbn (by rw [Zak]; omega)) ?_
   refine k2 _ _ s5 ?_
   rw [ZaY hgc,List.map_append,List.map_append]
   rfl
  ·rintro acc ys H4 hacc s4 ea rfl
   rw [List.length_map,hcl,List.take_length] at ea
   have lg:=tl okv.gd
   have lm:Str.length "move " = 5:=by decide +kernel
   have lt:Str.length " then " = 6:=by decide +kernel
   obtain ⟨x1,x2⟩ :=Zsq (B:=1620) (z:=", ") (ts:=v.2.map fun c=>ZcA ns (c.1,fmT id c.2)) (fun y hy=>by
    obtain ⟨c,hc,rfl⟩ :=List.mem_map.mp hy
    exact pl c hc) (by omega) (by decide) (by rw [List.length_map]; omega)
   walk_at "rd"
   refine ⟨tyL (s4 _ _ el3),?_⟩
   walk_at "rd"
   refine ⟨gp,nl,v.1,ns,rfl,m2.same s4,(s3.trans s4) _ _ hn,h8,okv.gd.ok,okv.gd.nw,by have:=okv.gd.nt; omega,fun H5 s5=>?_⟩
   refine ZcR (Zbn (by omega)) ?_
   walk_at "rd"
   refine ZcR (Zbn (by rw [Zak]; omega)) ?_
   walk_at "rd"
   refine ⟨tyS,?_⟩
   walk_at "rd"
   refine ⟨_,acc,_,rfl,rfl,SqL.of (s5 _ _ ea),x1,?_⟩
   refine ZcR (Zbn (by rw [Zak,Zak]; omega)) ?_
   walk_at "rd"
   refine Za5 (s5 _ _ (s4 _ _ el3)) (by rw [List.length_map,List.length_append,List.length_map,List.length_take]; omega) fun H6 b6 e6=>?_
   walk_at "rd"
   refine ⟨b6.same nll (s3.trans (s4.trans s5)),?_,_,_,_,rfl⟩
   rw [e6,ZaY hfi]
   simp only [List.map_append,List.map_cons,List.map_nil,List.append_assoc]
   have:shM ns (fmM v)=("move " : Str) ++ ZaJ ns (fmT id v.1) ++ " then " ++ Txt.join ", " (v.2.map fun c=>ZcA ns (c.1,fmT id c.2)):=by
    unfold shM fmM
    rw [List.map_map]
    rfl
   rw [this]
 clear s3 el3
 rintro σ H3 ⟨s3,el3,a,b,c,rfl⟩
 rw [List.length_map,hp3,List.take_length] at el3
 walk_at "rd"
 refine q ll H3 s3 nll ?_
 rw [el3,← hC0,← hB,← hA]
 unfold Zym
 rw [List.map_map,List.map_map,List.map_map]
 rfl
def ZMU:Sp:=fun vs H Q _=>∃ (a b:Addr) (zs:List Str),vs=[.ref a,.ref b]∧H a=some (.lst (zs.map V.str))∧H b=some (.lst (zs.map V.str))∧zs.length≤1000∧Q (.bl true) H
theorem ZKI (T:Txt K mg t):FnS P w K mg base 1 "_law_same" ["_law_found","_law_due"] (ZMU):=by
 refine ⟨_,_,T.ZoT.ok Zuw (fun vs H Q E h=>?_) (fun cdv A outer s H vs Q E hr h=>?_),T.Zvt,T.ZoT.kp,T.Zwp⟩
 ·obtain ⟨a,b,zs,rfl,ha,hb,hz,q⟩ :=h
  rfl
 obtain ⟨a,b,zs,rfl,ha,hb,hz,q⟩ :=h
 refine ⟨_,(Zac (ZbV (PW.pt (ZxD (ZCb (Zgj (Zbr ZDV rfl T.B.isinstance Zqc (Zaa (pv 0) (Zaa (ZHf (v:=.ty "list") rfl T.B.list ZyT rfl) Zad))) (fun _=>rfl))) (ZoQ (Zav (Zuh hr.units) (Zbr Zbl rfl T.B.len ZfG (Zaa (pv 0) Zad)) (Zbr Zbl rfl T.B.len ZfG (Zaa (pv 1) Zad)) (ZaQ _)))))
   (Zae (ZaA ZxA))
   ZaI)
   (Zac (Zb5 PassesOwn.never rfl (Zer rfl T.B.range (Zaa (Zbr Zbl rfl T.B.len ZfG (Zaa (pv 1) Zad)) Zad)) (sg 2 Zuw.nd)
   (Zae (ZbV (PW.pt (ZxD (ZCb (Zgj (Zbr ZDV rfl T.B.isinstance Zqc (Zaa (ZbE ZaW (pv 0) (pv 2) (fun _ _=>rfl)) (Zaa (ZHf (v:=.ty "str") rfl T.B.str ZLn rfl) Zad))) (fun _=>rfl))) (ZoQ (Zav (Zuh hr.units) (ZbE ZaW (pv 0) (pv 2) (fun _ _=>rfl)) (ZbE ZaW (pv 1) (pv 2) (fun _ _=>rfl)) (ZaQ _)))))
   (Zae (ZaA ZxA))
   ZaI)))
   (Zae (ZaA ZxA)))),?_⟩
 walk_at "rd0"
 refine Zbm rfl ?_
 walk_at "rd"
 refine Zbm (by rw [decide_eq_true rfl]; rfl) ?_
 walk_at "rd"
 rw [List.length_map]
 refine ⟨_,rfl,by omega,by omega,?_⟩
 rw [show ((zs.length:Int)).toNat=zs.length by omega]
 refine Zwm (n:=zs.length) (fun i σ H'=>H'=H∧∃ v,σ=[some (.ref a),some (.ref b),v]) ⟨rfl,_,rfl⟩ ?_ ?_
 ·rintro i σ H' hi ⟨rfl,v,rfl⟩
  have e:(zs.map V.str)[i]?=some (.str zs[i]):=by rw [List.getElem?_map,List.getElem?_eq_getElem hi]; rfl
  walk_at "rd"
  refine ZdP (j:=i) ha e ?_
  walk_at "rd"
  refine Zbm rfl ?_
  walk_at "rd"
  refine ZdP (j:=i) ha e ?_
  walk_at "rd"
  refine ZdP (j:=i) hb e ?_
  walk_at "rd"
  refine Zbm (by rw [decide_eq_true rfl]; rfl) ?_
  walk_at "rd"
  exact ⟨rfl,_,rfl⟩
 ·rintro σ H' ⟨rfl,v,rfl⟩
  walk_at "rd"
  exact q
end
unseal PE PA PS PSs
def TrCS (S:Addr→Prop) (H:Hp) (h:Addr) (c:Nat × Tr):Prop:=∃ q,H h=some (.tup [.int (c.1:Int),.ref q])∧TwAt S H 4 q c.2
def MvTS (S:Addr→Prop) (H:Hp) (x:Addr) (v:Tr × List (Nat × Tr)):Prop:=∃ gp cl hs,H x=some (.tup [.ref gp,.ref cl])∧TwAt S H 4 gp v.1∧S cl∧H cl=some (.lst (hs.map V.ref))∧Paired (TrCS S H) hs v.2
theorem TrCS.imp {S S':Addr→Prop} {H H':Hp} (ht:∀ p xs,H p=some (.tup xs)→H' p=some (.tup xs)) (hl:∀ l xs,S l→H l=some (.lst xs)→S' l∧H' l=some (.lst xs)) {h:Addr} {c:Nat × Tr} (a:TrCS S H h c):TrCS S' H' h c:=by
 obtain ⟨q,e,x⟩ :=a
 exact ⟨q,ht _ _ e,x.imp ht hl⟩
theorem MvTS.imp {S S':Addr→Prop} {H H':Hp} (ht:∀ p xs,H p=some (.tup xs)→H' p=some (.tup xs)) (hl:∀ l xs,S l→H l=some (.lst xs)→S' l∧H' l=some (.lst xs)) {x:Addr} {v:Tr × List (Nat × Tr)} (a:MvTS S H x v):MvTS S' H' x v:=by
 obtain ⟨gp,cl,hs,e,x,sc,e2,p⟩ :=a
 exact ⟨gp,cl,hs,ht _ _ e,x.imp ht hl,(hl _ _ sc e2).1,(hl _ _ sc e2).2,Zah (fun _ _ z=>z.imp ht hl) p⟩
theorem MvTS.any {S:Addr→Prop} {H:Hp} {x:Addr} {v:Tr × List (Nat × Tr)} (a:MvTS S H x v):MvT H x v:=by
 obtain ⟨gp,cl,hs,e,x,sc,e2,p⟩ :=a
 exact ⟨gp,cl,hs,e,x.any,e2,Zah (fun _ _ ⟨q,e,y⟩ =>⟨q,e,y.any⟩) p⟩
theorem ZIT {m:Nat} (a:Int) (h0:0 < m):∀ z,z≤m→((List.range z).map fun j:Nat=>((a + (j:Int)) % (m:Int)).toNat).Nodup:=by
 intro z hz
 induction z with
 | zero=>simp
 | succ z ih=>
  rw [List.range_succ,List.map_append,List.nodup_append]
  refine ⟨ih (by omega),by simp,fun x hx y hy e=>?_⟩
  obtain ⟨j,hj,rfl⟩ :=List.mem_map.mp hx
  rw [List.mem_range] at hj
  simp only [List.map_cons,List.map_nil,List.mem_singleton] at hy
  subst hy
  have v1:=Int.emod_nonneg (a + (j:Int)) (show (m:Int) ≠ 0 by omega)
  have v2:=Int.emod_nonneg (a + (z:Int)) (show (m:Int) ≠ 0 by omega)
  have e2:(a + (j:Int)) % (m:Int)=(a + (z:Int)) % (m:Int):=by omega
  have e3:=Int.emod_emod_of_dvd (a + (j:Int)) (Int.dvd_refl (m:Int))
  have d:((m:Int)) ∣ ((a + (z:Int)) - (a + (j:Int))):=Int.dvd_of_emod_eq_zero (by rw [Int.sub_emod,e2,Int.sub_self,Int.zero_emod])
  have d':(m:Int) ∣ ((z:Int) - (j:Int)):=by
   have:(a + (z:Int)) - (a + (j:Int))=(z:Int) - (j:Int):=by omega
   rw [this] at d; exact d
  have:=Int.le_of_dvd (by omega) d'
  omega
seal PE PA PS PSs
section
variable {P:Program} {w:World} {K:PySem.W.Frag} {mg:Str→Option Value} {base:Heap} {t:Ad} {n:Nat}
def ZI1 (K:PySem.W.Frag):Sp:=fun vs H Q _=>∃ (sc:Addr) (cs:List Int) (m cnt:Nat) (ce:Int),vs=[.ref sc,.int (m:Int),.int (cnt:Int),.int ce]∧SqL K H sc (cs.map V.int)∧cs.length≤63∧1≤m∧m≤6∧cnt≤8∧∀ l xs us H',Same H H'→H l=none→H' l=some (.lst (xs.map V.ref))→Paired (MvT H') xs us→(∀ v ∈ us,OkMv m v)→us.length≤8→Q (.ref l) H'
theorem ZIE (T:Txt K mg t):FnS P w K mg base 8 "_law_moves" ["_law_script","_law_many","_law_count","_law_cell"] ((ZI1 K)):=by
 refine ⟨_,_,T.ZlS.ok ZfA (fun vs H Q E h=>?_) (fun cdv A outer s H vs Q E hr h=>?_),T.Zta,T.ZlS.kp,T.Zt9⟩
 ·obtain ⟨sc,cs,m,cnt,ce,rfl,hS,h63,h1,h6,h8,q⟩ :=h
  rfl
 obtain ⟨sc,cs,m,cnt,ce,rfl,hS,h63,h1,h6,h8,q⟩ :=h
 have Zhl:=ZG9 (P:=P) (w:=w) (base:=base) T
 refine ⟨_,(Zac (ss 4 ZfA.nd (Zb0 Zad))
   (Zac (Zb5 PassesOwn.never rfl (Zer rfl T.B.range (Zaa (pv 2) Zad)) (sg 5 ZfA.nd)
   (Zac (ss 6 ZfA.nd (Zb0 Zad))
   (Zac (Zb5 PassesOwn.never rfl (Zer rfl T.B.range (Zaa (ZaD ZaC Zam (ZaD ZeU (ZaD ZaC (pv 3) (ZaD Zsz Zam (pv 5))) (pv 1))) Zad)) (sg 7 ZfA.nd)
   (Zae (ZaR (Zc8 PySem.F.plainAttrs_list PySem.F.slot_list_append PySem.F.type_list_append ZaK (pv 6) (Zaa (Zkd (Zaa (ZaD ZeU (ZaD ZaC (ZaD ZaC (ZaD Zde (pv 3) Zam) (pv 5)) (pv 7)) (pv 1)) (Zaa (Zbq Zhl hr (Zaa (pv 0) (Zaa (pv 1) (Zaa (ZaD ZaC (ZaD ZaC Zam (ZaD Zsz Zam (pv 5))) (pv 7)) Zad)))) Zad))) Zad)))))
   (Zae (ZaR (Zc8 PySem.F.plainAttrs_list PySem.F.slot_list_append PySem.F.type_list_append ZaK (pv 4) (Zaa (Zkd (Zaa (Zbq Zhl hr (Zaa (pv 0) (Zaa (pv 1) (Zaa (ZaD ZaC Zam (ZaD Zsz Zam (pv 5))) Zad)))) (Zaa (pv 6) Zad))) Zad)))))))
   (Zae (ZaA (pv 4))))),?_⟩
 walk_at "rd0"
 refine ZfD (by simp) fun ml H1 s1 n1 e1=>?_
 walk_at "rd"
 refine ⟨_,rfl,by omega,by omega,?_⟩
 rw [show ((cnt:Int)).toNat=cnt by omega]
 refine Zwm (n:=cnt) (fun i σ H'=>∃ xs us a b c,Same H H'∧H' ml=some (.lst (xs.map V.ref))∧us.length=i∧Paired (MvTS (· ≠ ml) H') xs us∧(∀ v ∈ us,OkMv m v)∧σ=[some (.ref sc),some (.int (m:Int)),some (.int (cnt:Int)),some (.int ce),some (.ref ml),a,b,c]) ⟨[],[],_,_,_,s1,e1,rfl,.nil,(fun v hv=>by cases hv),rfl⟩ ?_ ?_
 ·rintro k σ H2 hk ⟨xs,us,a,b,c,s2,e2,hul,pu,oku,rfl⟩
  have hxl:=Zas pu
  walk_at "rd"
  refine ZfD (by simp) fun cl H3 s3 n3 e3=>?_
  have ncl:H cl=none:=s2.free n3
  have e23:=s3 _ _ e2
  have nmc:ml ≠ cl:=Zaf e2 n3
  have pu3:Paired (MvTS (fun l=>l ≠ ml∧l ≠ cl) H3) xs us:=Zah (fun _ _ z=>z.imp (fun _ _ e=>s3 _ _ e) fun l ys sl e=>⟨⟨sl,Zaf e n3⟩,s3 _ _ e⟩) pu
  walk_at "rd"
  refine ZBj (.inl ⟨by decide,by decide⟩) ?_
  walk_at "rd"
  obtain ⟨z,hz,hz1,hzm⟩ : ∃ z:Nat,1 + (ce + 5 * (k:Int)) % (m:Int)=(z:Int)∧1≤z∧z≤m:=by
   have v1:=Int.emod_nonneg (ce + 5 * (k:Int)) (show (m:Int) ≠ 0 by omega)
   have v2:=Int.emod_lt_of_pos (ce + 5 * (k:Int)) (show (0:Int) < (m:Int) by omega)
   exact ⟨(1 + (ce + 5 * (k:Int)) % (m:Int)).toNat,by omega,by omega,by omega⟩
  rw [hz]
  refine ⟨_,rfl,by omega,by omega,?_⟩
  rw [show ((z:Int)).toNat=z by omega]
  refine Zwm (n:=z) (fun i σ H'=>∃ hs ds c,Same H H'∧H' ml=some (.lst (xs.map V.ref))∧H' cl=some (.lst (hs.map V.ref))∧Paired (MvTS (fun l=>l ≠ ml∧l ≠ cl) H') xs us∧Paired (TrCS (fun l=>l ≠ ml∧l ≠ cl) H') hs ds∧ds.map Prod.fst=((List.range i).map fun j:Nat=>((ce / 6 + (k:Int) + (j:Int)) % (m:Int)).toNat)∧(∀ d ∈ ds,OkTr m d.2∧d.1 < m)∧σ=[some (.ref sc),some (.int (m:Int)),some (.int (cnt:Int)),some (.int ce),some (.ref ml),some (.int (k:Int)),some (.ref cl),c]) ⟨[],[],_,s2.trans s3,e23,e3,pu3,.nil,rfl,(fun d hd=>by cases hd),rfl⟩ ?_ ?_
  ·rintro j σ H4 hj ⟨hs,ds,c,s4,e4,f4,p4,t4,hd4,ok4,rfl⟩
   have hdl:hs.length=j:=by
    have a:=Zas t4
    have b:=congrArg List.length hd4
    rw [List.length_map,List.length_map,List.length_range] at b
    omega
   obtain ⟨lp,hlp,hlm⟩ : ∃ lp:Nat,(ce / 6 + (k:Int) + (j:Int)) % (m:Int)=(lp:Int)∧lp < m:=by
    have v1:=Int.emod_nonneg (ce / 6 + (k:Int) + (j:Int)) (show (m:Int) ≠ 0 by omega)
    have v2:=Int.emod_lt_of_pos (ce / 6 + (k:Int) + (j:Int)) (show (0:Int) < (m:Int) by omega)
    exact ⟨((ce / 6 + (k:Int) + (j:Int)) % (m:Int)).toNat,by omega,by omega⟩
   walk_at "rd"
   refine ⟨tyL f4,?_⟩
   walk_at "rd"
   (try refine i_rI (by omega) ?_)
   rw [hlp]
   walk_at "rd"
   refine ZBj (.inl ⟨by decide,by decide⟩) ?_
   walk_at "rd"
   refine ⟨sc,cs,m,16 + 7 * k + j,by first | (congr 3; done) | (congr 3; omega),s4.seq hS,h63,h1,h6,by omega,fun p tr H5 s5 t5 o1 o2 o3=>?_⟩
   walk_at "rd"
   refine Zxp (by simp) fun tp H6 s6 n6 e6=>?_
   walk_at "rd"
   have w6:=s5.trans s6
   have f6:=w6 _ _ f4
   refine Za5 f6 (by rw [List.length_map]; omega) fun H7 b7 e7=>?_
   walk_at "rd"
   have tk:∀ p xs,H6 p=some (.tup xs)→H7 p=some (.tup xs):=fun p xs e=>b7 _ _ (Zdg e f6 (by intro z; cases z)) e
   have lk:∀ l ys,(l ≠ ml∧l ≠ cl)→H4 l=some (.lst ys)→(l ≠ ml∧l ≠ cl)∧H7 l=some (.lst ys):=fun l ys sl e=>⟨sl,b7 _ _ sl.2 (w6 _ _ e)⟩
   refine ⟨hs ++ [tp],ds ++ [(lp,tr)],_,b7.same ncl (s4.trans w6),b7 _ _ nmc (w6 _ _ e4),by rw [e7,List.map_append]; rfl,Zah (fun _ _ x=>x.imp (fun p xs e=>tk _ _ (w6 _ _ e)) lk) p4,ZaF (Zah (fun _ _ x=>x.imp (fun p xs e=>tk _ _ (w6 _ _ e)) lk) t4) (.cons ⟨p,tk _ _ e6,t5.imp (fun _ _ e=>tk _ _ (s6 _ _ e)) fun l ys sl e=>⟨⟨(Zaf e4 sl).symm,(Zaf f4 sl).symm⟩,b7 _ _ (Zaf f4 sl).symm (s6 _ _ e)⟩⟩ .nil),?_,?_,rfl⟩
   ·rw [List.map_append,hd4,List.range_succ,List.map_append]
    congr 1
    show [lp]=[((ce / 6 + (k:Int) + (j:Int)) % (m:Int)).toNat]
    rw [hlp]
    rfl
   ·intro d hd
    rcases List.mem_append.mp hd with hd | hd
    ·exact ok4 d hd
    ·rw [List.mem_singleton.mp hd]; exact ⟨⟨o1,o2,o3⟩,hlm⟩
  ·rintro σ H4 ⟨hs,ds,c,s4,e4,f4,p4,t4,hd4,ok4,rfl⟩
   walk_at "rd"
   refine ⟨tyL e4,?_⟩
   walk_at "rd"
   refine ZBj (.inl ⟨by decide,by decide⟩) ?_
   walk_at "rd"
   refine ⟨sc,cs,m,22 + 7 * k,by first | (congr 3; done) | (congr 3; omega),s4.seq hS,h63,h1,h6,by omega,fun p tr H5 s5 t5 o1 o2 o3=>?_⟩
   walk_at "rd"
   refine Zxp (by simp) fun tp H6 s6 n6 e6=>?_
   walk_at "rd"
   have w6:=s5.trans s6
   have e46:=w6 _ _ e4
   refine Za5 e46 (by rw [List.length_map]; omega) fun H7 b7 e7=>?_
   walk_at "rd"
   have tk:∀ p xs,H6 p=some (.tup xs)→H7 p=some (.tup xs):=fun p xs e=>b7 _ _ (Zdg e e46 (by intro z; cases z)) e
   have lk:∀ l ys,(l ≠ ml∧l ≠ cl)→H4 l=some (.lst ys)→l ≠ ml∧H7 l=some (.lst ys):=fun l ys sl e=>⟨sl.1,b7 _ _ sl.1 (w6 _ _ e)⟩
   have hdl:=congrArg List.length hd4
   rw [List.length_map,List.length_map,List.length_range] at hdl
   refine ⟨xs ++ [tp],us ++ [(tr,ds)],_,_,_,b7.same n1 (s4.trans w6),by rw [e7,List.map_append]; rfl,by rw [List.length_append,hul]; rfl,ZaF (Zah (fun _ _ x=>x.imp (fun p xs e=>tk _ _ (w6 _ _ e)) lk) p4) (.cons ⟨p,cl,hs,tk _ _ e6,t5.imp (fun _ _ e=>tk _ _ (s6 _ _ e)) fun l ys sl e=>⟨(Zaf e4 sl).symm,b7 _ _ (Zaf e4 sl).symm (s6 _ _ e)⟩,nmc.symm,b7 _ _ nmc.symm (w6 _ _ f4),Zah (fun _ _ x=>x.imp (fun p xs e=>tk _ _ (w6 _ _ e)) lk) t4⟩ .nil),?_,rfl⟩
   intro v hv
   rcases List.mem_append.mp hv with hv | hv
   ·exact oku v hv
   ·rw [List.mem_singleton.mp hv]
    exact ⟨⟨o1,o2,o3⟩,ok4,by show (ds.map Prod.fst).Nodup; rw [hd4]; exact ZIT _ (by omega) z hzm,by show 1≤ds.length; omega,by show ds.length≤6; omega⟩
 ·rintro σ H2 ⟨xs,us,a,b,c,s2,e2,hul,pu,oku,rfl⟩
  walk_at "rd"
  exact q ml xs us H2 s2 n1 e2 (Zah (fun _ _ z=>z.any) pu) oku (by omega)
end
unseal PE PA PS PSs
seal PE PA PS PSs
section
variable {P:Program} {w:World} {K:PySem.W.Frag} {mg:Str→Option Value} {base:Heap} {t:Ad} {n:Nat}
def ZHH (K:PySem.W.Frag):Sp:=fun vs H Q _=>∃ (sc:Addr) (cs:List Int) (m:Nat),vs=[.ref sc,.int (m:Int)]∧SqL K H sc (cs.map V.int)∧m≤6∧∀ (l:Addr) (ns:List Str) (H':Hp),Same H H'→H l=none→H' l=some (.lst (ns.map V.str))→ns.length=m→(∀ z ∈ ns,Nm8 z∧z ∉ Zn7)→ns.Nodup→Q (.ref l) H'
theorem ZIF (T:Txt K mg t):FnS P w K mg base 3 "_law_names" ["_law_script","_law_many"] ((ZHH K)):=by
 refine ⟨_,_,T.ZlT.ok Zbx (fun vs H Q E h=>?_) (fun cdv A outer s H vs Q E hr h=>?_),T.Ztb,T.ZlT.kp,T.Zua⟩
 ·obtain ⟨sc,cs,m0,rfl,hS,hm6,q⟩ :=h
  rfl
 obtain ⟨sc,cs,m0,rfl,hS,hm6,q⟩ :=h
 have Zf2:=Zys (P:=P) (w:=w) (base:=base) T
 refine ⟨_,(Zac (ss 2 Zbx.nd Zau)
   (Zac (ss 3 Zbx.nd (Zb0 Zad))
   (Zac (Zb5 PassesOwn.never rfl (Zer rfl T.B.range (Zaa (pv 1) Zad)) (sg 4 Zbx.nd)
   (Zac (ss 5 Zbx.nd (ZaD Zde (Zbq Zf2 hr (Zaa (pv 0) (Zaa (ZaD ZaC Zam (pv 4)) Zad))) Zam))
   (Zac (ss 6 Zbx.nd Zau)
   (Zac (Zb5 PassesOwn.never rfl (Zer rfl T.B.range (Zaa (ZaD ZaC Zam (ZaD ZeU (Zbq Zf2 hr (Zaa (pv 0) (Zaa (ZaD ZaC Zam (pv 4)) Zad))) Zam)) Zad)) (sg 7 Zbx.nd)
   (Zac (ss 6 Zbx.nd (ZaD ZaC (pv 6) (ZbE ZaW (pv 2) (ZaD ZeU (pv 5) Zam) (fun _ _=>rfl))))
   (Zae (ss 5 Zbx.nd (ZaD Zde (pv 5) Zam)))))
   (Zac (ZIP PassesOwn.never (PW.pt (ZxD (Zav ZwN (pv 6) (pv 3) (by with_unfolding_all rfl)) (ZoQ (Zav ZwN (pv 6) (Zkd (ZMo (ZMo Zad))) (by with_unfolding_all rfl)))))
   (Zae (ss 6 Zbx.nd (ZaD ZaC (Zhh ZrZ (pv 6) ZpJ (Zie (ZFv ZyE Zam))) (ZbE ZaW (pv 2) (ZaD ZeU (ZaD ZaC (Zc8 PySem.F.plainAttrs_str PySem.F.slot_str_find PySem.F.type_str_find ZKD (pv 2) (Zaa (ZbE ZaW (pv 6) (ZFv ZyE Zam) (fun _ _=>rfl)) Zad)) Zam) Zam) (fun _ _=>rfl))))))
   (Zae (ZaR (Zc8 PySem.F.plainAttrs_list PySem.F.slot_list_append PySem.F.type_list_append ZaK (pv 3) (Zaa (pv 6) Zad)))))))))
   (Zae (ZaA (pv 3)))))),?_⟩
 walk_at "rd0"
 refine ZfD (by simp) fun l H1 s1 n1 e1=>?_
 walk_at "rd"
 refine ⟨_,rfl,by omega,by omega,?_⟩
 rw [show ((m0:Int)).toNat=m0 by omega]
 refine Zwm (n:=m0) (fun i σ H'=>∃ (ns:List Str) (v4 v5 v6 v7:Option V),Same H H'∧H' l=some (.lst (ns.map V.str))∧ns.length=i∧(∀ z ∈ ns,Nm8 z∧z ∉ Zn7)∧ns.Nodup∧σ=[some (.ref sc),some (.int (m0:Int)),some (.str "abcdefghijklmnopqrstuvwxyz"),some (.ref l),v4,v5,v6,v7]) ⟨[],_,_,_,_,s1,e1,rfl,(fun z hz=>by cases hz),List.nodup_nil,rfl⟩ ?_ ?_
 ·rintro k σ H2 hk ⟨ns,v4,v5,v6,v7,s2,e2,hl2,hn2,hd2,rfl⟩
  walk_at "rs"
  refine ZBk ?_
  walk_at "rs"
  refine ⟨sc,cs,1 + k,rfl,s2.seq hS,?_⟩
  walk_at "rs"
  refine ZBk ?_
  walk_at "rs"
  obtain ⟨sz,hsz,hs1,hs8⟩ : ∃ sz:Nat,1 + cell cs (1 + k) % 8=(sz:Int)∧1≤sz∧sz≤8:=⟨(1 + cell cs (1 + k) % 8).toNat,by omega,by omega,by omega⟩
  refine Zv7 (fun σ H'=>H2=H'∧∃ (z:Str) (v5 v7:Option V),Lt z∧z.length=sz∧σ=[some (.ref sc),some (.int (m0:Int)),some (.str "abcdefghijklmnopqrstuvwxyz"),some (.ref l),some (.int (k:Int)),v5,some (.str z),v7]) ?_ ?_
  rotate_left
  ·intro Kn hK
   walk_at "rs"
   refine ⟨sc,cs,1 + k,rfl,s2.seq hS,?_⟩
   walk_at "rs"
   rw [hsz]
   refine ⟨_,rfl,by omega,by omega,?_⟩
   rw [show ((sz:Int)).toNat=sz by omega]
   refine Zwm (n:=sz) (fun i σ H'=>H2=H'∧∃ (z:Str) (va:Int) (v7:Option V),Lt z∧z.length=i∧σ=[some (.ref sc),some (.int (m0:Int)),some (.str "abcdefghijklmnopqrstuvwxyz"),some (.ref l),some (.int (k:Int)),some (.int va),some (.str z),v7]) ⟨rfl,"",_,_,(fun c hc=>by cases hc),rfl,rfl⟩ ?_ ?_
   ·rintro i σ H' hi ⟨rfl,z,va,v7,hz,hzl,rfl⟩
    walk_at "rd"
    refine ZNi fun e he=>?_
    refine ZcR (Zbn (by show _ + 1≤_; omega)) ?_
    walk_at "rd"
    exact ⟨rfl,_,_,_,Zwn hz (ZGN he),by rw [Zak,hzl]; rfl,rfl⟩
   ·rintro σ H' ⟨rfl,z,va,v7,hz,hzl,rfl⟩
    exact hK _ _ ⟨rfl,z,_,_,hz,hzl,rfl⟩
  clear v4 v5 v6 v7
  rintro σ Hw ⟨rfl,z,v5,v7,hz,hzl,rfl⟩
  have hw:Same H2 H2:=Same.refl _
  generalize hHw:H2=Hw at hw e2 s2 ⊢
  clear hw
  refine Zv7 (fun σ H'=>∃ z',Same Hw H'∧Nm8 z'∧z' ∉ ns∧z' ∉ Zn7∧σ=[some (.ref sc),some (.int (m0:Int)),some (.str "abcdefghijklmnopqrstuvwxyz"),some (.ref l),some (.int (k:Int)),v5,some (.str z'),v7]) ?_ ?_
  rotate_left
  ·intro Kn hK
   obtain ⟨c,hc,ez⟩ :=ZF1 (by omega) hz
   generalize eu:Txt.slice z none (some (-1))=u at ez
   have hu:Lt u:=by rw [← eu]; exact ZIu hz _ _
   have hul:u.length + 1=z.length:=by rw [ez]; unfold rot; rw [Zak]; rfl
   have hrl:∀ j,(rot u c j).length=u.length + 1:=fun j=>by unfold rot; rw [Zak]; rfl
   have hl:=e2
   refine ⟨fun m σ H'=>∃ j,m + j=15∧j≤14∧Same Hw H'∧(∀ i,i < j→rot u c i ∈ ns ++ Zn7)∧σ=[some (.ref sc),some (.int (m0:Int)),some (.str "abcdefghijklmnopqrstuvwxyz"),some (.ref l),some (.int (k:Int)),v5,some (.str (rot u c j)),v7],⟨15,0,rfl,by omega,Same.refl _,fun i hi=>absurd hi (by omega),by rw [← ez]⟩,?_⟩
   rintro m σ H1 ⟨j,hm,hj,s1,hin,rfl⟩
   have go:rot u c j ∈ ns ++ Zn7→j + 1≤14:=fun h=>by
    have:=ZHl (rot u c) (j + 1) (ns ++ Zn7) (fun i hi=>by
     rcases (show i=j∨i < j by omega) with rfl | h'
     ·exact h
     ·exact hin i h') (fun i i' h1 h2=>ZMD h1 (by omega))
    rw [List.length_append,ZIm] at this
    omega
   have step:∀ (H2:Hp),Same H1 H2→rot u c j ∈ ns ++ Zn7→∃ N:St→Hp→Prop,(∀ σ' H',N σ' H'→∃ m',m' < m∧∃ j,m' + j=15∧j≤14∧Same Hw H'∧(∀ i,i < j→rot u c i ∈ ns ++ Zn7)∧σ'=[some (.ref sc),some (.int (m0:Int)),some (.str "abcdefghijklmnopqrstuvwxyz"),some (.ref l),some (.int (k:Int)),v5,some (.str (rot u c j)),v7])∧∀ σ' H',σ'=[some (.ref sc),some (.int (m0:Int)),some (.str "abcdefghijklmnopqrstuvwxyz"),some (.ref l),some (.int (k:Int)),v5,some (.str (rot u c (j + 1))),v7]→Same Hw H'→N σ' H':=fun H2 s2 h=>by
    have:=go h
    refine ⟨fun σ' H'=>Same Hw H'∧σ'=[some (.ref sc),some (.int (m0:Int)),some (.str "abcdefghijklmnopqrstuvwxyz"),some (.ref l),some (.int (k:Int)),v5,some (.str (rot u c (j + 1))),v7],fun σ' H' ⟨a,b⟩ =>⟨m - 1,by omega,j + 1,by omega,this,a,fun i hi=>?_,b⟩,fun σ' H' a b=>⟨b,a⟩⟩
    rcases (show i=j∨i < j by omega) with rfl | h'
    ·exact h
    ·exact hin i h'
   have nxt:Txt.slice (rot u c j) none (some (-1)) ++ (⟨#[97 + (c + j + 1) % 26]⟩ : Str)=rot u c (j + 1):=by rw [ZHv]; rfl
   have h1:=hrl j
   walk_at "rd"
   have bod:∀ (H2:Hp) (N:St→Hp→Prop) (rt:VK) (bk:St→Hp→Prop),Same H1 H2→(∀ σ' H',σ'=[some (.ref sc),some (.int (m0:Int)),some (.str "abcdefghijklmnopqrstuvwxyz"),some (.ref l),some (.int (k:Int)),v5,some (.str (rot u c (j + 1))),v7]→Same Hw H'→N σ' H')→tAsg (tOp ZHp (tSl (rSlA K) (tVar 6) ZDH (ZK9 (tUn (rU fun i=>V.int (-i)) (tC (.int 1))))) (tOp (rIx K) (tVar 2) (tOp (rI (fun x j=>0 < j) fun i j=>V.int (i % j)) (tOp ZHp (tBM K "str" ZMx (tVar 2) (ZxM (tOp (rIx K) (tVar 6) (tUn (rU fun i=>V.int (-i)) (tC (.int 1)))) tNil)) (tC (.int 1))) (tC (.int 26))))) (Zv0 6) { nx:=N,rt:=rt,bk:=bk,ct:=N } [some (.ref sc),some (.int (m0:Int)),some (.str "abcdefghijklmnopqrstuvwxyz"),some (.ref l),some (.int (k:Int)),v5,some (.str (rot u c j)),v7] H2:=fun H2 N rt bk s2 n2=>by
    walk_at "rd"
    refine ZNo (by omega) ?_
    walk_at "rd"
    refine ⟨tyS,?_⟩
    walk_at "rd"
    refine ZKq (Zbn (by omega)) (ZIV u c j) ?_
    walk_at "rd"
    refine ⟨_,_,rfl,rfl,?_⟩
    walk_at "rd"
    have e0:Txt.find "abcdefghijklmnopqrstuvwxyz" ⟨#[97 + (c + j) % 26]⟩=(((c + j) % 26:Nat):Int):=ZIo _ (by omega)
    rw [e0]
    have e1:((((c + j) % 26:Nat):Int) + 1) % 26=(((c + j + 1) % 26:Nat):Int):=by omega
    rw [e1]
    refine ZKq (by decide) (ZyQ (ZJM _ (by omega))) ?_
    have l3:=Txt.slice_le (rot u c j) none (some (-1))
    refine ZcR (Zbn (by show _ + 1≤_; omega)) ?_
    walk_at "rd"
    exact n2 _ _ (by rw [nxt]) (s1.trans s2)
   have memD:rot u c j ∈ ns ++ Zn7→Lt (rot u c j):=fun _=>Zwn hu (ZGN (by omega))
   walk_at "rd"
   refine ZIi (.inl (s1 _ _ hl)) ?_
   walk_at "rd"
   refine ZhG (fun hA=>?_) (fun hA=>?_)
   ·obtain ⟨N,n1,n2⟩ :=step H1 (Same.refl _) (List.mem_append_left _ hA)
    refine Zgm rfl ⟨N,n1,?_⟩
    exact bod H1 N _ _ (Same.refl _) n2
   ·walk_at "rd"
    refine Zxp (by simp) fun l1 H2 s2 n2 e2=>?_
    refine ZIi (ns:=Zn7) (.inr e2) ?_
    walk_at "rd"
    refine ZhG (fun hB=>?_) (fun hB=>?_)
    ·obtain ⟨N,n1,n2⟩ :=step H2 s2 (List.mem_append_right _ hB)
     refine ⟨N,n1,?_⟩
     exact bod H2 N _ _ s2 n2
    ·walk_at "rd"
     exact hK _ _ ⟨rot u c j,s1.trans s2,⟨Zwn hu (ZGN (by omega)),by omega,by omega⟩,hA,hB,rfl⟩
  rintro σ H3 ⟨z',s3,hz',hz2,hz3,rfl⟩
  walk_at "rd"
  refine ⟨tyL (s3 _ _ e2),?_⟩
  walk_at "rd"
  refine Za5 (s3 _ _ e2) (by rw [List.length_map]; omega) fun H5 b5 e5=>?_
  walk_at "rd"
  refine ⟨ns ++ [z'],_,_,_,_,b5.same n1 (s2.trans s3),by rw [e5,List.map_append]; rfl,by rw [List.length_append]; simp [hl2],fun y hy=>?_,?_,rfl⟩
  ·rcases List.mem_append.mp hy with h | h
   ·exact hn2 y h
   ·rw [List.mem_singleton.mp h]; exact ⟨hz',hz3⟩
  ·rw [List.nodup_append]
   refine ⟨hd2,by simp,fun a ha b hb e=>?_⟩
   rw [List.mem_singleton.mp hb] at e
   rw [e] at ha
   exact hz2 ha
 ·rintro σ H2 ⟨ns,v4,v5,v6,v7,s2,e2,hl2,hn2,hd2,rfl⟩
  walk_at "rd"
  exact q l ns H2 s2 n1 e2 hl2 hn2 hd2
end
unseal PE PA PS PSs
theorem ZmO {ns:List Str} {k:Nat} (h:k < ns.length):ns[k]?=some (ns.getD k Str.empty):=by
 rw [List.getD_eq_getElem?_getD,List.getElem?_eq_getElem h]
 rfl
theorem ZNv {z:Str} (h:Nm8 z) (hk:z ∉ Zn7):z ∉ (["yes","no","not","(",")"]:List Str):=by
 unfold Zn7 at hk
 simp only [List.mem_cons,List.not_mem_nil,or_false,not_or] at hk ⊢
 refine ⟨hk.2.2.2.2.1,hk.2.2.2.2.2.1,hk.2.2.1,?_,?_⟩
 ·rintro rfl
  have:=h.1 40 (by decide)
  omega
 ·rintro rfl
  have:=h.1 41 (by decide)
  omega
theorem ZMb {zs:List Str} (h:∀ z ∈ zs,Nm8 z∧z ∉ Zn7) (nd:zs.Nodup):NmsOk zs zs id zs.length:=
 ⟨fun k hk=>Zv8 nd (ZmO hk),fun k hk=>by
  have:=h _ (List.mem_of_getElem? (ZmO hk))
  exact ZNv this.1 this.2⟩
theorem ZEx {z:Str} (h:Nm8 z):NmL z∧z.length≤8:=⟨⟨fun e=>by
 have a:=h.2.1
 have b:z.cps.toList.length=z.length:=by simp [Str.length]
 rw [e] at b
 simp at b
 omega,h.1⟩,h.2.2⟩
theorem ZDk {zs:List Str} (h:∀ z ∈ zs,Nm8 z) {k:Nat} (hk:k < zs.length):NmL (zs.getD k Str.empty)∧(zs.getD k Str.empty).length≤8:=ZEx (h _ (List.mem_of_getElem? (ZmO hk)))
theorem Zr0 {z:Str} (h:WdS z):Zxk z:=by
 unfold Zxk
 have a:=StrLaws.reprText_len z (fun c hc=>by
  rcases h.1 with e | e | e
  ·have hc:c ∈ cl1 z:=hc
   rw [e] at hc
   rw [List.mem_singleton.mp hc]
   decide
  ·have hc:c ∈ cl1 z:=hc
   rw [e] at hc
   rw [List.mem_singleton.mp hc]
   decide
  ·have:=e.2 c hc
   have:(128:Nat)≤16 ^ 8:=by decide
   omega)
 have:=h.2
 omega
theorem ZLk {x:Str} (h:∀ d ∈ x.cps.toList,al d=true):Asc x:=fun c hc=>by
 have:=h c hc
 unfold al isL isM at this
 simp only [Bool.or_eq_true,Bool.and_eq_true,decide_eq_true_iff,beq_iff_eq] at this
 omega
section
variable {P:Program} {w:World} {K:PySem.W.Frag} {mg:Str→Option Value} {base:Heap} {t:Ad} {n:Nat}
end
mutual
theorem FmE.tr {t:Ad} {H:Hp} {π:Nat→Nat}:∀ (tr:Tr) (D:Nat) (p:Addr),nT tr≤D→FmE t H p (fmT π tr)→FmAt t H D p (fmT π tr)
 | .lamp k,0,p,h,_=>absurd h (by simp [nT])
 | .lamp k,D + 1,p,_,⟨n,h⟩ =>by
  cases n with
  | zero=>exact absurd h id
  | succ n=>exact h
 | .sure c,0,p,h,_=>absurd h (by simp [nT])
 | .sure c,D + 1,p,_,⟨n,h⟩ =>by
  cases n with
  | zero=>exact absurd h id
  | succ n=>exact h
 | .neg g,0,p,h,_=>absurd h (by simp [nT])
 | .neg g,D + 1,p,hD,⟨n,h⟩ =>by
  cases n with
  | zero=>exact absurd h id
  | succ n=>
   have hn:nT (.neg g)=1 + nT g:=rfl
   obtain ⟨dx,q,e,hq⟩ :=h
   exact ⟨dx,q,e,FmE.tr g D q (by omega) ⟨n,hq⟩⟩
 | .wrap g,D,p,hD,h=>by
  have hn:nT (.wrap g)=1 + nT g:=rfl
  exact FmE.tr g D p (by omega) h
 | .join v gs,0,p,h,_=>absurd h (by simp [nT])
 | .join v gs,D + 1,p,hD,⟨n,h⟩ =>by
  cases n with
  | zero=>exact absurd h id
  | succ n=>
   have hn:nT (.join v gs)=1 + nTL gs:=rfl
   obtain ⟨dx,tp,ps,e,e2,hq⟩ :=h
   exact ⟨dx,tp,ps,e,e2,FmE.trL gs D ps (by omega) (Zah (fun a b h=>⟨n,h⟩) hq)⟩
theorem FmE.trL {t:Ad} {H:Hp} {π:Nat→Nat}:∀ (gs:List Tr) (D:Nat) (ps:List Addr),nTL gs≤D→Paired (FmE t H) ps (fmTL π gs)→Paired (FmAt t H D) ps (fmTL π gs)
 | [],D,_,_,.nil=>.nil
 | g :: gs,D,_,hD,.cons h r=>by
  have hn:nTL (g :: gs)=nT g + nTL gs:=by simp [nTL]
  exact .cons (FmE.tr g D _ (by omega) h) (FmE.trL gs D _ (by omega) r)
end
mutual
theorem ZIt {π:Nat→Nat} {m B:Nat} (h6:∀ k,k < m→π k < B):∀ t:Tr,okT m t=true→(fmT π t).low B=true
 | .lamp k,h=>decide_eq_true (h6 k (by simpa [okT] using h))
 | .sure c,_=>rfl
 | .neg t,h=>ZIt h6 t (by simpa [okT] using h)
 | .wrap t,h=>ZIt h6 t (by simpa [okT] using h)
 | .join v ts,h=>by
  simp only [okT,Bool.and_eq_true,decide_eq_true_iff] at h
  show (Fm.join v (fmTL π ts)).low B=true
  rw [ZEt,List.all_eq_true]
  exact ZJO h6 ts h.2
theorem ZJO {π:Nat→Nat} {m B:Nat} (h6:∀ k,k < m→π k < B):∀ ts:List Tr,okTL m ts=true→∀ f ∈ fmTL π ts,f.low B=true
 | [],_,f,hf=>by simp [fmTL] at hf
 | t :: ts,h,f,hf=>by
  simp only [okTL,Bool.and_eq_true] at h
  have hf:f ∈ fmT π t :: fmTL π ts:=hf
  rcases List.mem_cons.mp hf with rfl | hf
  ·exact ZIt h6 t h.1
  ·exact ZJO h6 ts h.2 f hf
end
theorem ZJZ:∀ {t:Tr},noW t=true→rkG false t=rkG true t
 | .lamp _,_=>rfl
 | .sure _,_=>rfl
 | .neg _,_=>rfl
 | .wrap _,h=>absurd h (by show ¬ (false=true); decide)
 | .join _ _,_=>rfl
mutual
theorem ZHV (ns:List Str):∀ t:Tr,noW t=true→wdG false ns t=wdG true ns t
 | .lamp k,_=>rfl
 | .sure c,_=>rfl
 | .neg t,h=>by
  have h:noW t=true:=h
  simp only [wdG]
  rw [ZHV ns t h,ZJZ h]
 | .wrap t,h=>absurd h (by show ¬ (false=true); decide)
 | .join v ts,h=>by
  simp only [wdG]
  rw [ZHU ns (ZfE v) ts h]
theorem ZHU (ns:List Str) (r:Nat):∀ ts:List Tr,noW.noWL ts=true→wdGL false ns r ts=wdGL true ns r ts
 | [],_=>rfl
 | t :: ts,h=>by
  have h:(noW t && noW.noWL ts)=true:=h
  rw [Bool.and_eq_true] at h
  simp only [wdGL]
  rw [ZHV ns t h.1,ZJZ h.1,ZHU ns r ts h.2]
end
theorem Zux {p:List Nat} (h:Wd p):∀ d ∈ p,al d=true:=by
 intro d hd
 rcases h with rfl | rfl | h
 ·rw [List.mem_singleton.mp hd]; decide
 ·rw [List.mem_singleton.mp hd]; decide
 ·have:=h.2 d hd
  unfold al isL
  rw [decide_eq_true this.1,decide_eq_true this.2]
  rfl
theorem Zve:∀ (ws:List (List Nat)) (r:List Nat),(∀ p ∈ ws,Wd p)→ws ≠ []→opn r→Ww1 (glue ws ++ r)=ws ++ Ww1 r
 | [],_,_,h,_=>absurd rfl h
 | [p],r,hw,_,hr=>by
  show Ww1 (p ++ r)=p :: Ww1 r
  rcases hw p List.mem_cons_self with rfl | rfl | h
  ·exact Zvf (by decide) r
  ·exact Zvf (by decide) r
  ·exact ZCO h.1 h.2 hr
 | p :: q :: rest,r,hw,_,hr=>by
  have ih:=Zve (q :: rest) r (fun x hx=>hw x (List.mem_cons_of_mem _ hx)) (by simp) hr
  have e:glue (p :: q :: rest)=p ++ (if p=[40]∨q=[41] then [] else [32]) ++ glue (q :: rest):=rfl
  have ih':Ww1 ((if p=[40]∨q=[41] then [] else [32]) ++ (glue (q :: rest) ++ r))=(q :: rest) ++ Ww1 r:=by
   split
   ·exact ih
   ·exact ih
  rw [e,List.append_assoc,List.append_assoc]
  show _=p :: ((q :: rest) ++ Ww1 r)
  rw [← ih']
  rcases hw p List.mem_cons_self with rfl | rfl | h
  ·exact Zvf (by decide) _
  ·exact Zvf (by decide) _
  ·refine ZCO h.1 h.2 ?_
   by_cases hc:p=[40]∨q=[41]
   ·rw [if_pos hc]
    have hq:q=[41]:=hc.resolve_left fun e=>by have:=h.2 40 (by rw [e]; simp); omega
    subst hq
    have:∃ r',glue ([41] :: rest) ++ r=41 :: r':=by
     cases rest with
     | nil=>exact ⟨r,rfl⟩
     | cons a b=>exact ⟨_,rfl⟩
    obtain ⟨r',e'⟩ :=this
    exact .inr ⟨41,r',e',.inr (by decide)⟩
   ·rw [if_neg hc]
    exact .inr ⟨32,_,rfl,.inl rfl⟩
theorem Zv1:∀ (ws:List (List Nat)),(∀ p ∈ ws,Wd p)→∀ d ∈ glue ws,al d=true
 | [],_,d,h=>by cases h
 | [p],hw,d,h=>Zux (hw p List.mem_cons_self) d h
 | p :: q :: rest,hw,d,h=>by
  have e:glue (p :: q :: rest)=p ++ (if p=[40]∨q=[41] then [] else [32]) ++ glue (q :: rest):=rfl
  rw [e] at h
  rcases List.mem_append.mp h with h | h
  ·rcases List.mem_append.mp h with h | h
   ·exact Zux (hw p List.mem_cons_self) d h
   ·split at h
    ·cases h
    ·rw [List.mem_singleton.mp h]; decide
  ·exact Zv1 (q :: rest) (fun x hx=>hw x (List.mem_cons_of_mem _ hx)) d h
theorem ZGg:∀ (ws:List (List Nat)),(∀ p ∈ ws,p ≠ [40]∧p ≠ [41])→glue ws=jn [32] ws
 | [],_=>rfl
 | [p],_=>rfl
 | p :: q :: rest,h=>by
  have e:glue (p :: q :: rest)=p ++ (if p=[40]∨q=[41] then [] else [32]) ++ glue (q :: rest):=rfl
  rw [e,if_neg (by rintro (y | y); exact (h p (by simp)).1 y; exact (h q (by simp)).2 y),ZGg (q :: rest) fun x hx=>h x (List.mem_cons_of_mem _ hx)]
  exact (ZC8 (by simp)).symm
theorem ZGK {z:Str} {ws:List Str} (h1:∀ d ∈ cl1 z,al d=true) (h2:Ww1 (cl1 z)=ws.map cl1) (h3:ws ≠ []) (h4:z.length≤16000):LnW z ws:=
 ⟨ZLk h1,h4,List.all_eq_true.mpr h1,ZBu ((ZJb h1).trans h2),h3⟩
theorem Zpi (x y:Str):cl1 (x ++ y)=cl1 x ++ cl1 y:=list_append x y
theorem ZnD {k:List Nat} (hk:k ≠ []∧∀ c ∈ k,97≤c∧c≤122) (r:List Nat):Ww1 (k ++ 32 :: r)=k :: Ww1 r:=by
 rw [ZCO hk.1 hk.2 (.inr ⟨32,r,rfl,.inl rfl⟩),ZyL]
theorem ZFM:Ww1 []=[]:=rfl
theorem ZEj {Pz:Str→Prop} {k:Str} (hk:Pz k):∀ {ps:List (List Str)},(∀ p ∈ ps,∀ z ∈ p,Pz z)→∀ z ∈ jnW k ps,Pz z
 | [],_,z,h=>by cases h
 | [p],hp,z,h=>hp p List.mem_cons_self z h
 | p :: q :: r,hp,z,h=>by
  have h:z ∈ p ++ k :: jnW k (q :: r):=h
  rcases List.mem_append.mp h with h | h
  ·exact hp p List.mem_cons_self z h
  ·rcases List.mem_cons.mp h with rfl | h
   ·exact hk
   ·exact ZEj hk (fun x hx=>hp x (List.mem_cons_of_mem _ hx)) z h
theorem ZEk (k:Str) {B:Nat}:∀ {ps:List (List Str)},(∀ p ∈ ps,p.length≤B)→(jnW k ps).length≤(B + 1) * ps.length
 | [],_=>Nat.zero_le _
 | [p],h=>by have:=h p List.mem_cons_self; show p.length≤_; simp only [List.length_singleton]; omega
 | p :: q :: r,h=>by
  have a:=h p List.mem_cons_self
  have b:=ZEk k (ps:=q :: r) fun x hx=>h x (List.mem_cons_of_mem _ hx)
  show (p ++ k :: jnW k (q :: r)).length≤_
  rw [List.length_append,List.length_cons,List.length_cons (a:=p),Nat.mul_succ]
  omega
theorem Zib {α β γ:Type} {R:β→γ→Prop} {f:α→β} {g:α→γ}:∀ {as:List α},(∀ a ∈ as,R (f a) (g a))→Paired R (as.map f) (as.map g)
 | [],_=>.nil
 | a :: as,h=>.cons (h a List.mem_cons_self) (Zib fun x hx=>h x (List.mem_cons_of_mem _ hx))
structure NmA (ns:List Str):Prop where
 nm:∀ z ∈ ns,Nm8 z∧z ∉ Zn7
 nd:ns.Nodup
 n1:1≤ns.length
 n6:ns.length≤6
theorem NmA.lm {ns:List Str} (A:NmA ns):LmpW ns:=by
 refine ⟨A.n1,A.n6,fun z hz=>⟨?_,(A.nm z hz).1.2.2⟩,A.nd⟩
 obtain ⟨a,b⟩ :=A.nm z hz
 obtain ⟨x1,x2,x3⟩ : z ≠ "("∧z ≠ ")"∧z ≠ ",":=by
  refine ⟨?_,?_,?_⟩
  ·rintro rfl; have:=a.1 40 (by decide); omega
  ·rintro rfl; have:=a.1 41 (by decide); omega
  ·rintro rfl; have:=a.1 44 (by decide); omega
 unfold noNm
 unfold Zn7 at b
 simp only [List.mem_cons,List.not_mem_nil,or_false,not_or] at b ⊢
 exact ⟨b.1,b.2.1,b.2.2.1,b.2.2.2.1,b.2.2.2.2.1,b.2.2.2.2.2.1,b.2.2.2.2.2.2.1,b.2.2.2.2.2.2.2,x1,x2,x3⟩
theorem NmA.wd {ns:List Str} (A:NmA ns):∀ z ∈ ns,WdS z:=fun z hz=>⟨Wd.let (ZEx (A.nm z hz).1).1,(ZEx (A.nm z hz).1).2⟩
theorem NmA.get {ns:List Str} (A:NmA ns) {k:Nat} (hk:k < ns.length):ns.getD k Str.empty ∈ ns:=List.mem_of_getElem? (ZmO hk)
def WdT (z:Str):Prop:=WdS z∧z ≠ "then"∧z ≠ ","
theorem WdT.tree {ns:List Str} (A:NmA ns) {tr:Tr} (h:okT ns.length tr=true):∀ z ∈ wdG false ns tr,WdT z:=by
 refine ZEY (fun z hz=>?_) (m:=ns.length) (fun k hk=>?_) tr h
 ·refine ⟨ZL9 z hz,?_,?_⟩
  ·rintro rfl; exact absurd hz (by decide)
  ·rintro rfl; exact absurd hz (by decide)
 ·have hm:=A.get hk
  refine ⟨A.wd _ hm,fun e=>(A.nm _ hm).2 (by rw [e]; decide),fun e=>?_⟩
  have:=(A.nm _ hm).1.1 44 (by rw [e]; decide)
  omega
theorem Zw8 {ns:List Str} (A:NmA ns) {tr:Tr} (h:okT ns.length tr=true):cl1 (ZaJ ns (fmT id tr))=glue ((wdG false ns tr).map cl1)∧(∀ p ∈ (wdG false ns tr).map cl1,Wd p)∧(wdG false ns tr).map cl1 ≠ []:=by
 have a:=Zn5 (ns':=ns) (ns:=ns) (π:=id) (m:=ns.length) (fun k hk=>rfl) (fun k hk=>(ZDk (fun z hz=>(A.nm z hz).1) hk).1) tr h
 refine ⟨a.2,fun p hp=>?_,a.1.1⟩
 obtain ⟨z,hz,rfl⟩ :=List.mem_map.mp hp
 exact (WdT.tree A h z hz).1.1
theorem ZAu {ns:List Str} (A:NmA ns) {tr:Tr} (o:OkTr ns.length tr):ZsE ns (wdG false ns tr)=some (fmT id tr):=by
 rw [ZHV ns tr o.nw]
 exact ZHu (ZMb A.nm A.nd) o.ok
theorem Zu4 {ns:List Str} {tr:Tr} (o:OkTr ns.length tr):(wdG false ns tr).length≤160:=by
 have a:=ZEZ false ns tr
 have b:=o.nt
 omega
theorem ZES {ns:List Str} (A:NmA ns) {tr:Tr} (o:OkTr ns.length tr):(ZaJ ns (fmT id tr)).length≤1600:=by
 have a:=ZfC (ns:=ns) (fun z hz=>by have:=(A.nm z hz).1.2.2; omega) (fmT id tr)
 have b:=wt_T id tr
 have c:=o.nt
 omega
theorem ZJN {ns:List Str} (A:NmA ns) {tr:Tr} (o:OkTr ns.length tr) {k k':Str} (e:cl1 k'=cl1 k ++ [32]) (hk:cl1 k ≠ []∧∀ c ∈ cl1 k,97≤c∧c≤122) (hl:k'.length≤20):LnW (k' ++ ZaJ ns (fmT id tr)) (k :: wdG false ns tr):=by
 obtain ⟨g1,g2,g3⟩ :=Zw8 A o.ok
 have et:cl1 (k' ++ ZaJ ns (fmT id tr))=cl1 k ++ 32 :: (glue ((wdG false ns tr).map cl1) ++ []):=by
  rw [Zpi,e,g1,List.append_assoc,List.append_nil]; rfl
 refine ZGK ?_ ?_ (by simp) ?_
 ·rw [et,List.append_nil]
  intro d hd
  rcases List.mem_append.mp hd with hd | hd
  ·exact Zux (.inr (.inr hk)) d hd
  ·rcases List.mem_cons.mp hd with rfl | hd
   ·decide
   ·exact Zv1 _ g2 d hd
 ·rw [et,ZnD hk,Zve _ _ g2 g3 (.inl rfl),ZFM,List.append_nil]
  rfl
 ·have:=ZES A o
  rw [Zak]
  omega
theorem ZIs {ns:List Str} (A:NmA ns):LnW (("lamps " : Str) ++ Txt.join " " ns) ("lamps" :: ns):=by
 have g2:∀ p ∈ ns.map cl1,Wd p:=fun p hp=>by
  obtain ⟨z,hz,rfl⟩ :=List.mem_map.mp hp
  exact (A.wd z hz).1
 have g3:ns.map cl1 ≠ []:=fun e=>by
  have:=A.n1
  rw [List.map_eq_nil_iff] at e
  rw [e] at this
  simp at this
 have ej:cl1 (Txt.join " " ns)=glue (ns.map cl1):=by
  rw [ZGg _ fun p hp=>?_]
  ·show (Builtin.Str.glued _ _).cps.toList=_
   rw [StrLaws.glued_eq_join,ZjV]
   rfl
  ·obtain ⟨z,hz,rfl⟩ :=List.mem_map.mp hp
   exact (ZEx (A.nm z hz).1).1.no
 have hk:cl1 "lamps" ≠ []∧∀ c ∈ cl1 "lamps",97≤c∧c≤122:=⟨by decide,by decide⟩
 have et:cl1 (("lamps " : Str) ++ Txt.join " " ns)=cl1 "lamps" ++ 32 :: (glue (ns.map cl1) ++ []):=by
  rw [Zpi,ej,List.append_nil]; rfl
 refine ZGK ?_ ?_ (by simp) ?_
 ·rw [et,List.append_nil]
  intro d hd
  rcases List.mem_append.mp hd with hd | hd
  ·exact Zux (.inr (.inr hk)) d hd
  ·rcases List.mem_cons.mp hd with rfl | hd
   ·decide
   ·exact Zv1 _ g2 d hd
 ·rw [et,ZnD hk,Zve _ _ g2 g3 (.inl rfl),ZFM,List.append_nil]
  rfl
 ·obtain ⟨_,j2⟩ :=Zsq (B:=8) (z:=" ") (ts:=ns) (fun z hz=>(A.nm z hz).1.2.2) (by omega) (by decide) (by have:=A.n6; omega)
  have:Str.length "lamps " = 6:=by decide
  rw [Zak]
  omega
def pcW (ns:List Str) (c:Nat × Tr):List Str:=ns.getD c.1 Str.empty :: ("is" : Str) :: wdG false ns c.2
theorem ZMr {ns:List Str} (A:NmA ns) {c:Nat × Tr} (o:OkTr ns.length c.2) (r:List Nat):cl1 (ZcA ns (c.1,fmT id c.2)) ++ r=cl1 (ns.getD c.1 Str.empty) ++ 32 :: (cl1 "is" ++ 32 :: (glue ((wdG false ns c.2).map cl1) ++ r)):=by
 unfold ZcA
 rw [Zpi,Zpi,(Zw8 A o.ok).1]
 have:cl1 " is " = 32 :: (cl1 "is" ++ [32]):=by decide
 rw [this]
 simp only [List.append_assoc,List.cons_append,List.nil_append]
theorem ZDP {ns:List Str} (A:NmA ns) {c:Nat × Tr} (o:OkTr ns.length c.2) (hk:c.1 < ns.length) {r:List Nat} (hr:opn r):Ww1 (cl1 (ZcA ns (c.1,fmT id c.2)) ++ r)=(pcW ns c).map cl1 ++ Ww1 r:=by
 obtain ⟨g1,g2,g3⟩ :=Zw8 A o.ok
 have hn:=(ZDk (fun z hz=>(A.nm z hz).1) hk).1
 rw [ZMr A o,ZnD (k:=cl1 (ns.getD c.1 Str.empty)) ⟨hn.1,hn.2⟩,ZnD ⟨by decide,by decide⟩,Zve _ _ g2 g3 hr]
 rfl
theorem ZNy {ns:List Str} (A:NmA ns) {c:Nat × Tr} (o:OkTr ns.length c.2) (hk:c.1 < ns.length):∀ d ∈ cl1 (ZcA ns (c.1,fmT id c.2)),al d=true:=by
 obtain ⟨g1,g2,g3⟩ :=Zw8 A o.ok
 have hn:=(ZDk (fun z hz=>(A.nm z hz).1) hk).1
 have e:=ZMr A o []
 rw [List.append_nil,List.append_nil] at e
 rw [e]
 intro d hd
 rcases List.mem_append.mp hd with hd | hd
 ·exact Zux (.inr (.inr ⟨hn.1,hn.2⟩)) d hd
 rcases List.mem_cons.mp hd with rfl | hd
 ·decide
 rcases List.mem_append.mp hd with hd | hd
 ·exact Zux (.inr (.inr ⟨by decide,by decide⟩)) d hd
 rcases List.mem_cons.mp hd with rfl | hd
 ·decide
 ·exact Zv1 _ g2 d hd
theorem ZAR {ns:List Str} (A:NmA ns):∀ (cs:List (Nat × Tr)),(∀ c ∈ cs,OkTr ns.length c.2∧c.1 < ns.length)→cs ≠ []→Ww1 (jn [44,32] (cs.map fun c=>cl1 (ZcA ns (c.1,fmT id c.2))))=(jnW "," (cs.map (pcW ns))).map cl1
 | [],_,h=>absurd rfl h
 | [c],h,_=>by
  obtain ⟨o,hk⟩ :=h c List.mem_cons_self
  have:=ZDP A o hk (r:=[]) (.inl rfl)
  rw [List.append_nil,ZFM,List.append_nil] at this
  exact this
 | c :: d :: r,h,_=>by
  obtain ⟨o,hk⟩ :=h c List.mem_cons_self
  have ih:=ZAR A (d :: r) (fun x hx=>h x (List.mem_cons_of_mem _ hx)) (by simp)
  have e:jn [44,32] ((c :: d :: r).map fun c=>cl1 (ZcA ns (c.1,fmT id c.2)))=cl1 (ZcA ns (c.1,fmT id c.2)) ++ 44 :: 32 :: jn [44,32] ((d :: r).map fun c=>cl1 (ZcA ns (c.1,fmT id c.2))):=by
   rw [List.map_cons,ZC8 (by simp),List.append_assoc]; rfl
  rw [e,ZDP A o hk (.inr ⟨44,_,rfl,.inr (by decide)⟩),Zvf (by decide),ZyL,ih]
  show _=((pcW ns c) ++ (("," : Str) :: jnW "," ((d :: r).map (pcW ns)))).map cl1
  rw [List.map_append,List.map_cons]
  rfl
theorem ZL3 {z:List Nat} (hz:∀ d ∈ z,al d=true):∀ (ps:List (List Nat)),(∀ p ∈ ps,∀ d ∈ p,al d=true)→∀ d ∈ jn z ps,al d=true
 | [],_,d,h=>by cases h
 | [p],hp,d,h=>hp p List.mem_cons_self d h
 | p :: q :: r,hp,d,h=>by
  rw [ZC8 (by simp)] at h
  rcases List.mem_append.mp h with h | h
  ·rcases List.mem_append.mp h with h | h
   ·exact hp p List.mem_cons_self d h
   ·exact hz d h
  ·exact ZL3 hz (q :: r) (fun x hx=>hp x (List.mem_cons_of_mem _ hx)) d h
def mvB (ns:List Str) (v:Tr × List (Nat × Tr)):List Str:=jnW "," (v.2.map (pcW ns))
theorem ZKC {ns:List Str} (A:NmA ns) {v:Tr × List (Nat × Tr)} (o:OkMv ns.length v):LnW (shM ns (fmM v)) ("move" :: (wdG false ns v.1 ++ ("then" : Str) :: mvB ns v)):=by
 obtain ⟨g1,g2,g3⟩ :=Zw8 A o.gd.ok
 have hc:v.2 ≠ []:=fun e=>by have:=o.l1; rw [e] at this; simp at this
 have es:shM ns (fmM v)=("move " : Str) ++ ZaJ ns (fmT id v.1) ++ " then " ++ Txt.join ", " (v.2.map fun c=>ZcA ns (c.1,fmT id c.2)):=by
  unfold shM fmM
  rw [List.map_map]
  rfl
 have ej:cl1 (Txt.join ", " (v.2.map fun c=>ZcA ns (c.1,fmT id c.2)))=jn [44,32] (v.2.map fun c=>cl1 (ZcA ns (c.1,fmT id c.2))):=by
  show (Builtin.Str.glued _ _).cps.toList=_
  rw [StrLaws.glued_eq_join,ZjV,List.map_map]
  rfl
 have et:cl1 (shM ns (fmM v))=cl1 "move" ++ 32 :: (glue ((wdG false ns v.1).map cl1) ++ 32 :: (cl1 "then" ++ 32 :: jn [44,32] (v.2.map fun c=>cl1 (ZcA ns (c.1,fmT id c.2))))):=by
  rw [es,Zpi,Zpi,Zpi,g1,ej]
  have e1:cl1 "move " = cl1 "move" ++ [32]:=by decide
  have e2:cl1 " then " = 32 :: (cl1 "then" ++ [32]):=by decide
  rw [e1,e2]
  simp only [List.append_assoc,List.cons_append,List.nil_append]
 refine ZGK ?_ ?_ (by simp) ?_
 ·rw [et]
  intro d hd
  rcases List.mem_append.mp hd with hd | hd
  ·exact Zux (.inr (.inr ⟨by decide,by decide⟩)) d hd
  rcases List.mem_cons.mp hd with rfl | hd
  ·decide
  rcases List.mem_append.mp hd with hd | hd
  ·exact Zv1 _ g2 d hd
  rcases List.mem_cons.mp hd with rfl | hd
  ·decide
  rcases List.mem_append.mp hd with hd | hd
  ·exact Zux (.inr (.inr ⟨by decide,by decide⟩)) d hd
  rcases List.mem_cons.mp hd with rfl | hd
  ·decide
  refine ZL3 (by decide) _ (fun p hp=>?_) d hd
  obtain ⟨c,hc',rfl⟩ :=List.mem_map.mp hp
  exact ZNy A (o.cs c hc').1 (o.cs c hc').2
 ·rw [et,ZnD ⟨by decide,by decide⟩,Zve _ _ g2 g3 (.inr ⟨32,_,rfl,.inl rfl⟩),ZyL,ZnD ⟨by decide,by decide⟩,ZAR A _ o.cs hc]
  simp only [List.map_cons,List.map_append]
  rfl
 ·have a:=ZES A o.gd
  obtain ⟨_,j2⟩ :=Zsq (B:=1620) (z:=", ") (ts:=v.2.map fun c=>ZcA ns (c.1,fmT id c.2)) (fun y hy=>by
   obtain ⟨c,hc',rfl⟩ :=List.mem_map.mp hy
   have a:=ZES A (o.cs c hc').1
   have b:(ns.getD c.1 Str.empty).length≤8:=ZqK (fun z hz=>(A.nm z hz).1.2.2) c.1
   have e:Str.length " is " = 4:=by decide +kernel
   unfold ZcA
   rw [Zak,Zak]
   show (ns.getD c.1 Str.empty).length + _ + (ZaJ ns (fmT id c.2)).length≤_
   omega) (by omega) (by decide) (by rw [List.length_map]; have:=o.l6; omega)
  have hl6:=o.l6
  have hb:(Txt.join ", " (v.2.map fun c=>ZcA ns (c.1,fmT id c.2))).length≤12000:=by
   have x1:=Zy7 ", " (v.2.map fun c=>ZcA ns (c.1,fmT id c.2))
   have x2:=ZAt (B:=1620) (zs:=v.2.map fun c=>ZcA ns (c.1,fmT id c.2)) (fun y hy=>by
    obtain ⟨c,hc',rfl⟩ :=List.mem_map.mp hy
    have a:=ZES A (o.cs c hc').1
    have b:(ns.getD c.1 Str.empty).length≤8:=ZqK (fun z hz=>(A.nm z hz).1.2.2) c.1
    have e:Str.length " is " = 4:=by decide +kernel
    unfold ZcA
    rw [Zak,Zak]
    show (ns.getD c.1 Str.empty).length + _ + (ZaJ ns (fmT id c.2)).length≤_
    omega)
   rw [List.length_map] at x1 x2
   have x3:Str.length ", " = 2:=by decide
   rw [x3] at x1
   have x4:1620 * v.2.length≤1620 * 6:=Nat.mul_le_mul_left _ hl6
   omega
  have l1:Str.length "move " = 5:=by decide
  have l2:Str.length " then " = 6:=by decide
  rw [es,Zak,Zak,Zak]
  omega
theorem ZKU {ns:List Str} (A:NmA ns) {v:Tr × List (Nat × Tr)} (o:OkMv ns.length v):MvRd ns (wdG false ns v.1) (mvB ns v) (fmM v):=by
 have hc:v.2.map (pcW ns) ≠ []:=fun e=>by have:=o.l1; rw [List.map_eq_nil_iff] at e; rw [e] at this; simp at this
 have pw:∀ p ∈ v.2.map (pcW ns),∀ z ∈ p,WdT z∨z = "is":=fun p hp z hz=>by
  obtain ⟨c,hc',rfl⟩ :=List.mem_map.mp hp
  obtain ⟨oc,hk⟩ :=o.cs c hc'
  have hm:=A.get hk
  have hz:z ∈ ns.getD c.1 Str.empty :: ("is" : Str) :: wdG false ns c.2:=hz
  rcases List.mem_cons.mp hz with rfl | hz
  ·refine .inl ⟨A.wd _ hm,fun e=>(A.nm _ hm).2 (by rw [e]; decide),fun e=>?_⟩
   have:=(A.nm _ hm).1.1 44 (by rw [e]; decide)
   omega
  rcases List.mem_cons.mp hz with rfl | hz
  ·exact .inr rfl
  ·exact .inl (WdT.tree A oc.ok z hz)
 have ep:ZfZ (mvB ns v)=v.2.map (pcW ns):=ZFt hc fun p hp hm=>by
  rcases pw p hp _ hm with h | h
  ·exact h.2.2 rfl
  ·exact absurd h (by decide)
 have hl6:=o.l6
 have pl:∀ p ∈ v.2.map (pcW ns),p.length≤162:=fun p hp=>by
  obtain ⟨c,hc',rfl⟩ :=List.mem_map.mp hp
  have:=Zu4 (o.cs c hc').1
  show (wdG false ns c.2).length + 2≤_
  omega
 have pp:∀ p ∈ ZfZ (mvB ns v),∀ z ∈ p,Zxk z:=fun p hp z hz=>by
  rw [ep] at hp
  rcases pw p hp z hz with h | rfl
  ·exact Zr0 h.1
  ·exact Zr0 ⟨.inr (.inr ⟨by decide,by decide⟩),by decide⟩
 refine ⟨⟨?_,?_,?_,?_⟩,ZAu A o.gd,?_,?_,fun z hz=>Zr0 (WdT.tree A o.gd.ok z hz).1,pp⟩
 ·intro h
  rcases List.mem_cons.mp h with h | h
  ·exact absurd h (by decide)
  ·exact (WdT.tree A o.gd.ok _ h).2.1 rfl
 ·intro h
  have:=ZEj (Pz:=fun z=>z ≠ "then") (k:=",") (by decide) (ps:=v.2.map (pcW ns)) (fun p hp z hz=>by
   rcases pw p hp z hz with h | rfl
   ·exact h.2.1
   ·decide) _ h
  exact this rfl
 ·have a:=Zu4 o.gd
  have b:=ZEk "," pl
  rw [List.length_map] at b
  have c:(162 + 1) * v.2.length≤163 * 6:=Nat.mul_le_mul_left _ hl6
  unfold mvB
  simp only [List.length_cons]
  omega
 ·intro p hp
  rw [ep] at hp
  obtain ⟨c,hc',rfl⟩ :=List.mem_map.mp hp
  exact ⟨by show 2≤(wdG false ns c.2).length + 2; omega,rfl⟩
 ·rw [ep]
  exact Zib fun c hc'=>⟨_,_,rfl,Zv8 A.nd (ZmO (o.cs c hc').2),ZAu A (o.cs c hc').1⟩
 ·show ((v.2.map fun c=>(c.1,fmT id c.2)).map Prod.fst).Nodup
  rw [List.map_map]
  exact o.nd
def ZBd (fs bs:List Tr) (us:List (Tr × List (Nat × Tr))):List Ent:=fs.map (fun g=>.st (fmT id g)) ++ bs.map (fun g=>.bd (fmT id g)) ++ us.map (fun v=>.mv (fmM v))
theorem ZsA {α β:Type} {R:α→β→Prop}:∀ {a a':List α} {b b':List β},Paired R a b→Paired R a' b'→Paired R (a ++ a') (b ++ b')
 | _,_,_,_,.nil,h=>h
 | _,_,_,_,.cons x r,h=>.cons x (ZsA r h)
theorem ZKd {ns:List Str} (A:NmA ns) {fs bs:List Tr} {us:List (Tr × List (Nat × Tr))} (k1:∀ g ∈ fs,OkTr ns.length g) (k2:∀ g ∈ bs,OkTr ns.length g) (k3:∀ v ∈ us,OkMv ns.length v) :
  Paired (fun z e=>∃ ws,LnW z ws∧EntW ns ws e) ((fs.map (fmT id)).map (fun f=>("start " : Str) ++ ZaJ ns f) ++ (bs.map (fmT id)).map (fun f=>("bad " : Str) ++ ZaJ ns f) ++ (us.map fmM).map (shM ns)) (ZBd fs bs us):=by
 rw [List.map_map,List.map_map,List.map_map]
 refine ZsA (ZsA (Zib fun g hg=>?_) (Zib fun g hg=>?_)) (Zib fun v hv=>?_)
 ·exact ⟨_,ZJN A (k1 g hg) (k:="start") (k':="start ") (by decide) ⟨by decide,by decide⟩ (by decide),.st (ZAu A (k1 g hg)) (fun z hz=>Zr0 (WdT.tree A (k1 g hg).ok z hz).1) (by have:=Zu4 (k1 g hg); omega)⟩
 ·exact ⟨_,ZJN A (k2 g hg) (k:="bad") (k':="bad ") (by decide) ⟨by decide,by decide⟩ (by decide),.bd (ZAu A (k2 g hg)) (fun z hz=>Zr0 (WdT.tree A (k2 g hg).ok z hz).1) (by have:=Zu4 (k2 g hg); omega)⟩
 ·exact ⟨_,ZKC A (k3 v hv),.mv (ZKU A (k3 v hv))⟩
theorem ZGc {α β:Type}:∀ l:List α,l.filterMap (fun _=>(none:Option β))=[]
 | []=>rfl
 | _ :: l=>ZGc l
theorem ZE6 (fs bs:List Tr) (us:List (Tr × List (Nat × Tr))):stE (ZBd fs bs us)=fs.map (fmT id)∧bdE (ZBd fs bs us)=bs.map (fmT id)∧mvE (ZBd fs bs us)=us.map fmM:=by
 unfold stE bdE mvE ZBd
 refine ⟨?_,?_,?_⟩ <;> simp [List.filterMap_append,List.filterMap_map,Function.comp_def,ZGc]
theorem ZEA {t:Ad} {ns:List Str} {tr:Tr} (o:OkTr ns.length tr):okS t ns (fmT id tr):=
 ⟨fun H p h=>FmE.tr tr 61 p (by have:=o.nt; omega) h,ZIt (fun k hk=>hk) tr o.ok,by have:=wt_T id tr; have:=o.nt; omega⟩
theorem ZMe {t:Ad} {ns:List Str} {v:Tr × List (Nat × Tr)} (o:OkMv ns.length v):okM t ns (fmM v):=
 ⟨ZEA o.gd,fun c hc=>by
  have hc:c ∈ v.2.map fun c=>(c.1,fmT id c.2):=hc
  obtain ⟨c',hc',rfl⟩ :=List.mem_map.mp hc
  exact ⟨ZEA (o.cs c' hc').1,(o.cs c' hc').2⟩,by show (v.2.map _).length≤6; rw [List.length_map]; exact o.l6⟩
end LW
set_option maxRecDepth 100000
set_option maxHeartbeats 4000000
open PySem L2
namespace LW
open PySem L2 EM
theorem ZBf {n i:Nat} {lo:Int} {x:V} (h:((List.range n).map fun i:Nat=>V.int (lo + (i:Int)))[i]?=some x):i < n∧x=.int (lo + (i:Int)):=by
 rw [List.getElem?_map] at h
 by_cases hi:i < n
 ·rw [List.getElem?_range hi] at h
  exact ⟨hi,(Option.some.inj h).symm⟩
 ·rw [List.getElem?_eq_none (by rw [List.length_range]; omega)] at h
  cases h
seal PE PA PS PSs
section
variable {P:Program} {w:World} {K:PySem.W.Frag} {mg:Str→Option Value} {base:Heap} {t:Ad} {n:Nat}
theorem ok_law (T:Txt K mg t):FnOk P w K mg base CX0 80 t.f_law t.d_law ["_law_script"] (spLaw K):=by
 refine T.F_law.ok Zih (fun vs H Q E h=>?_) (fun cdv A outer s H vs Q E hr h=>?_)
 ·obtain ⟨a,ns,rfl,_⟩ :=h
  rfl
 obtain ⟨sc,cs,rfl,hS,h63,hO,q⟩ :=h
 have Zf2:=Zys (P:=P) (w:=w) (base:=base) T
 have ZAO:=ZIF (P:=P) (w:=w) (base:=base) T
 have Zhl:=ZG9 (P:=P) (w:=w) (base:=base) T
 have ZAN:=ZIE (P:=P) (w:=w) (base:=base) T
 have ZAM:=ZID (P:=P) (w:=w) (base:=base) T
 have ZfI:=ZJe (P:=P) (w:=w) (base:=base) T 4
 have ZoY:=ZKI (P:=P) (w:=w) (base:=base) T
 have Zvc:=ZFr (P:=P) (w:=w) (base:=base) T
 have ZAQ:=ZzP (P:=P) (w:=w) (base:=base) T
 have ZFL:=ZG5 (P:=P) (w:=w) (base:=base) T
 have Zvd:=Zyr (P:=P) (w:=w) (base:=base) T
 refine ⟨_,(Zac (ss 1 Zih.nd (Zbq Zf2 hr (Zaa (pv 0) (Zaa Zam Zad))))
   (Zac (ss 2 Zih.nd (ZaD ZaC Zam (ZaD ZeU (pv 1) Zam)))
   (Zac (ss 3 Zih.nd (Zbq ZAO hr (Zaa (pv 0) (Zaa (pv 2) Zad))))
   (Zac (ZHn 4 Zih.nd (sc:=Zab ZpK) (N:=["_law_script","_law_first","_law_many","_law_names_here","_law_starts","_law_bads","_law_moves_here","_law_due","_law_made_here","_law_handed","_law_guard","_law_changes","_law_machine","_law_some","_law_found"]) (ns:=["_law_script","_law_many"]) (ix:=[0,2]) rfl rfl (by decide +kernel) rfl (Zer rfl T.B.range (Zaa (ZaD ZeU (ZaD Zde (pv 1) Zam) Zam) Zad)) (fun _ _ _ _=>ZsD) (fun _ _ _ _=>(Zbq Zhl hr (Zaa (pv 1) (Zaa (pv 2) (Zaa (pv 0) Zad))))))
   (Zac (ZHn 5 Zih.nd (sc:=Zab ZpK) (N:=["_law_script","_law_first","_law_many","_law_names_here","_law_starts","_law_bads","_law_moves_here","_law_due","_law_made_here","_law_handed","_law_guard","_law_changes","_law_machine","_law_some","_law_found"]) (ns:=["_law_script","_law_many"]) (ix:=[0,2]) rfl rfl (by decide +kernel) rfl (Zer rfl T.B.range (Zaa (ZaD ZeU (ZaD Zde (pv 1) Zam) Zam) Zad)) (fun _ _ _ _=>ZsD) (fun _ _ _ _=>(Zbq Zhl hr (Zaa (pv 1) (Zaa (pv 2) (Zaa (ZaD ZaC Zam (pv 0)) Zad))))))
   (Zac (ss 6 Zih.nd (Zbq ZAN hr (Zaa (pv 0) (Zaa (pv 2) (Zaa (ZaD ZeU (ZaD Zde (pv 1) Zam) Zam) (Zaa (ZaD Zde (pv 1) Zam) Zad))))))
   (Zac (ss 7 Zih.nd (Zbq ZAM hr (Zaa (pv 3) (Zaa (pv 4) (Zaa (pv 5) (Zaa (pv 6) Zad))))))
   (Zac (ss 8 Zih.nd (Zb0 Zad))
   (Zac (ss 9 Zih.nd (Zb0 (Zaa (ZHh (sc:=Zab ZpK) (N:=["_law_script","_law_first","_law_many","_law_names_here","_law_starts","_law_bads","_law_moves_here","_law_due","_law_made_here","_law_handed","_law_guard","_law_changes","_law_machine","_law_some","_law_found"]) (ns:=[]) (ix:=[]) rfl rfl (by decide +kernel) rfl (ZdK (pv 4)) (fun _ _ _ _=>ZsD) (fun _ _ _ _=>(Zbq ZfI hr (Zaa (pv 0) Zad)))) (Zaa (ZHh (sc:=Zab ZpK) (N:=["_law_script","_law_first","_law_many","_law_names_here","_law_starts","_law_bads","_law_moves_here","_law_due","_law_made_here","_law_handed","_law_guard","_law_changes","_law_machine","_law_some","_law_found"]) (ns:=[]) (ix:=[]) rfl rfl (by decide +kernel) rfl (ZdK (pv 5)) (fun _ _ _ _=>ZsD) (fun _ _ _ _=>(Zbq ZfI hr (Zaa (pv 0) Zad)))) (Zaa (Zeq Zsa rfl T.B.list ZyT (Zaa (pv 3) Zad)) Zad)))))
   (Zac (Zb5 PassesOwn.never rfl (ZdK (pv 6)) (Zyx rfl (ZeA (sg 10 Zih.nd) (ZeA (sg 11 Zih.nd) ZsC)))
   (Zac (ZaR (Zc8 PySem.F.plainAttrs_list PySem.F.slot_list_append PySem.F.type_list_append ZaK (pv 9) (Zaa (ZIJ (sc:=Zab ZpK) (N:=["_law_script","_law_first","_law_many","_law_names_here","_law_starts","_law_bads","_law_moves_here","_law_due","_law_made_here","_law_handed","_law_guard","_law_changes","_law_machine","_law_some","_law_found"]) (ns:=[]) (ix:=[]) rfl rfl (by decide +kernel) rfl (ZdK (pv 11)) (fun _ _ _ _=>ZsD) (fun _ _ _ _=>(Zkd (Zaa (pv 0) (Zaa (Zbq ZfI hr (Zaa (pv 1) Zad)) Zad))))) Zad)))
   (Zae (ZaR (Zc8 PySem.F.plainAttrs_list PySem.F.slot_list_append PySem.F.type_list_append ZaK (pv 8) (Zaa (Zng ZFL hr (Zaa (Zbq ZfI hr (Zaa (pv 10) Zad)) (Zaa (ZbE ZaW (pv 9) (ZFv ZyE Zam) (fun _ _=>rfl)) Zad))) Zad))))))
   (Zac (ss 12 Zih.nd (Zng Zvd hr (Zaa (ZbE ZaW (pv 9) Zam (fun _ _=>rfl)) (Zaa (ZbE ZaW (pv 9) Zam (fun _ _=>rfl)) (Zaa (ZbE ZaW (pv 9) Zam (fun _ _=>rfl)) (Zaa (pv 8) Zad))))))
   (Zac (Zb5 PassesOwn.never rfl (ZdK (pv 9)) (sg 13 Zih.nd)
   (Zae (ZaR (ZB7 PySem.F.plainAttrs_list PySem.F.slot_list_clear PySem.F.type_list_clear Zzg (pv 13)))))
   (Zac (ZaR (ZB7 PySem.F.plainAttrs_list PySem.F.slot_list_clear PySem.F.type_list_clear Zzg (pv 8)))
   (Zac (ss 14 Zih.nd (Zbq Zvc hr (Zaa (pv 12) Zad)))
   (Zac (ZbV (ZCb (Zgj (Zbq ZoY hr (Zaa (pv 14) (Zaa (pv 7) Zad))) (fun _=>rfl)))
   (Zae (ZaA ZxA))
   ZaI)
   (Zac (ZaR (ZB7 PySem.F.plainAttrs_list PySem.F.slot_list_clear PySem.F.type_list_clear Zzg (pv 14)))
   (Zac (ZbV (ZCb (Zgj (Zbq ZoY hr (Zaa (Zbq Zvc hr (Zaa (pv 12) Zad)) (Zaa (pv 7) Zad))) (fun _=>rfl)))
   (Zae (ZaA ZxA))
   ZaI)
   (Zae (ZaA (Zbq ZoY hr (Zaa (Zbq Zvc hr (Zaa (Zbq ZAQ hr (Zaa (Zeq Zsa rfl T.B.list ZyT (Zaa (pv 7) Zad)) Zad)) Zad)) (Zaa (pv 7) Zad)))))))))))))))))))))),?_⟩
 walk_at "rd0"
 refine ⟨sc,cs,0,rfl,hS,?_⟩
 generalize cell cs 0=fi
 obtain ⟨m,hm,hm1,hm6⟩ : ∃ m:Nat,1 + fi % 6=(m:Int)∧1≤m∧m≤6:=⟨(1 + fi % 6).toNat,by omega,by omega,by omega⟩
 obtain ⟨c1,hc1,hc18⟩ : ∃ k:Nat,fi / 6 % 9=(k:Int)∧k≤8:=⟨(fi / 6 % 9).toNat,by omega,by omega⟩
 obtain ⟨c2,hc2,hc28⟩ : ∃ k:Nat,fi / 54 % 9=(k:Int)∧k≤8:=⟨(fi / 54 % 9).toNat,by omega,by omega⟩
 obtain ⟨c3,hc3,hc38⟩ : ∃ k:Nat,fi / 486 % 9=(k:Int)∧k≤8:=⟨(fi / 486 % 9).toNat,by omega,by omega⟩
 walk_at "rd"
 rw [hm]
 walk_at "rd"
 refine ⟨sc,cs,m,rfl,hS,hm6,fun nl ns H1 s1 n1 e1 hl1 hn1 hd1=>?_⟩
 have Nm:NmA ns:=⟨hn1,hd1,by omega,by omega⟩
 subst hl1
 walk_at "rd"
 rw [hc1]
 refine ⟨_,rfl,by omega,by omega,?_⟩
 have slotC:∀ (Hb:Hp) (acc:Addr) (H' H3 H4:Hp) (qs:List Addr) (gs:List Tr) (p:Addr) (tr:Tr) (ys:List V),Hb acc=none→Same Hb H'→H' acc=some (.lst ys)→Paired (TwAt (· ≠ acc) H' 4) qs gs→Same H' H3→TwAt (fun l=>H' l=none) H3 4 p tr→But acc H3 H4→Same Hb H4∧Paired (TwAt (· ≠ acc) H4 4) (qs ++ [p]) (gs ++ [tr]):=fun Hb acc H' H3 H4 qs gs p tr ys ha sb ea pp s3 t3 b4=>by
  have e3:=s3 _ _ ea
  have tk:∀ p xs,H3 p=some (.tup xs)→H4 p=some (.tup xs):=fun p xs e=>b4 _ _ (Zdg e e3 (by intro z; cases z)) e
  exact ⟨b4.same ha (sb.trans s3),ZaF (Zah (fun _ _ x=>x.imp (fun p xs e=>tk _ _ (s3 _ _ e)) fun l zs sl e=>⟨sl,b4 _ _ sl (s3 _ _ e)⟩) pp) (.cons (t3.imp tk fun l zs sl e=>⟨(Zaf ea sl).symm,b4 _ _ (Zaf ea sl).symm e⟩) .nil)⟩
 refine ZDZ (fun i ys acc H'=>Same H1 H'∧H' acc=some (.lst ys)∧∃ qs gs,ys=qs.map V.ref∧Paired (TwAt (· ≠ acc) H' 4) qs gs∧(∀ g ∈ gs,OkTr ns.length g)∧gs.length=i) (fun H'=>ZE0 0 c1 H') (by simp; omega) (fun acc ha=>⟨ZdU ha _,Zaz,[],[],rfl,.nil,(fun g hg=>by cases hg),rfl⟩) ?_ ?_
 ·rintro i x ys acc H' hx ha ⟨s2,ea,qs,gs,rfl,pq,okq,hgl⟩ hyl R kk
  obtain ⟨hi,rfl⟩ :=ZBf hx
  simp only [subS,List.map_cons,List.map_nil]
  walk_at "rd"
  refine kk true H' (fun z=>by cases z) fun _ R2 k2=>?_
  walk_at "rd"
  refine ⟨sc,cs,ns.length,i,by rw [show (0:Int) + (i:Int)=(i:Int) by omega],(s1.trans s2).seq hS,h63,hm1,hm6,by omega,fun p tr H3 s3 t3 o1 o2 o3=>?_⟩
  refine k2 _ _ (s3 _ _ ea) fun H4 b4 e4=>?_
  obtain ⟨x1,x2⟩ :=slotC H1 acc H' H3 H4 qs gs p tr _ ha s2 ea pq s3 t3 b4
  refine ⟨x1,e4,qs ++ [p],gs ++ [tr],by rw [List.map_append]; rfl,x2,fun g hg=>?_,by rw [List.length_append,hgl]; rfl⟩
  rcases List.mem_append.mp hg with hg | hg
  ·exact okq g hg
  ·rw [List.mem_singleton.mp hg]; exact ⟨o1,o2,o3⟩
 rintro sl ys H2 nsl ⟨s2,es2,qs,fs,rfl,pq,okf,hfl⟩
 have hfl:fs.length≤8:=by rw [hfl]; simp; omega
 have pq2:Paired (TwAt anyA H2 4) qs fs:=Zah (fun _ _ x=>x.any) pq
 clear pq
 walk_at "rd"
 rw [hc2]
 refine ⟨_,rfl,by omega,by omega,?_⟩
 refine ZDZ (fun i ys acc H'=>Same H2 H'∧H' acc=some (.lst ys)∧∃ qs gs,ys=qs.map V.ref∧Paired (TwAt (· ≠ acc) H' 4) qs gs∧(∀ g ∈ gs,OkTr ns.length g)∧gs.length=i) (fun H'=>ZE0 0 c2 H') (by simp; omega) (fun acc ha=>⟨ZdU ha _,Zaz,[],[],rfl,.nil,(fun g hg=>by cases hg),rfl⟩) ?_ ?_
 ·rintro i x ys acc H' hx ha ⟨s2',ea,qs,gs,rfl,pq,okq,hgl⟩ hyl R kk
  obtain ⟨hi,rfl⟩ :=ZBf hx
  simp only [subS,List.map_cons,List.map_nil]
  walk_at "rd"
  refine kk true H' (fun z=>by cases z) fun _ R2 k2=>?_
  walk_at "rd"
  refine ⟨sc,cs,ns.length,8 + i,by rw [show (8:Int) + (0 + (i:Int))=((8 + i:Nat):Int) by omega],(s1.trans (s2.trans s2')).seq hS,h63,hm1,hm6,by omega,fun p tr H3 s3 t3 o1 o2 o3=>?_⟩
  refine k2 _ _ (s3 _ _ ea) fun H4 b4 e4=>?_
  obtain ⟨x1,x2⟩ :=slotC H2 acc H' H3 H4 qs gs p tr _ ha s2' ea pq s3 t3 b4
  refine ⟨x1,e4,qs ++ [p],gs ++ [tr],by rw [List.map_append]; rfl,x2,fun g hg=>?_,by rw [List.length_append,hgl]; rfl⟩
  rcases List.mem_append.mp hg with hg | hg
  ·exact okq g hg
  ·rw [List.mem_singleton.mp hg]; exact ⟨o1,o2,o3⟩
 rintro bl ys H3 nbl ⟨s3,eb3,qb,bs,rfl,pb,okb,hbl⟩
 have hbl:bs.length≤8:=by rw [hbl]; simp; omega
 have pb3:Paired (TwAt anyA H3 4) qb bs:=Zah (fun _ _ x=>x.any) pb
 clear pb
 have w3:=s1.trans (s2.trans s3)
 walk_at "rd"
 rw [hc3]
 refine ⟨sc,cs,ns.length,c3,_,rfl,w3.seq hS,h63,hm1,hm6,hc38,fun ml qv us H4 s4 n4 em4 pv4 okv hul=>?_⟩
 walk_at "rd"
 have e14:=(s2.trans (s3.trans s4)) _ _ e1
 have es4:=(s3.trans s4) _ _ es2
 have eb4:=s4 _ _ eb3
 have ps4:Paired (TwAt anyA H4 4) qs fs:=Zah (fun _ _ x=>x.same (s3.trans s4)) pq2
 have pb4:Paired (TwAt anyA H4 4) qb bs:=Zah (fun _ _ x=>x.same s4) pb3
 refine ⟨nl,sl,bl,ml,ns,qs,qb,qv,fs,bs,us,rfl,e14,es4,eb4,em4,ps4,pb4,pv4,Nm.n6,fun z hz=>⟨(Nm.nm z hz).1.2.1,(Nm.nm z hz).1.2.2⟩,okf,okb,okv,hfl,hbl,hul,fun dl H5 s5 n5 e5=>?_⟩
 generalize hL:Zym ns (fs.map (fmT id)) (bs.map (fmT id)) (us.map fmM)=L at e5
 have hLl:L.length≤30:=by
  rw [← hL]
  unfold Zym
  simp only [List.length_append,List.length_map,List.length_singleton]
  omega
 have e15:=s5 _ _ e14
 have es5:=s5 _ _ es4
 have eb5:=s5 _ _ eb4
 have em5:=s5 _ _ em4
 have ps5:Paired (TwAt anyA H5 4) qs fs:=Zah (fun _ _ x=>x.same s5) ps4
 have pb5:Paired (TwAt anyA H5 4) qb bs:=Zah (fun _ _ x=>x.same s5) pb4
 have pv5:Paired (MvT H5) qv us:=Zah (fun _ _ x=>x.same s5) pv4
 clear e14 es4 eb4 em4 ps4 pb4 pv4 pq2 pb3 es2 eb3 e1 w3 s1 s2 s3 s4 s5 slotC
 walk_at "rd"
 refine ZfD (by simp) fun mk H6 s6 n6 e6=>?_
 walk_at "rd"
 have madeC:∀ (g:Tr),OkTr ns.length g→∀ (H0 H':Hp) (p:Addr) (Q:VK),TwAt anyA H0 4 p g→Same H0 H'→(∀ x H3,Same H' H3→FmE t H3 x (fmT id g)→Q (.ref x) H3)→ZHG t 4 [.ref p] H' Q (fun _ _ _=>False):=fun g o H0 H' p Q ht s k=>⟨p,g,rfl,ht.same s,o.nw,by have:=o.nt; omega,k⟩
 refine .inl ⟨sl,_,rfl,SqL.of (s6 _ _ es5),?_⟩
 refine ZDY (fun i ys H'=>∃ zs,ys=zs.map V.ref∧Paired (FmE t H') zs ((fs.take i).map (fmT id))) (ZAx (SqL.of (s6 _ _ es5))) (by rw [List.length_map,Zas ps5]; omega) (fun H' _=>⟨[],rfl,.nil⟩) (by rintro i ys Ha Hb x ⟨zs,e,p⟩; exact ⟨zs,e,Zah (fun _ _ z=>z.ext x) p⟩) ?_ ?_
 ·rintro i x ys acc H' hx s' ha ea ⟨zs,rfl,pz⟩ hyl R kk
  obtain ⟨y,rfl,hy⟩ :=Zcb hx
  obtain ⟨g,hgi,hT⟩ :=Za1 ps5 hy
  simp only [subS,List.map_cons,List.map_nil]
  walk_at "rd"
  refine kk true H' (Same.refl _) (fun z=>by cases z) fun _ R2 k2=>?_
  walk_at "rd"
  refine madeC g (okf g (List.mem_of_getElem? hgi)) H5 H' y _ hT (s6.trans s') fun x H3 s3 hx=>?_
  refine k2 _ _ s3 ⟨zs ++ [x],by rw [List.map_append]; rfl,?_⟩
  rw [ZaY hgi,List.map_append]
  exact ZaF (Zah (fun _ _ z=>z.ext (Ext.of s3)) pz) (.cons hx .nil)
 rintro aA ys H7 nA s7 eA ⟨zA,rfl,pA⟩
 rw [List.length_map,Zas ps5,List.take_length] at pA
 walk_at "rd"
 have eb7:=(s6.trans s7) _ _ eb5
 refine .inl ⟨bl,_,rfl,SqL.of eb7,?_⟩
 refine ZDY (fun i ys H'=>∃ zs,ys=zs.map V.ref∧Paired (FmE t H') zs ((bs.take i).map (fmT id))) (ZAx (SqL.of eb7)) (by rw [List.length_map,Zas pb5]; omega) (fun H' _=>⟨[],rfl,.nil⟩) (by rintro i ys Ha Hb x ⟨zs,e,p⟩; exact ⟨zs,e,Zah (fun _ _ z=>z.ext x) p⟩) ?_ ?_
 ·rintro i x ys acc H' hx s' ha ea ⟨zs,rfl,pz⟩ hyl R kk
  obtain ⟨y,rfl,hy⟩ :=Zcb hx
  obtain ⟨g,hgi,hT⟩ :=Za1 pb5 hy
  simp only [subS,List.map_cons,List.map_nil]
  walk_at "rd"
  refine kk true H' (Same.refl _) (fun z=>by cases z) fun _ R2 k2=>?_
  walk_at "rd"
  refine madeC g (okb g (List.mem_of_getElem? hgi)) H5 H' y _ hT (s6.trans (s7.trans s')) fun x H3 s3 hx=>?_
  refine k2 _ _ s3 ⟨zs ++ [x],by rw [List.map_append]; rfl,?_⟩
  rw [ZaY hgi,List.map_append]
  exact ZaF (Zah (fun _ _ z=>z.ext (Ext.of s3)) pz) (.cons hx .nil)
 rintro aB ys H8 nB s8 eB ⟨zB,rfl,pB⟩
 rw [List.length_map,Zas pb5,List.take_length] at pB
 walk_at "rd"
 have e18:=(s6.trans (s7.trans s8)) _ _ e15
 refine ZGx (.inl (SqL.of e18)) fun aC H9 s9 nC eC=>?_
 walk_at "rd"
 refine ZfD (by simp) fun hd H10 s10 nh eh=>?_
 have em6:=s6 _ _ em5
 have xmA:mk ≠ aA:=Zaf e6 nA
 have xmB:mk ≠ aB:=Zaf (s7 _ _ e6) nB
 have xmC:mk ≠ aC:=Zaf ((s7.trans s8) _ _ e6) nC
 have xmh:mk ≠ hd:=Zaf ((s7.trans (s8.trans s9)) _ _ e6) nh
 have xAB:aA ≠ aB:=Zaf eA nB
 have xAC:aA ≠ aC:=Zaf (s8 _ _ eA) nC
 have xAh:aA ≠ hd:=Zaf ((s8.trans s9) _ _ eA) nh
 have xBC:aB ≠ aC:=Zaf eB nC
 have xBh:aB ≠ hd:=Zaf (s9 _ _ eB) nh
 have xCh:aC ≠ hd:=Zaf eC nh
 have fA:H5 aA=none:=s6.free nA
 have fB:H5 aB=none:=(s6.trans s7).free nB
 have fC:H5 aC=none:=(s6.trans (s7.trans s8)).free nC
 have fh:H5 hd=none:=(s6.trans (s7.trans (s8.trans s9))).free nh
 have w10:=s6.trans (s7.trans (s8.trans (s9.trans s10)))
 have hqv:=Zas pv5
 walk_at "rd"
 refine seqL (xs:=qv.map V.ref) (fun i σ H'=>∃ xs accs v10 v11,Same H5 H'∧H' hd=some (.lst ((aA :: aB :: aC :: accs).map V.ref))∧H' mk=some (.lst (xs.map V.ref))∧Paired (MvW t H') xs ((us.take i).map fmM)∧(H' aA=some (.lst (zA.map V.ref))∧Paired (FmE t H') zA (fs.map (fmT id)))∧(H' aB=some (.lst (zB.map V.ref))∧Paired (FmE t H') zB (bs.map (fmT id)))∧H' aC=some (.lst (ns.map V.str))∧(∀ a ∈ accs,(∃ ys,H' a=some (.lst ys))∧H5 a=none∧a ≠ hd∧a ≠ mk)∧accs.length=i∧σ=[some (.ref sc),some (.int fi),some (.int (ns.length:Int)),some (.ref nl),some (.ref sl),some (.ref bl),some (.ref ml),some (.ref dl),some (.ref mk),some (.ref hd),v10,v11,none,none,none])
  ⟨[],[],_,_,w10,eh,(s7.trans (s8.trans (s9.trans s10))) _ _ e6,.nil,⟨(s8.trans (s9.trans s10)) _ _ eA,Zah (fun _ _ z=>z.ext (Ext.of (s8.trans (s9.trans s10)))) pA⟩,⟨(s9.trans s10) _ _ eB,Zah (fun _ _ z=>z.ext (Ext.of (s9.trans s10))) pB⟩,s10 _ _ eC,(fun a ha=>by cases ha),rfl,rfl⟩ (fun i σ H' _ hp=>by obtain ⟨_,_,_,_,s,_⟩ :=hp; exact SqL.of (s _ _ em5)) ?_ ?_
 ·rintro i y σ H' hy ⟨xs,accs,v10,v11,sL,eh',em',pm',⟨eA',pA'⟩,⟨eB',pB'⟩,eC',hac,hal,rfl⟩
  obtain ⟨y,rfl,hy'⟩ :=Zcb hy
  obtain ⟨v,hvi,hM⟩ :=Za1 pv5 hy'
  have ov:=okv v (List.mem_of_getElem? hvi)
  have hil:=(List.getElem?_eq_some_iff.mp hvi).1
  obtain ⟨gp,cl,hs,m1,m2,m3,m4⟩ :=hM.same sL
  have hcl:=Zas m4
  have l6:=ov.l6
  refine ZFc m1 ?_
  walk_at "rd"
  refine ⟨tyL eh',?_⟩
  walk_at "rd"
  refine .inl ⟨cl,_,rfl,SqL.of m3,?_⟩
  refine ZDX (fun i ys Hc=>∃ zs,ys=zs.map V.ref∧Paired (ChW t Hc) zs ((v.2.take i).map fun c=>(c.1,fmT id c.2))) (ZAx (SqL.of m3)) (by rw [List.length_map]; omega) (fun i x hx=>?_) (fun Hc _=>⟨[],rfl,.nil⟩) (by rintro i ys Ha Hb x ⟨zs,e,p⟩; exact ⟨zs,e,Zah (fun _ _ z=>z.ext x) p⟩) ?_ ?_
  ·obtain ⟨h,rfl,hx''⟩ :=Zcb hx
   obtain ⟨c,hgc,q',e',_⟩ :=Za1 m4 hx''
   exact ⟨h,_,_,rfl,e'⟩
  ·rintro i2 h va vb ys acc Hc hx eh2 sc' hacc ea ⟨zs,rfl,pz⟩ _ R' kk
   obtain ⟨h',e',hx''⟩ :=Zcb hx
   cases e'
   obtain ⟨c,hgc,q',e',hT⟩ :=Za1 m4 hx''
   rw [e'] at eh2
   cases eh2
   simp only [subS,List.map_cons,List.map_nil]
   walk_at "rd"
   refine kk true Hc (Same.refl _) (fun z=>by cases z) fun _ R2 k2=>?_
   walk_at "rd"
   refine madeC c.2 (ov.cs c (List.mem_of_getElem? hgc)).1 H' Hc q' _ hT sc' fun x H3 s3 hx=>?_
   walk_at "rd"
   refine Zxp (by simp) fun tp H4 s4 n4 e4=>?_
   refine k2 _ _ (s3.trans s4) ⟨zs ++ [tp],by rw [List.map_append]; rfl,?_⟩
   rw [ZaY hgc,List.map_append]
   exact ZaF (Zah (fun _ _ z=>z.ext (Ext.of (s3.trans s4))) pz) (.cons ⟨x,e4,hx.ext (Ext.of s4)⟩ .nil)
  rintro acc ys H11 nacc s11 eacc ⟨zs,rfl,pz⟩
  rw [List.length_map,hcl,List.take_length] at pz
  have eh11:=s11 _ _ eh'
  have xah:acc ≠ hd:=(Zaf eh' nacc).symm
  have xam:acc ≠ mk:=(Zaf em' nacc).symm
  walk_at "rd"
  refine Za5 eh11 (by rw [List.length_map]; simp only [List.length_cons]; omega) fun H12 b12 e12=>?_
  have x12:=b12.ext eh11
  have e12':H12 hd=some (.lst ((aA :: aB :: aC :: accs).map V.ref ++ [V.ref acc])):=e12
  have s12:Same H5 H12:=b12.same fh (sL.trans s11)
  have em12:=b12 _ _ xmh (s11 _ _ em')
  have gp12:TwAt anyA H12 4 gp v.1:=by
   obtain ⟨gp0,cl0,hs0,m10,m20,_⟩ :=hM
   have:=sL _ _ m10
   rw [m1] at this
   cases this
   exact m20.same s12
  walk_at "rd"
  refine ⟨tyL em12,?_⟩
  walk_at "rd"
  refine madeC v.1 ov.gd H12 H12 gp _ gp12 (Same.refl _) fun g H13 s13 hg=>?_
  walk_at "rd"
  refine ZEg (s13 _ _ e12') (ZDS _ _) ?_
  walk_at "rd"
  have eacc13:=s13 _ _ (b12 _ _ xah eacc)
  refine ZGs (v:=fmM v) eacc13 hg (Zah (fun _ _ z=>(z.ext x12).ext (Ext.of s13)) pz) fun mx H14 s14 n14 mv=>?_
  walk_at "rd"
  have em14:=(s13.trans s14) _ _ em12
  have hxl:=Zas pm'
  rw [List.length_map,List.length_take] at hxl
  refine Za5 em14 (by rw [List.length_map]; omega) fun H15 b15 e15'=>?_
  walk_at "rd"
  have x15:=b15.ext em14
  have x14:=Ext.of (s13.trans s14)
  have kp:∀ {a ys},a ≠ hd→a ≠ mk→H' a=some (.lst ys)→H15 a=some (.lst ys):=fun h1 h2 e=>b15 _ _ h2 ((s13.trans s14) _ _ (b12 _ _ h1 (s11 _ _ e)))
  refine ⟨xs ++ [mx],accs ++ [acc],_,_,b15.same n6 (s12.trans (s13.trans s14)),?_,by rw [e15',List.map_append]; rfl,?_,⟨kp xAh xmA.symm eA',Zah (fun _ _ z=>(((z.ext (Ext.of s11)).ext x12).ext x14).ext x15) pA'⟩,⟨kp xBh xmB.symm eB',Zah (fun _ _ z=>(((z.ext (Ext.of s11)).ext x12).ext x14).ext x15) pB'⟩,kp xCh xmC.symm eC',fun a ha=>?_,by rw [List.length_append,hal]; rfl,rfl⟩
  ·rw [b15 _ _ xmh.symm ((s13.trans s14) _ _ e12)]
   simp
  ·rw [ZaY hvi,List.map_append]
   exact ZaF (Zah (fun _ _ z=>(((z.ext (Ext.of s11)).ext x12).ext x14).ext x15) pm') (.cons (mv.ext x15) .nil)
  ·rcases List.mem_append.mp ha with ha | ha
   ·obtain ⟨⟨ys,e⟩,h2,h3,h4⟩ :=hac a ha
    exact ⟨⟨ys,kp h3 h4 e⟩,h2,h3,h4⟩
   ·rw [List.mem_singleton.mp ha]
    exact ⟨⟨_,b15 _ _ xam (s14 _ _ eacc13)⟩,sL.free nacc,xah,xam⟩
 rintro σ H' ⟨xs,accs,v10,v11,sL,eh',em',pm',⟨eA',pA'⟩,⟨eB',pB'⟩,eC',hac,hal,rfl⟩
 rw [List.length_map,hqv,List.take_length] at pm'
 rw [List.length_map,hqv] at hal
 walk_at "rd"
 refine ZdP (j:=2) eh' (v:=.ref aC) rfl ?_
 walk_at "rd"
 refine ZdP (j:=0) eh' (v:=.ref aA) rfl ?_
 walk_at "rd"
 refine ZdP (j:=1) eh' (v:=.ref aB) rfl ?_
 walk_at "rd"
 refine Zyf eC' eA' eB' em' pA' pB' pm' fun mc H11 s11 n11 hmc=>?_
 walk_at "rd"
 have all:∀ a ∈ aA :: aB :: aC :: accs,(∃ ys,H11 a=some (.lst ys))∧H5 a=none∧a ≠ hd:=fun a ha=>by
  rcases List.mem_cons.mp ha with rfl | ha
  ·exact ⟨⟨_,s11 _ _ eA'⟩,fA,xAh⟩
  rcases List.mem_cons.mp ha with rfl | ha
  ·exact ⟨⟨_,s11 _ _ eB'⟩,fB,xBh⟩
  rcases List.mem_cons.mp ha with rfl | ha
  ·exact ⟨⟨_,s11 _ _ eC'⟩,fC,xCh⟩
  ·obtain ⟨⟨ys,e⟩,h2,h3,_⟩ :=hac a ha
   exact ⟨⟨ys,s11 _ _ e⟩,h2,h3⟩
 have em11:=s11 _ _ em'
 have eh11:=s11 _ _ eh'
 have s511:=sL.trans s11
 clear eA' pA' eB' pB' eC' hac pm' em' eh' sL
 generalize aA :: aB :: aC :: accs=hl at eh11 all
 refine seqL (xs:=hl.map V.ref) (fun i σ H'=>∃ v13,Same H5 H'∧H' hd=some (.lst (hl.map V.ref))∧(∃ ys,H' mk=some (.lst ys))∧MacW t H' mc ns (fs.map (fmT id)) (bs.map (fmT id)) (us.map fmM)∧(∀ a ∈ hl,∃ ys,H' a=some (.lst ys))∧σ=[some (.ref sc),some (.int fi),some (.int (ns.length:Int)),some (.ref nl),some (.ref sl),some (.ref bl),some (.ref ml),some (.ref dl),some (.ref mk),some (.ref hd),v10,v11,some (.ref mc),v13,none]) ⟨_,s511,eh11,⟨_,em11⟩,hmc,fun a ha=>(all a ha).1,rfl⟩ (fun i σ H' _ hp=>by obtain ⟨_,_,e,_⟩ :=hp; exact SqL.of e) ?_ ?_
 ·rintro i y σ H' hy ⟨v13,sL,eh',⟨ym,em'⟩,hM',hal',rfl⟩
  obtain ⟨a,rfl,hy'⟩ :=Zcb hy
  have ham:=List.mem_of_getElem? hy'
  obtain ⟨ys,ea⟩ :=hal' a ham
  obtain ⟨_,fa,xa⟩ :=all a ham
  walk_at "rd"
  refine ⟨tyL ea,?_⟩
  walk_at "rd"
  refine ZC7 ea fun H12 b12 e12=>?_
  walk_at "rd"
  have kl:∀ b ys,H' b=some (.lst ys)→∃ zs,H12 b=some (.lst zs):=fun b ys e=>by
   by_cases h:b=a
   ·exact ⟨_,by rw [h]; exact e12⟩
   ·exact ⟨ys,b12 _ _ h e⟩
  exact ⟨_,b12.same fa sL,b12 _ _ xa.symm eh',kl _ _ em',hM'.ext (b12.ext ea),fun b hb=>let ⟨ys,e⟩ :=hal' b hb; kl b ys e,rfl⟩
 rintro σ H12 ⟨v13,s12,eh12,⟨ym,em12⟩,hM12,_,rfl⟩
 walk_at "rd"
 refine ⟨tyL em12,?_⟩
 walk_at "rd"
 refine ZC7 em12 fun H13 b13 e13=>?_
 have s13:Same H5 H13:=b13.same n6 s12
 have hM13:=hM12.ext (b13.ext em12)
 have ed13:=s13 _ _ e5
 have k1:∀ f ∈ fs.map (fmT id),okS t ns f:=fun f hf=>by obtain ⟨g,hg,rfl⟩ :=List.mem_map.mp hf; exact ZEA (okf g hg)
 have k2:∀ f ∈ bs.map (fmT id),okS t ns f:=fun f hf=>by obtain ⟨g,hg,rfl⟩ :=List.mem_map.mp hf; exact ZEA (okb g hg)
 have k3:∀ v ∈ us.map fmM,okM t ns v:=fun f hf=>by obtain ⟨g,hg,rfl⟩ :=List.mem_map.mp hf; exact ZMe (okv g hg)
 have k8:∀ z ∈ ns,z.length≤8:=fun z hz=>(Nm.nm z hz).1.2.2
 have kz:(fs.map (fmT id)).length + (bs.map (fmT id)).length + (us.map fmM).length≤1000:=by rw [List.length_map,List.length_map,List.length_map]; omega
 walk_at "rd"
 refine ⟨mc,ns,_,_,_,rfl,hM13,Nm.n6,k8,k1,k2,k3,kz,fun l1 H14 s14 n14 e14=>?_⟩
 rw [hL] at e14
 walk_at "rd"
 refine ⟨l1,dl,L,rfl,e14,s14 _ _ ed13,by omega,?_⟩
 walk_at "rd"
 refine Zbm rfl ?_
 walk_at "rd"
 refine ⟨tyL e14,?_⟩
 walk_at "rd"
 refine ZC7 e14 fun H15 b15 e15'=>?_
 have s15:Same H13 H15:=b15.same n14 s14
 have hM15:=hM13.ext (Ext.of s15)
 walk_at "rd"
 refine ⟨mc,ns,_,_,_,rfl,hM15,Nm.n6,k8,k1,k2,k3,kz,fun l2 H16 s16 n16 e16=>?_⟩
 rw [hL] at e16
 walk_at "rd"
 have ed16:=(s15.trans s16) _ _ ed13
 refine ⟨l2,dl,L,rfl,e16,ed16,by omega,?_⟩
 walk_at "rd"
 refine Zbm rfl ?_
 walk_at "rd"
 refine ZGx (.inl (SqL.of ed16)) fun l3 H17 s17 n17 e17=>?_
 walk_at "rd"
 have ents:=ZKd Nm okf okb okv
 obtain ⟨q1,q2,q3⟩ :=ZE6 fs bs us
 have eL:L=(("lamps " : Str) ++ Txt.join " " ns) :: ((fs.map (fmT id)).map (fun f=>("start " : Str) ++ ZaJ ns f) ++ (bs.map (fmT id)).map (fun f=>("bad " : Str) ++ ZaJ ns f) ++ (us.map fmM).map (shM ns)):=by
  rw [← hL]
  unfold Zym
  simp only [List.cons_append,List.nil_append]
 have e17':=e17
 rw [eL] at e17'
 refine ⟨l3,_,_,ns,_,rfl,e17',ZIs Nm,Nm.lm,ents,by simp only [List.length_append,List.length_map]; omega,fun m2 H18 s18 hM18=>?_⟩
 rw [q1,q2,q3] at hM18
 walk_at "rd"
 refine ⟨m2,ns,_,_,_,rfl,hM18,Nm.n6,k8,k1,k2,k3,kz,fun l4 H19 s19 n19 e19=>?_⟩
 rw [hL] at e19
 walk_at "rd"
 exact ⟨l4,dl,L,rfl,e19,(s17.trans (s18.trans s19)) _ _ ed16,by omega,q _⟩
end
unseal PE PA PS PSs
end LW
theorem PySem.W.Fast.tw16056956390683035297 : True := trivial
theorem PySem.W.Fast.tw11246698290850486818 : True := trivial
theorem PySem.W.Fast.tw8558494120653705334 : True := trivial
theorem PySem.W.Fast.tw4897401798037734834 : True := trivial
theorem PySem.W.Fast.tw5553557229913166103 : True := trivial
theorem PySem.W.Fast.tw14262036387036479915 : True := trivial
theorem PySem.W.Fast.tw8298870528749556910 : True := trivial
theorem PySem.W.Fast.tw4622443438391645285 : True := trivial
theorem PySem.W.Fast.tw17580761291036587106 : True := trivial
theorem PySem.W.Fast.tw16880293710290716334 : True := trivial
theorem PySem.W.Fast.tw13983308132856890942 : True := trivial
theorem PySem.W.Fast.tw5255274982874750688 : True := trivial
theorem PySem.W.Fast.tw2070732132572435830 : True := trivial
theorem PySem.W.Fast.tw9876445009777649034 : True := trivial
theorem PySem.W.Fast.tw2778566952243896947 : True := trivial
theorem PySem.W.Fast.tw5787931194155796875 : True := trivial
theorem PySem.W.Fast.tw15428625302525090539 : True := trivial
theorem PySem.W.Fast.tw1157034097004166920 : True := trivial
theorem PySem.W.Fast.tw15100056504007252079 : True := trivial
theorem PySem.W.Fast.tw14491904846490668947 : True := trivial
theorem PySem.W.Fast.tw1938677995382167861 : True := trivial
theorem PySem.W.Fast.tw1703320709578804849 : True := trivial
theorem PySem.W.Fast.tw6806285117574228769 : True := trivial
theorem PySem.W.Fast.tw464607846783732415 : True := trivial
theorem PySem.W.Fast.tw13351367740382401968 : True := trivial
theorem PySem.W.Fast.tw7261349809498167219 : True := trivial
theorem PySem.W.Fast.tw4421379983818436995 : True := trivial
theorem PySem.W.Fast.tw6283131593799631780 : True := trivial
theorem PySem.W.Fast.tw5954275365058757574 : True := trivial
theorem PySem.W.Fast.tw7387321563974196266 : True := trivial
theorem PySem.W.Fast.tw12896534979702112650 : True := trivial
theorem PySem.W.Fast.tw6726976014752196887 : True := trivial
theorem PySem.W.Fast.tw2507052409828681538 : True := trivial
theorem PySem.W.Fast.tw10209438351555111326 : True := trivial
theorem PySem.W.Fast.tw521925645028392076 : True := trivial
theorem PySem.W.Fast.tw17191867165418682031 : True := trivial
theorem PySem.W.Fast.tw9471072419537698512 : True := trivial
theorem PySem.W.Fast.tw2841180534124659172 : True := trivial
theorem PySem.W.Fast.tw15006791797602211031 : True := trivial
theorem PySem.W.Fast.tw12946089952185672379 : True := trivial
theorem PySem.W.Fast.tw11802204236243168067 : True := trivial
theorem PySem.W.Fast.tw13316910485162451039 : True := trivial
theorem PySem.W.Fast.tw2347236706900876822 : True := trivial
theorem PySem.W.Fast.tw14598316158644791769 : True := trivial
theorem PySem.W.Fast.tw9555960278617014910 : True := trivial
theorem PySem.W.Fast.tw6335884024166348549 : True := trivial
theorem PySem.W.Fast.tw6458711777694371026 : True := trivial
theorem PySem.W.Fast.tw10772530192014561083 : True := trivial
theorem PySem.W.Fast.tw5053157988007302672 : True := trivial
theorem PySem.W.Fast.tw16128370705372091382 : True := trivial
theorem PySem.W.Fast.tw10742073668043282700 : True := trivial
theorem PySem.W.Fast.tw4291583734525521610 : True := trivial
theorem PySem.W.Fast.tw17132504593835077687 : True := trivial
theorem PySem.W.Fast.tw7639979161058252966 : True := trivial
theorem PySem.W.Fast.tw3570024258047145377 : True := trivial
theorem PySem.W.Fast.tw6406640622595231338 : True := trivial
theorem PySem.W.Fast.tw3787862381443621637 : True := trivial
theorem PySem.W.Fast.tw9156241806483062991 : True := trivial
theorem PySem.W.Fast.tw9784205639108293714 : True := trivial
theorem PySem.W.Fast.tw5558554062956299391 : True := trivial
theorem PySem.W.Fast.tw6586269958241915345 : True := trivial
theorem PySem.W.Fast.tw1614053794220030354 : True := trivial
theorem PySem.W.Fast.tw9957598436378393312 : True := trivial
theorem PySem.W.Fast.tw7615613779130280632 : True := trivial
theorem PySem.W.Fast.tw7609426936151280545 : True := trivial
theorem PySem.W.Fast.tw6890409977796694819 : True := trivial
theorem PySem.W.Fast.tw4142037191038875063 : True := trivial
theorem PySem.W.Fast.tw4122002164803208838 : True := trivial
theorem PySem.W.Fast.tw1527712989001668564 : True := trivial
theorem PySem.W.Fast.tw9367755723146161892 : True := trivial
theorem PySem.W.Fast.tw8744804782619396942 : True := trivial
theorem PySem.W.Fast.tw18012606752167543655 : True := trivial
theorem PySem.W.Fast.tw18033295112868266229 : True := trivial
theorem PySem.W.Fast.tw12614350790612925248 : True := trivial
theorem PySem.W.Fast.tw12911027076562715631 : True := trivial
theorem PySem.W.Fast.tw10625150250544465185 : True := trivial
theorem PySem.W.Fast.tw7449243793361430795 : True := trivial
theorem PySem.W.Fast.tw18374309761025628076 : True := trivial
theorem PySem.W.Fast.tw8375288158447850322 : True := trivial
theorem PySem.W.Fast.tw14946278533240355873 : True := trivial
theorem PySem.W.Fast.tw12703430420065094974 : True := trivial
theorem PySem.W.Fast.tw17543631692514575779 : True := trivial
theorem PySem.W.Fast.tw8151311359863974705 : True := trivial
theorem PySem.W.Fast.tw877084674740322988 : True := trivial
theorem PySem.W.Fast.tw13770510443420244202 : True := trivial
theorem PySem.W.Fast.tw9866560793920132619 : True := trivial
theorem PySem.W.Fast.tw10224283536987996902 : True := trivial
theorem PySem.W.Fast.tw11205498752550174511 : True := trivial
theorem PySem.W.Fast.tw6660382671024423591 : True := trivial
theorem PySem.W.Fast.tw16912441100942606177 : True := trivial
theorem PySem.W.Fast.tw1507979251953092862 : True := trivial
theorem PySem.W.Fast.tw1310784335529511486 : True := trivial
theorem PySem.W.Fast.tw7407752611255474524 : True := trivial
theorem PySem.W.Fast.tw6363135893983788806 : True := trivial
theorem PySem.W.Fast.tw16345680954823125311 : True := trivial
theorem PySem.W.Fast.tw1161123716666738913 : True := trivial
theorem PySem.W.Fast.tw18228622271126881427 : True := trivial
theorem PySem.W.Fast.tw10046738500448650319 : True := trivial
theorem PySem.W.Fast.tw5722478682176167430 : True := trivial
theorem PySem.W.Fast.tw792807921163511554 : True := trivial
theorem PySem.W.Fast.tw1341114910102409755 : True := trivial
theorem PySem.W.Fast.tw5706524095953876116 : True := trivial
theorem PySem.W.Fast.tw6617042253043734942 : True := trivial
theorem PySem.W.Fast.tw17552516363001811513 : True := trivial
theorem PySem.W.Fast.tw5118987999679437808 : True := trivial
theorem PySem.W.Fast.tw6929140940953266273 : True := trivial
theorem PySem.W.Fast.tw14622515707098766754 : True := trivial
theorem PySem.W.Fast.tw5634248437364472046 : True := trivial
theorem PySem.W.Fast.tw2488247699579379591 : True := trivial
theorem PySem.W.Fast.tw13569415513299104485 : True := trivial
theorem PySem.W.Fast.tw7191839125170051086 : True := trivial
theorem PySem.W.Fast.tw1583009761764188444 : True := trivial
theorem PySem.W.Fast.tw7767134344727833513 : True := trivial
theorem PySem.W.Fast.tw4731255550038463270 : True := trivial
theorem PySem.W.Fast.tw15128652465963339542 : True := trivial
theorem PySem.W.Fast.tw15816446479381243202 : True := trivial
theorem PySem.W.Fast.tw4102833500505636165 : True := trivial
theorem PySem.W.Fast.tw11295016763988426420 : True := trivial
theorem PySem.W.Fast.tw7012866264156941418 : True := trivial
theorem PySem.W.Fast.tw10758388047515070815 : True := trivial
theorem PySem.W.Fast.tw15585255875371128894 : True := trivial
theorem PySem.W.Fast.tw17379478955466110215 : True := trivial
theorem PySem.W.Fast.tw11275183723962673775 : True := trivial
theorem PySem.W.Fast.tw14562142971796200561 : True := trivial
theorem PySem.W.Fast.tw9639160323892117007 : True := trivial
theorem PySem.W.Fast.tw3073178377067476890 : True := trivial
theorem PySem.W.Fast.tw9758189062478955041 : True := trivial
theorem PySem.W.Fast.tw5571729358331122687 : True := trivial
theorem PySem.W.Fast.tw10501026025872519648 : True := trivial
theorem PySem.W.Fast.tw18142483520238460348 : True := trivial
theorem PySem.W.Fast.tw7879127533987398343 : True := trivial
theorem PySem.W.Fast.tw11084020956106595701 : True := trivial
theorem PySem.W.Fast.tw4076534750877234466 : True := trivial
theorem PySem.W.Fast.tw15329710981009149524 : True := trivial
theorem PySem.W.Fast.tw13960212163047572799 : True := trivial
theorem PySem.W.Fast.tw12518125309840198082 : True := trivial
theorem PySem.W.Fast.tw7661192360056364359 : True := trivial
theorem PySem.W.Fast.tw7149954792490409788 : True := trivial
theorem PySem.W.Fast.tw9095263053969273456 : True := trivial
theorem PySem.W.Fast.tw14917205150788221664 : True := trivial
theorem PySem.W.Fast.tw4267283237549703199 : True := trivial
theorem PySem.W.Fast.tw6743902962896899981 : True := trivial
theorem PySem.W.Fast.tw11572975583486637866 : True := trivial
theorem PySem.W.Fast.tw1991074212410776813 : True := trivial
theorem PySem.W.Fast.tw17059991015613246405 : True := trivial
theorem PySem.W.Fast.tw5162805812402902338 : True := trivial
theorem PySem.W.Fast.tw3728991885177412810 : True := trivial
theorem PySem.W.Fast.tw18367094265957135002 : True := trivial
theorem PySem.W.Fast.tw6305259568641387470 : True := trivial
theorem PySem.W.Fast.tw6058846974942304826 : True := trivial
theorem PySem.W.Fast.tw14144969200452425287 : True := trivial
theorem PySem.W.Fast.tw13686465339885898071 : True := trivial
theorem PySem.W.Fast.tw9024713099059932218 : True := trivial
theorem PySem.W.Fast.tw13822638532329854079 : True := trivial
theorem PySem.W.Fast.tw8532780785188652352 : True := trivial
theorem PySem.W.Fast.tw5408315657511338876 : True := trivial
theorem PySem.W.Fast.tw7420055483737273263 : True := trivial
theorem PySem.W.Fast.tw17009621665232472339 : True := trivial
theorem PySem.W.Fast.tw8479171424833845964 : True := trivial
theorem PySem.W.Fast.tw12298058843479140975 : True := trivial
theorem PySem.W.Fast.tw9679849059328730442 : True := trivial
theorem PySem.W.Fast.tw18240500621079423806 : True := trivial
theorem PySem.W.Fast.tw9414170737850746673 : True := trivial
theorem PySem.W.Fast.tw16303593851654146060 : True := trivial
theorem PySem.W.Fast.tw5872588215751917523 : True := trivial
theorem PySem.W.Fast.tw6540558563512915352 : True := trivial
theorem PySem.W.Fast.tw12193678699736096791 : True := trivial
theorem PySem.W.Fast.tw8359087270763714857 : True := trivial
theorem PySem.W.Fast.tw2978444059449410403 : True := trivial
theorem PySem.W.Fast.tw17179312064606999141 : True := trivial
theorem PySem.W.Fast.tw5509010045787338992 : True := trivial
theorem PySem.W.Fast.tw14217157825799364113 : True := trivial
theorem PySem.W.Fast.tw4588324188292589652 : True := trivial
theorem PySem.W.Fast.tw13424422592784228409 : True := trivial
theorem PySem.W.Fast.tw14093708057830859085 : True := trivial
theorem PySem.W.Fast.tw2369329641492055105 : True := trivial
theorem PySem.W.Fast.tw8207987394653215307 : True := trivial
theorem PySem.W.Fast.tw13830204256961042242 : True := trivial
theorem PySem.W.Fast.tw12170493214061957977 : True := trivial
theorem PySem.W.Fast.tw1004079733349586011 : True := trivial
theorem PySem.W.Fast.tw4458603256652855472 : True := trivial
theorem PySem.W.Fast.tw8647727323724099988 : True := trivial
theorem PySem.W.Fast.tw1014159933836534672 : True := trivial
theorem PySem.W.Fast.tw5402045763609421995 : True := trivial
theorem PySem.W.Fast.tw8934834093273500475 : True := trivial
theorem PySem.W.Fast.tw15960176394432382574 : True := trivial
theorem PySem.W.Fast.tw16358527720147118696 : True := trivial
theorem PySem.W.Fast.tw7919670022627795195 : True := trivial
theorem PySem.W.Fast.tw7468081421242243358 : True := trivial
theorem PySem.W.Fast.tw10179999084451897521 : True := trivial
theorem PySem.W.Fast.tw9950667758674186557 : True := trivial
theorem PySem.W.Fast.tw7315292813846547004 : True := trivial
theorem PySem.W.Fast.tw8053037787461197756 : True := trivial
theorem PySem.W.Fast.tw9384391909540035113 : True := trivial
theorem PySem.W.Fast.tw12580221972788551282 : True := trivial
theorem PySem.W.Fast.tw4466077481887939245 : True := trivial
theorem PySem.W.Fast.tw6895056468559866929 : True := trivial
theorem PySem.W.Fast.tw1870695504837825786 : True := trivial
theorem PySem.W.Fast.tw4942379356725751865 : True := trivial
theorem PySem.W.Fast.tw2852435453890380554 : True := trivial
theorem PySem.W.Fast.tw17033054718668691483 : True := trivial
theorem PySem.W.Fast.tw16078886662862814479 : True := trivial
theorem PySem.W.Fast.tw290918707342165787 : True := trivial
theorem PySem.W.Fast.tw7372461185201954845 : True := trivial
theorem PySem.W.Fast.tw5159079854831928469 : True := trivial
theorem PySem.W.Fast.tw13573124298864110300 : True := trivial
theorem PySem.W.Fast.tw5638112517807392276 : True := trivial
theorem PySem.W.Fast.tw1018435659564351004 : True := trivial
theorem PySem.W.Fast.tw10088300963068040777 : True := trivial
theorem PySem.W.Fast.tw9338456040286524150 : True := trivial
theorem PySem.W.Fast.tw4516513128955702175 : True := trivial
theorem PySem.W.Fast.tw3318316267984081266 : True := trivial
theorem PySem.W.Fast.tw12344662869927591395 : True := trivial
theorem PySem.W.Fast.tw9880613132673532981 : True := trivial
theorem PySem.W.Fast.tw8552743834407569777 : True := trivial
theorem PySem.W.Fast.tw10691091235840225232 : True := trivial
theorem PySem.W.Fast.tw14701022400599771496 : True := trivial
theorem PySem.W.Fast.tw2118029293153042665 : True := trivial
theorem PySem.W.Fast.tw6928130419380483863 : True := trivial
theorem PySem.W.Fast.tw13636469573024404241 : True := trivial
theorem PySem.W.Fast.tw4743320065029956133 : True := trivial
theorem PySem.W.Fast.tw16004270903244829464 : True := trivial
theorem PySem.W.Fast.tw16223378974677811999 : True := trivial
theorem PySem.W.Fast.tw2626340751904070392 : True := trivial
theorem PySem.W.Fast.tw17000821682954434950 : True := trivial
theorem PySem.W.Fast.tw9492464506798080200 : True := trivial
theorem PySem.W.Fast.tw12961481063683108091 : True := trivial
theorem PySem.W.Fast.tw9827588309562710861 : True := trivial
theorem PySem.W.Fast.tw6952958486245650981 : True := trivial
theorem PySem.W.Fast.tw10696541029430659938 : True := trivial
theorem PySem.W.Fast.tw16605869887586652482 : True := trivial
theorem PySem.W.Fast.tw18103981436016916700 : True := trivial
theorem PySem.W.Fast.tw350024371860641270 : True := trivial
theorem PySem.W.Fast.tw4997095785841070413 : True := trivial
theorem PySem.W.Fast.tw4902307761896631860 : True := trivial
theorem PySem.W.Fast.tw15767175515389801965 : True := trivial
theorem PySem.W.Fast.tw11075861682850247676 : True := trivial
theorem PySem.W.Fast.tw3491407553102741003 : True := trivial
theorem PySem.W.Fast.tw123084166611589863 : True := trivial
theorem PySem.W.Fast.tw4471535725412564039 : True := trivial
theorem PySem.W.Fast.tw4826490807187272176 : True := trivial
theorem PySem.W.Fast.tw5728936132358519534 : True := trivial
theorem PySem.W.Fast.tw7234580145596395941 : True := trivial
theorem PySem.W.Fast.tw1472344601366045205 : True := trivial
theorem PySem.W.Fast.tw17505378693923106374 : True := trivial
theorem PySem.W.Fast.tw18286330704227447822 : True := trivial
theorem PySem.W.Fast.tw1705009511476768222 : True := trivial
theorem PySem.W.Fast.tw16237480109679163056 : True := trivial
theorem PySem.W.Fast.tw7289818605141982055 : True := trivial
theorem PySem.W.Fast.tw2450018903022148440 : True := trivial
theorem PySem.W.Fast.tw7445976577526368324 : True := trivial
theorem PySem.W.Fast.tw16610368064708343534 : True := trivial
theorem PySem.W.Fast.tw1737965183867296420 : True := trivial
theorem PySem.W.Fast.tw5196675092254463932 : True := trivial
theorem PySem.W.Fast.tw1657332722855104202 : True := trivial
theorem PySem.W.Fast.tw9778717920670848263 : True := trivial
theorem PySem.W.Fast.tw4243472429698213185 : True := trivial
theorem PySem.W.Fast.tw965362691077068379 : True := trivial
theorem PySem.W.Fast.tw15551617352391043687 : True := trivial
theorem PySem.W.Fast.tw5908129567141014624 : True := trivial
theorem PySem.W.Fast.tw14284340765264339260 : True := trivial
theorem PySem.W.Fast.tw17722522626694607239 : True := trivial
theorem PySem.W.Fast.tw3836046816043253636 : True := trivial
theorem PySem.W.Fast.tw2712310745278431176 : True := trivial
theorem PySem.W.Fast.tw11440488585025179704 : True := trivial
theorem PySem.W.Fast.tw10405484212287074023 : True := trivial
theorem PySem.W.Fast.tw8157466498892104084 : True := trivial
theorem PySem.W.Fast.tw16376354063583305157 : True := trivial
theorem PySem.W.Fast.tw6524929914607102328 : True := trivial
theorem PySem.W.Fast.tw17151180954264899726 : True := trivial
theorem PySem.W.Fast.tw4623038855036486726 : True := trivial
theorem PySem.W.Fast.tw9948284197444306930 : True := trivial
theorem PySem.W.Fast.tw15546713073631655912 : True := trivial
theorem PySem.W.Fast.tw9330028280765030110 : True := trivial
theorem PySem.W.Fast.tw2231658223451716261 : True := trivial
theorem PySem.W.Fast.tw8808180342592458910 : True := trivial
theorem PySem.W.Fast.tw4063138385218714485 : True := trivial
theorem PySem.W.Fast.tw8458391127044851719 : True := trivial
theorem PySem.W.Fast.tw4555425501732289565 : True := trivial
theorem PySem.W.Fast.tw14171642922088728001 : True := trivial
theorem PySem.W.Fast.tw1487393869520245758 : True := trivial
theorem PySem.W.Fast.tw18051584025765786274 : True := trivial
theorem PySem.W.Fast.tw7218595247148472187 : True := trivial
theorem PySem.W.Fast.tw11557528501909072353 : True := trivial
theorem PySem.W.Fast.tw12466210247096981174 : True := trivial
theorem PySem.W.Fast.tw468037052103161537 : True := trivial
theorem PySem.W.Fast.tw14692816710398270357 : True := trivial
theorem PySem.W.Fast.tw8756962540410505659 : True := trivial
theorem PySem.W.Fast.tw15386321422985970982 : True := trivial
theorem PySem.W.Fast.tw4426201113771469106 : True := trivial
theorem PySem.W.Fast.tw12321696754598568300 : True := trivial
theorem PySem.W.Fast.tw12104278519048235811 : True := trivial
theorem PySem.W.Fast.tw11158537845498750649 : True := trivial
theorem PySem.W.Fast.tw3762700756440917630 : True := trivial
theorem PySem.W.Fast.tw17038160191131512391 : True := trivial
theorem PySem.W.Fast.tw5871288642098267837 : True := trivial
theorem PySem.W.Fast.tw16476513900306207833 : True := trivial
theorem PySem.W.Fast.tw18376136005229264048 : True := trivial
theorem PySem.W.Fast.tw8605367465318174440 : True := trivial
theorem PySem.W.Fast.tw2747690774621451670 : True := trivial
theorem PySem.W.Fast.tw11010338194541888088 : True := trivial
theorem PySem.W.Fast.tw701976973787856493 : True := trivial
theorem PySem.W.Fast.tw14019232015230731650 : True := trivial
theorem PySem.W.Fast.tw4388940696193603579 : True := trivial
theorem PySem.W.Fast.tw4220458248985918068 : True := trivial
theorem PySem.W.Fast.tw5304714407935341068 : True := trivial
theorem PySem.W.Fast.tw8494357578368199162 : True := trivial
theorem PySem.W.Fast.tw9421936782757413102 : True := trivial
theorem PySem.W.Fast.tw8165305263290908159 : True := trivial
theorem PySem.W.Fast.tw18060759745981454695 : True := trivial
theorem PySem.W.Fast.tw8519556200433989223 : True := trivial
theorem PySem.W.Fast.tw15642502366487502029 : True := trivial
theorem PySem.W.Fast.tw17384771495680341881 : True := trivial
theorem PySem.W.Fast.tw10021537652034647225 : True := trivial
theorem PySem.W.Fast.tw12104850754021589575 : True := trivial
theorem PySem.W.Fast.tw7460854355703698275 : True := trivial
theorem PySem.W.Fast.tw8293771874285251017 : True := trivial
theorem PySem.W.Fast.tw14091766989706441362 : True := trivial
theorem PySem.W.Fast.tw14901661212369000860 : True := trivial
theorem PySem.W.Fast.tw1431677203989321582 : True := trivial
theorem PySem.W.Fast.tw9135800789071639366 : True := trivial
theorem PySem.W.Fast.tw8252493319033523110 : True := trivial
theorem PySem.W.Fast.tw2778428490635316257 : True := trivial
theorem PySem.W.Fast.tw471628016181530518 : True := trivial
theorem PySem.W.Fast.tw4989627333638183265 : True := trivial
theorem PySem.W.Fast.tw16542101412933684061 : True := trivial
theorem PySem.W.Fast.tw16008152350521122646 : True := trivial
theorem PySem.W.Fast.tw10403867828658767856 : True := trivial
theorem PySem.W.Fast.tw1602323615807888815 : True := trivial
theorem PySem.W.Fast.tw8110482231161266212 : True := trivial
theorem PySem.W.Fast.tw4366402696342424674 : True := trivial
theorem PySem.W.Fast.tw11636758610415031547 : True := trivial
theorem PySem.W.Fast.tw14798543153765687189 : True := trivial
theorem PySem.W.Fast.tw13031399298358671494 : True := trivial
theorem PySem.W.Fast.tw7298246087221330428 : True := trivial
theorem PySem.W.Fast.tw4149994677681976059 : True := trivial
theorem PySem.W.Fast.tw6351428993468595445 : True := trivial
theorem PySem.W.Fast.tw15764306509471362307 : True := trivial
theorem PySem.W.Fast.tw11655998164504875282 : True := trivial
theorem PySem.W.Fast.tw4587761258976426322 : True := trivial
theorem PySem.W.Fast.tw16321195499337048759 : True := trivial
theorem PySem.W.Fast.tw5790069721848796526 : True := trivial
theorem PySem.W.Fast.tw3757940103185309509 : True := trivial
theorem PySem.W.Fast.tw2160318903397432716 : True := trivial
theorem PySem.W.Fast.tw17126866074039004129 : True := trivial
theorem PySem.W.Fast.tw15777589856139771262 : True := trivial
theorem PySem.W.Fast.tw16101873209639918518 : True := trivial
theorem PySem.W.Fast.tw4399996156904870779 : True := trivial
theorem PySem.W.Fast.tw14924186855955736869 : True := trivial
theorem PySem.W.Fast.tw18386518085727283766 : True := trivial
theorem PySem.W.Fast.tw15636111093025758966 : True := trivial
theorem PySem.W.Fast.tw102064362052446881 : True := trivial
theorem PySem.W.Fast.tw15195693928619161204 : True := trivial
theorem PySem.W.Fast.tw11031065188289558445 : True := trivial
theorem PySem.W.Fast.tw16890171104552119189 : True := trivial
theorem PySem.W.Fast.tw12885123270107206335 : True := trivial
theorem PySem.W.Fast.tw10341732951440549719 : True := trivial
theorem PySem.W.Fast.tw8784117543617941694 : True := trivial
theorem PySem.W.Fast.tw4807447744003064711 : True := trivial
theorem PySem.W.Fast.tw13141843071059409124 : True := trivial
theorem PySem.W.Fast.tw9883245054915026806 : True := trivial
theorem PySem.W.Fast.tw8971627320109652619 : True := trivial
theorem PySem.W.Fast.tw14397459722723273081 : True := trivial
theorem PySem.W.Fast.tw10832313747563738758 : True := trivial
theorem PySem.W.Fast.tw542476201339743114 : True := trivial
theorem PySem.W.Fast.tw1266804503192891908 : True := trivial
theorem PySem.W.Fast.tw15025235568702167953 : True := trivial
theorem PySem.W.Fast.tw4212991947094473591 : True := trivial
theorem PySem.W.Fast.tw4121554161212681052 : True := trivial
theorem PySem.W.Fast.tw9520337989726658671 : True := trivial
theorem PySem.W.Fast.tw4330295445823403353 : True := trivial
theorem PySem.W.Fast.tw14173192450182304046 : True := trivial
theorem PySem.W.Fast.tw9113524007170373614 : True := trivial
theorem PySem.W.Fast.tw13999621252443567775 : True := trivial
theorem PySem.W.Fast.tw18398710691304058790 : True := trivial
theorem PySem.W.Fast.tw16628662860859362552 : True := trivial
theorem PySem.W.Fast.tw14791863950186809947 : True := trivial
theorem PySem.W.Fast.tw3490138948030204741 : True := trivial
theorem PySem.W.Fast.tw712518400459490072 : True := trivial
theorem PySem.W.Fast.tw10619536063416173134 : True := trivial
theorem PySem.W.Fast.tw8624941458504681347 : True := trivial
theorem PySem.W.Fast.tw5324394300898382461 : True := trivial
theorem PySem.W.Fast.tw14769931883006893433 : True := trivial
theorem PySem.W.Fast.tw9924847764906794218 : True := trivial
theorem PySem.W.Fast.tw5599305644961729370 : True := trivial
theorem PySem.W.Fast.tw3262505390416147031 : True := trivial
theorem PySem.W.Fast.tw2876424831416412779 : True := trivial
theorem PySem.W.Fast.tw11998111242305105283 : True := trivial
theorem PySem.W.Fast.tw16423333410637578897 : True := trivial
theorem PySem.W.Fast.tw9348817266892586876 : True := trivial
theorem PySem.W.Fast.tw17640704609330336929 : True := trivial
theorem PySem.W.Fast.tw3315770967003561882 : True := trivial
theorem PySem.W.Fast.tw11944490269698821427 : True := trivial
theorem PySem.W.Fast.tw273868851396690776 : True := trivial
theorem PySem.W.Fast.tw13175126288667036550 : True := trivial
theorem PySem.W.Fast.tw16529605190909739899 : True := trivial
theorem PySem.W.Fast.tw1870867574913368329 : True := trivial
theorem PySem.W.Fast.tw13322908974254962657 : True := trivial
theorem PySem.W.Fast.tw10655083870215569171 : True := trivial
theorem PySem.W.Fast.tw8687617817731867350 : True := trivial
theorem PySem.W.Fast.tw14981355099668278802 : True := trivial
theorem PySem.W.Fast.tw4914427013839976208 : True := trivial
theorem PySem.W.Fast.tw15271249656286097952 : True := trivial
theorem PySem.W.Fast.tw2691183322453916805 : True := trivial
theorem PySem.W.Fast.tw11612080675315372943 : True := trivial
theorem PySem.W.Fast.tw4624734480877482961 : True := trivial
theorem PySem.W.Fast.tw16559144810788562587 : True := trivial
theorem PySem.W.Fast.tw15153355023756932786 : True := trivial
theorem PySem.W.Fast.tw7647750632133274703 : True := trivial
theorem PySem.W.Fast.tw14962656630939009831 : True := trivial
theorem PySem.W.Fast.tw18393395990138544760 : True := trivial
theorem PySem.W.Fast.tw16037537003838215292 : True := trivial
theorem PySem.W.Fast.tw8892491054466347821 : True := trivial
theorem PySem.W.Fast.tw15053433906542939360 : True := trivial
theorem PySem.W.Fast.tw7224429857518679567 : True := trivial
theorem PySem.W.Fast.tw6644721556084981273 : True := trivial
theorem PySem.W.Fast.tw53739698639746855 : True := trivial
theorem PySem.W.Fast.tw17267164326445784207 : True := trivial
theorem PySem.W.Fast.tw1302402804613726898 : True := trivial
theorem PySem.W.Fast.tw1124113756018438814 : True := trivial
theorem PySem.W.Fast.tw10481435023400901610 : True := trivial
theorem PySem.W.Fast.tw1208654321832125671 : True := trivial
theorem PySem.W.Fast.tw9036708196024817423 : True := trivial
theorem PySem.W.Fast.tw3132270048881956447 : True := trivial
theorem PySem.W.Fast.tw7745037733304480119 : True := trivial
theorem PySem.W.Fast.tw4044440003499063408 : True := trivial
theorem PySem.W.Fast.tw10481651142197887748 : True := trivial
theorem PySem.W.Fast.tw9626593573201336103 : True := trivial
theorem PySem.W.Fast.tw2955469338382051402 : True := trivial
theorem PySem.W.Fast.tw2981787002984812501 : True := trivial
theorem PySem.W.Fast.tw17207340107913059922 : True := trivial
theorem PySem.W.Fast.tw13564920089939143482 : True := trivial
theorem PySem.W.Fast.tw17199456705409982560 : True := trivial
theorem PySem.W.Fast.tw4989653483287924544 : True := trivial
theorem PySem.W.Fast.tw5396807570583862848 : True := trivial
theorem PySem.W.Fast.tw3229903419105715425 : True := trivial
theorem PySem.W.Fast.tw8760586339369332327 : True := trivial
theorem PySem.W.Fast.tw761506596736556043 : True := trivial
theorem PySem.W.Fast.tw17144482029140503635 : True := trivial
theorem PySem.W.Fast.tw3035376426666815207 : True := trivial
theorem PySem.W.Fast.tw12041973900595600115 : True := trivial
theorem PySem.W.Fast.tw16892232386764006789 : True := trivial
theorem PySem.W.Fast.tw4340595925339583026 : True := trivial
theorem PySem.W.Fast.tw6448234302357020484 : True := trivial
theorem PySem.W.Fast.tw17990513714229135044 : True := trivial
theorem PySem.W.Fast.tw8531798383415569552 : True := trivial
theorem PySem.W.Fast.tw2319210595064945366 : True := trivial
theorem PySem.W.Fast.tw16334763292768813174 : True := trivial
theorem PySem.W.Fast.tw3748859579661710816 : True := trivial
theorem PySem.W.Fast.tw3447792011384105297 : True := trivial
theorem PySem.W.Fast.tw18358020347290982007 : True := trivial
theorem PySem.W.Fast.tw8813936131591995104 : True := trivial
theorem PySem.W.Fast.tw1386069820145100460 : True := trivial
theorem PySem.W.Fast.tw18198748969748444184 : True := trivial
theorem PySem.W.Fast.tw15154520740641186908 : True := trivial
theorem PySem.W.Fast.tw9448578519119057659 : True := trivial
theorem PySem.W.Fast.tw10289616429714887538 : True := trivial
theorem PySem.W.Fast.tw14616130070213131872 : True := trivial
theorem PySem.W.Fast.tw13700804822704998519 : True := trivial
theorem PySem.W.Fast.tw17861537633549485086 : True := trivial
theorem PySem.W.Fast.tw2852726803406975795 : True := trivial
theorem PySem.W.Fast.tw13041852152883500281 : True := trivial
theorem PySem.W.Fast.tw7947564852045147130 : True := trivial
theorem PySem.W.Fast.tw12955380676220166519 : True := trivial
theorem PySem.W.Fast.tw17889375010757422172 : True := trivial
theorem PySem.W.Fast.tw17301041120565369329 : True := trivial
theorem PySem.W.Fast.tw14627675623726924020 : True := trivial
theorem PySem.W.Fast.tw17328396215962488329 : True := trivial
theorem PySem.W.Fast.tw10973244088562833149 : True := trivial
theorem PySem.W.Fast.tw17959183943975305634 : True := trivial
theorem PySem.W.Fast.tw16700344717472425506 : True := trivial
theorem PySem.W.Fast.tw13166628942194658370 : True := trivial
theorem PySem.W.Fast.tw11492012370167397690 : True := trivial
theorem PySem.W.Fast.tw2399242712887440986 : True := trivial
theorem PySem.W.Fast.tw11368976195993526871 : True := trivial
theorem PySem.W.Fast.tw942057276737150318 : True := trivial
theorem PySem.W.Fast.tw8924651635592386621 : True := trivial
theorem PySem.W.Fast.tw17788599543229497319 : True := trivial
theorem PySem.W.Fast.tw4382386824066296287 : True := trivial
theorem PySem.W.Fast.tw15256318413002249068 : True := trivial
theorem PySem.W.Fast.tw1952732068446605683 : True := trivial
theorem PySem.W.Fast.tw16721202504257383177 : True := trivial
theorem PySem.W.Fast.tw3425594215601426168 : True := trivial
theorem PySem.W.Fast.tw5321061906499534018 : True := trivial
theorem PySem.W.Fast.tw6014709348548082136 : True := trivial
theorem PySem.W.Fast.tw7143293892668092423 : True := trivial
theorem PySem.W.Fast.tw17097232654142277449 : True := trivial
theorem PySem.W.Fast.tw10240268032565456524 : True := trivial
theorem PySem.W.Fast.tw15228993014268831630 : True := trivial
theorem PySem.W.Fast.tw8850874764310749759 : True := trivial
theorem PySem.W.Fast.tw7494590933078966037 : True := trivial
theorem PySem.W.Fast.tw16720648372111498290 : True := trivial
theorem PySem.W.Fast.tw1798124678973725910 : True := trivial
theorem PySem.W.Fast.tw1041720453999205554 : True := trivial
theorem PySem.W.Fast.tw10414500236783013282 : True := trivial
theorem PySem.W.Fast.tw14464838459701590384 : True := trivial
theorem PySem.W.Fast.tw13282984142575627076 : True := trivial
theorem PySem.W.Fast.tw15856228852618557886 : True := trivial
theorem PySem.W.Fast.tw16662980276880951536 : True := trivial
theorem PySem.W.Fast.tw1896802119488597858 : True := trivial
theorem PySem.W.Fast.tw17027047756036476447 : True := trivial
theorem PySem.W.Fast.tw7517572680361200818 : True := trivial
theorem PySem.W.Fast.tw7589385162709295966 : True := trivial
theorem PySem.W.Fast.tw8200733434778992925 : True := trivial
theorem PySem.W.Fast.tw13755842591148269932 : True := trivial
theorem PySem.W.Fast.tw17426417939792513367 : True := trivial
theorem PySem.W.Fast.tw4553281009962672338 : True := trivial
theorem PySem.W.Fast.tw8728643863082111887 : True := trivial
theorem PySem.W.Fast.tw12611416985265787478 : True := trivial
theorem PySem.W.Fast.tw354208061181504390 : True := trivial
theorem PySem.W.Fast.tw2631918400897124068 : True := trivial
theorem PySem.W.Fast.tw5293526829468706700 : True := trivial
theorem PySem.W.Fast.tw10641430139072847331 : True := trivial
theorem PySem.W.Fast.tw14874339479529727314 : True := trivial
theorem PySem.W.Fast.tw15062121485885645190 : True := trivial
theorem PySem.W.Fast.tw9675340289587121705 : True := trivial
theorem PySem.W.Fast.tw8746522059371917073 : True := trivial
theorem PySem.W.Fast.tw9542195720793803931 : True := trivial
theorem PySem.W.Fast.tw9728799312242851151 : True := trivial
theorem PySem.W.Fast.tw16414116668193965258 : True := trivial
theorem PySem.W.Fast.tw120633579718336127 : True := trivial
theorem PySem.W.Fast.tw7219091159532219788 : True := trivial
theorem PySem.W.Fast.tw18136620279706501832 : True := trivial
theorem PySem.W.Fast.tw9160547346757640624 : True := trivial
theorem PySem.W.Fast.tw16008666276784740505 : True := trivial
theorem PySem.W.Fast.tw4796530213188489782 : True := trivial
theorem PySem.W.Fast.tw13685862188877073464 : True := trivial
theorem PySem.W.Fast.tw7772327962355984195 : True := trivial
theorem PySem.W.Fast.tw13406662433281371497 : True := trivial
theorem PySem.W.Fast.tw4382144773179694576 : True := trivial
theorem PySem.W.Fast.tw5749269142740678929 : True := trivial
theorem PySem.W.Fast.tw7519098481596781587 : True := trivial
theorem PySem.W.Fast.tw17212138322928619841 : True := trivial
theorem PySem.W.Fast.tw3053469749244916383 : True := trivial
theorem PySem.W.Fast.tw17215734029084119322 : True := trivial
theorem PySem.W.Fast.tw221511812553819451 : True := trivial
theorem PySem.W.Fast.tw12124178487299146351 : True := trivial
theorem PySem.W.Fast.tw12461372423238852517 : True := trivial
theorem PySem.W.Fast.tw3565023987953863334 : True := trivial
theorem PySem.W.Fast.tw2322249091663968241 : True := trivial
theorem PySem.W.Fast.tw14485208153777194656 : True := trivial
theorem PySem.W.Fast.tw7701829676092497425 : True := trivial
theorem PySem.W.Fast.tw16893385445054266461 : True := trivial
theorem PySem.W.Fast.tw14307483146667531451 : True := trivial
theorem PySem.W.Fast.tw10154922225341955812 : True := trivial
theorem PySem.W.Fast.tw16788032118876202808 : True := trivial
theorem PySem.W.Fast.tw3807691619312202757 : True := trivial
theorem PySem.W.Fast.tw16502268408959860747 : True := trivial
theorem PySem.W.Fast.tw14200708041873351839 : True := trivial
theorem PySem.W.Fast.tw16700647700386163679 : True := trivial
theorem PySem.W.Fast.tw11910463632010430636 : True := trivial
theorem PySem.W.Fast.tw584747941443156550 : True := trivial
theorem PySem.W.Fast.tw4573173849612231946 : True := trivial
theorem PySem.W.Fast.tw15218138273778847396 : True := trivial
theorem PySem.W.Fast.tw13029659479488504530 : True := trivial
theorem PySem.W.Fast.tw4648698312502893092 : True := trivial
theorem PySem.W.Fast.tw10698660889787337928 : True := trivial
theorem PySem.W.Fast.tw11322698615376155119 : True := trivial
theorem PySem.W.Fast.tw7303920672983276366 : True := trivial
theorem PySem.W.Fast.tw208890497120879563 : True := trivial
theorem PySem.W.Fast.tw5225354421081000054 : True := trivial
theorem PySem.W.Fast.tw4613188285923847800 : True := trivial
theorem PySem.W.Fast.tw3589510700457588805 : True := trivial
theorem PySem.W.Fast.tw357605435341460201 : True := trivial
theorem PySem.W.Fast.tw15875286416188258252 : True := trivial
theorem PySem.W.Fast.tw3205593350011724526 : True := trivial
theorem PySem.W.Fast.tw7824112186632730931 : True := trivial
theorem PySem.W.Fast.tw11829848412500062429 : True := trivial
theorem PySem.W.Fast.tw355076860575628687 : True := trivial
theorem PySem.W.Fast.tw11188043387489566371 : True := trivial
theorem PySem.W.Fast.tw9321601124016192320 : True := trivial
theorem PySem.W.Fast.tw6373665602797711946 : True := trivial
theorem PySem.W.Fast.tw17672985019336399300 : True := trivial
theorem PySem.W.Fast.tw721982685218938304 : True := trivial
theorem PySem.W.Fast.tw5615323016253061435 : True := trivial
theorem PySem.W.Fast.tw3072207011295694153 : True := trivial
theorem PySem.W.Fast.tw15686368582511400036 : True := trivial
theorem PySem.W.Fast.tw6007727215943288701 : True := trivial
theorem PySem.W.Fast.tw9670957583334902914 : True := trivial
theorem PySem.W.Fast.tw11989016309706534597 : True := trivial
theorem PySem.W.Fast.tw2883088615538824529 : True := trivial
theorem PySem.W.Fast.tw6154071426570042708 : True := trivial
theorem PySem.W.Fast.tw5664780343567975088 : True := trivial
theorem PySem.W.Fast.tw6743328499267512008 : True := trivial
theorem PySem.W.Fast.tw15812675775289017802 : True := trivial
theorem PySem.W.Fast.tw11184674987889494707 : True := trivial
theorem PySem.W.Fast.tw16351012432076594677 : True := trivial
theorem PySem.W.Fast.tw10644207603701448119 : True := trivial
theorem PySem.W.Fast.tw12738334545862399461 : True := trivial
theorem PySem.W.Fast.tw834906782111199916 : True := trivial
theorem PySem.W.Fast.tw15979448995013945162 : True := trivial
theorem PySem.W.Fast.tw8427386590134949874 : True := trivial
theorem PySem.W.Fast.tw7009470786112126822 : True := trivial
theorem PySem.W.Fast.tw10640653841934289848 : True := trivial
theorem PySem.W.Fast.tw11470907923571503872 : True := trivial
theorem PySem.W.Fast.tw7919907779213622792 : True := trivial
theorem PySem.W.Fast.tw6901943699120893609 : True := trivial
theorem PySem.W.Fast.tw1348240414171653597 : True := trivial
theorem PySem.W.Fast.tw3338321025325188008 : True := trivial
theorem PySem.W.Fast.tw2482175835847190553 : True := trivial
theorem PySem.W.Fast.tw15273618703298766759 : True := trivial
theorem PySem.W.Fast.tw6777550264706129081 : True := trivial
theorem PySem.W.Fast.tw2769777396328805803 : True := trivial
theorem PySem.W.Fast.tw2134266634705519187 : True := trivial
theorem PySem.W.Fast.tw4917515648805767775 : True := trivial
theorem PySem.W.Fast.tw12940989330020188364 : True := trivial
theorem PySem.W.Fast.tw307285871583210476 : True := trivial
theorem PySem.W.Fast.tw11291478995830093475 : True := trivial
theorem PySem.W.Fast.tw127982722766798739 : True := trivial
theorem PySem.W.Fast.tw8904521146237438229 : True := trivial
theorem PySem.W.Fast.tw9202009963669246253 : True := trivial
theorem PySem.W.Fast.tw15499194826985623320 : True := trivial
theorem PySem.W.Fast.tw1092321432059898086 : True := trivial
theorem PySem.W.Fast.tw9762661703215395233 : True := trivial
theorem PySem.W.Fast.tw4907155422028113078 : True := trivial
theorem PySem.W.Fast.tw4147425501171641821 : True := trivial
theorem PySem.W.Fast.tw3145803942525843377 : True := trivial
theorem PySem.W.Fast.tw16082247266057204700 : True := trivial
theorem PySem.W.Fast.tw2628992023577229408 : True := trivial
theorem PySem.W.Fast.tw5396494367312635396 : True := trivial
theorem PySem.W.Fast.tw6574473993293628754 : True := trivial
theorem PySem.W.Fast.tw2980246885880715957 : True := trivial
theorem PySem.W.Fast.tw9016793330930198274 : True := trivial
theorem PySem.W.Fast.tw7617813634608223519 : True := trivial
theorem PySem.W.Fast.tw15774265535998758443 : True := trivial
theorem PySem.W.Fast.tw5283496732231260304 : True := trivial
theorem PySem.W.Fast.tw9762219694375966328 : True := trivial
theorem PySem.W.Fast.tw9306801665528276978 : True := trivial
theorem PySem.W.Fast.tw14487006971431388922 : True := trivial
theorem PySem.W.Fast.tw11790097776647463215 : True := trivial
theorem PySem.W.Fast.tw7798116406763697498 : True := trivial
theorem PySem.W.Fast.tw16000188529151752610 : True := trivial
theorem PySem.W.Fast.tw7612656311639675923 : True := trivial
theorem PySem.W.Fast.tw16419802325275851916 : True := trivial
theorem PySem.W.Fast.tw14582640705190205024 : True := trivial
theorem PySem.W.Fast.tw17943126768460680070 : True := trivial
theorem PySem.W.Fast.tw8289008070696977458 : True := trivial
theorem PySem.W.Fast.tw18040258858340113681 : True := trivial
theorem PySem.W.Fast.tw11848982087972616315 : True := trivial
theorem PySem.W.Fast.tw17136678423376246348 : True := trivial
theorem PySem.W.Fast.tw13790074049431656007 : True := trivial
theorem PySem.W.Fast.tw6995554975919392330 : True := trivial
theorem PySem.W.Fast.tw6862610459907073253 : True := trivial
theorem PySem.W.Fast.tw1600418359931935137 : True := trivial
theorem PySem.W.Fast.tw17625373623595392804 : True := trivial
theorem PySem.W.Fast.tw15948773822026325689 : True := trivial
theorem PySem.W.Fast.tw8831869655263105905 : True := trivial
theorem PySem.W.Fast.tw17400282443869811779 : True := trivial
theorem PySem.W.Fast.tw3786565539404152690 : True := trivial
theorem PySem.W.Fast.tw11876575504795232784 : True := trivial
theorem PySem.W.Fast.tw15374364587251094249 : True := trivial
theorem PySem.W.Fast.tw16088754645744318989 : True := trivial
theorem PySem.W.Fast.tw14953856916280531043 : True := trivial
theorem PySem.W.Fast.tw6413163682324605182 : True := trivial
theorem PySem.W.Fast.tw3387350776635244359 : True := trivial
theorem PySem.W.Fast.tw9604722838330363970 : True := trivial
theorem PySem.W.Fast.tw9348977479260625218 : True := trivial
theorem PySem.W.Fast.tw7190855136659016843 : True := trivial
theorem PySem.W.Fast.tw10409523640669320472 : True := trivial
theorem PySem.W.Fast.tw13848166411937688404 : True := trivial
theorem PySem.W.Fast.tw14212799566907482616 : True := trivial
theorem PySem.W.Fast.tw10418362506957551956 : True := trivial
theorem PySem.W.Fast.tw5437241025218169152 : True := trivial
theorem PySem.W.Fast.tw5268617332560904672 : True := trivial
theorem PySem.W.Fast.tw14290081921891348101 : True := trivial
theorem PySem.W.Fast.tw6732515085489632653 : True := trivial
theorem PySem.W.Fast.tw3131035144945223439 : True := trivial
theorem PySem.W.Fast.tw6447849940682571172 : True := trivial
theorem PySem.W.Fast.tw14331737613056502696 : True := trivial
theorem PySem.W.Fast.tw1699436166107191078 : True := trivial
theorem PySem.W.Fast.tw12097067231903762797 : True := trivial
theorem PySem.W.Fast.tw2776349087077198112 : True := trivial
theorem PySem.W.Fast.tw13818094099381127308 : True := trivial
theorem PySem.W.Fast.tw3974554444399516563 : True := trivial
theorem PySem.W.Fast.tw18426224860475475885 : True := trivial
theorem PySem.W.Fast.tw6893518766015065027 : True := trivial
theorem PySem.W.Fast.tw14653808233568015950 : True := trivial
theorem PySem.W.Fast.tw600468300529581707 : True := trivial
theorem PySem.W.Fast.tw11901459773245989579 : True := trivial
theorem PySem.W.Fast.tw2355243286193754307 : True := trivial
theorem PySem.W.Fast.tw5640805307842307025 : True := trivial
theorem PySem.W.Fast.tw10921880469194155820 : True := trivial
theorem PySem.W.Fast.tw2775597664264846080 : True := trivial
theorem PySem.W.Fast.tw12635620954096575259 : True := trivial
theorem PySem.W.Fast.tw14668517702592897281 : True := trivial
theorem PySem.W.Fast.tw2926442914425854722 : True := trivial
theorem PySem.W.Fast.tw1083174472836349859 : True := trivial
theorem PySem.W.Fast.tw4707804766623475319 : True := trivial
theorem PySem.W.Fast.tw11994413063896175394 : True := trivial
theorem PySem.W.Fast.tw14313762467846627577 : True := trivial
theorem PySem.W.Fast.tw4362823302696627866 : True := trivial
theorem PySem.W.Fast.tw9698968294464211431 : True := trivial
theorem PySem.W.Fast.tw18444560467284719536 : True := trivial
theorem PySem.W.Fast.tw12806430781000041343 : True := trivial
theorem PySem.W.Fast.tw15036994854813225788 : True := trivial
theorem PySem.W.Fast.tw5831485199877518201 : True := trivial
theorem PySem.W.Fast.tw5148483931097646307 : True := trivial
theorem PySem.W.Fast.tw13102935606394943812 : True := trivial
theorem PySem.W.Fast.tw11468308323279021539 : True := trivial
theorem PySem.W.Fast.tw5025334027993753747 : True := trivial
open PySem PySem.W PyProof.Rows
set_option maxRecDepth 100000 in
set_option maxHeartbeats 0 in
theorem PySem.W.Fast.tw7983279120661971666 : True := trivial
theorem PySem.W.Fast.tw8523633673271590051 : True := trivial
theorem PySem.W.Fast.tw2590863517968188759 : True := trivial
theorem PySem.W.Fast.tw4689390485526400493 : True := trivial
theorem PySem.W.Fast.tw4503694150091519404 : True := trivial
theorem PySem.W.Fast.tw6980629881933430054 : True := trivial
theorem PySem.W.Fast.tw2949502487732813744 : True := trivial
theorem PySem.W.Fast.tw7199680389216091083 : True := trivial
theorem PySem.W.Fast.tw3497600816878684022 : True := trivial
theorem PySem.W.Fast.tw13415774974789451320 : True := trivial
theorem PySem.W.Fast.tw13468214971706998928 : True := trivial
theorem PySem.W.Fast.tw1911562045273382270 : True := trivial
theorem PySem.W.Fast.tw15974871791180593408 : True := trivial
theorem PySem.W.Fast.tw1486418824278630705 : True := trivial
theorem PySem.W.Fast.tw15174363132615308320 : True := trivial
theorem PySem.W.Fast.tw14936397639264641773 : True := trivial
theorem PySem.W.Fast.tw825522391848844857 : True := trivial
theorem PySem.W.Fast.tw550886058400858178 : True := trivial
theorem PySem.W.Fast.tw16389895816250826519 : True := trivial
theorem PySem.W.Fast.tw11110859449400301294 : True := trivial
theorem PySem.W.Fast.tw7641853170440640166 : True := trivial
theorem PySem.W.Fast.tw3578545128706750912 : True := trivial
theorem PySem.W.Fast.tw947560710112704359 : True := trivial
theorem PySem.W.Fast.tw2508509286164058642 : True := trivial
theorem PySem.W.Fast.tw1897769226241865360 : True := trivial
theorem PySem.W.Fast.tw3268133668519169369 : True := trivial
theorem PySem.W.Fast.tw3010030565088549951 : True := trivial
theorem PySem.W.Fast.tw15405792332056086429 : True := trivial
theorem PySem.W.Fast.tw10362137895166486632 : True := trivial
theorem PySem.W.Fast.tw15415575385282667050 : True := trivial
theorem PySem.W.Fast.tw13949709286468348357 : True := trivial
theorem PySem.W.Fast.tw3188724760343389699 : True := trivial
theorem PySem.W.Fast.tw14438833958722375937 : True := trivial
theorem PySem.W.Fast.tw13041193213761573284 : True := trivial
theorem PySem.W.Fast.tw15480864529290868615 : True := trivial
theorem PySem.W.Fast.tw2129570250731306544 : True := trivial
theorem PySem.W.Fast.tw1174452358544595258 : True := trivial
theorem PySem.W.Fast.tw6388074529379795756 : True := trivial
theorem PySem.W.Fast.tw11616117793964815495 : True := trivial
theorem PySem.W.Fast.tw16204618134590152108 : True := trivial
theorem PySem.W.Fast.tw14290154606786952527 : True := trivial
theorem PySem.W.Fast.tw3274377470886996932 : True := trivial
theorem PySem.W.Fast.tw16028730817268462041 : True := trivial
theorem PySem.W.Fast.tw4273631760707456885 : True := trivial
theorem PySem.W.Fast.tw6554931635263285585 : True := trivial
theorem PySem.W.Fast.tw12907936472101550695 : True := trivial
theorem PySem.W.Fast.tw17103069020729137725 : True := trivial
theorem PySem.W.Fast.tw14681869454665358846 : True := trivial
theorem PySem.W.Fast.tw4637335885075304190 : True := trivial
theorem PySem.W.Fast.tw12501456046541152334 : True := trivial
theorem PySem.W.Fast.tw15983113988284586198 : True := trivial
theorem PySem.W.Fast.tw15547351945023272347 : True := trivial
theorem PySem.W.Fast.tw5374335953759888812 : True := trivial
theorem PySem.W.Fast.tw873121374385380839 : True := trivial
theorem PySem.W.Fast.tw9640128800315818752 : True := trivial
theorem PySem.W.Fast.tw10152798681809035714 : True := trivial
theorem PySem.W.Fast.tw6977454603781447811 : True := trivial
theorem PySem.W.Fast.tw7832603407933309077 : True := trivial
theorem PySem.W.Fast.tw14278609657036857338 : True := trivial
theorem PySem.W.Fast.tw8304614783123713117 : True := trivial
theorem PySem.W.Fast.tw18167409730500694673 : True := trivial
theorem PySem.W.Fast.tw15318571868066142713 : True := trivial
theorem PySem.W.Fast.tw17134992924112370956 : True := trivial
theorem PySem.W.Fast.tw11596926570432715453 : True := trivial
theorem PySem.W.Fast.tw1556091383889807453 : True := trivial
theorem PySem.W.Fast.tw10587829409127535035 : True := trivial
theorem PySem.W.Fast.tw15733205574808307172 : True := trivial
theorem PySem.Challenge.cw_evernever_k18_lines_written_holds : PySem.Challenge.rw_evernever_k18_lines_written.Holds := by
 w_on; o_law; k_head; (case hw=>w_witness2)
 k_fill
 refine L2.walk_ofK (l:=PySem.Challenge.rw_evernever_k18_lines_written) (n:=63) (k:=80) (x:="_law_script") (CX:=L2.CX0) (sp:=LW.spLaw) rfl (by decide) rfl ⟨rfl,by decide,by decide⟩ (fun w h Y=>PySem.W.kIn_of Y) ?F ?S ?C
 case F=>
  intro w mg fa h KX G hmg
  have T:∃ t,LW.Txt (L2.KOf KX) mg t:=by
   dsimp only [L2.KOf]
   refine' LW.txt_mk KX G ?Zo7 ?ZCR ?ZyO ?Zo8 ?ZCQ ?ZyP ?Zl5 ?Zjm ?Zvj ?Zhn ?ZeW ?Zo9 ?Zkl ?Zl4 ?Zl3 ?Zr8 ?Zr7 ?Zvi ?Zr9 ?ZgT ?Zl6 ?Zjl ?Zl2 ?ZlZ ?Zo5 ?Zo2 ?Zo3 ?Zo6 ?Zl1 ?Zl0 ?Zo4 ?a_law ?ZFO ?Zvh ?Zvg ?ZFN ?ZFP ?a_Not ?ZyN ?a_And ?ZyM ?a_Or ?ZCP ?Zo1 ?ZiN ?ZgR ?ZeS ?ZnB ?Zny ?Znz ?Znx ?ZnA ?ZnC ?Zbo ?b_ValueError ?ne_ ?Zpm ?Zjv ?ZeE ?Zpl ?ZmI ?ZmJ ?ZgX ?Zpp ?ZmM ?ZmN ?ZgY ?Zsf ?Zpn ?Zpo ?ZhC ?ZkQ ?Zjt ?Zju ?Ze4 ?ZhB ?ZkO ?Zse ?Zpj ?Zpk ?Ze3 ?ZgW ?ZkP ?Zjr ?Zjs ?Zjw ?ZmL ?ZvW ?Zsg ?Zsh ?ZmK ?ZfO ?ZfN ?ZfP ?ZkR ?Zli ?Zkw ?Zk5 ?Zzc ?ZyV ?Zy9 ?ZuW ?ZuO ?ZuU ?Zlj ?Zkx ?Zk6 ?Zzb ?ZyU ?Zy8 ?ZuX ?ZuP ?ZuV ?Zjc ?ZiC ?ZiY ?Zgh ?Zf8 ?Zgb ?Zra ?Zqe ?Zq8 ?Zfa ?ZeZ ?Ze8 ?Zdd ?Zda ?Zdb ?Zlk ?Zky ?Zk7 ?Zhg ?Zha ?Zhc ?Zjb ?ZiB ?ZiX ?Zja ?ZiA ?ZiW ?ZnV ?ZnI ?ZnR ?ZnU ?ZnH ?ZnQ ?Zq9 ?Zqd ?Zq7 ?ZnW ?ZnJ ?ZnS ?Zez ?Zew ?Zex ?Zjd ?ZiD ?ZiZ ?Zgg ?Zf7 ?Zga ?Zi9 ?Ziz ?ZiV ?Zi6 ?Ziw ?ZiS ?Zlg ?Zku ?Zk3 ?Zld ?Zkr ?Zk0 ?Zle ?Zks ?Zk1 ?Zlh ?Zkv ?Zk4 ?Zi8 ?Ziy ?ZiU ?Zi7 ?Zix ?ZiT ?Zlf ?Zkt ?Zk2 ?l_law ?c_law ?k_law ?Zk9 ?Zkn ?ZkY ?Zpw ?Zge ?Zf5 ?Zf9 ?Zjy ?ZcO ?ZcL ?ZaP ?Za8 ?Zk8 ?Zkm ?ZkX ?Zpv ?Zi0 ?Ziq ?Zgn ?ZmT ?Zi1 ?Zir ?Zgo ?ZmU ?Zlc ?Zkq ?ZkZ ?Zpz ?Zi4 ?Ziu ?Zgq ?ZmX ?Zi5 ?Ziv ?Zgr ?ZmY ?ZnT ?ZnG ?ZnP ?Zso ?Zla ?Zko ?ZhJ ?Zpx ?Zlb ?Zkp ?ZhK ?Zpy ?Zhe ?Zg8 ?Zhb ?ZdO ?Zgc ?Zf3 ?ZbH ?Zc0 ?Zgd ?Zf4 ?ZbI ?Zc1 ?Ze9 ?ZeX ?Zdv ?ZhF ?Zhd ?Zg7 ?Ze6 ?ZkU ?Zdc ?Zc9 ?Zb3 ?Ze5 ?Zey ?Zev ?ZcS ?ZgZ ?Zgf ?Zf6 ?Zd0 ?Zjz ?Zi3 ?Zit ?Zgp ?ZmW ?Zi2 ?Zis ?ZiR ?ZmV ?ZdR ?ZdM ?Zcs ?ZfU ?ZdQ ?ZdL ?Zcr ?ZfT ?ZdS ?ZdN ?Zct ?ZfV ?Zhf ?Zg9 ?Ze7 ?ZkV ?ZzS ?Zy2 ?ZzX ?Zz5 ?ZDa ?ZC1 ?ZC4 ?ZDh ?ZdI ?Zce ?ZgF ?Zfu ?ZhX ?ZgE ?Zm9 ?ZgH ?ZhZ ?ZgG ?ZhY ?ZhW ?Zel ?Zj4 ?Zem ?Zn0 ?ZnO ?Zn2 ?Zn4 ?Zsr ?Zsl ?Zsn ?Zss ?ZdF ?Zcx ?ZbY ?ZbC ?Zcd ?ZbX ?ZgD ?ZdH ?Zek ?ZdG ?Zej ?Zei ?Zcy ?Zft ?Zcz ?ZnZ ?ZnN ?Zn1 ?Zn3 ?Zyk ?Zsk ?Zsm ?Zdx ?Zcu ?Zdz ?ZcW ?Zd6 ?Zdy ?Zgu ?ZdB ?Zd8 ?ZdA ?Zd7 ?Zd5 ?Zcv ?Zfi ?Zcw ?ZzR ?Zy1 ?ZzW ?Zz4 ?ZC9 ?ZC0 ?ZC3 ?ZDg ?Zgw ?Zee ?Zgy ?Zfn ?ZhT ?Zgx ?ZhS ?ZgA ?ZhV ?Zgz ?ZhU ?ZhR ?Zef ?Zj2 ?Zeg ?ZzT ?Zy3 ?ZzY ?Zz6 ?ZDb ?ZC2 ?ZC5 ?ZDi ?ZgM ?Zen ?ZgO ?Zfy ?Zh7 ?ZgN ?Znf ?ZdJ ?Zh9 ?ZgP ?Zh8 ?Zh6 ?Zeo ?Zkc ?Zep ?ZEG ?ZEc ?ZEL ?ZER ?ZGE ?ZGj ?ZGn ?ZGT ?Zh0 ?Zfv ?Zh2 ?ZgI ?Zj6 ?Zh1 ?Zrj ?Zh4 ?ZeT ?Zh3 ?Zj7 ?Zj5 ?Zfw ?Zna ?Zfx ?Zry ?ZqP ?ZrO ?ZrR ?Zwg ?Zv3 ?Zv5 ?Zww ?Zd9 ?ZcX ?Zeb ?ZdC ?Zfk ?Zea ?ZhQ ?Zed ?Zfm ?Zec ?Zfl ?Zfj ?ZcY ?Zgv ?ZcZ ?ZEF ?ZEb ?ZEK ?ZEQ ?ZGD ?ZGi ?ZGm ?ZGS ?ZhL ?Zfb ?ZhN ?Zgs ?ZjZ ?ZhM ?Zri ?ZhO ?Zj1 ?ZeN ?Zj0 ?ZjY ?Zfc ?Zm8 ?Zfd ?Zrx ?ZqO ?ZrN ?ZrQ ?Zwf ?Zv2 ?Zv4 ?Zwv ?Zd1 ?ZcT ?Zd3 ?Zdw ?Zff ?Zd2 ?ZhP ?Zd4 ?Zfh ?Zcc ?Zfg ?Zfe ?ZcU ?Zgt ?ZcV ?pg_Or ?hd_Or ?po_Or ?sa_Or ?kc_Or ?ha_Or ?hm_Or ?mk_Or ?Zj8 ?ZgJ ?Zka ?Zh5 ?Znc ?Zj9 ?Zwy ?Zkb ?Zne ?ZfY ?Znd ?Znb ?ZgK ?Zrk ?ZgL ?ZuZ ?ZuS ?Zu0 ?Zu1 ?Zza ?Zy0 ?Zy4 ?Zzf ?Zfo ?ZdD ?Zfq ?Zeh ?ZgB ?Zfp ?Zj3 ?Zfs ?ZgC ?Zfr ?ZbJ ?Zb4 ?Zbj ?ZdE ?ZaE ?nd_ ?hn_ ?htk_ ?b_len ?b_range ?b_isinstance ?b_int ?b_bool ?b_str ?b_list ?b_tuple ?b_dict ?b_set ?b_sorted ?b_max ?b_min ?b_sum ?b_any ?b_all ?b_abs ?b_reversed ?b_enumerate ?b_zip ?g_LETTERS ?g_MARKS ?g_BLANK ?g_MOST_LAMPS ?g_LONGEST_NAME ?g_JOINS ?lk_JOINS ?g_NO_NAMES ?lk_NO_NAMES ?g_SORTS ?lk_SORTS
   (case Zo7=>k_is)
   (case ZCR=>k_is)
   (case ZyO=>k_is)
   (case Zo8=>k_is)
   (case ZCQ=>k_is)
   (case ZyP=>k_is)
   (case Zl5=>k_is)
   (case Zjm=>k_is)
   (case Zvj=>k_is)
   (case Zhn=>k_is)
   (case ZeW=>k_is)
   (case Zo9=>k_is)
   (case Zkl=>k_is)
   (case Zl4=>k_is)
   (case Zl3=>k_is)
   (case Zr8=>k_is)
   (case Zr7=>k_is)
   (case Zvi=>k_is)
   (case Zr9=>k_is)
   (case ZgT=>k_is)
   (case Zl6=>k_is)
   (case Zjl=>k_is)
   (case Zl2=>k_is)
   (case ZlZ=>k_is)
   (case Zo5=>k_is)
   (case Zo2=>k_is)
   (case Zo3=>k_is)
   (case Zo6=>k_is)
   (case Zl1=>k_is)
   (case Zl0=>k_is)
   (case Zo4=>k_is)
   (case a_law=>k_is)
   (case ZFO=>k_is)
   (case Zvh=>k_is)
   (case Zvg=>k_is)
   (case ZFN=>k_is)
   (case ZFP=>k_is)
   (case a_Not=>k_is)
   (case ZyN=>k_is)
   (case a_And=>k_is)
   (case ZyM=>k_is)
   (case a_Or=>k_is)
   (case ZCP=>k_is)
   (case Zo1=>k_is)
   (case ZiN=>k_is)
   (case ZgR=>k_is)
   (case ZeS=>k_is)
   (case ZnB=>k_exc)
   (case Zny=>k_is)
   (case Znz=>k_is)
   (case Znx=>k_is)
   (case ZnA=>k_is)
   (case ZnC=>k_is)
   (case Zbo=>k_is)
   (case b_ValueError=>k_is)
   (case ne_=>decide)
   (case Zpm=>k_is)
   (case Zjv=>k_is)
   (case ZeE=>k_is)
   (case Zpl=>k_is)
   (case ZmI=>k_is)
   (case ZmJ=>k_is)
   (case ZgX=>k_is)
   (case Zpp=>k_is)
   (case ZmM=>k_is)
   (case ZmN=>k_is)
   (case ZgY=>k_is)
   (case Zsf=>k_is)
   (case Zpn=>k_is)
   (case Zpo=>k_is)
   (case ZhC=>k_is)
   (case ZkQ=>k_is)
   (case Zjt=>k_is)
   (case Zju=>k_is)
   (case Ze4=>k_is)
   (case ZhB=>k_is)
   (case ZkO=>k_is)
   (case Zse=>k_is)
   (case Zpj=>k_is)
   (case Zpk=>k_is)
   (case Ze3=>k_is)
   (case ZgW=>k_is)
   (case ZkP=>k_is)
   (case Zjr=>k_is)
   (case Zjs=>k_is)
   (case Zjw=>k_is)
   (case ZmL=>k_is)
   (case ZvW=>k_is)
   (case Zsg=>k_is)
   (case Zsh=>k_is)
   (case ZmK=>k_is)
   (case ZfO=>k_is)
   (case ZfN=>k_is)
   (case ZfP=>k_is)
   (case ZkR=>k_is)
   (case Zli=>k_is)
   (case Zkw=>k_is)
   (case Zk5=>k_is)
   (case Zzc=>k_is)
   (case ZyV=>k_is)
   (case Zy9=>k_is)
   (case ZuW=>k_is)
   (case ZuO=>k_is)
   (case ZuU=>k_is)
   (case Zlj=>k_is)
   (case Zkx=>k_is)
   (case Zk6=>k_is)
   (case Zzb=>k_is)
   (case ZyU=>k_is)
   (case Zy8=>k_is)
   (case ZuX=>k_is)
   (case ZuP=>k_is)
   (case ZuV=>k_is)
   (case Zjc=>k_is)
   (case ZiC=>k_is)
   (case ZiY=>k_is)
   (case Zgh=>k_is)
   (case Zf8=>k_is)
   (case Zgb=>k_is)
   (case Zra=>k_is)
   (case Zqe=>k_is)
   (case Zq8=>k_is)
   (case Zfa=>k_is)
   (case ZeZ=>k_is)
   (case Ze8=>k_is)
   (case Zdd=>k_is)
   (case Zda=>k_is)
   (case Zdb=>k_is)
   (case Zlk=>k_is)
   (case Zky=>k_is)
   (case Zk7=>k_is)
   (case Zhg=>k_is)
   (case Zha=>k_is)
   (case Zhc=>k_is)
   (case Zjb=>k_is)
   (case ZiB=>k_is)
   (case ZiX=>k_is)
   (case Zja=>k_is)
   (case ZiA=>k_is)
   (case ZiW=>k_is)
   (case ZnV=>k_is)
   (case ZnI=>k_is)
   (case ZnR=>k_is)
   (case ZnU=>k_is)
   (case ZnH=>k_is)
   (case ZnQ=>k_is)
   (case Zq9=>k_is)
   (case Zqd=>k_is)
   (case Zq7=>k_is)
   (case ZnW=>k_is)
   (case ZnJ=>k_is)
   (case ZnS=>k_is)
   (case Zez=>k_is)
   (case Zew=>k_is)
   (case Zex=>k_is)
   (case Zjd=>k_is)
   (case ZiD=>k_is)
   (case ZiZ=>k_is)
   (case Zgg=>k_is)
   (case Zf7=>k_is)
   (case Zga=>k_is)
   (case Zi9=>k_is)
   (case Ziz=>k_is)
   (case ZiV=>k_is)
   (case Zi6=>k_is)
   (case Ziw=>k_is)
   (case ZiS=>k_is)
   (case Zlg=>k_is)
   (case Zku=>k_is)
   (case Zk3=>k_is)
   (case Zld=>k_is)
   (case Zkr=>k_is)
   (case Zk0=>k_is)
   (case Zle=>k_is)
   (case Zks=>k_is)
   (case Zk1=>k_is)
   (case Zlh=>k_is)
   (case Zkv=>k_is)
   (case Zk4=>k_is)
   (case Zi8=>k_is)
   (case Ziy=>k_is)
   (case ZiU=>k_is)
   (case Zi7=>k_is)
   (case Zix=>k_is)
   (case ZiT=>k_is)
   (case Zlf=>k_is)
   (case Zkt=>k_is)
   (case Zk2=>k_is)
   (case l_law=>k_is)
   (case c_law=>k_is)
   (case k_law=>k_is)
   (case Zk9=>k_is)
   (case Zkn=>k_is)
   (case ZkY=>k_is)
   (case Zpw=>k_is)
   (case Zge=>k_is)
   (case Zf5=>k_is)
   (case Zf9=>k_is)
   (case Zjy=>k_is)
   (case ZcO=>k_is)
   (case ZcL=>k_is)
   (case ZaP=>k_is)
   (case Za8=>k_is)
   (case Zk8=>k_is)
   (case Zkm=>k_is)
   (case ZkX=>k_is)
   (case Zpv=>k_is)
   (case Zi0=>k_is)
   (case Ziq=>k_is)
   (case Zgn=>k_is)
   (case ZmT=>k_is)
   (case Zi1=>k_is)
   (case Zir=>k_is)
   (case Zgo=>k_is)
   (case ZmU=>k_is)
   (case Zlc=>k_is)
   (case Zkq=>k_is)
   (case ZkZ=>k_is)
   (case Zpz=>k_is)
   (case Zi4=>k_is)
   (case Ziu=>k_is)
   (case Zgq=>k_is)
   (case ZmX=>k_is)
   (case Zi5=>k_is)
   (case Ziv=>k_is)
   (case Zgr=>k_is)
   (case ZmY=>k_is)
   (case ZnT=>k_is)
   (case ZnG=>k_is)
   (case ZnP=>k_is)
   (case Zso=>k_is)
   (case Zla=>k_is)
   (case Zko=>k_is)
   (case ZhJ=>k_is)
   (case Zpx=>k_is)
   (case Zlb=>k_is)
   (case Zkp=>k_is)
   (case ZhK=>k_is)
   (case Zpy=>k_is)
   (case Zhe=>k_is)
   (case Zg8=>k_is)
   (case Zhb=>k_is)
   (case ZdO=>k_is)
   (case Zgc=>k_is)
   (case Zf3=>k_is)
   (case ZbH=>k_is)
   (case Zc0=>k_is)
   (case Zgd=>k_is)
   (case Zf4=>k_is)
   (case ZbI=>k_is)
   (case Zc1=>k_is)
   (case Ze9=>k_is)
   (case ZeX=>k_is)
   (case Zdv=>k_is)
   (case ZhF=>k_is)
   (case Zhd=>k_is)
   (case Zg7=>k_is)
   (case Ze6=>k_is)
   (case ZkU=>k_is)
   (case Zdc=>k_is)
   (case Zc9=>k_is)
   (case Zb3=>k_is)
   (case Ze5=>k_is)
   (case Zey=>k_is)
   (case Zev=>k_is)
   (case ZcS=>k_is)
   (case ZgZ=>k_is)
   (case Zgf=>k_is)
   (case Zf6=>k_is)
   (case Zd0=>k_is)
   (case Zjz=>k_is)
   (case Zi3=>k_is)
   (case Zit=>k_is)
   (case Zgp=>k_is)
   (case ZmW=>k_is)
   (case Zi2=>k_is)
   (case Zis=>k_is)
   (case ZiR=>k_is)
   (case ZmV=>k_is)
   (case ZdR=>k_is)
   (case ZdM=>k_is)
   (case Zcs=>k_is)
   (case ZfU=>k_is)
   (case ZdQ=>k_is)
   (case ZdL=>k_is)
   (case Zcr=>k_is)
   (case ZfT=>k_is)
   (case ZdS=>k_is)
   (case ZdN=>k_is)
   (case Zct=>k_is)
   (case ZfV=>k_is)
   (case Zhf=>k_is)
   (case Zg9=>k_is)
   (case Ze7=>k_is)
   (case ZkV=>k_is)
   (case ZzS=>k_is)
   (case Zy2=>k_is)
   (case ZzX=>k_is)
   (case Zz5=>k_is)
   (case ZDa=>k_is)
   (case ZC1=>k_is)
   (case ZC4=>k_is)
   (case ZDh=>k_is)
   (case ZdI=>k_is)
   (case Zce=>k_is)
   (case ZgF=>k_is)
   (case Zfu=>k_is)
   (case ZhX=>k_is)
   (case ZgE=>k_is)
   (case Zm9=>k_is)
   (case ZgH=>k_is)
   (case ZhZ=>k_is)
   (case ZgG=>k_is)
   (case ZhY=>k_is)
   (case ZhW=>k_is)
   (case Zel=>k_is)
   (case Zj4=>k_is)
   (case Zem=>k_is)
   (case Zn0=>k_is)
   (case ZnO=>k_is)
   (case Zn2=>k_is)
   (case Zn4=>k_is)
   (case Zsr=>k_is)
   (case Zsl=>k_is)
   (case Zsn=>k_is)
   (case Zss=>k_is)
   (case ZdF=>k_is)
   (case Zcx=>k_is)
   (case ZbY=>k_is)
   (case ZbC=>k_is)
   (case Zcd=>k_is)
   (case ZbX=>k_is)
   (case ZgD=>k_is)
   (case ZdH=>k_is)
   (case Zek=>k_is)
   (case ZdG=>k_is)
   (case Zej=>k_is)
   (case Zei=>k_is)
   (case Zcy=>k_is)
   (case Zft=>k_is)
   (case Zcz=>k_is)
   (case ZnZ=>k_is)
   (case ZnN=>k_is)
   (case Zn1=>k_is)
   (case Zn3=>k_is)
   (case Zyk=>k_is)
   (case Zsk=>k_is)
   (case Zsm=>k_is)
   (case Zdx=>k_is)
   (case Zcu=>k_is)
   (case Zdz=>k_is)
   (case ZcW=>k_is)
   (case Zd6=>k_is)
   (case Zdy=>k_is)
   (case Zgu=>k_is)
   (case ZdB=>k_is)
   (case Zd8=>k_is)
   (case ZdA=>k_is)
   (case Zd7=>k_is)
   (case Zd5=>k_is)
   (case Zcv=>k_is)
   (case Zfi=>k_is)
   (case Zcw=>k_is)
   (case ZzR=>k_is)
   (case Zy1=>k_is)
   (case ZzW=>k_is)
   (case Zz4=>k_is)
   (case ZC9=>k_is)
   (case ZC0=>k_is)
   (case ZC3=>k_is)
   (case ZDg=>k_is)
   (case Zgw=>k_is)
   (case Zee=>k_is)
   (case Zgy=>k_is)
   (case Zfn=>k_is)
   (case ZhT=>k_is)
   (case Zgx=>k_is)
   (case ZhS=>k_is)
   (case ZgA=>k_is)
   (case ZhV=>k_is)
   (case Zgz=>k_is)
   (case ZhU=>k_is)
   (case ZhR=>k_is)
   (case Zef=>k_is)
   (case Zj2=>k_is)
   (case Zeg=>k_is)
   (case ZzT=>k_is)
   (case Zy3=>k_is)
   (case ZzY=>k_is)
   (case Zz6=>k_is)
   (case ZDb=>k_is)
   (case ZC2=>k_is)
   (case ZC5=>k_is)
   (case ZDi=>k_is)
   (case ZgM=>k_is)
   (case Zen=>k_is)
   (case ZgO=>k_is)
   (case Zfy=>k_is)
   (case Zh7=>k_is)
   (case ZgN=>k_is)
   (case Znf=>k_is)
   (case ZdJ=>k_is)
   (case Zh9=>k_is)
   (case ZgP=>k_is)
   (case Zh8=>k_is)
   (case Zh6=>k_is)
   (case Zeo=>k_is)
   (case Zkc=>k_is)
   (case Zep=>k_is)
   (case ZEG=>k_is)
   (case ZEc=>k_is)
   (case ZEL=>k_is)
   (case ZER=>k_is)
   (case ZGE=>k_is)
   (case ZGj=>k_is)
   (case ZGn=>k_is)
   (case ZGT=>k_is)
   (case Zh0=>k_is)
   (case Zfv=>k_is)
   (case Zh2=>k_is)
   (case ZgI=>k_is)
   (case Zj6=>k_is)
   (case Zh1=>k_is)
   (case Zrj=>k_is)
   (case Zh4=>k_is)
   (case ZeT=>k_is)
   (case Zh3=>k_is)
   (case Zj7=>k_is)
   (case Zj5=>k_is)
   (case Zfw=>k_is)
   (case Zna=>k_is)
   (case Zfx=>k_is)
   (case Zry=>k_is)
   (case ZqP=>k_is)
   (case ZrO=>k_is)
   (case ZrR=>k_is)
   (case Zwg=>k_is)
   (case Zv3=>k_is)
   (case Zv5=>k_is)
   (case Zww=>k_is)
   (case Zd9=>k_is)
   (case ZcX=>k_is)
   (case Zeb=>k_is)
   (case ZdC=>k_is)
   (case Zfk=>k_is)
   (case Zea=>k_is)
   (case ZhQ=>k_is)
   (case Zed=>k_is)
   (case Zfm=>k_is)
   (case Zec=>k_is)
   (case Zfl=>k_is)
   (case Zfj=>k_is)
   (case ZcY=>k_is)
   (case Zgv=>k_is)
   (case ZcZ=>k_is)
   (case ZEF=>k_is)
   (case ZEb=>k_is)
   (case ZEK=>k_is)
   (case ZEQ=>k_is)
   (case ZGD=>k_is)
   (case ZGi=>k_is)
   (case ZGm=>k_is)
   (case ZGS=>k_is)
   (case ZhL=>k_is)
   (case Zfb=>k_is)
   (case ZhN=>k_is)
   (case Zgs=>k_is)
   (case ZjZ=>k_is)
   (case ZhM=>k_is)
   (case Zri=>k_is)
   (case ZhO=>k_is)
   (case Zj1=>k_is)
   (case ZeN=>k_is)
   (case Zj0=>k_is)
   (case ZjY=>k_is)
   (case Zfc=>k_is)
   (case Zm8=>k_is)
   (case Zfd=>k_is)
   (case Zrx=>k_is)
   (case ZqO=>k_is)
   (case ZrN=>k_is)
   (case ZrQ=>k_is)
   (case Zwf=>k_is)
   (case Zv2=>k_is)
   (case Zv4=>k_is)
   (case Zwv=>k_is)
   (case Zd1=>k_is)
   (case ZcT=>k_is)
   (case Zd3=>k_is)
   (case Zdw=>k_is)
   (case Zff=>k_is)
   (case Zd2=>k_is)
   (case ZhP=>k_is)
   (case Zd4=>k_is)
   (case Zfh=>k_is)
   (case Zcc=>k_is)
   (case Zfg=>k_is)
   (case Zfe=>k_is)
   (case ZcU=>k_is)
   (case Zgt=>k_is)
   (case ZcV=>k_is)
   (case pg_Or=>k_is)
   (case hd_Or=>k_is)
   (case po_Or=>k_is)
   (case sa_Or=>k_is)
   (case kc_Or=>k_is)
   (case ha_Or=>k_is)
   (case hm_Or=>k_is)
   (case mk_Or=>k_is)
   (case Zj8=>k_is)
   (case ZgJ=>k_is)
   (case Zka=>k_is)
   (case Zh5=>k_is)
   (case Znc=>k_is)
   (case Zj9=>k_is)
   (case Zwy=>k_is)
   (case Zkb=>k_is)
   (case Zne=>k_is)
   (case ZfY=>k_is)
   (case Znd=>k_is)
   (case Znb=>k_is)
   (case ZgK=>k_is)
   (case Zrk=>k_is)
   (case ZgL=>k_is)
   (case ZuZ=>k_is)
   (case ZuS=>k_is)
   (case Zu0=>k_is)
   (case Zu1=>k_is)
   (case Zza=>k_is)
   (case Zy0=>k_is)
   (case Zy4=>k_is)
   (case Zzf=>k_is)
   (case Zfo=>k_is)
   (case ZdD=>k_is)
   (case Zfq=>k_is)
   (case Zeh=>k_is)
   (case ZgB=>k_is)
   (case Zfp=>k_is)
   (case Zj3=>k_is)
   (case Zfs=>k_is)
   (case ZgC=>k_is)
   (case Zfr=>k_is)
   (case ZbJ=>k_is)
   (case Zb4=>k_is)
   (case Zbj=>k_is)
   (case ZdE=>k_is)
   (case ZaE=>k_is)
   (case nd_=>decide)
   (case hn_=>k_is)
   (case htk_=>k_is)
   (case b_len=>k_is)
   (case b_range=>k_is)
   (case b_isinstance=>k_is)
   (case b_int=>k_is)
   (case b_bool=>k_is)
   (case b_str=>k_is)
   (case b_list=>k_is)
   (case b_tuple=>k_is)
   (case b_dict=>k_is)
   (case b_set=>k_is)
   (case b_sorted=>k_is)
   (case b_max=>k_is)
   (case b_min=>k_is)
   (case b_sum=>k_is)
   (case b_any=>k_is)
   (case b_all=>k_is)
   (case b_abs=>k_is)
   (case b_reversed=>k_is)
   (case b_enumerate=>k_is)
   (case b_zip=>k_is)
   (case g_LETTERS=>k_is)
   (case g_MARKS=>k_is)
   (case g_BLANK=>k_is)
   (case g_MOST_LAMPS=>k_is)
   (case g_LONGEST_NAME=>k_is)
   (case g_JOINS=>k_is)
   (case lk_JOINS=>k_is)
   (case g_NO_NAMES=>k_is)
   (case lk_NO_NAMES=>k_is)
   (case g_SORTS=>k_is)
   (case lk_SORTS=>k_is)
  obtain ⟨t,T⟩ :=T
  have e0:=hmg.symm.trans T.m_law
  cases e0
  exact ⟨_,T.bl,fun base _ _=>LW.ok_law T⟩
 case S=>exact fun K H a ns hl hO hS=>⟨a,ns,rfl,hS,hl,hO,fun _=>rfl⟩
 case C=>exact fun _ _ _ _ z=>z
#print axioms PySem.Challenge.cw_evernever_k18_lines_written_holds
