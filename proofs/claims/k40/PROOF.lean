import PyProof.Rows.All
import Wide.All
import OpenK.AllK
import Wide.FinOn
import Lean
import PyProof.EqAt
import PyProof.EqKinds
import PyProof.TupleCall
import PyProof.P3Eq
import PyProof.NeKinds
import KE.KRevIter
import PyProof.EnumMake
import PyProof.EnumFor
import PyProof.Draws
import PyProof.ZipIter
import PyProof.ConsumeWalk
import PyProof.RaisesMany
import PyProof.ExcClass3
import PyProof.ExcBaseAll.ValueError
import PyProof.RulesAs
import PyProof.ExcAttrAll.ValueError
import PyProof.ReprStr
import PyProof.PassesOwn
import PyProof.ToksMono
import PyProof.DictItems
import PyProof.MeetsIn
import PyProof.StrCalls6
import PyProof.StrCalls2
import PyProof.StrBlock2
import PyProof.StrLawsWords
import PyProof.StrLawsTight
import PyProof.StrLawsChain
import PyProof.ListRange
import PyProof.NsDelKeeps
import PyProof.P3In
import PyProof.DictWalks
import KE.KDictList
import PyProof.Rows.StrInSeq3
import PySem.Challenge.RW_evernever_k40_tight
set_option Elab.async false
set_option linter.all false
set_option maxRecDepth 100000
set_option maxHeartbeats 4000000
namespace L2
open PySem PySem.Spec PyProof.Rows
abbrev Key:=Sum Int Str
def Zsg:Key→Value→Bool
 | .inl k,v=>Value.isInt k v
 | .inr x,v=>Value.isStrOf x v
def keyH (w:World):Key→Int
 | .inl k=>hashInt k
 | .inr x=>hashStr w x
theorem Za4:∀{k:Key} {v:Value},Zsg k v=true→(∃i t,k=Sum.inl i∧v=Value.int i t)∨(∃x t,k=Sum.inr x∧v=Value.str x t)
 | .inl i,v,h=>by
  obtain⟨t,e⟩:=Value.isInt_shape (k:=i) (v:=v) h;exact .inl ⟨i,t,rfl,e⟩
 | .inr x,v,h=>by
  obtain⟨t,e⟩:=Value.isStrOf_shape (x:=x) (v:=v) h;exact .inr ⟨x,t,rfl,e⟩
theorem Zsh (a b:Int):decide ((Sum.inl a:Key)=Sum.inl b)=(a == b):=by
 by_cases e:a=b
 ·subst e; simp
 ·have h : ¬(Sum.inl a:Key)=Sum.inl b:=fun q=>e (Sum.inl.inj q)
  rw[decide_eq_false h];exact(beq_eq_false_iff_ne.mpr e).symm
theorem Zsk (a b:Str):decide ((Sum.inr a:Key)=Sum.inr b)=decide (a=b):=by
 by_cases e:a=b
 ·subst e; simp
 ·have h : ¬(Sum.inr a:Key)=Sum.inr b:=fun q=>e (Sum.inr.inj q)
  rw[decide_eq_false h,decide_eq_false e]
theorem Zsi (a:Int) (b:Str):decide ((Sum.inl a:Key)=Sum.inr b)=false:=decide_eq_false (fun q=>nomatch q)
theorem Zsj (a:Str) (b:Int):decide ((Sum.inr a:Key)=Sum.inl b)=false:=decide_eq_false (fun q=>nomatch q)
def ZjZ (prog:Program) (w:World):PySem.KeyKind prog w Key where
 is:=Zsg
 hash:=keyH w
 inj:=fun v a b ha hb=>by
  rcases Za4 ha with⟨i,t,rfl,rfl⟩ | ⟨x,t,rfl,rfl⟩
  ·rcases Za4 hb with⟨j,u,rfl,e⟩ | ⟨y,u,rfl,e⟩
   ·injection e with e1 _; rw[e1]
   ·exact nomatch e
  ·rcases Za4 hb with⟨j,u,rfl,e⟩ | ⟨y,u,rfl,e⟩
   ·exact nomatch e
   ·injection e with e1 _; rw[e1]
 byValue:=fun k v h=>by
  rcases Za4 h with⟨i,t,rfl,rfl⟩ | ⟨x,t,rfl,rfl⟩ <;> rfl
 pyHash:=fun hv h=>by
  rcases Za4 hv with⟨i,t,rfl,rfl⟩ | ⟨x,t,rfl,rfl⟩
  ·exact wpAny_pyHash_int h
  ·exact wpAny_pyHash_str h
 eqBool:=fun hu hv h=>by
  rcases Za4 hu with⟨i,t,rfl,rfl⟩ | ⟨x,t,rfl,rfl⟩
  ·rcases Za4 hv with⟨j,u,rfl,rfl⟩ | ⟨y,u,rfl,rfl⟩
   ·rw[Zsh]at h; exact wpAny_eqBool_int h
   ·rw[Zsi]at h; exact SeqAt.EqAt.int_str i t y u _ _ _ _ h
  ·rcases Za4 hv with⟨j,u,rfl,rfl⟩ | ⟨y,u,rfl,rfl⟩
   ·rw[Zsj]at h; exact SeqAt.EqAt.str_int x t j u _ _ _ _ h
   ·rw[Zsk]at h; exact wpAny_eqBool_str h
 «strs»:=fun k x t v h=>by
  rcases Za4 h with⟨i,u,rfl,e⟩ | ⟨y,u,rfl,e⟩
  ·exact nomatch e
  ·injection e with e1 _
   subst e1
   cases v <;> rfl
end L2
namespace L2
open PySem PySem.Spec PyProof.Rows
inductive V where
 | non | bl (b:Bool) | int (i:Int) | str (x:Str) | byt (b:Array UInt8) | flt (b:UInt64) | ref (a:Addr) | ty (n:String)
 deriving DecidableEq
def RelV:V→Value→Prop
 | .non,u=>u=Value.none
 | .bl b,u=>u=Value.bool b
 | .int i,u=>∃t,u=Value.int i t
 | .str x,u=>∃t,u=Value.str x t
 | .byt b,u=>∃t,u=Value.bytes b t
 | .flt b,u=>∃t,u=Value.float b t
 | .ref a,u=>u=Value.ref a
 | .ty n,u=>u=Value.type n
abbrev Vals:List V→List Value→Prop:=Paired RelV
theorem Vals.length {xs:List V} {us:List Value} (r:Vals xs us):xs.length=us.length:=Paired.length r
theorem Vals.get:∀{xs:List V} {us:List Value} {i:Nat} {x:V},Vals xs us→xs[i]?=some x→∃u,us[i]?=some u∧RelV x u
 | _,_,_,_,.nil,e=>by simp at e
 | _,_,0,_,.cons r _,e=>by simp at e; subst e; exact⟨_,rfl,r⟩
 | _,_,i+1,x,.cons _ t,e=>by
  obtain⟨u,h1,h2⟩:=Vals.get (i:=i) (x:=x) t (by simpa using e);exact⟨u,by simpa using h1,h2⟩
theorem Vals.set {x:V} {u:Value} (r:RelV x u):∀{xs:List V} {us:List Value} (i:Nat),Vals xs us→Vals (xs.set i x) (us.set i u)
 | _,_,_,.nil=>.nil
 | _,_,0,.cons _ t=>.cons r t
 | _,_,i+1,.cons q t=>.cons q (Vals.set r i t)
theorem Vals.append:∀{xs ys:List V} {us ws:List Value},Vals xs us→Vals ys ws→Vals (xs++ys) (us++ws)
 | _,_,_,_,.nil,s=>s
 | _,_,_,_,.cons r t,s=>.cons r (Vals.append t s)
theorem Vals.take:∀{xs:List V} {us:List Value} (n:Nat),Vals xs us→Vals (xs.take n) (us.take n)
 | _,_,0,_=>.nil
 | _,_,_+1,.nil=>.nil
 | _,_,n+1,.cons r t=>.cons r (Vals.take n t)
theorem Vals.drop:∀{xs:List V} {us:List Value} (n:Nat),Vals xs us→Vals (xs.drop n) (us.drop n)
 | _,_,0,r=>r
 | _,_,_+1,.nil=>.nil
 | _,_,n+1,.cons _ t=>Vals.drop n t
def RelO:Option V→Option Value→Prop
 | some v,some u=>RelV v u
 | none,none=>True
 | _,_=>False
def KV {κ:Type}:List (κ×V)→List (κ×Value)→Prop:=Paired fun(p:κ×V) (q:κ×Value)=>p.1=q.1∧RelV p.2 q.2
def kV:Key→V
 | .inl i=>.int i
 | .inr x=>.str x
inductive HO where
 | lst (xs:List V)
 | tup (xs:List V)
 | dK (kvs:List (Key×V)) | dT (kvs:List (List Key×V))
 | set (S:Int→Bool) (n:Nat)
 | ins (C dx:Addr) (fs:List (Str×V))
 | own (x:Addr)
 | xd (fs:List (Str×V))
 | met (f x:Addr)
 | rng (lo hi:Int)
 | frz (o:Obj) (u:HO)
 | tbl (ps:Array Value)
 | ext (φ:Heap→Prop)
abbrev Hp:=Addr→Option HO
def upd (H:Hp) (a:Addr) (o:HO):Hp:=fun b=>if b=a then some o else H b
theorem Zas {H:Hp} {a:Addr} {o:HO}:upd H a o a=some o:=by unfold upd; rw[if_pos rfl]
theorem ZaL {H:Hp} {a b:Addr} {o:HO} (h:b≠a):upd H a o b=H b:=by unfold upd; rw[if_neg h]
theorem Zn6 {H:Hp} {a:Addr} {o u:HO}:upd (upd H a o) a u=upd H a u:=by
 funext b; unfold upd; split <;> rfl
theorem Zsr {H:Hp} {a b:Addr} {o u:HO} (h:H a=some o) (h':H b=some u) (d:o≠u):a≠b:=by
 intro e; subst e; rw[h]at h'; exact d (Option.some.inj h')
theorem ZaF {H:Hp} {a b:Addr} {o:HO} (h:H a=some o) (h':H b=none):a≠b:=by
 intro e; subst e; rw[h]at h'; cases h'
section
variable (P:Program) (w:World)
def Zb8 (H:Hp) (h:Heap) (a:Addr):HO→Prop
 | .lst xs=>xs.length≤sizeLine∧∃(its:List Value) (n:Nat),Vals xs its∧h.get? a=some { cls:=.type "list",data:=.seq its.toArray n }
 | .tup xs=>xs.length≤sizeLine∧∃its:List Value,Vals xs its∧IsTup h a its.toArray
 | .dK kvs=>kvs.length≤sizeLine∧(a == sysModules)=false∧∃vs,KV kvs vs∧h.DictOf (ZjZ P w) a vs
 | .dT kvs=>kvs.length≤sizeLine∧(a == sysModules)=false∧∃xs:List (List Key×Addr×Value),
   Paired (fun(p:List Key×V) (q:List Key×Addr×Value)=>p.1=q.1∧H q.2.1=some (.tup (p.1.map kV))∧RelV p.2 q.2.2) kvs xs∧
   ∃o es ep,h.get? a=some o∧o.ExactDict∧o.data=.dict es ep∧es.toList=xs.map (entryOfKey (tupleKind (ZjZ P w)))∧(xs.map (·.1)).Nodup
 | .set S n=>h.SetOf (intKind P w) a S n
 | .ins C dx fs=>H dx=some (.own a)∧fs.length≤1000∧dx≠a∧h.get? a=some (PySem.W.instObj C dx)∧
   ∃mA,h.Ns1 dx mA∧(∀f,RelO (fs.lookup f) (mA f))∧PySem.Within mA (fs.map (·.1))
 | .own _=>∃o,h.get? a=some o
 | .xd fs=>∃mA,h.Ns1 a mA∧∀f,RelO (fs.lookup f) (mA f)
 | .rng lo hi=>∃t u v,h.get? a=some { cls:=.type "range",data:=.fields #[.int lo t,.int hi u,.int 1 v] }
 | .frz o u=>h.get? a=some o∧Zb8 H h a u
 | .tbl ps=>h.get? a=some { cls:=.none,data:=.fields ps }
 | .met f x=>h.get? a=some (PySem.W.methodObj (.ref f) (.ref x))
 | .ext φ=>φ h∧(∃o,h.get? a=some o)∧∀h1 h2:Heap,φ h1→(∀o,h1.get? a=some o→h2.get? a=some o)→φ h2
def HOk (H:Hp) (h:Heap):Prop:=∀a o,H a=some o→Zb8 P w H h a o
end
section
variable {P:Program} {w:World} {H H':Hp} {h h':Heap} {a:Addr} {o:HO}
theorem Zb8.lt (x:Zb8 P w H h a o):a < h.objs.size:=by
 cases o with
 | lst xs=>obtain⟨_,_,_,_,e⟩:=x; exact Heap.lt_size e
 | tup xs=>obtain⟨_,_,_,p⟩:=x; exact p.lt
 | dK kvs=>obtain⟨_,_,_,_,o,_,_,e,_⟩:=x; exact Heap.lt_size e
 | dT kvs=>obtain⟨_,_,_,_,o,_,_,e,_⟩:=x; exact Heap.lt_size e
 | set S n=>obtain⟨o,_,_,_,e,_⟩:=x; exact Heap.lt_size e
 | ins C dx fs=>obtain⟨_,_,_,e,_⟩:=x; exact Heap.lt_size e
 | own y=>obtain⟨_,e⟩:=x; exact Heap.lt_size e
 | xd fs=>obtain⟨_,⟨_,_,_,e,_⟩,_⟩:=x; exact Heap.lt_size e
 | rng lo hi=>obtain⟨_,_,_,e⟩:=x; exact Heap.lt_size e
 | frz ob u=>obtain⟨e,_⟩:=x; exact Heap.lt_size e
 | tbl ps=>exact Heap.lt_size (show h.get? a=some _ from x)
 | met f y=>exact Heap.lt_size (show h.get? a=some _ from x)
 | ext φ=>obtain⟨_,⟨_,e⟩,_⟩:=x; exact Heap.lt_size e
theorem Paired.mapP {α β:Type} {F G:α→β→Prop}:∀{l₁:List α} {l₂:List β},Paired F l₁ l₂→(∀a b,F a b→G a b)→Paired G l₁ l₂
 | _,_,.nil,_=>.nil
 | _,_,.cons r t,f=>.cons (f _ _ r) (Paired.mapP t f)
theorem Zb8.stay (x:Zb8 P w H h a o) (k:∀b u,(b=a∨H b=some (.own a))→h.get? b=some u→h'.get? b=some u)
  (ho:∀b,H b=some (.own a)→H' b=some (.own a)) (ht:∀b xs,H b=some (.tup xs)→H' b=some (.tup xs)):Zb8 P w H' h' a o:=by
 induction o with
 | lst xs=>obtain⟨z,its,n,r,e⟩:=x; exact⟨z,its,n,r,k _ _ (.inl rfl) e⟩
 | tup xs=>obtain⟨z,its,r,ob,e,c⟩:=x; exact⟨z,its,r,ob,k _ _ (.inl rfl) e,c⟩
 | dK kvs=>obtain⟨z,y,vs,r,ob,es,ep,e,c⟩:=x; exact⟨z,y,vs,r,ob,es,ep,k _ _ (.inl rfl) e,c⟩
 | dT kvs=>
  obtain⟨z,y,xs,r,ob,es,ep,e,c⟩:=x;exact⟨z,y,xs,Paired.mapP r fun p q z=>⟨z.1,ht _ _ z.2.1,z.2.2⟩,ob,es,ep,k _ _ (.inl rfl) e,c⟩
 | set S n=>obtain⟨ob,es,ep,t,e,c⟩:=x; exact⟨ob,es,ep,t,k _ _ (.inl rfl) e,c⟩
 | ins C dx fs=>
  obtain⟨d,z,ne,e,mA,⟨od,es,ep,e2,c⟩,r⟩:=x;exact⟨ho _ d,z,ne,k _ _ (.inl rfl) e,mA,⟨od,es,ep,k _ _ (.inr d) e2,c⟩,r⟩
 | own y=>obtain⟨ob,e⟩:=x; exact⟨ob,k _ _ (.inl rfl) e⟩
 | xd fs=>obtain⟨mA,⟨od,es,ep,e,c⟩,r⟩:=x; exact⟨mA,⟨od,es,ep,k _ _ (.inl rfl) e,c⟩,r⟩
 | rng lo hi=>obtain⟨t,u,v,e⟩:=x; exact⟨t,u,v,k _ _ (.inl rfl) e⟩
 | frz ob u ih=>obtain⟨e,q⟩:=x; exact⟨k _ _ (.inl rfl) e,ih q⟩
 | tbl ps=>
  have e:h.get? a=some { cls:=.none,data:=.fields ps }:=x;show h'.get? a=some { cls:=.none,data:=.fields ps };exact k a _ (.inl rfl) e
 | met f y=>
  have e:h.get? a=some (PySem.W.methodObj (.ref f) (.ref y)):=x;show h'.get? a=some (PySem.W.methodObj (.ref f) (.ref y));exact k a _ (.inl rfl) e
 | ext φ=>obtain⟨p,⟨o,e⟩,st⟩:=x; exact⟨st _ _ p fun o q=>k _ _ (.inl rfl) q,⟨o,k _ _ (.inl rfl) e⟩,st⟩
theorem HOk.lt (x:HOk P w H h) (e:H a=some o):a < h.objs.size:=(x a o e).lt
theorem HOk.fresh (x:HOk P w H h) (e:h.objs.size≤a):H a=none:=by
 cases q:H a with
 | none=>rfl
 | some u=>exact absurd (Nat.lt_of_lt_of_le (x.lt q) e) (Nat.lt_irrefl _)
theorem HOk.kept (x:HOk P w H h) (k:∀b u,h.get? b=some u→h'.get? b=some u):HOk P w H h':=fun a o e=>
 (x a o e).stay (fun b u _ q=>k b u q) (fun _ q=>q) fun _ _ q=>q
theorem HOk.laid (x:HOk P w H h) (k:∀b u,h.get? b=some u→h'.get? b=some u) (hp:h.objs.size≤a) (new:Zb8 P w (upd H a o) h' a o):HOk P w (upd H a o) h':=fun b u e=>by
 have hn:=x.fresh hp
 by_cases hb:b=a
 ·subst hb; rw[Zas]at e; cases e; exact new
 ·rw[ZaL hb]at e
  exact(x b u e).stay (fun c v _ q=>k c v q) (fun c q=>by rw[ZaL (ZaF q hn)]; exact q) fun c xs q=>by rw[ZaL (ZaF q hn)]; exact q
end
def Rd (H:Hp) (a:Addr) (u:HO):Prop:=H a=some u∨∃o,H a=some (.frz o u)
theorem Rd.ok {P:Program} {w:World} {H:Hp} {h:Heap} {a:Addr} {u:HO} (r:Rd H a u) (x:HOk P w H h):Zb8 P w H h a u:=by
 rcases r with r | ⟨o,r⟩
 ·exact x a u r
 ·obtain⟨_,q⟩:=x a _ r
  exact q
def Mut:Option HO→Prop
 | some (.lst _)=>True
 | some (.dK _)=>True
 | some (.dT _)=>True
 | some (.set _ _)=>True
 | some (.ins _ _ _)=>True
 | some (.ext _)=>True
 | _=>False
section
variable {P:Program} {w:World} {H:Hp} {h h':Heap} {x e:Addr} {o':HO}
theorem HOk.write (ok:HOk P w H h) (mu:Mut (H x)) (he:e=x∨H e=some (.own x)) (k:∀b u,b≠e→h.get? b=some u→h'.get? b=some u) (heo:∃u,h'.get? e=some u)
  (new:Zb8 P w (upd H x o') h' x o'):HOk P w (upd H x o') h':=fun b u q=>by
 have nown:∀c y,H c=some (.own y)→c≠x:=fun c y r z=>by subst z; rw[r]at mu; exact mu
 have ntup:∀c xs,H c=some (.tup xs)→c≠x:=fun c xs r z=>by subst z; rw[r]at mu; exact mu
 by_cases hb:b=x
 ·subst hb; rw[Zas]at q; cases q; exact new
 ·rw[ZaL hb]at q
  by_cases hbe:b=e
  ·have q':H b=some (.own x):=by
    rcases he with z | z
    ·exact absurd (hbe.trans z) hb
    ·rw[hbe]; exact z
   rw[q]at q'; cases q';obtain⟨v,hv⟩:=heo;exact⟨v,by rw[hbe]; exact hv⟩
  ·refine(ok b u q).stay (fun c v hc r=>k c v ?_ r) (fun c r=>by rw[ZaL (nown c b r)]; exact r) fun c xs r=>by rw[ZaL (ntup c xs r)]; exact r
   rcases hc with rfl | hc
   ·exact hbe
   ·rintro rfl
    rcases he with z | z
    ·exact nown c b hc z
    ·rw[hc]at z; cases z; exact hb rfl
end
structure Un (fs ex:List Addr) (H H':Hp) (h h':Heap):Prop where
 keep:∀b o,h.get? b=some o→H b=none→b∉fs→b∉ex→h'.get? b=some o
 slot:∀b o,h.get? b=some o→H b=none→b∈fs→b∉ex→∃sl,h'.get? b=some { o with slots:=sl }
 free:∀b o,h.get? b=some o→H b=none→b∉ex→H' b=none
 there:∀b o,h.get? b=some o→b∉ex→∃o',h'.get? b=some o'
 tups:∀b xs,H b=some (.tup xs)→H' b=some (.tup xs)
 frzs:∀b o u,H b=some (.frz o u)→H' b=some (.frz o u)
 tbls:∀b ps,H b=some (.tbl ps)→∃more,H' b=some (.tbl (ps++more))
section
variable {fs fs' ex ex':List Addr} {H H1 H2:Hp} {h h1 h2 h':Heap} {a x e:Addr} {o:HO}
theorem Un.any (u:Un fs ex H H1 h h1) {b:Addr} {ob:Obj} (q:h.get? b=some ob) (n:H b=none) (hx:b∉ex):∃sl,h1.get? b=some { ob with slots:=sl }:=by
 by_cases hb:b∈fs
 ·exact u.slot b ob q n hb hx
 ·exact⟨ob.slots,u.keep b ob q n hb hx⟩
theorem Un.kept (k:∀b u,h.get? b=some u→h'.get? b=some u):Un fs ex H H h h':=
 ⟨fun b ob q _ _ _=>k b ob q,fun b ob q _ _ _=>⟨ob.slots,k b ob q⟩,fun _ _ _ n _=>n,fun b ob q _=>⟨ob,k b ob q⟩,fun _ _ q=>q,fun _ _ _ q=>q,fun _ ps q=>⟨#[],by rw[q]; simp⟩⟩
theorem Un.refl:Un fs ex H H h h:=Un.kept fun _ _ q=>q
theorem Un.laid (k:∀b u,h.get? b=some u→h'.get? b=some u) (hp:h.objs.size≤a) (hn:H a=none):Un fs ex H (upd H a o) h h' where
 keep:=fun b u q _ _ _=>k b u q
 slot:=fun b u q _ _ _=>⟨u.slots,k b u q⟩
 free:=fun b u q n _=>by rw[ZaL (Nat.ne_of_lt (Nat.lt_of_lt_of_le (Heap.lt_size q) hp))]; exact n
 there:=fun b u q _=>⟨u,k b u q⟩
 tups:=fun b xs q=>by rw[ZaL (ZaF q hn)]; exact q
 frzs:=fun b u xs q=>by rw[ZaL (ZaF q hn)]; exact q
 tbls:=fun b ps q=>⟨#[],by rw[ZaL (ZaF q hn),q]; simp⟩
theorem Un.write (mu:Mut (H x)) (he:e=x∨H e=some (.own x)) (k:∀b u,b≠e→h.get? b=some u→h'.get? b=some u) (heo:∃u,h'.get? e=some u):Un fs ex H (upd H x o) h h':=by
 have hx:∀b,H b=none→b≠x:=fun b n z=>by subst z; rw[n]at mu; exact mu
 have hb:∀b,H b=none→b≠e:=fun b n z=>by
  subst z
  rcases he with r | r
  ·exact hx b n r
  ·rw[n]at r; cases r
 have hm:∀b u,H b=some u→¬Mut (some u)→b≠x:=fun b u q nm z=>by subst z; rw[q]at mu; exact nm mu
 refine⟨fun b u q n _ _=>k b u (hb b n) q,fun b u q n _ _=>⟨u.slots,k b u (hb b n) q⟩,fun b u q n _=>by rw[ZaL (hx b n)]; exact n,fun b u q _=>?_,
  fun b xs q=>by rw[ZaL (hm b _ q fun z=>z)]; exact q,fun b u xs q=>by rw[ZaL (hm b _ q fun z=>z)]; exact q,fun b ps q=>⟨#[],by rw[ZaL (hm b _ q fun z=>z),q]; simp⟩⟩
 by_cases hbe:b=e
 ·subst hbe; exact heo
 ·exact⟨u,k b u hbe q⟩
end
def trk (h:Heap) (H:Hp):List Addr:=(List.range h.objs.size).filter fun a=>(H a).isSome
def hidT (h:Heap) (H:Hp):Heap:=PySem.W.hideAll h (trk h H)
theorem ZmP (h:Heap) (H:Hp):(hidT h H).objs.size=h.objs.size:=PySem.W.hideAll_size _ _
theorem Zou {h:Heap} {H:Hp} {b:Addr} {o:Obj} (e:h.get? b=some o) (n:H b=none):(hidT h H).get? b=some o:=
 PySem.W.hideAll_get _ e fun hm=>by
  have q:(H b).isSome=true:=(List.mem_filter.mp hm).2;rw[n]at q; simp at q
theorem Zq4 {h:Heap} {H:Hp} {b:Addr} {o:Obj} (e:(hidT h H).get? b=some o):h.get? b=some o∧H b=none:=by
 have e':h.get? b=some o:=PySem.W.of_hideAll (trk h H) e;refine⟨e',?_⟩
 cases q:H b with
 | none=>rfl
 | some x=>
  have hm:b∈trk h H:=List.mem_filter.mpr ⟨List.mem_range.mpr (Heap.lt_size e'),by simp[q]⟩;have z:(hidT h H).get? b=none:=PySem.W.hideAll_none (trk h H) hm;rw[z]at e; cases e
end L2
namespace L2
open PySem PySem.Spec PyProof.Rows
structure Mod (K:PySem.W.Frag) (mg:Str→Option Value) (base:Heap):Prop where
 kin:K.In base
 glob:base.Ns mainGlobals mg
 blt:∃mb,base.Ns builtinsNs mb∧∀x:Str,x≠"__name__"→mb x=bootBuiltins x
 nolimit:base.NoLimit
structure Cx where
 prog:Program
 w:World
 K:PySem.W.Frag
 mg:Str→Option Value
 base:Heap
 A:Around
 N:List Str
 s₀:Shared
 H₀:Hp
 env:Env
 outer:List Env
 stack:List Env
 ex:List Addr
 fn:Str→Bool
 calm:Bool
 pn:List (Addr×Obj)
 xe:Value→Shared→Prop
def frs (l:List Env):List Addr:=l.filterMap (·.frame)
abbrev Cx.fs (X:Cx):List Addr:=frs X.outer
def Vis (sc:Scope) (x:Str):Prop:=sc.names.lookup x=some .local∨sc.names.lookup x=some .cell∨sc.names.lookup x=some .free
def Loc (sc:Scope) (x:Str):Prop:=sc.names.lookup x=some .local∨sc.names.lookup x=some .cell
def Look (env:Env) (h:Heap) (m:Str→Option Value) (x:Str) (u:Value):Prop:=
 (env.kindOf x=some .local∧m x=some u)∨((env.kindOf x=some .cell∨env.kindOf x=some .free)∧∃c,env.cells.lookup x=some c∧h.IsCell c (some u))
structure Cx.Ok (X:Cx):Prop where
 mod:Mod X.K X.mg X.base
 kind:X.env.scope.kind=.function
 glob:X.env.globals=mainGlobals
 blt:X.env.builtins=builtinsNs
 above:X.s₀.heap.objs.size≤X.env.locals
 inj:∀x y c,X.env.cells.lookup x=some c→X.env.cells.lookup y=some c→x=y
 has:∀x,(X.env.kindOf x=some .cell∨X.env.kindOf x=some .free)→∃c,X.env.cells.lookup x=some c
 cab:∀x c,X.fn x=true→X.env.cells.lookup x=some c→X.s₀.heap.objs.size≤c
 hd:X.calm=true→X.A.handled=none
 frames:X.A.frames=some X.stack
 stk:X.stack=X.outer∨(X.stack=X.env::X.outer∧X.env.frame=some X.env.locals)
 exf:∀b∈X.ex,b≠X.env.locals∧∀x c,X.env.cells.lookup x=some c→c≠b
 bs:∀b o,X.base.get? b=some o→X.s₀.heap.get? b=some o∧X.H₀ b=none
 bsz:X.base.objs.size≤X.s₀.heap.objs.size
 noex:∀b o,X.base.get? b=some o→b∉X.ex
 exfs:∀b∈X.ex,b∉X.fs
 funs:X.s₀.heap.FunFrames X.base X.outer
 frf:∀b∈X.fs,X.H₀ b=none
structure Inv (X:Cx) (pins:List (Addr×Obj)) (σ:List (Option V)) (H:Hp) (s:Shared):Prop where
 ok:X.Ok
 os:s.os=X.s₀.os
 bare:AllBare s.gens
 base:Un X.fs X.ex X.H₀ H X.s₀.heap s.heap
 loc:∃m,s.heap.Ns X.env.locals m∧∀(i:Nat) (x:Str) (v:V),X.N[i]?=some x→σ[i]?=some (some v)→Vis X.env.scope x→∃u,RelV v u∧Look X.env s.heap m x u
 cell:∀x c,X.env.cells.lookup x=some c→∃v,s.heap.IsCell c v
 free:H X.env.locals=none
 freeC:∀x c,X.env.cells.lookup x=some c→H c=none
 pin:∀p∈X.pn++pins,s.heap.get? p.1=some p.2∧H p.1=none∧p.1≠X.env.locals∧p.1∉X.fs∧∀v,p.2.data≠.cell v
 hok:HOk X.prog X.w H s.heap
 len:σ.length=X.N.length
section
variable {X:Cx} {pins:List (Addr×Obj)} {σ:List (Option V)} {H H':Hp} {s:Shared} {h':Heap}
theorem Cx.Ok.nofr (ok:X.Ok) {b:Addr} {o:Obj} (e:X.base.get? b=some o):b∉X.fs:=fun hb=>by
 have:=(ok.funs.mem hb).1;rw[e]at this; cases this
theorem Inv.bs (I:Inv X pins σ H s):∀b o,X.base.get? b=some o→s.heap.get? b=some o∧H b=none:=fun b o e=>
 ⟨I.base.keep b o (I.ok.bs b o e).1 (I.ok.bs b o e).2 (I.ok.nofr e) (I.ok.noex b o e),I.base.free b o (I.ok.bs b o e).1 (I.ok.bs b o e).2 (I.ok.noex b o e)⟩
theorem Inv.bk (I:Inv X pins σ H s):∀b o,X.base.get? b=some o→s.heap.get? b=some o:=fun b o e=>(I.bs b o e).1
theorem Inv.mod (I:Inv X pins σ H s):Mod X.K X.mg X.base:=I.ok.mod
theorem Inv.kIn (I:Inv X pins σ H s):X.K.In s.heap:=I.ok.mod.kin.keeps I.bk
theorem Inv.lt (I:Inv X pins σ H s):X.env.locals < s.heap.objs.size:=let ⟨_,hn,_⟩:=I.loc; hn.lt
theorem Inv.sz (I:Inv X pins σ H s):X.s₀.heap.objs.size≤s.heap.objs.size:=Nat.le_trans I.ok.above (Nat.le_of_lt I.lt)
theorem Inv.nofs (I:Inv X pins σ H s) {a:Addr} (h:s.heap.objs.size≤a):a∉X.fs:=fun hb=>by
 obtain⟨_,o,ho,_⟩:=I.ok.funs.mem hb;exact absurd (Nat.lt_of_lt_of_le (Heap.lt_size ho) (Nat.le_trans I.sz h)) (Nat.lt_irrefl _)
theorem Inv.cne (I:Inv X pins σ H s):∀x c,X.env.cells.lookup x=some c→c≠X.env.locals:=fun x c e z=>by
 obtain⟨v,o,ho,hd⟩:=I.cell x c e;obtain⟨m,⟨o',es,ep,ho',hd',_⟩,_⟩:=I.loc;rw[z,ho']at ho; cases ho; rw[hd']at hd; cases hd
theorem Inv.funs (I:Inv X pins σ H s):s.heap.FunFrames X.base X.outer:=by
 have all:∀(l:List Env),(∀b∈frs l,b∈X.fs)→X.s₀.heap.FunFrames X.base l→s.heap.FunFrames X.base l:=by
  intro l
  induction l with
  | nil=>intro _ _; trivial
  | cons env r ih=>
   intro hs hl;obtain⟨hk,⟨L,o,hf,hn,ho,hd⟩,hr⟩:=hl;have hL:L∈X.fs:=hs L (by unfold frs; rw[List.filterMap_cons,hf]; exact List.mem_cons_self);obtain⟨sl,e⟩:=I.base.slot L o ho (I.ok.frf L hL) hL fun z=>I.ok.exfs L z hL;exact⟨hk,⟨L,_,hf,hn,e,hd⟩,ih (fun b hb=>hs b (by unfold frs; rw[List.filterMap_cons,hf]; exact List.mem_cons_of_mem _ hb)) hr⟩
 exact all X.outer (fun _ hb=>hb) I.ok.funs
theorem Inv.stack (I:Inv X pins σ H s):s.heap.FunFrames X.base X.stack:=by
 rcases I.ok.stk with e | ⟨e,hf⟩
 ·rw[e]; exact I.funs
 ·rw[e]
  obtain⟨m,hn,_⟩:=I.loc;refine .cons (by rw[I.ok.kind]; decide) hf hn ?_ I.funs;exact Heap.get?_none_of_le (Nat.le_trans I.ok.bsz I.ok.above)
theorem Inv.stkSub (I:Inv X pins σ H s):∀b∈frs X.stack,b∈X.env.locals::X.fs:=fun b hb=>by
 rcases I.ok.stk with e | ⟨e,hf⟩
 ·rw[e]at hb; exact List.mem_cons_of_mem _ hb
 ·rw[e]at hb
  unfold frs at hb;rw[List.filterMap_cons,hf]at hb;exact hb
theorem Inv.stkFree (I:Inv X pins σ H s):∀b∈frs X.stack,H b=none:=fun b hb=>by
 rcases List.mem_cons.mp (I.stkSub b hb) with e | hb
 ·rw[e]; exact I.free
 ·obtain⟨_,o,ho,_⟩:=I.ok.funs.mem hb
  exact I.base.free b o ho (I.ok.frf b hb) fun z=>I.ok.exfs b z hb
theorem Inv.step {g':Array GenState} {t':Nat} {d':Drawn} {ch:List Addr} (I:Inv X pins σ H s)
  (hch:∀b∈ch,(b∈X.ex∨X.s₀.heap.objs.size≤b)∧b≠X.env.locals∧(∀x c,X.env.cells.lookup x=some c→c≠b)∧∀p∈X.pn++pins,p.1≠b)
  (keep:∀b o,b≠X.env.locals→b∉X.fs→b∉ch→s.heap.get? b=some o→H b=none→h'.get? b=some o)
  (slot:∀b o,b≠X.env.locals→b∈X.fs→b∉ch→s.heap.get? b=some o→H b=none→∃sl,h'.get? b=some { o with slots:=sl }) (free:∀b o,b∉ch→s.heap.get? b=some o→H b=none→H' b=none)
  (there:∀b o,b∉ch→s.heap.get? b=some o→∃o',h'.get? b=some o')
  (tups:∀b xs,H b=some (.tup xs)→H' b=some (.tup xs)) (frzs:∀b o u,H b=some (.frz o u)→H' b=some (.frz o u)) (tbls:∀b ps,H b=some (.tbl ps)→∃more,H' b=some (.tbl (ps++more)))
  (ns:∀m,s.heap.Ns X.env.locals m→h'.Ns X.env.locals m) (hok:HOk X.prog X.w H' h') (hg:AllBare g') :
  Inv X pins σ H' { s with heap:=h',gens:=g',drawn:=d',toks:=t' }:=by
 have neL:∀b o,X.s₀.heap.get? b=some o→b≠X.env.locals:=fun b o e=>Nat.ne_of_lt (Nat.lt_of_lt_of_le (Heap.lt_size e) I.ok.above)
 have neC:∀b o,X.s₀.heap.get? b=some o→b∉X.ex→b∉ch:=fun b o e hx hb=>by
  rcases(hch b hb).1 with z | z
  ·exact hx z
  ·exact absurd (Nat.lt_of_lt_of_le (Heap.lt_size e) z) (Nat.lt_irrefl _)
 have cellK:∀x c,X.env.cells.lookup x=some c→∀v,s.heap.IsCell c v→h'.IsCell c v:=fun x c e v ⟨o,ho,hd⟩=>by
  have nch:c∉ch:=fun z=>(hch c z).2.2.1 x c e rfl
  by_cases hc:c∈X.fs
  ·obtain⟨sl,q⟩:=slot c o (I.cne x c e) hc nch ho (I.freeC x c e)
   exact⟨_,q,hd⟩
  ·exact⟨o,keep c o (I.cne x c e) hc nch ho (I.freeC x c e),hd⟩
 refine⟨I.ok,I.os,hg,⟨fun b o e n hb hx=>?_,fun b o e n hb hx=>?_,fun b o e n hx=>?_,fun b o e hx=>?_,fun b xs e=>tups b xs (I.base.tups b xs e),fun b o xs e=>frzs b o xs (I.base.frzs b o xs e),fun b ps e=>?_⟩,?_,fun x c e=>?_,?_,fun x c e=>?_,fun p hp=>?_,hok,I.len⟩
 ·exact keep b o (neL b o e) hb (neC b o e hx) (I.base.keep b o e n hb hx) (I.base.free b o e n hx)
 ·obtain⟨sl,e1⟩:=I.base.slot b o e n hb hx
  obtain⟨sl',e2⟩:=slot b _ (neL b o e) hb (neC b o e hx) e1 (I.base.free b o e n hx);exact⟨sl',e2⟩
 ·obtain⟨o',e1⟩:=I.base.there b o e hx
  exact free b o' (neC b o e hx) e1 (I.base.free b o e n hx)
 ·obtain⟨o',e1⟩:=I.base.there b o e hx
  exact there b o' (neC b o e hx) e1
 ·obtain⟨m1,e1⟩:=I.base.tbls b ps e
  obtain⟨m2,e2⟩:=tbls b _ e1;exact⟨m1++m2,by rw[e2,Array.append_assoc]⟩
 ·obtain⟨m,hn,hl⟩:=I.loc
  refine⟨m,ns m hn,fun i x v e1 e2 e3=>?_⟩;obtain⟨u,r,l⟩:=hl i x v e1 e2 e3;refine⟨u,r,?_⟩
  rcases l with l | ⟨k,c,e,z⟩
  ·exact .inl l
  ·exact .inr ⟨k,c,e,cellK x c e _ z⟩
 ·obtain⟨v,z⟩:=I.cell x c e
  exact⟨v,cellK x c e v z⟩
 ·obtain⟨m,⟨o,_,_,ho,_⟩,_⟩:=I.loc
  exact free _ o (fun z=>(hch _ z).2.1 rfl) ho I.free
 ·obtain⟨v,o,ho,hd⟩:=I.cell x c e
  exact free c o (fun z=>(hch c z).2.2.1 x c e rfl) ho (I.freeC x c e)
 ·obtain⟨e,n,ne,nf,d⟩:=I.pin p hp
  have nch:p.1∉ch:=fun z=>(hch p.1 z).2.2.2 p hp rfl;exact⟨keep p.1 p.2 ne nf nch e n,free p.1 p.2 nch e n,ne,nf,d⟩
theorem Inv.un {t':Nat} (I:Inv X pins σ H s) (u:Un X.fs [] H H' s.heap h') (hok:HOk X.prog X.w H' h'):Inv X pins σ H' { s with heap:=h',toks:=t' }:=by
 obtain⟨m,⟨o,es,ep,ho,r⟩,_⟩:=id I.loc;obtain⟨sl,hL⟩:=u.any ho I.free (by simp)
 exact I.step (g':=s.gens) (d':=s.drawn) (ch:=[]) (fun _ z=>nomatch z) (fun b o _ hb _ e n=>u.keep b o e n hb (by simp)) (fun b o _ hb _ e n=>u.slot b o e n hb (by simp)) (fun b o _ e n=>u.free b o e n (by simp)) (fun b o _ e=>u.there b o e (by simp)) u.tups u.frzs u.tbls (fun m' hm=>by
  obtain⟨o',es',ep',ho',r'⟩:=hm;rw[ho]at ho'; cases ho'
  exact⟨_,es',ep',hL,r'⟩) hok I.bare
theorem Inv.call {g':Array GenState} {t':Nat} {d':Drawn} {ch:List Addr} (I:Inv X pins σ H s) (u:Un (frs X.stack) ch H H' s.heap h') (hok:HOk X.prog X.w H' h') (hg:AllBare g')
  (hch:∀b∈ch,(b∈X.ex∨X.s₀.heap.objs.size≤b)∧b≠X.env.locals∧(∀x c,X.env.cells.lookup x=some c→c≠b)∧∀p∈X.pn++pins,p.1≠b) :
  Inv X pins σ H' { s with heap:=h',gens:=g',drawn:=d',toks:=t' }:=by
 obtain⟨m,⟨o,es,ep,ho,r⟩,_⟩:=id I.loc;obtain⟨sl,hL⟩:=u.any ho I.free fun z=>(hch _ z).2.1 rfl
 exact I.step (ch:=ch) hch (fun b o hL hb hc e n=>u.keep b o e n (fun z=>(List.mem_cons.mp (I.stkSub b z)).elim hL hb) hc) (fun b o _ _ hc e n=>u.any e n hc) (fun b o hc e n=>u.free b o e n hc) (fun b o hc e=>u.there b o e hc) u.tups u.frzs u.tbls (fun m' hm=>by
  obtain⟨o',es',ep',ho',r'⟩:=hm;rw[ho]at ho'; cases ho'
  exact⟨_,es',ep',hL,r'⟩) hok hg
theorem Inv.turned {t':Nat} {it:Addr} (I:Inv X pins σ H s) (k:∀b o,b≠it→s.heap.get? b=some o→h'.get? b=some o) (hn:H it=none) (hL:it≠X.env.locals)
  (h1:it∈X.ex∨X.s₀.heap.objs.size≤it) (h2:∀x c,X.env.cells.lookup x=some c→c≠it) (h3:∀p∈X.pn++pins,p.1≠it):Inv X pins σ H { s with heap:=h',toks:=t' }:=by
 have nit:∀b u,H b=some u→b≠it:=fun b u e z=>by rw[z,hn]at e; cases e
 refine I.step (g':=s.gens) (d':=s.drawn) (ch:=[it]) (fun b hb=>?_) (fun b o _ _ hc e _=>k b o (fun z=>hc (by simp[z])) e) (fun b o _ _ hc e _=>⟨o.slots,k b o (fun z=>hc (by simp[z])) e⟩) (fun _ _ _ _ n=>n)
  (fun b o hc e=>⟨o,k b o (fun z=>hc (by simp[z])) e⟩) (fun _ _ e=>e) (fun _ _ _ e=>e) (fun b ps e=>⟨#[],by rw[e]; simp⟩) (fun m hm=>?_) (fun b u e=>?_) I.bare
 ·have e:b=it:=by simpa using hb
  subst e;exact⟨h1,hL,h2,h3⟩
 ·obtain⟨o,es,ep,ho,r⟩:=hm
  exact⟨o,es,ep,k _ o (Ne.symm hL) ho,r⟩
 ·refine(I.hok b u e).stay (fun c v hc q=>k c v ?_ q) (fun _ q=>q) fun _ _ q=>q
  rcases hc with z | z
  ·rw[z]; exact nit b u e
  ·exact nit c _ z
theorem Inv.tok (I:Inv X pins σ H s) (t:Nat):Inv X pins σ H { s with toks:=t }:=I.un (h':=s.heap) (t':=t) Un.refl I.hok
theorem Inv.kept {t':Nat} (I:Inv X pins σ H s) (k:∀b u,s.heap.get? b=some u→h'.get? b=some u):Inv X pins σ H { s with heap:=h',toks:=t' }:=I.un (Un.kept k) (I.hok.kept k)
theorem Inv.laid {a:Addr} {o:HO} {t':Nat} (I:Inv X pins σ H s) (k:∀b u,s.heap.get? b=some u→h'.get? b=some u) (hp:s.heap.objs.size≤a) (new:Zb8 X.prog X.w (upd H a o) h' a o) :
  Inv X pins σ (upd H a o) { s with heap:=h',toks:=t' }:=I.un (Un.laid k hp (I.hok.fresh hp)) (I.hok.laid k hp new)
theorem Inv.write {x e:Addr} {o:HO} {t':Nat} (I:Inv X pins σ H s) (mu:Mut (H x)) (he:e=x∨H e=some (.own x)) (k:∀b u,b≠e→s.heap.get? b=some u→h'.get? b=some u) (heo:∃u,h'.get? e=some u)
  (new:Zb8 X.prog X.w (upd H x o) h' x o):Inv X pins σ (upd H x o) { s with heap:=h',toks:=t' }:=I.un (Un.write mu he k heo) (I.hok.write mu he k heo new)
theorem Inv.pins_of {pins':List (Addr×Obj)} (I:Inv X pins σ H s) (h:∀p∈pins',s.heap.get? p.1=some p.2∧H p.1=none∧p.1≠X.env.locals∧p.1∉X.fs∧∀v,p.2.data≠.cell v):Inv X pins' σ H s:=
 ⟨I.ok,I.os,I.bare,I.base,I.loc,I.cell,I.free,I.freeC,fun p hp=>(List.mem_append.mp hp).elim (fun z=>I.pin p (List.mem_append_left _ z)) (h p),I.hok,I.len⟩
theorem ZkQ {N:List Str} (hN:N.Nodup) {i j:Nat} {x:Str} (a:N[i]?=some x) (b:N[j]?=some x):i=j:=by
 obtain⟨h1,e1⟩:=List.getElem?_eq_some_iff.mp a;obtain⟨h2,e2⟩:=List.getElem?_eq_some_iff.mp b;exact(List.getElem_inj hN).mp (e1.trans e2.symm)
theorem Zjm {M:Model} {A:Around} {E:Value→Shared→Prop} {i:Nat} {x:Str} {v:V} {u:Value} {Q:Unit→Shared→Prop} (I:Inv X pins σ H s) (hN:X.N.Nodup) (hi:X.N[i]?=some x) (hx:Loc X.env.scope x) (r:RelV v u)
  (h:∀s',Inv X pins (σ.set i (some v)) H s'→(∃a,Heap.SameBut a s.heap s'.heap∧(a=X.env.locals∨X.env.cells.lookup x=some a))→Q () s') (hf:X.fn x=true∨X.env.scope.names.lookup x=some .local:=by first | exact .inl rfl | exact .inr rfl | assumption):wpAny M A (storeName X.env x u) Q E s:=by
 obtain⟨m,hn,hl⟩:=id I.loc
 have hcls:(X.env.scope.kind == .class || (X.env.scope.kind == .module && X.env.locals != X.env.globals))=false:=by rw[I.ok.kind]; rfl
 have hiσ:i < σ.length:=by rw[I.len]; exact(List.getElem?_eq_some_iff.mp hi).1
 have cne:=I.cne
 have tracked:∀{a:Addr} {h':Heap},(∃o,s.heap.get? a=some o∧H a=none)→Heap.SameBut a s.heap h'→HOk X.prog X.w H h':=fun {a h'} ha hs b ob e=>by
  obtain⟨_,_,hfree⟩:=ha;refine(I.hok b ob e).stay (fun c w' hc q=>(hs.2 c ?_).trans q) (fun _ q=>q) fun _ _ q=>q;rintro rfl
  rcases hc with rfl | hc
  ·rw[hfree]at e; cases e
  ·rw[hfree]at hc; cases hc
 rcases hx with hk | hk
 ·refine wpAny_storeName_local hk hn (fun h' hn' hs=>?_) hcls
  obtain⟨oL,_,_,hoL,_⟩:=id hn;refine h _ ⟨I.ok,I.os,I.bare,⟨fun b o e n hb hx=>?_,fun b o e n hb hx=>?_,I.base.free,fun b o e hx=>?_,I.base.tups,I.base.frzs,I.base.tbls⟩,⟨_,hn',fun j y v' e1 e2 e3=>?_⟩,fun y c e=>?_,I.free,I.freeC,fun p hp=>?_,tracked ⟨oL,hoL,I.free⟩ hs,by simpa using I.len⟩ ⟨_,hs,.inl rfl⟩
  ·exact(hs.2 b (Nat.ne_of_lt (Nat.lt_of_lt_of_le (Heap.lt_size e) I.ok.above))).trans (I.base.keep b o e n hb hx)
  ·obtain⟨sl,e1⟩:=I.base.slot b o e n hb hx
   exact⟨sl,(hs.2 b (Nat.ne_of_lt (Nat.lt_of_lt_of_le (Heap.lt_size e) I.ok.above))).trans e1⟩
  ·obtain⟨o',e1⟩:=I.base.there b o e hx
   exact⟨o',(hs.2 b (Nat.ne_of_lt (Nat.lt_of_lt_of_le (Heap.lt_size e) I.ok.above))).trans e1⟩
  ·by_cases hj:j=i
   ·subst hj
    rw[hi]at e1; cases e1;rw[List.getElem?_set_self hiσ]at e2
    cases e2
    exact⟨u,r,.inl ⟨hk,by simp⟩⟩
   ·rw[List.getElem?_set_ne (Ne.symm hj)]at e2
    obtain⟨u',r',q⟩:=hl j y v' e1 e2 e3;refine⟨u',r',?_⟩
    rcases q with⟨k,e⟩ | ⟨k,c,e,z⟩
    ·refine .inl ⟨k,?_⟩
     have:y≠x:=fun e=>hj (ZkQ hN e1 (e ▸ hi));simp[this,e]
    ·exact .inr ⟨k,c,e,z.sameBut hs (cne y c e)⟩
  ·obtain⟨w',z⟩:=I.cell y c e
   exact⟨w',z.sameBut hs (cne y c e)⟩
  ·obtain⟨e,n,ne,nf,d⟩:=I.pin p hp
   exact⟨(hs.2 p.1 ne).trans e,n,ne,nf,d⟩
 ·have hfn:X.fn x=true:=by
   rcases hf with z | z
   ·exact z
   ·rw[z]at hk; cases hk
  obtain⟨c,hc⟩:=I.ok.has x (.inl hk);obtain⟨w',z⟩:=I.cell x c hc;refine wpAny_storeName_cell I.ok.kind hk hc z (fun h' hc' hs=>?_);obtain⟨oc,hoc,hocd⟩:=id z;refine h { s with heap:=h' } ⟨I.ok,I.os,I.bare,⟨fun b o e n hb hx=>?_,fun b o e n hb hx=>?_,I.base.free,fun b o e hx=>?_,I.base.tups,I.base.frzs,I.base.tbls⟩,⟨m,hn.sameBut hs (Ne.symm (cne x c hc)),fun j y v' e1 e2 e3=>?_⟩,fun y c' e=>?_,I.free,I.freeC,fun p hp=>?_,tracked ⟨oc,hoc,I.freeC x c hc⟩ hs,by simpa using I.len⟩ ⟨c,hs,.inr hc⟩
  ·exact(hs.2 b (Nat.ne_of_lt (Nat.lt_of_lt_of_le (Heap.lt_size e) (I.ok.cab x c hfn hc)))).trans (I.base.keep b o e n hb hx)
  ·obtain⟨sl,e1⟩:=I.base.slot b o e n hb hx
   exact⟨sl,(hs.2 b (Nat.ne_of_lt (Nat.lt_of_lt_of_le (Heap.lt_size e) (I.ok.cab x c hfn hc)))).trans e1⟩
  ·obtain⟨o',e1⟩:=I.base.there b o e hx
   exact⟨o',(hs.2 b (Nat.ne_of_lt (Nat.lt_of_lt_of_le (Heap.lt_size e) (I.ok.cab x c hfn hc)))).trans e1⟩
  ·by_cases hj:j=i
   ·subst hj
    rw[hi]at e1; cases e1;rw[List.getElem?_set_self hiσ]at e2
    cases e2
    exact⟨u,r,.inr ⟨.inl hk,c,hc,hc'⟩⟩
   ·rw[List.getElem?_set_ne (Ne.symm hj)]at e2
    obtain⟨u',r',q⟩:=hl j y v' e1 e2 e3;refine⟨u',r',?_⟩
    rcases q with q | ⟨k,c',e,z'⟩
    ·exact .inl q
    ·refine .inr ⟨k,c',e,z'.sameBut hs ?_⟩
     rintro rfl;exact hj (ZkQ hN e1 (I.ok.inj _ _ _ e hc ▸ hi))
  ·by_cases hcc:c'=c
   ·subst hcc; exact⟨_,hc'⟩
   ·obtain⟨w2,z2⟩:=I.cell y c' e
    exact⟨w2,z2.sameBut hs hcc⟩
  ·obtain⟨e,n,ne,nf,d⟩:=I.pin p hp
   refine⟨(hs.2 p.1 ?_).trans e,n,ne,nf,d⟩;intro q;rw[q,hoc]at e;have q':oc=p.2:=Option.some.inj e;exact d w' (by rw[←q']; exact hocd)
theorem Zge {M:Model} {A:Around} {E:Value→Shared→Prop} {i:Nat} {x:Str} {v:V} {u:Value} {Q:Unit→Shared→Prop} (I:Inv X pins σ H s) (hN:X.N.Nodup) (hi:X.N[i]?=some x) (hx:Loc X.env.scope x) (r:RelV v u)
  (h:∀s',Inv X pins (σ.set i (some v)) H s'→Q () s') (hf:X.fn x=true∨X.env.scope.names.lookup x=some .local:=by first | exact .inl rfl | exact .inr rfl | assumption):wpAny M A (storeName X.env x u) Q E s:=
 Zjm I hN hi hx r (fun s' I' _=>h s' I') hf
theorem Inv.call' {s':Shared} {ch:List Addr} (I:Inv X pins σ H s) (ho:s'.os=s.os) (u:Un (frs X.stack) ch H H' s.heap s'.heap) (hok:HOk X.prog X.w H' s'.heap) (hg:AllBare s'.gens)
  (hch:∀b∈ch,(b∈X.ex∨X.s₀.heap.objs.size≤b)∧b≠X.env.locals∧(∀x c,X.env.cells.lookup x=some c→c≠b)∧∀p∈X.pn++pins,p.1≠b):Inv X pins σ H' s':=by
 obtain⟨h',g',d',t',o'⟩:=s';have e:o'=s.os:=ho;subst e;exact I.call (g':=g') (t':=t') (d':=d') u hok hg hch
end
abbrev XK:=Value→Option Addr→Hp→Prop
abbrev St:=List (Option V)
abbrev VK:=V→Hp→Prop
abbrev TE:=St→Hp→VK→Prop
abbrev TT:=St→Hp→(Bool→Hp→Prop)→Prop
abbrev TA:=St→Hp→(List V→Hp→Prop)→Prop
structure Ends where
 nx:St→Hp→Prop
 rt:VK
 bk:St→Hp→Prop:=fun _ _=>False
 ct:St→Hp→Prop:=fun _ _=>False
abbrev TS:=Ends→St→Hp→Prop
def EP (X:Cx) (pins:List (Addr×Obj)) (σ:St) (Q:VK) (u:Value) (s':Shared):Prop:=∃v H',Inv X pins σ H' s'∧RelV v u∧Q v H'
def TP (X:Cx) (pins:List (Addr×Obj)) (σ:St) (Q:Bool→Hp→Prop) (b:Bool) (s':Shared):Prop:=∃H',Inv X pins σ H' s'∧Q b H'
def AP (X:Cx) (pins:List (Addr×Obj)) (σ:St) (Q:List V→Hp→Prop) (us:List Value) (s':Shared):Prop:=∃vs H',Inv X pins σ H' s'∧Vals vs us∧Q vs H'
def SP (X:Cx) (pins:List (Addr×Obj)) (D:Ends) (f:Flow) (s':Shared):Prop:=
 match f with
 | .next=>∃σ' H',Inv X pins σ' H' s'∧D.nx σ' H'
 | .brk=>∃σ' H',Inv X pins σ' H' s'∧D.bk σ' H'
 | .cont=>∃σ' H',Inv X pins σ' H' s'∧D.ct σ' H'
 | .ret u=>∃v σ' H',Inv X pins σ' H' s'∧RelV v u∧D.rt v H'
def PE (X:Cx) (e:Expr) (t:TE):Prop:=
 ∀(pins:List (Addr×Obj)) (s:Shared) (σ:St) (H:Hp) (Q:VK),Inv X pins σ H s→t σ H Q→wpAny (model X.prog X.w) X.A (eval e X.env) (EP X pins σ Q) X.xe s
def PT (X:Cx) (e:Expr) (t:TT):Prop:=
 ∀(pins:List (Addr×Obj)) (s:Shared) (σ:St) (H:Hp) (Q:Bool→Hp→Prop),Inv X pins σ H s→t σ H Q→wpAny (model X.prog X.w) X.A (isTrue e X.env (eval e X.env)) (TP X pins σ Q) X.xe s
def PW (X:Cx) (e:Expr) (t:TT):Prop:=
 ∀(whole:Sem Value) (pins:List (Addr×Obj)) (s:Shared) (σ:St) (H:Hp) (Q:Bool→Hp→Prop),Inv X pins σ H s→t σ H Q→wpAny (model X.prog X.w) X.A (isTrue e X.env whole) (TP X pins σ Q) X.xe s
theorem PW.pt {X:Cx} {e:Expr} {t:TT} (h:PW X e t):PT X e t:=h _
def PA (X:Cx) (es:List Expr) (t:TA):Prop:=
 ∀(pos:Pos) (pins:List (Addr×Obj)) (s:Shared) (σ:St) (H:Hp) (Q:List V→Hp→Prop),Inv X pins σ H s→t σ H Q→wpAny (model X.prog X.w) X.A (spliced (backTo pos (starEach es X.env))) (AP X pins σ Q) X.xe s
def PS (X:Cx) (st:Stmt) (t:TS):Prop:=
 ∀(pins:List (Addr×Obj)) (s:Shared) (σ:St) (H:Hp) (D:Ends),Inv X pins σ H s→t D σ H→wpAny (model X.prog X.w) X.A (exec st X.env) (SP X pins D) X.xe s
def PSs (X:Cx) (st:List Stmt) (t:TS):Prop:=
 ∀(pins:List (Addr×Obj)) (s:Shared) (σ:St) (H:Hp) (D:Ends),Inv X pins σ H s→t D σ H→wpAny (model X.prog X.w) X.A (execs st X.env) (SP X pins D) X.xe s
theorem thn {α:Type} {t:Sem α} {Q Q':α→Shared→Prop} {M:Model} {A:Around} {E:Value→Shared→Prop} {s:Shared} (h:wpAny M A t Q E s) (hQ:∀a s,Q a s→Q' a s):wpAny M A t Q' E s:=wpAny_mono h hQ fun _ _ x=>x
end L2
namespace L2
open PySem PySem.Spec PyProof.Rows
section
variable {X:Cx}
def tVar (i:Nat):TE:=fun σ H Q=>∃v,σ[i]?=some (some v)∧Q v H
def tC (v:V):TE:=fun _ H Q=>Q v H
theorem ZsF {i:Nat} {x:Str} {pos:Pos} (hN:X.N[i]?=some x) (hv:Vis X.env.scope x) (hd:(x == ("__debug__" : Str))=false:=by decide) (hcd:(x == ("__classdict__" : Str))=false:=by decide):PE X (.Name x pos) (tVar i):=by
 intro pins s σ H Q I h;obtain⟨v,e,h⟩:=h;obtain⟨m,hn,hl⟩:=I.loc;obtain⟨u,r,l⟩:=hl i x v hN e hv;have fin:EP X pins σ Q u s:=⟨v,H,I,r,h⟩
 rcases l with⟨hk,hm⟩ | ⟨hk,c,hc,hcell⟩
 ·exact wpAny_Name (wpAny_loadName_local I.ok.kind hk hn hm fin) hd
 ·rcases hk with hk | hk
  ·exact wpAny_Name (wpAny_loadName_cell I.ok.kind hk hc hcell fin) hd
  ·exact wpAny_Name (wpAny_loadName_free I.ok.kind hk hc hcell fin hcd) hd
theorem Zad {i j pos}:PE X (.Constant (.int i) j pos) (tC (.int i)):=fun _ _ _ H _ I h=>wpAny_Constant_int ⟨.int i,H,I.tok _,⟨_,rfl⟩,h⟩
theorem Zdk {b j pos}:PE X (.Constant (.bool b) j pos) (tC (.bl b)):=fun _ _ _ H _ I h=>Constant_bool ⟨.bl b,H,I,rfl,h⟩
theorem ZfW {j pos}:PE X (.Constant .none j pos) (tC .non):=fun _ _ _ H _ I h=>Constant_none ⟨.non,H,I,rfl,h⟩
theorem ZkZ {x j pos}:PE X (.Constant (.str x) j pos) (tC (.str x)):=fun _ _ _ H _ I h=>Calls.Constant_str ⟨.str x,H,I.tok _,⟨_,rfl⟩,h⟩
def Gl (X:Cx) (x:Str):Prop:=X.env.kindOf x=some .globalImplicit
theorem ZeG {E:Value→Shared→Prop} {pins:List (Addr×Obj)} {s:Shared} {σ:St} {H:Hp} {x:Str} {u:Value} {pos:Pos} {Q:Value→Shared→Prop} (I:Inv X pins σ H s) (hg:Gl X x) (hm:X.mg x=some u) (h:Q u s)
  (hd:(x == ("__debug__" : Str))=false:=by decide):wpAny (model X.prog X.w) X.A (eval (.Name x pos) X.env) Q E s:=
 Calls.Name_function_global I.ok.kind hg (Calls.loadGlobal_global (by rw[I.ok.glob]; exact I.mod.glob.keeps I.bk) hm h) hd
theorem ZeV {E:Value→Shared→Prop} {pins:List (Addr×Obj)} {s:Shared} {σ:St} {H:Hp} {x:Str} {u:Value} {pos:Pos} {Q:Value→Shared→Prop} (I:Inv X pins σ H s) (hg:Gl X x) (hm:X.mg x=none) (hv:bootBuiltins x=some u) (h:Q u s)
  (hn:x≠"__name__":=by decide) (hd:(x == ("__debug__" : Str))=false:=by decide):wpAny (model X.prog X.w) X.A (eval (.Name x pos) X.env) Q E s:=by
 obtain⟨mb,h1,h2⟩:=I.mod.blt;exact Calls.Name_function_global I.ok.kind hg (Calls.loadGlobal_builtin (by rw[I.ok.glob]; exact I.mod.glob.keeps I.bk) hm (by rw[I.ok.blt]; exact h1.keeps I.bk) ((h2 x hn).trans hv) h) hd
theorem Zcq {x:Str} {v:V} {u:Value} {pos:Pos} (hg:Gl X x) (hm:X.mg x=some u) (r:RelV v u) (hd:(x == ("__debug__" : Str))=false:=by decide):PE X (.Name x pos) (tC v):=
 fun _ _ _ H _ I h=>ZeG I hg hm ⟨v,H,I,r,h⟩ hd
theorem Zd6 {x:Str} {v:V} {u:Value} {pos:Pos} (hg:Gl X x) (hm:X.mg x=none) (hv:bootBuiltins x=some u) (r:RelV v u) (hn:x≠"__name__":=by decide) (hd:(x == ("__debug__" : Str))=false:=by decide):PE X (.Name x pos) (tC v):=
 fun _ _ _ H _ I h=>ZeV I hg hm hv ⟨v,H,I,r,h⟩ hn hd
variable {a b:Expr} {ta tb:TE} {pos:Pos}
variable {tA tB':TT} {rest:List Expr}
def tAnd (t u:TT):TT:=fun σ H Q=>t σ H fun c H1=>if c=true then u σ H1 Q else Q false H1
def tOr (t u:TT):TT:=fun σ H Q=>t σ H fun c H1=>if c=true then Q true H1 else u σ H1 Q
def tNot (t:TT):TT:=fun σ H Q=>t σ H fun c H1=>Q (!c) H1
theorem ZgU (ha:PT X a tA):PW X (.BoolOp .And [a] pos) tA:=by
 intro wh pins s σ H Q I h;refine isTrue_and (thn (ha pins s σ H Q I h) fun c s1 e=>?_)
 cases c with
 | true=>exact isTrue_and_nil e
 | false=>exact e
theorem ZfX (ha:PT X a tA):PW X (.BoolOp .Or [a] pos) tA:=by
 intro wh pins s σ H Q I h;refine isTrue_or (thn (ha pins s σ H Q I h) fun c s1 e=>?_)
 cases c with
 | false=>exact isTrue_or_nil e
 | true=>exact e
theorem Zjg (ha:PT X a tA) (hb:PW X (.BoolOp .And (b::rest) pos) tB'):PW X (.BoolOp .And (a::b::rest) pos) (tAnd tA tB'):=by
 intro wh pins s σ H Q I h;refine isTrue_and (thn (ha pins s σ H _ I h) fun c s1 ⟨H1,I1,q1⟩=>?_)
 cases c with
 | true=>exact hb wh pins s1 σ H1 Q I1 q1
 | false=>exact⟨H1,I1,q1⟩
theorem Zhi (ha:PT X a tA) (hb:PW X (.BoolOp .Or (b::rest) pos) tB'):PW X (.BoolOp .Or (a::b::rest) pos) (tOr tA tB'):=by
 intro wh pins s σ H Q I h;refine isTrue_or (thn (ha pins s σ H _ I h) fun c s1 ⟨H1,I1,q1⟩=>?_)
 cases c with
 | true=>exact⟨H1,I1,q1⟩
 | false=>exact hb wh pins s1 σ H1 Q I1 q1
theorem ZcX (ha:PT X a tA):PT X (.UnaryOp .Not a pos) (tNot tA):=by
 intro pins s σ H Q I h;exact isTrue_not (ha pins s σ H (fun c H1=>Q (!c) H1) I h)
def ZsY (ta tb:TE):TE:=fun σ H Q=>ta σ H fun x H1=>∃c,x=.bl c∧if c=true then tb σ H1 Q else Q (.bl false) H1
theorem ZkY {op} {t:TE} (h:PE X a t):PE X (.BoolOp op [a] pos) t:=fun pins s σ H Q I hw=>BoolOp_one (h pins s σ H Q I hw)
theorem ZkW (ha:PE X a ta) (hb:PE X (.BoolOp .And (b::rest) pos) tb):PE X (.BoolOp .And (a::b::rest) pos) (ZsY ta tb):=by
 intro pins s σ H Q I h;refine BoolOp_and (thn (ha pins s σ H _ I h) fun v s1 ⟨x,H1,I1,r1,q1⟩=>?_);obtain⟨c,rfl,q1⟩:=q1
 cases r1
 refine wpAny_truthy_bool ?_
 cases c with
 | true=>exact hb pins s1 σ H1 Q I1 q1
 | false=>exact⟨.bl false,H1,I1,rfl,q1⟩
end
end L2
namespace L2
open PySem PySem.Spec PyProof.Rows
def SqL (K:PySem.W.Frag) (H:Hp) (a:Addr) (xs:List V):Prop:=
 Rd H a (.lst xs)∨
  ∃(o:Obj) (its:Array Value) (n:Nat),K.lookup a=some o∧o.cls=.type "list"∧o.dict=none∧o.data=.seq its n∧its.size≤sizeLine∧Vals xs its.toList
def SqT (K:PySem.W.Frag) (H:Hp) (a:Addr) (xs:List V):Prop:=
 Rd H a (.tup xs)∨
  ∃(o:Obj) (its:Array Value) (n:Nat),K.lookup a=some o∧o.cls=.type "tuple"∧o.data=.seq its n∧its.size≤sizeLine∧Vals xs its.toList
def absV:Value→Option V
 | .none=>some .non
 | .bool b=>some (.bl b)
 | .int i _=>some (.int i)
 | .str x _=>some (.str x)
 | .bytes b _=>some (.byt b)
 | .float b _=>some (.flt b)
 | .ref a=>some (.ref a)
 | .type n=>some (.ty n)
 | _=>none
theorem RelV.abs {x:V} {u:Value} (r:RelV x u):absV u=some x:=by
 cases x with
 | non=>cases r; rfl
 | bl _=>cases r; rfl
 | int _=>obtain⟨t,rfl⟩:=r; rfl
 | str _=>obtain⟨t,rfl⟩:=r; rfl
 | byt _=>obtain⟨t,rfl⟩:=r; rfl
 | flt _=>obtain⟨t,rfl⟩:=r; rfl
 | ref _=>cases r; rfl
 | ty _=>cases r; rfl
theorem RelV.inj {x y:V} {u:Value} (r:RelV x u) (q:RelV y u):x=y:=Option.some.inj (r.abs.symm.trans q.abs)
theorem Vals.inj:∀{xs ys:List V} {us:List Value},Vals xs us→Vals ys us→xs=ys
 | _,_,_,.nil,.nil=>rfl
 | _,_,_,.cons r t,.cons r' t'=>by rw[r.inj r',Vals.inj t t']
section
variable {X:Cx} {pins:List (Addr×Obj)} {σ:St} {H:Hp} {s:Shared} {a:Addr} {xs ys:List V}
theorem SqL.of {K:PySem.W.Frag} (h:H a=some (.lst xs)):SqL K H a xs:=.inl (.inl h)
theorem SqT.of {K:PySem.W.Frag} (h:H a=some (.tup xs)):SqT K H a xs:=.inl (.inl h)
theorem Inv.list (I:Inv X pins σ H s) (h:SqL X.K H a xs):∃its:List Value,Vals xs its∧PlainL s.heap a its.toArray∧xs.length≤sizeLine:=by
 rcases h with h | ⟨o,its,n,hk,hc,hd,hs,hz,r⟩
 ·obtain⟨z,its,n,r,e⟩:=h.ok I.hok
  exact⟨its,r,⟨_,n,e,rfl,rfl,rfl⟩,z⟩
 ·refine⟨its.toList,r,⟨o,n,I.kIn a o hk,hc,hd,by simpa using hs⟩,?_⟩
  have e:=r.length;simp only [Array.length_toList]at e;omega
theorem Inv.tuple (I:Inv X pins σ H s) (h:SqT X.K H a xs):∃its:List Value,Vals xs its∧IsTup s.heap a its.toArray∧xs.length≤sizeLine:=by
 rcases h with h | ⟨o,its,n,hk,hc,hs,hz,r⟩
 ·obtain⟨z,its,r,p⟩:=h.ok I.hok
  exact⟨its,r,p,z⟩
 ·refine⟨its.toList,r,⟨o,I.kIn a o hk,hc,n,by simpa using hs⟩,?_⟩
  have e:=r.length;simp only [Array.length_toList]at e;omega
theorem Inv.list_inj (I:Inv X pins σ H s) (h:SqL X.K H a xs) (h':SqL X.K H a ys):xs=ys:=by
 obtain⟨its,r,⟨o,n,e,_,_,d⟩,_⟩:=I.list h;obtain⟨its',r',⟨o',n',e',_,_,d'⟩,_⟩:=I.list h';rw[e]at e'; cases e';rw[d]at d'
 injection d' with d1 _
 have:its=its':=by simpa using congrArg Array.toList d1
 subst this;exact r.inj r'
theorem Inv.tuple_inj (I:Inv X pins σ H s) (h:SqT X.K H a xs) (h':SqT X.K H a ys):xs=ys:=by
 obtain⟨its,r,⟨o,e,_,n,d⟩,_⟩:=I.tuple h;obtain⟨its',r',⟨o',e',_,n',d'⟩,_⟩:=I.tuple h';rw[e]at e'; cases e';rw[d]at d'
 injection d' with d1 _
 have:its=its':=by simpa using congrArg Array.toList d1
 subst this;exact r.inj r'
end
abbrev Cx.wish (X:Cx) (E:Value→Shared→Prop):Cx:={ X with xe:=E }
abbrev Cx.nox (X:Cx):Cx:=X.wish fun _ _=>False
theorem Cx.Ok.wish {X:Cx} (ok:X.Ok) (E:Value→Shared→Prop):(X.wish E).Ok:=
 ⟨ok.mod,ok.kind,ok.glob,ok.blt,ok.above,ok.inj,ok.has,ok.cab,ok.hd,ok.frames,ok.stk,ok.exf,ok.bs,ok.bsz,ok.noex,ok.exfs,ok.funs,ok.frf⟩
theorem Cx.Ok.unwish {X:Cx} {E:Value→Shared→Prop} (ok:(X.wish E).Ok):X.Ok:=
 ⟨ok.mod,ok.kind,ok.glob,ok.blt,ok.above,ok.inj,ok.has,ok.cab,ok.hd,ok.frames,ok.stk,ok.exf,ok.bs,ok.bsz,ok.noex,ok.exfs,ok.funs,ok.frf⟩
section
variable {X:Cx} {pins:List (Addr×Obj)} {σ:St} {H:Hp} {s:Shared} {E:Value→Shared→Prop}
theorem Inv.wish (I:Inv X pins σ H s) (E:Value→Shared→Prop):Inv (X.wish E) pins σ H s:=⟨I.ok.wish E,I.os,I.bare,I.base,I.loc,I.cell,I.free,I.freeC,I.pin,I.hok,I.len⟩
theorem Inv.unwish (I:Inv (X.wish E) pins σ H s):Inv X pins σ H s:=⟨I.ok.unwish,I.os,I.bare,I.base,I.loc,I.cell,I.free,I.freeC,I.pin,I.hok,I.len⟩
theorem SP.unwish {D:Ends} {f:Flow} {s':Shared} (h:SP (X.wish E) pins D f s'):SP X pins D f s':=by
 cases f with
 | next=>obtain⟨σ',H',I,q⟩:=h; exact⟨σ',H',I.unwish,q⟩
 | brk=>obtain⟨σ',H',I,q⟩:=h; exact⟨σ',H',I.unwish,q⟩
 | cont=>obtain⟨σ',H',I,q⟩:=h; exact⟨σ',H',I.unwish,q⟩
 | ret u=>obtain⟨v,σ',H',I,r,q⟩:=h; exact⟨v,σ',H',I.unwish,r,q⟩
theorem PT.nox {e:Expr} {t:TT} (h:PT X.nox e t):PT X e t:=fun pins s σ H Q I hw=>
 wpAny_mono (h pins s σ H Q (I.wish _) hw) (fun _ _ ⟨H',I',q⟩=>⟨H',I'.unwish,q⟩) fun _ _ z=>False.elim z
theorem PSs.nox {st:List Stmt} {t:TS} (h:PSs X.nox st t):PSs X st t:=fun pins s σ H D I hw=>
 wpAny_mono (h pins s σ H D (I.wish _) hw) (fun _ _ q=>q.unwish) fun _ _ z=>False.elim z
end
section
variable {X:Cx} {st:Stmt} {rest:List Stmt} {t u:TS} {e:Expr} {te:TE} {pos:Pos}
def Zs1:TS:=fun D σ H=>D.nx σ H
def tSeq (t u:TS):TS:=fun D σ H=>t { D with nx:=u D } σ H
theorem Zai:PSs X [] Zs1:=fun _ _ σ H _ I h=>wpAny_execs_nil ⟨σ,H,I,h⟩
theorem Zab (h1:PS X st t) (h2:PSs X rest u):PSs X (st::rest) (tSeq t u):=by
 intro pins s σ H D I h;refine wpAny_execs_cons (thn (h1 pins s σ H { D with nx:=u D } I h) fun f s1 q=>?_)
 cases f with
 | next=>
  obtain⟨σ',H',I',q⟩:=q;exact h2 pins s1 σ' H' D I' q
 | ret v=>exact q
 | brk=>exact q
 | cont=>exact q
theorem Zac (h1:PS X st t):PSs X [st] t:=by
 intro pins s σ H D I h;refine wpAny_execs_cons (thn (h1 pins s σ H D I h) fun f s1 q=>?_)
 cases f with
 | next=>exact wpAny_execs_nil q
 | ret v=>exact q
 | brk=>exact q
 | cont=>exact q
theorem Inv.quiet {pins:List (Addr×Obj)} {σ:St} {H:Hp} {s:Shared} (I:Inv X pins σ H s):interactive X.env=false:=by simp[interactive,I.ok.kind]
def ZsZ (te:TE):TS:=fun D σ H=>te σ H fun _ H1=>D.nx σ H1
theorem Znw (he:PE X e te) (hs:swapsWith e none pos.line X.env=pure false:=by rfl):PS X (.Expr e pos) (ZsZ te):=by
 intro pins s σ H D I h;exact wpAny_Expr_any (thn (he pins s σ H _ I h) fun v s1 ⟨x,H1,I1,r1,q1⟩=>⟨σ,H1,I1,q1⟩) I.quiet hs
def tRet (te:TE):TS:=fun D σ H=>te σ H D.rt
theorem Zaj (he:PE X e te):PS X (.Return (some e) pos) (tRet te):=by
 intro pins s σ H D I h;exact wpAny_Return_some (thn (he pins s σ H _ I h) fun v s1 ⟨x,H1,I1,r1,q1⟩=>⟨x,σ,H1,I1,r1,q1⟩)
def tIfS (c:TT) (t u:TS):TS:=fun D σ H=>c σ H fun b H1=>if b=true then t D σ H1 else u D σ H1
theorem ZaZ {c:Expr} {a b:List Stmt} {tc:TT} (hc:PT X c tc) (ha:PSs X a t) (hb:PSs X b u):PS X (.If c a b pos) (tIfS tc t u):=by
 intro pins s σ H D I h;refine wpAny_If (thn (hc pins s σ H _ I h) fun d s1 ⟨H1,I1,q1⟩=>?_)
 cases d with
 | true=>exact ha pins s1 σ H1 D I1 q1
 | false=>exact hb pins s1 σ H1 D I1 q1
def Zs0:TS:=fun _ _ _=>False
theorem Zo2:PS X st Zs0:=fun _ _ _ _ _ _ h=>h.elim
end
abbrev TG:=V→St→Hp→(St→Hp→Prop)→Prop
abbrev TGs:=List V→St→Hp→(St→Hp→Prop)→Prop
def PG (X:Cx) (target:Expr) (t:TG):Prop:=
 ∀(pins:List (Addr×Obj)) (s:Shared) (σ:St) (H:Hp) (v:V) (u:Value) (Q:St→Hp→Prop),Inv X pins σ H s→RelV v u→t v σ H Q→
  wpAny (model X.prog X.w) X.A (assign target X.env u) (fun _ s'=>∃σ' H',Inv X pins σ' H' s'∧Q σ' H') X.xe s
def PGs (X:Cx) (ts:List Expr) (t:TGs):Prop:=
 ∀(pins:List (Addr×Obj)) (s:Shared) (σ:St) (H:Hp) (vs:List V) (us:List Value) (Q:St→Hp→Prop),Inv X pins σ H s→Vals vs us→t vs σ H Q→
  wpAny (model X.prog X.w) X.A (assignInOrder ((assignEach ts X.env).map (·.2)) us) (fun _ s'=>∃σ' H',Inv X pins σ' H' s'∧Q σ' H') X.xe s
abbrev TSet:=V→V→V→Hp→(Hp→Prop)→Prop
def PSet (X:Cx) (t:TSet):Prop:=
 ∀(pins:List (Addr×Obj)) (s:Shared) (σ:St) (H:Hp) (o i v:V) (ov iv u:Value) (Q:Hp→Prop),Inv X pins σ H s→RelV o ov→RelV i iv→RelV v u→t o i v H Q→
  wpAny (model X.prog X.w) X.A (setItem ov iv u) (fun _ s'=>∃H',Inv X pins σ H' s'∧Q H') X.xe s
section
variable {X:Cx} {pos:Pos}
def Zg6 (i:Nat):TG:=fun v σ H Q=>Q (σ.set i (some v)) H
theorem Znr {i:Nat} {x:Str} (hN:X.N.Nodup) (hi:X.N[i]?=some x) (hx:Loc X.env.scope x) (hf:X.fn x=true∨X.env.scope.names.lookup x=some .local:=by first | exact .inl rfl | exact .inr rfl | assumption):PG X (.Name x pos) (Zg6 i):=by
 intro pins s σ H v u Q I r h;exact wpAny_assign_Name (Zge I hN hi hx r (fun s' I'=>⟨_,H,I',h⟩) hf)
def gNil:TGs:=fun vs σ H Q=>vs=[]∧Q σ H
def Zqy (t:TG) (u:TGs):TGs:=fun vs σ H Q=>∃v r,vs=v::r∧t v σ H fun σ' H'=>u r σ' H' Q
theorem Zns:PGs X [] gNil:=by
 intro pins s σ H vs us Q I r h;obtain⟨e,h⟩:=h;subst e
 cases r
 exact assignInOrder_nil ⟨σ,H,I,h⟩
theorem Zgc {e:Expr} {es:List Expr} {t:TG} {u:TGs} (h1:PG X e t) (h2:PGs X es u)
  (hs:(assignEach (e::es) X.env).map (·.2)=assign e X.env::(assignEach es X.env).map (·.2):=by rfl):PGs X (e::es) (Zqy t u):=by
 intro pins s σ H vs us Q I r h;obtain⟨v,vr,e1,h⟩:=h;subst e1
 cases r with
 | cons r rr=>
  rw[hs];refine assignInOrder_cons (thn (h1 pins s σ H _ _ _ I r h) fun _ s1 ⟨σ1,H1,I1,q1⟩=>?_);exact h2 pins s1 σ1 H1 _ _ Q I1 rr q1
def gTup (K:PySem.W.Frag) (n:Nat) (t:TGs):TG:=fun v σ H Q=>∃a xs,v=.ref a∧SqT K H a xs∧xs.length=n∧t xs σ H Q
theorem Zp7 {es:List Expr} {k:Nat} {t:TGs} {n:Nat} (hc:X.calm=true) (h:PGs X es t)
  (hn:(assignEach es X.env).length=n:=by rfl) (hst:(assignEach es X.env).findIdx? (·.1)=none:=by rfl):PG X (.Tuple es k pos) (gTup X.K n t):=by
 intro pins s σ H v u Q I r hw;obtain⟨a,xs,e1,hq,hl,hw⟩:=hw;subst e1
 cases r
 obtain⟨its,rv,ht,hz⟩:=I.tuple hq;refine assign_Tuple_tuple (I.ok.hd hc) ht (by simp[hn,←hl,rv.length]) hst fun h' hx=>?_;have I1:Inv X pins σ H { s with heap:=h' }:=I.kept (t':=s.toks) fun b o e=>hx b o (Nat.ne_of_lt (Heap.lt_size e)) e;exact h pins _ σ H xs _ Q I1 (by simpa using rv) hw
def gSub (to ti:TE) (t:TSet):TG:=fun v σ H Q=>to σ H fun o H1=>ti σ H1 fun i H2=>t o i v H2 fun H3=>Q σ H3
theorem Zk0 {o i:Expr} {to ti:TE} {t:TSet} (ho:PE X o to) (hi:PE X i ti) (hs:PSet X t)
  (ha:∀v,assign (.Subscript o i pos) X.env v=(do
   let ov ←holding [v] (eval o X.env)
   let iv ←holding [v,ov] (eval i X.env)
   standAt pos
   holding [v,ov,iv] (setItem ov iv v)
   release [v,ov,iv] []):=by intro _; rfl):PG X (.Subscript o i pos) (gSub to ti t):=by
 intro pins s σ H v u Q I r h;rw[ha];refine wpAny_bind (wpAny_holding (thn (ho pins s σ H _ I h) fun ov s1 ⟨x,H1,I1,r1,q1⟩=>?_));refine wpAny_bind (wpAny_holding (thn (hi pins s1 σ H1 _ I1 q1) fun iv s2 ⟨y,H2,I2,r2,q2⟩=>?_));refine wpAny_bind (wpAny_standAt (wpAny_bind (wpAny_holding (thn (hs pins s2 σ H2 x y v ov iv u _ I2 r1 r2 r q2) fun _ s3 ⟨H3,I3,q3⟩=>?_))));exact wpAny_release ⟨σ,H3,I3,q3⟩
def tAsg (te:TE) (g:TG):TS:=fun D σ H=>te σ H fun x H1=>g x σ H1 D.nx
theorem Zk1 {tg e:Expr} {te:TE} {g:TG} (he:PE X e te) (hg:PG X tg g) (hs:swapsWithSole [tg] e pos.line X.env=pure false:=by rfl) (hw:swappedStores [tg] e X.env=pure none:=by rfl)
  (h1:(assignEach [tg] X.env).map (·.2)=[assign tg X.env]:=by rfl):PS X (.Assign [tg] e pos) (tAsg te g):=by
 intro pins s σ H D I h;refine wpAny_Assign_stores (thn (he pins s σ H _ I h) fun v s1 ⟨x,H1,I1,r1,q1⟩=>?_) hs hw;rw[h1];exact thn (hg pins s1 σ H1 x v _ I1 r1 q1) fun _ s2 q=>q
theorem ZsI {i:Nat} {x:Str} {e:Expr} {te:TE} {pos':Pos} (hN:X.N.Nodup) (hi:X.N[i]?=some x) (hx:Loc X.env.scope x) (he:PE X e te) (hs:swapsWith e (some (.Name x pos')) pos.line X.env=pure false:=by rfl) (hf:X.fn x=true∨X.env.scope.names.lookup x=some .local:=by first | exact .inl rfl | exact .inr rfl | assumption) :
  PS X (.Assign [.Name x pos'] e pos) (tAsg te (Zg6 i)):=by
 intro pins s σ H D I h;refine wpAny_Assign_Name (thn (he pins s σ H _ I h) fun v s1 ⟨y,H1,I1,r1,q1⟩=>?_) hs;exact Zge I1 hN hi hx r1 (fun s2 I2=>⟨_,H1,I2,q1⟩) hf
end
section
variable {X:Cx} {pos:Pos}
def Zs6 (c:TT) (tb:TS):TS:=fun D σ H=>∃W:Nat→St→Hp→Prop,(∃m,W m σ H)∧∀m σ H,W m σ H→
 c σ H fun b H1=>if b=true then ∃N:St→Hp→Prop,(∀σ' H',N σ' H'→∃m',m' < m∧W m' σ' H')∧tb { D with nx:=N,ct:=N,bk:=D.nx } σ H1 else D.nx σ H1
theorem Zk3 {c:Expr} {body:List Stmt} {tc:TT} {tb:TS} (hp:PassesOwn (model X.prog X.w) X.A X.env X.xe) (hc:PT X c tc) (hb:PSs X body tb):PS X (.While c body [] pos) (Zs6 tc tb):=by
 intro pins s σ H D I h;obtain⟨W,⟨m0,w0⟩,turn⟩:=h;refine wpAny_While (codeAny_whileLoop (fun n s'=>∃σ' H',Inv X pins σ' H' s'∧W n σ' H') ?_ m0 ⟨σ,H,I,w0⟩);rintro n s1 ⟨σ1,H1,I1,w1⟩;refine wpAny_passesOwn hp (thn (hc pins s1 σ1 H1 _ I1 (turn n σ1 H1 w1)) fun b s2 ⟨H2,I2,q2⟩=>?_)
 cases b with
 | true=>
  obtain⟨N,hN,q2⟩:=q2;rw[if_pos rfl];refine wpAny_passesOwn hp (thn (hb pins s2 σ1 H2 _ I2 q2) fun f s3 q3=>?_)
  cases f with
  | next=>
   obtain⟨σ3,H3,I3,n3⟩:=q3;obtain⟨m',hm,w3⟩:=hN σ3 H3 n3;exact⟨m',hm,σ3,H3,I3,w3⟩
  | cont=>
   obtain⟨σ3,H3,I3,n3⟩:=q3;obtain⟨m',hm,w3⟩:=hN σ3 H3 n3;exact⟨m',hm,σ3,H3,I3,w3⟩
  | brk=>exact q3
  | ret v=>exact q3
 | false=>
  rw[if_neg Bool.false_ne_true];exact wpAny_execs_nil ⟨σ1,H2,I2,q2⟩
end
structure It where
 go:Nat→Hp→Prop
 yld:Nat→Hp→V→Hp→Prop
 stop:Nat→Hp→Prop
def FpOk (X:Cx) (pins:List (Addr×Obj)) (H:Hp) (b:Addr):Prop:=
 H b=none∧b≠X.env.locals∧b∉X.fs∧(b∈X.ex∨X.s₀.heap.objs.size≤b)∧(∀x c,X.env.cells.lookup x=some c→c≠b)∧∀p∈X.pn++pins,p.1≠b
theorem Inv.fpOk {X:Cx} {pins:List (Addr×Obj)} {σ:St} {H H':Hp} {s:Shared} {b:Addr} (I:Inv X pins σ H s) (hb:s.heap.objs.size≤b) (hn:H' b=none):FpOk X pins H' b:=by
 refine⟨hn,Nat.ne_of_gt (Nat.lt_of_lt_of_le I.lt hb),I.nofs hb,.inr (Nat.le_trans I.sz hb),fun x c e z=>?_,fun p hp z=>?_⟩
 ·obtain⟨v,q⟩:=I.cell x c e
  exact absurd (Nat.lt_of_lt_of_le q.lt (by rw[z]; exact hb)) (Nat.lt_irrefl _)
 ·exact absurd (Nat.lt_of_lt_of_le (Heap.lt_size (I.pin p hp).1) (by rw[z]; exact hb)) (Nat.lt_irrefl _)
structure Turn (P:Program) (w:World) (K:PySem.W.Frag) (tg:Expr) (J:It) (fp:List Addr) (it:Addr) (tn:Nat→Heap→Prop):Prop where
 mem:it∈fp
 obj:∀i h,tn i h→∀b∈fp,∃o,h.get? b=some o∧∀v,o.data≠.cell v
 keep:∀i h h',tn i h→(∀b∈fp,∀o,h.get? b=some o→h'.get? b=some o)→tn i h'
 item:∀(X:Cx),X.prog=P→X.w=w→X.K=K→X.calm=true→∀(i:Nat) (pins:List (Addr×Obj)) (s:Shared) (σ:St) (H:Hp) (E:Value→Shared→Prop),Inv X pins σ H s→(∀b∈fp,FpOk X pins H b)→tn i s.heap→J.go i H→
  wpAny (model P w) X.A (pyNext (.ref it)) (fun r s1=>∃u,r=some u∧
   wpAny (model P w) X.A (letOwnedTupleGo tg (.ref it) u) (fun _ s2=>∃x H',Inv X pins σ H' s2∧RelV x u∧J.yld i H x H'∧tn (i+1) s2.heap∧∀b∈fp,H' b=none) E s1) E s
 done:∀(X:Cx),X.prog=P→X.w=w→X.K=K→X.calm=true→∀(i:Nat) (pins:List (Addr×Obj)) (s:Shared) (σ:St) (H:Hp) (E:Value→Shared→Prop),Inv X pins σ H s→(∀b∈fp,FpOk X pins H b)→tn i s.heap→J.stop i H→
  wpAny (model P w) X.A (pyNext (.ref it)) (fun r s1=>r=none∧Inv X pins σ H s1) E s
 self:∀(A:Around) (i:Nat) (s:Shared) (Q:Value→Shared→Prop) (E:Value→Shared→Prop),tn i s.heap→Q (.ref it) s→wpAny (model P w) A (pyIter (.ref it)) Q E s
abbrev TI:=St→Hp→(It→Hp→Prop)→Prop
def PIE (X:Cx) (pins:List (Addr×Obj)) (σ:St) (tg:Expr) (R:It→Hp→Prop) (itv:Value) (s2:Shared):Prop:=
 ∃(it:Addr) (fp:List Addr) (tn:Nat→Heap→Prop) (J:It) (H':Hp),itv=.ref it∧Inv X pins σ H' s2∧Turn X.prog X.w X.K tg J fp it tn∧tn 0 s2.heap∧(∀b∈fp,FpOk X pins H' b)∧R J H'
def PI (X:Cx) (tg iter:Expr) (wi:TI):Prop:=
 ∀(pins:List (Addr×Obj)) (s:Shared) (σ:St) (H:Hp) (R:It→Hp→Prop),Inv X pins σ H s→wi σ H R→
  wpAny (model X.prog X.w) X.A (eval iter X.env) (fun v s1=>wpAny (model X.prog X.w) X.A (pyIter v) (PIE X pins σ tg R) X.xe s1) X.xe s
theorem ZmL {M:Model} {A:Around} {E:Value→Shared→Prop} {s:Shared} {tg:Expr} {it:Addr} {u:Value} {o:Obj} {n:String} {vs:Array Value} {Q:Unit→Shared→Prop} (ho:s.heap.get? it=some o) (hc:o.cls=.type n) (hd:o.data=.fields vs)
    (hn:["enumerate","zip","dict_itemiterator","dict_reverseitemiterator","odict_iterator","itertools.zip_longest","itertools.pairwise"].contains n=false) (hQ:Q () s):wpAny M A (letOwnedTupleGo tg (.ref it) u) Q E s:=by
  unfold letOwnedTupleGo
  cases tg <;> first
    | exact wpAny_pure hQ
    | (cases u <;> first
        | exact wpAny_pure hQ
        | (refine wpAny_bind (wpAny_load ho ?_)
           rw[hc,hd];show wpAny M A (if (["enumerate","zip","dict_itemiterator","dict_reverseitemiterator","odict_iterator","itertools.zip_longest","itertools.pairwise"].contains n && vs[0]? == some (rawInt _))=true then _ else _) Q E s;rw[if_neg (by intro h; rw[hn,Bool.false_and]at h; cases h)]
           exact wpAny_pure hQ))
def Itl (K:PySem.W.Frag) (a:Addr):It:=
 ⟨fun i H=>∃xs x,SqL K H a xs∧xs[i]?=some x,fun i H x H'=>H'=H∧∀xs,SqL K H a xs→xs[i]?=some x,fun i H=>∃xs,SqL K H a xs∧xs.length≤i⟩
def Itt (K:PySem.W.Frag) (a:Addr):It:=
 ⟨fun i H=>∃xs x,SqT K H a xs∧xs[i]?=some x,fun i H x H'=>H'=H∧∀xs,SqT K H a xs→xs[i]?=some x,fun i H=>∃xs,SqT K H a xs∧xs.length≤i⟩
def Itr (lo:Int) (n:Nat):It:=⟨fun i _=>i < n,fun i H x H'=>H'=H∧x=.int (lo+i),fun i _=>n≤i⟩
theorem Zn0 {P:Program} {w:World} {K:PySem.W.Frag} {tg:Expr} (a it:Addr):Turn P w K tg (Itl K a) [it] it (fun i h=>h.IsListIter it a i) where
 mem:=by simp
 obj:=fun i h st b hb=>by
  have e:b=it:=by simpa using hb
  subst e;obtain⟨o,e,c,d⟩:=st;exact⟨o,e,fun v z=>by rw[d]at z; cases z⟩
 keep:=fun i h h' st k=>st.at fun o e=>k it (by simp) o e
 item:=by
  intro X hP hw hK hc i pins s σ H E I hf st hg;subst hP hw hK;obtain⟨xs,x,hq,hx⟩:=hg;obtain⟨its,rv,p,hz⟩:=I.list hq;obtain⟨u,hu,ru⟩:=rv.get hx;obtain⟨f0,f1,f2,f3,f4,f5⟩:=hf it (by simp);refine wpAny_pyNext_list_item st p.isList (x:=u) (by simpa using hu) fun h' st' sb=>?_;have I1:Inv X pins σ H { s with heap:=h' }:=I.turned (t':=s.toks) (fun b o hb e=>(sb.2 b hb).trans e) f0 f1 f3 f4 f5;obtain⟨o,e,c,d⟩:=id st';exact⟨u,rfl,ZmL (s:={ s with heap:=h' }) e c d (by decide) ⟨x,H,I1,ru,⟨rfl,fun ys hy=>by rw[I.list_inj hy hq]; exact hx⟩,st',fun b hb=>(hf b hb).1⟩⟩
 done:=by
  intro X hP hw hK hc i pins s σ H E I hf st hg;subst hP hw hK;obtain⟨xs,hq,hx⟩:=hg;obtain⟨its,rv,p,hz⟩:=I.list hq;obtain⟨f0,f1,f2,f3,f4,f5⟩:=hf it (by simp);have hl:=rv.length;exact wpAny_pyNext_list_end (I.ok.hd hc) st p.isList (by simp; omega) fun h' eb=>⟨rfl,I.turned (t':=s.toks) (fun b o hb e=>eb b o hb e) f0 f1 f3 f4 f5⟩
 self:=fun _ _ _ _ _ st h=>wpAny_pyIter_listiter st h
theorem ZlU {P:Program} {w:World} {K:PySem.W.Frag} {tg:Expr} (a it:Addr):Turn P w K tg (Itt K a) [it] it (fun i h=>h.IsTupleIter it a i) where
 mem:=by simp
 obj:=fun i h st b hb=>by
  have e:b=it:=by simpa using hb
  subst e;obtain⟨o,e,c,d⟩:=st;exact⟨o,e,fun v z=>by rw[d]at z; cases z⟩
 keep:=fun i h h' st k=>st.at fun o e=>k it (by simp) o e
 item:=by
  intro X hP hw hK hc i pins s σ H E I hf st hg;subst hP hw hK;obtain⟨xs,x,hq,hx⟩:=hg;obtain⟨its,rv,p,hz⟩:=I.tuple hq;obtain⟨u,hu,ru⟩:=rv.get hx;obtain⟨f0,f1,f2,f3,f4,f5⟩:=hf it (by simp);refine wpAny_pyNext_tuple_item st (show s.heap.IsTuple a its.toArray from p) (x:=u) (by simpa using hu) fun h' st' sb=>?_;have I1:Inv X pins σ H { s with heap:=h' }:=I.turned (t':=s.toks) (fun b o hb e=>(sb.2 b hb).trans e) f0 f1 f3 f4 f5;obtain⟨o,e,c,d⟩:=id st';exact⟨u,rfl,ZmL (s:={ s with heap:=h' }) e c d (by decide) ⟨x,H,I1,ru,⟨rfl,fun ys hy=>by rw[I.tuple_inj hy hq]; exact hx⟩,st',fun b hb=>(hf b hb).1⟩⟩
 done:=by
  intro X hP hw hK hc i pins s σ H E I hf st hg;subst hP hw hK;obtain⟨xs,hq,hx⟩:=hg;obtain⟨its,rv,p,hz⟩:=I.tuple hq;obtain⟨f0,f1,f2,f3,f4,f5⟩:=hf it (by simp);have hl:=rv.length;exact wpAny_pyNext_tuple_end (I.ok.hd hc) st (show s.heap.IsTuple a its.toArray from p) (by simp; omega) fun h' eb=>⟨rfl,I.turned (t':=s.toks) (fun b o hb e=>eb b o hb e) f0 f1 f3 f4 f5⟩
 self:=fun _ _ _ _ _ st h=>wpAny_pyIter_tupleiter st h
theorem ZlT {P:Program} {w:World} {K:PySem.W.Frag} {tg:Expr} (it:Addr) (lo:Int) (n:Nat):Turn P w K tg (Itr lo n) [it] it (fun i h=>IsRangeIter h it (lo+(i:Nat) * 1) ((n:Int) - (i:Nat)) 1) where
 mem:=by simp
 obj:=fun i h st b hb=>by
  have e:b=it:=by simpa using hb
  subst e
  exact⟨_,st,fun v z=>by
   have z':Data.fields _=Data.cell v:=z
   cases z'⟩
 keep:=fun i h h' st k=>k it (by simp) _ st
 item:=by
  intro X hP hw hK hc i pins s σ H E I hf st hg;subst hP hw hK;obtain⟨f0,f1,f2,f3,f4,f5⟩:=hf it (by simp);have W:=Walks.range (prog:=X.prog) (w:=X.w) (I.ok.hd hc) it lo 1 n;refine W.item i s _ _ hg st fun v h' tk hv st' kk=>?_;obtain⟨t,rfl⟩:=hv;have I1:Inv X pins σ H { s with heap:=h',toks:=tk }:=I.turned (fun b o hb e=>kk b o (by simpa using hb) e) f0 f1 f3 f4 f5;refine⟨_,rfl,ZmL (s:={ s with heap:=h',toks:=tk }) (n:="range_iterator") st' rfl rfl (by decide) ⟨.int (lo+i),H,I1,⟨t,?_⟩,⟨rfl,rfl⟩,st',fun b hb=>(hf b hb).1⟩⟩;rw[Int.mul_one]
 done:=by
  intro X hP hw hK hc i pins s σ H E I hf st hg;subst hP hw hK;obtain⟨f0,f1,f2,f3,f4,f5⟩:=hf it (by simp);exact wpAny_pyNext_range_end (I.ok.hd hc) st (by have:n≤i:=hg; omega) fun h' eb=>⟨rfl,I.turned (t':=s.toks) (fun b o hb e=>eb b o hb e) f0 f1 f3 f4 f5⟩
 self:=fun _ _ _ _ _ st h=>wpAny_pyIter_rangeiter st h
end L2
namespace L2
open PySem PySem.Spec PyProof.Rows
section
variable {X:Cx} {tg:Expr}
theorem Zo8 {pins:List (Addr×Obj)} {σ:St} {H:Hp} {s:Shared} {R:It→Hp→Prop} {E:Value→Shared→Prop} {lo hi:Int} {t u v:Tok} {tk:Nat} (I:Inv X pins σ H s) (h1 : -(2 ^ 62)≤lo) (h2:lo < 2 ^ 62) (h3 : -(2 ^ 62)≤hi) (h4:hi < 2 ^ 62)
  (q:R (Itr lo (hi - lo).toNat) H):wpAny (model X.prog X.w) X.A (pyIter (.ref s.heap.objs.size)) (PIE X pins σ tg R) E { s with heap:=s.heap.push { cls:=.type "range",data:=.fields #[.int lo t,.int hi u,.int 1 v] },toks:=tk }:=by
 refine wpAny_pyIter_range (IsRange.new ..) (small_one h1 h2 h3 h4) ?_;have I1:Inv X pins σ H { s with heap:=s.heap.push { cls:=.type "range",data:=.fields #[.int lo t,.int hi u,.int 1 v] },toks:=tk }:=I.kept fun b o e=>Heap.get?_push_of_some _ e
 refine⟨(s.heap.push { cls:=.type "range",data:=.fields #[.int lo t,.int hi u,.int 1 v] }).objs.size,[(s.heap.push { cls:=.type "range",data:=.fields #[.int lo t,.int hi u,.int 1 v] }).objs.size],_,_,H,rfl,
  I1.kept (t':=tk) fun b o e=>Heap.get?_push_of_some _ e,ZlT _ lo (hi - lo).toNat,?_,fun b hb=>?_,q⟩
 ·have e1:lo+((0:Nat):Int) * 1=lo:=by simp
  have e2:(((hi - lo).toNat:Nat):Int) - ((0:Nat):Int)=Builtin.Range.rangeSize lo hi 1:=by rw[rangeSize_one]; split <;> omega
  show IsRangeIter _ _ (lo+((0:Nat):Int) * 1) ((((hi - lo).toNat:Nat):Int) - ((0:Nat):Int)) 1;rw[e1,e2];exact Heap.get?_push_size _ rfl
 ·have e:b=(s.heap.push { cls:=.type "range",data:=.fields #[.int lo t,.int hi u,.int 1 v] }).objs.size:=by simpa using hb
  subst e;exact I1.fpOk (Nat.le_refl _) (I1.hok.fresh (Nat.le_refl _))
def ZqA (ta:TA):TI:=fun σ H R=>ta σ H fun vs H1=>∃j:Int,vs=[.int j]∧-(2 ^ 62)≤j∧j < 2 ^ 62∧R (Itr 0 j.toNat) H1
theorem Zbn {a:Expr} {ta:TA} {p pos:Pos} (hg:Gl X "range") (hm:X.mg "range" = none) (ha:PA X [a] ta) (hs:starEach [a] X.env=[(false,eval a X.env)]:=by rfl):PI X tg (.Call (.Name "range" p) [a] [] pos) (ZqA ta):=by
 intro pins s σ H R I h;refine Call_ (ZeV I hg hm boot_range (PyProof.Rows.callWith_type1 (thn (ha pos pins s σ H _ I h) fun us s1 ⟨vs,H1,I1,r1,q1⟩=>?_) hs rfl));obtain⟨j,e,q1,q2,q⟩:=q1;subst e
 cases r1 with
 | cons r rr=>
  cases rr
  obtain⟨t,rfl⟩:=r;exact call_range_1 (Zo8 I1 (by omega) (by omega) q1 q2 (by simpa using q))
def tFor (wi:TI) (g:TG) (tb:TS):TS:=fun D σ H=>wi σ H fun J H1=>∃W:Nat→Nat→St→Hp→Prop,(∃m,W 0 m σ H1)∧∀i m σ H,W i m σ H→
 (J.stop i H∧D.nx σ H)∨(J.go i H∧∃N:St→Hp→Prop,(∀σ' H',N σ' H'→∃m',m' < m∧W (i+1) m' σ' H')∧∀x H',J.yld i H x H'→g x σ H' fun σ2 H2=>tb { D with nx:=N,ct:=N,bk:=D.nx } σ2 H2)
def Zjf (fp:List Addr) (h:Heap):List (Addr×Obj):=fp.filterMap fun b=>(h.get? b).map fun o=>(b,o)
theorem Zel {fp:List Addr} {h:Heap} {b:Addr} {o:Obj} (hb:b∈fp) (e:h.get? b=some o):(b,o)∈Zjf fp h:=List.mem_filterMap.mpr ⟨b,hb,by rw[e]; rfl⟩
theorem Znn {fp:List Addr} {h:Heap} {p:Addr×Obj} (hp:p∈Zjf fp h):p.1∈fp∧h.get? p.1=some p.2:=by
 obtain⟨b,hb,e⟩:=List.mem_filterMap.mp hp
 cases q:h.get? b with
 | none=>rw[q]at e; cases e
 | some o=>
  rw[q]at e;have e':(b,o)=p:=Option.some.inj e;subst e';exact⟨hb,q⟩
theorem Inv.pinned {pins:List (Addr×Obj)} {σ:St} {H:Hp} {s:Shared} {fp:List Addr} (I:Inv X pins σ H s) (hf:∀b∈fp,FpOk X pins H b) (ho:∀b∈fp,∃o,s.heap.get? b=some o∧∀v,o.data≠.cell v):Inv X (pins++Zjf fp s.heap) σ H s:=
 I.pins_of fun p hp=>(List.mem_append.mp hp).elim (fun z=>I.pin p (List.mem_append_right _ z)) fun z=>by
  obtain⟨hb,e⟩:=Znn z;obtain⟨f0,f1,f2,_⟩:=hf p.1 hb;obtain⟨o,e',d⟩:=ho p.1 hb;rw[e]at e'; cases e';exact⟨e,f0,f1,f2,d⟩
theorem Inv.unpinned {pins pl:List (Addr×Obj)} {σ:St} {H:Hp} {s:Shared} (I:Inv X (pins++pl) σ H s):Inv X pins σ H s:=I.pins_of fun p hp=>I.pin p (List.mem_append_right _ (List.mem_append_left _ hp))
theorem Zb3 {iter:Expr} {body:List Stmt} {wi:TI} {g:TG} {tb:TS} {pos:Pos} (hp:PassesOwn (model X.prog X.w) X.A X.env X.xe) (hc:X.calm=true) (hi:PI X tg iter wi) (hg:PG X tg g) (hb:PSs X body tb)
  (hs:∀x,foldedSetIterable iter X.env x=pure x:=by intro _; rfl):PS X (.For tg iter body [] pos) (tFor wi g tb):=by
 intro pins s σ H D I h;refine wpAny_For (thn (hi pins s σ H _ I h) fun v s1 h1=>thn h1 fun itv s2 h2=>?_) hs;obtain⟨it,fp,tn,J,H2,e,I2,T,st2,f2,W,⟨m0,w0⟩,turn⟩:=h2;subst e;have stat:∀{H':Hp},(∀b∈fp,H' b=none)→∀b∈fp,FpOk X pins H' b:=fun hn b hb=>⟨hn b hb,(f2 b hb).2⟩;refine codeAny_forLoop_any (fun n s'=>∃i σ' H',Inv X pins σ' H' s'∧tn i s'.heap∧(∀b∈fp,H' b=none)∧W i n σ' H') ?_ m0 ⟨0,σ,H2,I2,st2,fun b hb=>(f2 b hb).1,w0⟩;rintro n s3 ⟨i,σ3,H3,I3,st3,fr3,w3⟩
 rcases turn i n σ3 H3 w3 with⟨stop,qn⟩ | ⟨go,N,hN,step⟩
 ·refine wpAny_passesOwn hp (thn (T.done X rfl rfl rfl hc i pins s3 σ3 H3 X.xe I3 (stat fr3) st3 stop) fun r s4 ⟨hr,I4⟩=>?_)
  subst hr;exact wpAny_execs_nil ⟨σ3,H3,I4,qn⟩
 ·refine wpAny_passesOwn hp (thn (T.item X rfl rfl rfl hc i pins s3 σ3 H3 X.xe I3 (stat fr3) st3 go) fun r s4 ⟨u,hr,h4⟩=>?_)
  subst hr;refine wpAny_passesOwn hp (thn h4 fun _ s5 ⟨x,H5,I5,r5,y5,st5,fr5⟩=>?_);have I5':=I5.pinned (stat fr5) (T.obj _ _ st5);refine wpAny_passesOwn hp (thn (hg _ s5 σ3 H5 x u _ I5' r5 (step x H5 y5)) fun _ s6 ⟨σ6,H6,I6,q6⟩=>?_);refine wpAny_passesOwn hp (thn (hb _ s6 σ6 H6 _ I6 q6) fun f s7 q7=>?_)
  have again:∀{σ7:St} {H7:Hp},Inv X (pins++Zjf fp s5.heap) σ7 H7 s7→N σ7 H7→∃m,m < n∧∃i σ' H',Inv X pins σ' H' s7∧tn i s7.heap∧(∀b∈fp,H' b=none)∧W i m σ' H':=fun {σ7 H7} I7 n7=>by
   obtain⟨m',hm,w7⟩:=hN σ7 H7 n7;refine⟨m',hm,i+1,σ7,H7,I7.unpinned,T.keep _ _ _ st5 fun b hb o e=>(I7.pin (b,o) (List.mem_append_right _ (List.mem_append_right _ (Zel hb e)))).1,fun b hb=>?_,w7⟩;obtain⟨o,e,d⟩:=T.obj _ _ st5 b hb;exact(I7.pin (b,o) (List.mem_append_right _ (List.mem_append_right _ (Zel hb e)))).2.1
  cases f with
  | next=>obtain⟨σ7,H7,I7,n7⟩:=q7; exact again I7 n7
  | cont=>obtain⟨σ7,H7,I7,n7⟩:=q7; exact again I7 n7
  | brk=>obtain⟨σ7,H7,I7,q7⟩:=q7; exact⟨σ7,H7,I7.unpinned,q7⟩
  | ret v=>obtain⟨x7,σ7,H7,I7,r7,q7⟩:=q7; exact⟨x7,σ7,H7,I7.unpinned,r7,q7⟩
end
theorem Zon {K:PySem.W.Frag} {a:Addr} {xs:List V} {g:TG} {tb:TS} {D:Ends} {σ:St} {H:Hp} (Pv:Nat→St→Hp→Prop) (h0:Pv 0 σ H) (hl:∀i σ H,i≤xs.length→Pv i σ H→SqL K H a xs)
  (hs:∀i x σ H,xs[i]?=some x→Pv i σ H→g x σ H fun σ2 H2=>tb { D with nx:=Pv (i+1),ct:=Pv (i+1),bk:=D.nx } σ2 H2) (hd:∀σ H,Pv xs.length σ H→D.nx σ H) :
  ∃W:Nat→Nat→St→Hp→Prop,(∃m,W 0 m σ H)∧∀i m σ H,W i m σ H→
   ((Itl K a).stop i H∧D.nx σ H)∨((Itl K a).go i H∧∃N:St→Hp→Prop,(∀σ' H',N σ' H'→∃m',m' < m∧W (i+1) m' σ' H')∧∀x H',(Itl K a).yld i H x H'→g x σ H' fun σ2 H2=>tb { D with nx:=N,ct:=N,bk:=D.nx } σ2 H2):=by
 refine⟨fun i m σ H=>m=xs.length - i∧i≤xs.length∧Pv i σ H,⟨xs.length,by simp,Nat.zero_le _,h0⟩,?_⟩;rintro i m σ H ⟨rfl,hi,p⟩;have q:=hl i σ H hi p
 by_cases hlt:i < xs.length
 ·refine .inr ⟨⟨xs,xs[i],q,by simp[hlt]⟩,Pv (i+1),fun σ' H' p'=>⟨xs.length - (i+1),by omega,rfl,hlt,p'⟩,fun x H' y=>?_⟩
  obtain⟨e,y⟩:=y;subst e;exact hs i x σ _ (y xs q) p
 ·have e:i=xs.length:=by omega
  subst e;exact .inl ⟨⟨xs,q,Nat.le_refl _⟩,hd σ H p⟩
theorem Zqv {K:PySem.W.Frag} {a:Addr} {xs:List V} {g:TG} {tb:TS} {D:Ends} {σ:St} {H:Hp} (Pv:Nat→St→Hp→Prop) (h0:Pv 0 σ H) (hl:∀i σ H,i≤xs.length→Pv i σ H→SqT K H a xs)
  (hs:∀i x σ H,xs[i]?=some x→Pv i σ H→g x σ H fun σ2 H2=>tb { D with nx:=Pv (i+1),ct:=Pv (i+1),bk:=D.nx } σ2 H2) (hd:∀σ H,Pv xs.length σ H→D.nx σ H) :
  ∃W:Nat→Nat→St→Hp→Prop,(∃m,W 0 m σ H)∧∀i m σ H,W i m σ H→
   ((Itt K a).stop i H∧D.nx σ H)∨((Itt K a).go i H∧∃N:St→Hp→Prop,(∀σ' H',N σ' H'→∃m',m' < m∧W (i+1) m' σ' H')∧∀x H',(Itt K a).yld i H x H'→g x σ H' fun σ2 H2=>tb { D with nx:=N,ct:=N,bk:=D.nx } σ2 H2):=by
 refine⟨fun i m σ H=>m=xs.length - i∧i≤xs.length∧Pv i σ H,⟨xs.length,by simp,Nat.zero_le _,h0⟩,?_⟩;rintro i m σ H ⟨rfl,hi,p⟩;have q:=hl i σ H hi p
 by_cases hlt:i < xs.length
 ·refine .inr ⟨⟨xs,xs[i],q,by simp[hlt]⟩,Pv (i+1),fun σ' H' p'=>⟨xs.length - (i+1),by omega,rfl,hlt,p'⟩,fun x H' y=>?_⟩
  obtain⟨e,y⟩:=y;subst e;exact hs i x σ _ (y xs q) p
 ·have e:i=xs.length:=by omega
  subst e;exact .inl ⟨⟨xs,q,Nat.le_refl _⟩,hd σ H p⟩
theorem ZmF {lo:Int} {n:Nat} {g:TG} {tb:TS} {D:Ends} {σ:St} {H:Hp} (Pv:Nat→St→Hp→Prop) (h0:Pv 0 σ H)
  (hs:∀i σ H,i < n→Pv i σ H→g (.int (lo+i)) σ H fun σ2 H2=>tb { D with nx:=Pv (i+1),ct:=Pv (i+1),bk:=D.nx } σ2 H2) (hd:∀σ H,Pv n σ H→D.nx σ H) :
  ∃W:Nat→Nat→St→Hp→Prop,(∃m,W 0 m σ H)∧∀i m σ H,W i m σ H→
   ((Itr lo n).stop i H∧D.nx σ H)∨((Itr lo n).go i H∧∃N:St→Hp→Prop,(∀σ' H',N σ' H'→∃m',m' < m∧W (i+1) m' σ' H')∧∀x H',(Itr lo n).yld i H x H'→g x σ H' fun σ2 H2=>tb { D with nx:=N,ct:=N,bk:=D.nx } σ2 H2):=by
 refine⟨fun i m σ H=>m=n - i∧i≤n∧Pv i σ H,⟨n,by simp,Nat.zero_le _,h0⟩,?_⟩;rintro i m σ H ⟨rfl,hi,p⟩
 by_cases hlt:i < n
 ·refine .inr ⟨hlt,Pv (i+1),fun σ' H' p'=>⟨n - (i+1),by omega,rfl,hlt,p'⟩,fun x H' y=>?_⟩
  obtain⟨e,y⟩:=y;subst e y;exact hs i σ _ hlt p
 ·have e:i=n:=by omega
  subst e;exact .inl ⟨Nat.le_refl _,hd σ H p⟩
end L2
namespace L2
open PySem PySem.Spec PyProof.Rows
abbrev R2:=V→V→Hp→VK→Prop
def OpR (X:Cx) (f:Value→Value→Sem Value) (r:R2):Prop:=
 ∀(pins:List (Addr×Obj)) (s:Shared) (σ:St) (H:Hp) (x y:V) (v u:Value) (Q:VK),Inv X pins σ H s→RelV x v→RelV y u→r x y H Q→
  wpAny (model X.prog X.w) X.A (f v u) (EP X pins σ Q) X.xe s
def UnR (X:Cx) (f:Value→Sem Value) (r:V→Hp→VK→Prop):Prop:=
 ∀(pins:List (Addr×Obj)) (s:Shared) (σ:St) (H:Hp) (x:V) (v:Value) (Q:VK),Inv X pins σ H s→RelV x v→r x H Q→
  wpAny (model X.prog X.w) X.A (f v) (EP X pins σ Q) X.xe s
def Zgf (X:Cx) (f:Value) (r:List V→Hp→VK→Prop):Prop:=
 ∀(pins:List (Addr×Obj)) (s:Shared) (σ:St) (H:Hp) (xs:List V) (us:List Value) (Q:VK),Inv X pins σ H s→Vals xs us→r xs H Q→
  wpAny (model X.prog X.w) X.A (call f us) (EP X pins σ Q) X.xe s
def TruR (X:Cx) (r:V→Hp→(Bool→Hp→Prop)→Prop):Prop:=
 ∀(pins:List (Addr×Obj)) (s:Shared) (σ:St) (H:Hp) (x:V) (v:Value) (Q:Bool→Hp→Prop),Inv X pins σ H s→RelV x v→r x H Q→
  wpAny (model X.prog X.w) X.A (truthy v) (TP X pins σ Q) X.xe s
def tOp (r:R2) (ta tb:TE):TE:=fun σ H Q=>ta σ H fun x H1=>tb σ H1 fun y H2=>r x y H2 Q
def tUn (r:V→Hp→VK→Prop) (ta:TE):TE:=fun σ H Q=>ta σ H fun x H1=>r x H1 Q
def rI (C:Int→Int→Prop) (g:Int→Int→V):R2:=fun x y H Q=>∃i j,x=.int i∧y=.int j∧C i j∧Q (g i j) H
def rI0 (g:Int→Int→V):R2:=fun x y H Q=>∃i j,x=.int i∧y=.int j∧Q (g i j) H
def rU (g:Int→V):V→Hp→VK→Prop:=fun x H Q=>∃i,x=.int i∧Q (g i) H
section
variable {X:Cx} {a b c:Expr} {ta tb tc:TE} {pos:Pos}
theorem binT (ha:PE X a ta) (hb:PE X b tb) {pins:List (Addr×Obj)} {s:Shared} {σ:St} {H:Hp} {R:V→V→Hp→Prop} (I:Inv X pins σ H s)
  (h:ta σ H fun x H1=>tb σ H1 fun y H2=>R x y H2) {Q:Value→Shared→Prop} {f:Value→Value→Sem Value}
  (hf:∀v u s2 x y H2,Inv X pins σ H2 s2→RelV x v→RelV y u→R x y H2→wpAny (model X.prog X.w) X.A (f v u) Q X.xe s2) :
  wpAny (model X.prog X.w) X.A (eval a X.env) (fun v s₁=>wpAny (model X.prog X.w) X.A (eval b X.env) (fun u s₂=>wpAny (model X.prog X.w) X.A (f v u) Q X.xe s₂) X.xe s₁) X.xe s:=by
 refine thn (ha pins s σ H _ I h) fun v s1 ⟨x,H1,I1,r1,q1⟩=>?_;refine thn (hb pins s1 σ H1 _ I1 q1) fun u s2 ⟨y,H2,I2,r2,q2⟩=>?_;exact hf v u s2 x y H2 I2 r1 r2 q2
theorem Zah {op:Operator} {r:R2} (ho:OpR X (binaryOp op) r) (ha:PE X a ta) (hb:PE X b tb):PE X (.BinOp a op b pos) (tOp r ta tb):=by
 intro pins s σ H Q I h;exact wpAny_BinOp (binT ha hb I h fun v u s2 x y H2 I2 rx ry q=>ho pins s2 σ H2 x y v u Q I2 rx ry q)
theorem Zjd {op:UnaryOp} {r:V→Hp→VK→Prop} (ho:UnR X (unaryOp op) r) (ha:PE X a ta):PE X (.UnaryOp op a pos) (tUn r ta):=by
 intro pins s σ H Q I h;exact UnaryOp_ (thn (ha pins s σ H _ I h) fun v s1 ⟨x,H1,I1,r1,q1⟩=>ho pins s1 σ H1 x v Q I1 r1 q1)
theorem opI {f:Value→Value→Sem Value} {C:Int→Int→Prop} {g:Int→Int→Int}
  (rule:∀(i j:Int) (t u:Tok) (s:Shared) (Q:Value→Shared→Prop) (E:Value→Shared→Prop),C i j→Q (.int (g i j) s.toks) { s with toks:=s.toks+1 }→wpAny (model X.prog X.w) X.A (f (.int i t) (.int j u)) Q E s) :
  OpR X f (rI C fun i j=>.int (g i j)):=by
 intro pins s σ H x y v u Q I rx ry h;obtain⟨i,j,rfl,rfl,hc,q⟩:=h;obtain⟨t,rfl⟩:=rx;obtain⟨t',rfl⟩:=ry;exact rule i j t t' s _ _ hc ⟨.int (g i j),H,I.tok _,⟨_,rfl⟩,q⟩
theorem opI0 {f:Value→Value→Sem Value} {g:Int→Int→Int}
  (rule:∀(i j:Int) (t u:Tok) (s:Shared) (Q:Value→Shared→Prop) (E:Value→Shared→Prop),Q (.int (g i j) s.toks) { s with toks:=s.toks+1 }→wpAny (model X.prog X.w) X.A (f (.int i t) (.int j u)) Q E s) :
  OpR X f (rI0 fun i j=>.int (g i j)):=by
 intro pins s σ H x y v u Q I rx ry h;obtain⟨i,j,rfl,rfl,q⟩:=h;obtain⟨t,rfl⟩:=rx;obtain⟨t',rfl⟩:=ry;exact rule i j t t' s _ _ ⟨.int (g i j),H,I.tok _,⟨_,rfl⟩,q⟩
theorem opB0 {f:Value→Value→Sem Value} {g:Int→Int→Bool}
  (rule:∀(i j:Int) (t u:Tok) (s:Shared) (Q:Value→Shared→Prop) (E:Value→Shared→Prop),Q (.bool (g i j)) s→wpAny (model X.prog X.w) X.A (f (.int i t) (.int j u)) Q E s) :
  OpR X f (rI0 fun i j=>.bl (g i j)):=by
 intro pins s σ H x y v u Q I rx ry h;obtain⟨i,j,rfl,rfl,q⟩:=h;obtain⟨t,rfl⟩:=rx;obtain⟨t',rfl⟩:=ry;exact rule i j t t' s _ _ ⟨.bl (g i j),H,I,rfl,q⟩
def CPow (i j:Int):Prop:=0≤j∧j≤1000000∧i.natAbs < 2 ^ 64
theorem ZlV (k:Nat):(0:Int)≤2 ^ k:=by
 rw[two_pow_cast];exact Int.natCast_nonneg _
theorem Zsv:OpR X (binaryOp .Add) (rI0 fun i j=>.int (i+j)):=opI0 fun _ _ _ _ _ _ _ q=>add_int q
theorem ZhL:OpR X (binaryOp .Sub) (rI0 fun i j=>.int (i - j)):=opI0 fun _ _ _ _ _ _ _ q=>sub_int q
theorem ZbE:OpR X (binaryOp .Mod) (rI (fun _ j=>0 < j) fun i j=>.int (i % j)):=opI fun i j _ _ _ _ _ hc q=>by
 have h1:(0:Int) < j:=hc;exact mod_int' (by omega) (by rw[Int.fmod_eq_emod_of_nonneg i (by omega)]; exact q)
theorem ZbX:OpR X (binaryOp .LShift) (rI CPow fun i j=>.int (i * 2 ^ j.toNat)):=opI fun _ _ _ _ _ _ _ hc q=>lshift_int_small hc.1 hc.2.1 hc.2.2 q
theorem Zd5:OpR X (binaryOp .RShift) (rI (fun _ j=>0≤j) fun i j=>.int (i / 2 ^ j.toNat)):=opI fun i j _ _ _ _ _ hc q=>
 rshift_int hc (by rw[Int.fdiv_eq_ediv_of_nonneg i (ZlV _)]; exact q)
theorem ZaG:OpR X (binaryOp .BitAnd) (rI0 fun i j=>.int (Builtin.bitAnd i j)):=opI0 fun _ _ _ _ _ _ _ q=>and_int q
theorem Zft:OpR X (binaryOp .BitOr) (rI0 fun i j=>.int (Builtin.bitOr i j)):=opI0 fun _ _ _ _ _ _ _ q=>or_int q
theorem unI {f:Value→Sem Value} {g:Int→Int}
  (rule:∀(i:Int) (t:Tok) (s:Shared) (Q:Value→Shared→Prop) (E:Value→Shared→Prop),Q (.int (g i) s.toks) { s with toks:=s.toks+1 }→wpAny (model X.prog X.w) X.A (f (.int i t)) Q E s) :
  UnR X f (rU fun i=>.int (g i)):=by
 intro pins s σ H x v Q I rx h;obtain⟨i,rfl,q⟩:=h;obtain⟨t,rfl⟩:=rx;exact rule i t s _ _ ⟨.int (g i),H,I.tok _,⟨_,rfl⟩,q⟩
theorem Zs7:UnR X (unaryOp .USub) (rU fun i=>.int (-i)):=unI fun _ _ _ _ _ q=>neg_int q
theorem Zg2:UnR X (unaryOp .Invert) (rU fun i=>.int (Builtin.bitNot i)):=unI fun _ _ _ _ _ q=>invert_int q
end
def scal:V→V→Bool
 | .non,.non=>true | .non,.int _=>true | .int _,.non=>true | .non,.bl _=>true | .bl _,.non=>true | .non,.str _=>true | .str _,.non=>true
 | .int _,.int _=>true | .bl _,.bl _=>true | .str _,.str _=>true | .byt _,.byt _=>true
 | .int _,.str _=>true | .str _,.int _=>true | .bl _,.str _=>true | .str _,.bl _=>true
 | _,_=>false
def rEq:R2:=fun x y H Q=>scal x y=true∧Q (.bl (decide (x=y))) H
def rNe:R2:=fun x y H Q=>scal x y=true∧Q (.bl (!decide (x=y))) H
theorem Zmv {i j:Int}:decide (V.int i=V.int j)=(i == j):=by
 rw[Bool.eq_iff_iff];simp
theorem Zpy {i j:Bool}:decide (V.bl i=V.bl j)=(i == j):=by
 rw[Bool.eq_iff_iff];simp
theorem Zmw {i j:Str}:decide (V.str i=V.str j)=(i == j):=by
 rw[Bool.eq_iff_iff];simp
theorem Zmu {i j:Array UInt8}:decide (V.byt i=V.byt j)=(i.toList == j.toList):=by
 rw[Bool.eq_iff_iff]
 cases i
 cases j
 simp
section
variable {X:Cx} {a b c:Expr} {ta tb tc:TE} {pos:Pos}
theorem ZaJ {pins:List (Addr×Obj)} {σ:St} {H:Hp} {s:Shared} {Q:VK} {k k':Bool} (I:Inv X pins σ H s) (q:Q (.bl k) H) (e:k=k'):EP X pins σ Q (.bool k') s:=by
 subst e;exact⟨.bl k,H,I,rfl,q⟩
theorem Ztl:OpR X (compareOp .Eq) rEq:=by
 intro pins s σ H x y v u Q I rx ry h;obtain⟨hs,q⟩:=h
 cases x with
 | non=>
  cases rx
  cases y with
  | non=>cases ry; exact PySem.EqNone.eq_none_none (ZaJ I q (by simp))
  | bl j=>cases ry; exact PySem.EqNone.eq_none_bool (ZaJ I q (by simp))
  | int j=>obtain⟨t',rfl⟩:=ry; exact PySem.EqNone.eq_none_int (ZaJ I q (by simp))
  | str j=>obtain⟨t',rfl⟩:=ry; exact PySem.EqNone.eq_none_str (ZaJ I q (by simp))
  | _=>exact absurd (show false=true from hs) Bool.false_ne_true
 | bl i=>
  cases rx
  cases y with
  | non=>cases ry; exact PySem.EqNone.eq_bool_none (ZaJ I q (by simp))
  | bl j=>cases ry; exact eq_bool (ZaJ I q Zpy)
  | str j=>obtain⟨t',rfl⟩:=ry; exact PySem.EqMixed.eq_bool_str (ZaJ I q (by simp))
  | _=>exact absurd (show false=true from hs) Bool.false_ne_true
 | int i=>
  obtain⟨t,rfl⟩:=rx
  cases y with
  | non=>cases ry; exact PySem.EqNone.eq_int_none (ZaJ I q (by simp))
  | int j=>obtain⟨t',rfl⟩:=ry; exact eq_int (ZaJ I q Zmv)
  | str j=>obtain⟨t',rfl⟩:=ry; exact PySem.EqMixed.eq_int_str (ZaJ I q (by simp))
  | _=>exact absurd (show false=true from hs) Bool.false_ne_true
 | str i=>
  obtain⟨t,rfl⟩:=rx
  cases y with
  | non=>cases ry; exact PySem.EqNone.eq_str_none (ZaJ I q (by simp))
  | bl j=>cases ry; exact PySem.EqMixed.eq_str_bool (ZaJ I q (by simp))
  | int j=>obtain⟨t',rfl⟩:=ry; exact PySem.EqMixed.eq_str_int (ZaJ I q (by simp))
  | str j=>obtain⟨t',rfl⟩:=ry; exact eq_str (ZaJ I q Zmw)
  | _=>exact absurd (show false=true from hs) Bool.false_ne_true
 | byt i=>
  obtain⟨t,rfl⟩:=rx
  cases y with
  | byt j=>obtain⟨t',rfl⟩:=ry; exact PySem.W.eq_bytes (ZaJ I q Zmu)
  | _=>exact absurd (show false=true from hs) Bool.false_ne_true
 | _=>cases y <;> exact absurd (show false=true from hs) Bool.false_ne_true
theorem Ztm:OpR X (compareOp .NotEq) rNe:=by
 intro pins s σ H x y v u Q I rx ry h;obtain⟨hs,q⟩:=h
 cases x with
 | non=>
  cases rx
  cases y with
  | non=>cases ry; exact PySem.EqNone.ne_none_none (ZaJ I q (by simp))
  | bl j=>cases ry; exact PySem.EqNone.ne_none_bool (ZaJ I q (by simp))
  | int j=>obtain⟨t',rfl⟩:=ry; exact PySem.EqNone.ne_none_int (ZaJ I q (by simp))
  | str j=>obtain⟨t',rfl⟩:=ry; exact PySem.EqNone.ne_none_str (ZaJ I q (by simp))
  | _=>exact absurd (show false=true from hs) Bool.false_ne_true
 | bl i=>
  cases rx
  cases y with
  | non=>cases ry; exact PySem.EqNone.ne_bool_none (ZaJ I q (by simp))
  | bl j=>cases ry; exact ne_bool (ZaJ I q (congrArg not Zpy))
  | str j=>obtain⟨t',rfl⟩:=ry; exact PySem.EqMixed.ne_bool_str (ZaJ I q (by simp))
  | _=>exact absurd (show false=true from hs) Bool.false_ne_true
 | int i=>
  obtain⟨t,rfl⟩:=rx
  cases y with
  | non=>cases ry; exact PySem.EqNone.ne_int_none (ZaJ I q (by simp))
  | int j=>obtain⟨t',rfl⟩:=ry; exact ne_int (ZaJ I q (congrArg not Zmv))
  | str j=>obtain⟨t',rfl⟩:=ry; exact PySem.EqMixed.ne_int_str (ZaJ I q (by simp))
  | _=>exact absurd (show false=true from hs) Bool.false_ne_true
 | str i=>
  obtain⟨t,rfl⟩:=rx
  cases y with
  | non=>cases ry; exact PySem.EqNone.ne_str_none (ZaJ I q (by simp))
  | bl j=>cases ry; exact PySem.EqMixed.ne_str_bool (ZaJ I q (by simp))
  | int j=>obtain⟨t',rfl⟩:=ry; exact PySem.EqMixed.ne_str_int (ZaJ I q (by simp))
  | str j=>obtain⟨t',rfl⟩:=ry; exact ne_str (ZaJ I q (congrArg not Zmw))
  | _=>exact absurd (show false=true from hs) Bool.false_ne_true
 | byt i=>
  obtain⟨t,rfl⟩:=rx
  cases y with
  | byt j=>obtain⟨t',rfl⟩:=ry; exact PySem.W.ne_bytes (ZaJ I q (congrArg not Zmu))
  | _=>exact absurd (show false=true from hs) Bool.false_ne_true
 | _=>cases y <;> exact absurd (show false=true from hs) Bool.false_ne_true
theorem ZsA:OpR X (compareOp .Lt) (rI0 fun i j=>.bl (decide (i < j))):=opB0 fun _ _ _ _ _ _ _ q=>lt_int q
theorem Zsz:OpR X (compareOp .LtE) (rI0 fun i j=>.bl (decide (i≤j))):=opB0 fun _ _ _ _ _ _ _ q=>le_int q
theorem Zq7:OpR X (compareOp .Gt) (rI0 fun i j=>.bl (decide (j < i))):=opB0 fun _ _ _ _ _ _ _ q=>gt_int q
theorem Zno:OpR X (compareOp .Is) (fun x y H Q=>y=.non∧Q (.bl (decide (x=.non))) H):=by
 intro pins s σ H x y v u Q I rx ry h;obtain⟨rfl,q⟩:=h
 cases ry
 refine is_none_gen (ZaJ I q ?_)
 cases x <;> first
  | (cases rx; rfl)
  | (obtain⟨t,rfl⟩:=rx; rfl)
theorem Zq8:OpR X (compareOp .IsNot) (fun x y H Q=>y=.non∧Q (.bl (!decide (x=.non))) H):=by
 intro pins s σ H x y v u Q I rx ry h;obtain⟨rfl,q⟩:=h
 cases ry
 refine isnot_none_gen (ZaJ I q ?_)
 cases x <;> first
  | (cases rx; rfl)
  | (obtain⟨t,rfl⟩:=rx; rfl)
theorem OpR.or {f:Value→Value→Sem Value} {r r':R2} (h:OpR X f r) (h':OpR X f r'):OpR X f (fun x y H Q=>r x y H Q∨r' x y H Q):=by
 intro pins s σ H x y v u Q I rx ry q
 rcases q with q | q
 ·exact h pins s σ H x y v u Q I rx ry q
 ·exact h' pins s σ H x y v u Q I rx ry q
theorem Zaw (b:Expr) {op:CmpOp} (h:op≠.In:=by decide) (h2:op≠.NotIn:=by decide):behindInMarks op b=false:=by
 have e1:(op == CmpOp.In)=false:=by cases op <;> first | rfl | exact absurd rfl h
 have e2:(op == CmpOp.NotIn)=false:=by cases op <;> first | rfl | exact absurd rfl h2
 cases b <;> simp[behindInMarks,e1,e2]
theorem Zj6 {op:CmpOp} {r:R2} (ho:OpR X (compareOp op) r) (ha:PE X a ta) (hb:PE X b tb) (hm:behindInMarks op b=false):PE X (.Compare a [op] [b] pos) (tOp r ta tb):=by
 intro pins s σ H Q I h;exact wpAny_Compare1 (binT ha hb I h fun v u s2 x y H2 I2 rx ry q=>ho pins s2 σ H2 x y v u Q I2 rx ry q) hm
def Zs5 (t:TE):TT:=fun σ H Q=>t σ H fun x H'=>∃k,x=.bl k∧Q k H'
theorem Zal {op:CmpOp} {r:R2} (ho:OpR X (compareOp op) r) (ha:PE X a ta) (hb:PE X b tb) (hm:behindInMarks op b=false):PT X (.Compare a [op] [b] pos) (Zs5 (tOp r ta tb)):=by
 intro pins s σ H Q I h
 refine wpAny_isTrue_Compare1 (thn (ha pins s σ H _ I h) fun v s1 ⟨x,H1,I1,r1,q1⟩=>thn (hb pins s1 σ H1 _ I1 q1) fun u s2 ⟨y,H2,I2,r2,q2⟩=>
  thn (ho pins s2 σ H2 x y v u _ I2 r1 r2 q2) fun c s3 ⟨z,H3,I3,r3,k,e,q3⟩=>?_) hm
 subst e
 cases r3
 exact wpAny_truthy_bool ⟨H3,I3,q3⟩
def Zqd (r r':R2) (ta tb tc:TE):TE:=fun σ H Q=>ta σ H fun x H1=>tb σ H1 fun y H2=>r x y H2 fun z H3=>∃k,z=.bl k∧
 (if k=true then tc σ H3 fun w' H4=>r' y w' H4 Q else Q (.bl false) H3)
theorem ZoU {op op':CmpOp} {r r':R2} (ho:OpR X (compareOp op) r) (ho':OpR X (compareOp op') r') (ha:PE X a ta) (hb:PE X b tb) (hc:PE X c tc)
  (hm:lastMarks [op,op'] [b,c]=false:=by with_unfolding_all rfl):PE X (.Compare a [op,op'] [b,c] pos) (Zqd r r' ta tb tc):=by
 intro pins s σ H Q I h
 refine Compare_chain (thn (ha pins s σ H _ I h) fun v s1 ⟨x,H1,I1,r1,q1⟩=>chain_link (thn (hb pins s1 σ H1 _ I1 q1) fun u s2 ⟨y,H2,I2,r2,q2⟩=>
  thn (ho pins s2 σ H2 x y v u _ I2 r1 r2 q2) fun d s3 ⟨z,H3,I3,r3,k,e,q3⟩=>?_)) hm
 subst e
 cases r3
 refine wpAny_truthy_bool ?_
 cases k with
 | false=>exact ite_ff ⟨.bl false,H3,I3,rfl,q3⟩
 | true=>exact ite_tt (chain_last (thn (hc pins s3 σ H3 _ I3 q3) fun w' s4 ⟨z',H4,I4,r4,q4⟩=>ho' pins s4 σ H4 y z' u w' Q I4 r2 r4 q4))
def TruV (K:PySem.W.Frag) (x:V) (H:Hp) (k:Bool):Prop:=
 match x with
 | .non=>k=false
 | .bl b=>k=b
 | .int i=>k=(i != 0)
 | .str y=>y.length≤sizeLine∧k=((y.length:Int) != 0)
 | .byt y=>y.size≤sizeLine∧k=((y.size:Int) != 0)
 | .ref p=>(∃xs,SqL K H p xs∧k = !xs.isEmpty)∨(∃xs,SqT K H p xs∧k = !xs.isEmpty)∨∃kvs,H p=some (.dK kvs)∧k = !kvs.isEmpty
 | _=>False
theorem Zlz {κ:Type} {kvs:List (κ×V)} {vs:List (κ×Value)} (r:KV kvs vs):(!vs.isEmpty) = !kvs.isEmpty:=by
 cases r <;> rfl
theorem ZhA {xs:List V} {its:List Value} (r:Vals xs its):(!its.toArray.isEmpty) = !xs.isEmpty:=by
 cases r <;> simp
theorem ZhB:(sizeLine:Nat) < 2 ^ 63:=by rw[sizeLine_eq]; decide
theorem Zqf:TruR X (fun x H Q=>∃k,TruV X.K x H k∧Q k H):=by
 intro pins s σ H x v Q I rx h;obtain⟨k,e,q⟩:=h;have hl:=ZhB;have hs:sizeLine=16777216:=sizeLine_eq
 cases x with
 | non=>
  cases rx
  have e':k=false:=e;subst e';exact truthy_none ⟨H,I,q⟩
 | bl b=>
  cases rx
  have e':k=b:=e;subst e';exact wpAny_truthy_bool ⟨H,I,q⟩
 | int i=>
  obtain⟨t,rfl⟩:=rx;have e':k=(i != 0):=e;subst e';exact PySem.P.truthy_int ⟨H,I,q⟩
 | str y=>
  obtain⟨t,rfl⟩:=rx;obtain⟨hy,e'⟩ : y.length≤sizeLine∧k=((y.length:Int) != 0):=e;subst e';exact PySem.P.truthy_str (by omega) ⟨H,I.tok _,q⟩
 | byt y=>
  obtain⟨t,rfl⟩:=rx;obtain⟨hy,e'⟩ : y.size≤sizeLine∧k=((y.size:Int) != 0):=e;subst e';exact PySem.W.truthy_bytes (by omega) ⟨H,I.tok _,q⟩
 | ref p=>
  cases rx
  have e':(∃xs,SqL X.K H p xs∧k = !xs.isEmpty)∨(∃xs,SqT X.K H p xs∧k = !xs.isEmpty)∨∃kvs,H p=some (.dK kvs)∧k = !kvs.isEmpty:=e
  rcases e' with⟨xs,hx,e'⟩ | ⟨xs,hx,e'⟩ | ⟨kvs,hx,e'⟩
  ·subst e'
   obtain⟨its,r,pl,hz⟩:=I.list hx;have hlen:=r.length;exact wpAny_truthy_list pl.isList (by simp only [List.size_toArray]; omega) ⟨H,I.tok _,by rw[ZhA r]; exact q⟩
  ·subst e'
   obtain⟨its,r,pl,hz⟩:=I.tuple hx;have hlen:=r.length;exact truthy_tuple pl (by simp only [List.size_toArray]; omega) ⟨H,I.tok _,by rw[ZhA r]; exact q⟩
  ·subst e'
   obtain⟨hz,hS,vs,r,m⟩ : kvs.length≤sizeLine∧(p == sysModules)=false∧∃vs,KV kvs vs∧s.heap.DictOf (ZjZ X.prog X.w) p vs:=I.hok p _ hx;have hlen:kvs.length=vs.length:=Paired.length r;exact wpAny_truthy_dict hS m (by omega) ⟨H,I.tok _,by rw[Zlz r]; exact q⟩
 | _=>exact(show False from e).elim
theorem Zan (ha:PE X a ta) (he:∀whole,isTrue a X.env whole=(do let v ←whole; standAt a.pos; holding [v] (truthy v))) :
  PT X a (fun σ H Q=>ta σ H fun x H'=>∃k,TruV X.K x H' k∧Q k H'):=by
 intro pins s σ H Q I h;exact isTrue_plain (thn (ha pins s σ H _ I h) fun v s1 ⟨x,H1,I1,r1,q1⟩=>Zqf pins s1 σ H1 x v Q I1 r1 q1) (he _)
theorem ZlN:OpR X (binaryOp .Add) (fun x y H Q=>∃i j,x=.str i∧y=.str j∧i.length+j.length≤sizeLine∧Q (.str (i++j)) H):=by
 intro pins s σ H x y v u Q I rx ry h;obtain⟨i,j,rfl,rfl,hz,q⟩:=h;obtain⟨t,rfl⟩:=rx;obtain⟨t',rfl⟩:=ry;exact add_str (fun t' tk=>⟨.str (i++j),H,I.tok _,⟨_,rfl⟩,q⟩) hz
theorem Zko {x:V} {us:List Value} (r:Vals [x] us):∃u,us=[u]∧RelV x u:=by
 cases r with
 | cons r1 r2=>cases r2; exact⟨_,rfl,r1⟩
theorem Zn7 {x y:V} {us:List Value} (r:Vals [x,y] us):∃u w',us=[u,w']∧RelV x u∧RelV y w':=by
 cases r with
 | cons r1 r2=>
  cases r2 with
  | cons r3 r4=>cases r4; exact⟨_,_,rfl,r1,r3⟩
def LenV (K:PySem.W.Frag) (x:V) (H:Hp) (n:Nat):Prop:=
 match x with
 | .str y=>y.length≤sizeLine∧n=y.length
 | .byt y=>y.size≤sizeLine∧n=y.size
 | .ref p=>(∃xs,SqL K H p xs∧n=xs.length)∨∃xs,SqT K H p xs∧n=xs.length
 | _=>False
theorem Zoi:Zgf X (.builtin "len") (fun xs H Q=>∃x n,xs=[x]∧LenV X.K x H n∧Q (.int n) H):=by
 intro pins s σ H xs us Q I r h;obtain⟨x,n,rfl,e,q⟩:=h;obtain⟨u,rfl,rx⟩:=Zko r;have hl:=ZhB;have hs:sizeLine=16777216:=sizeLine_eq
 cases x with
 | str y=>
  obtain⟨t,rfl⟩:=rx;obtain⟨hy,e'⟩ : y.length≤sizeLine∧n=y.length:=e;subst e';exact len_str (by omega) ⟨.int _,H,I.tok _,⟨_,rfl⟩,q⟩
 | byt y=>
  obtain⟨t,rfl⟩:=rx;obtain⟨hy,e'⟩ : y.size≤sizeLine∧n=y.size:=e;subst e';exact PySem.W.len_bytes (by omega) ⟨.int _,H,I.tok _,⟨_,rfl⟩,q⟩
 | ref p=>
  cases rx
  have e':(∃xs,SqL X.K H p xs∧n=xs.length)∨∃xs,SqT X.K H p xs∧n=xs.length:=e
  rcases e' with⟨xs,hx,e'⟩ | ⟨xs,hx,e'⟩
  ·subst e'
   obtain⟨its,r',pl,hz⟩:=I.list hx;have hlen:=r'.length;exact Calls.call_len_list pl.isList (by simp only [List.size_toArray]; omega) ⟨.int xs.length,H,I.tok _,⟨_,by simp only [List.size_toArray]; rw[hlen]⟩,q⟩
  ·subst e'
   obtain⟨its,r',pl,hz⟩:=I.tuple hx;have hlen:=r'.length;exact len_tuple pl (by simp only [List.size_toArray]; omega) ⟨.int xs.length,H,I.tok _,⟨_,by simp only [List.size_toArray]; rw[hlen]⟩,q⟩
 | _=>exact(show False from e).elim
end
end L2
namespace L2
open PySem PySem.Spec PyProof.Rows
structure ObjM (h:Heap) (x dx C:Addr) (mA:Str→Option Value):Prop where
 obj:h.get? x=some (PySem.W.instObj C dx)
 ns:h.Ns1 dx mA
 ne:dx≠x
theorem Znb {h:Heap} {dx:Addr} {mA:Str→Option Value} (n:h.Ns1 dx mA):∃od,h.get? dx=some od∧∀name,PySem.W.lookIn name od=some (mA name):=by
 obtain⟨o,es,ep,ho,hd,hk,_,hm⟩:=n;refine⟨o,ho,fun name=>?_⟩;have e:=hm name;unfold nsFind findBy at e;rw[←Array.find?_toList]at e;unfold PySem.W.lookIn;rw[hd]
 dsimp only
 split
 ·rename_i y q
  rw[q]at e;exact congrArg some e
 ·rename_i q
  rw[q]at e
  have a:es.toList.any (·.refKey)=false:=by
   rw[List.any_eq_false];intro y hy;obtain⟨z,t,hkey⟩:=hk y (Array.mem_toList_iff.mp hy);simp[DictEntry.refKey,hkey]
  have a' : ¬es.toList.any (·.refKey)=true:=by rw[a]; exact Bool.false_ne_true
  rw[if_neg a'];exact congrArg some e
theorem ObjM.look {h:Heap} {x dx C:Addr} {mA:Str→Option Value} (I:ObjM h x dx C mA):∃od,PySem.W.InstAt h x (PySem.W.instObj C dx) C (some od)∧∀name,PySem.W.lookIn name od=some (mA name):=
 let ⟨od,ho,hl⟩:=Znb I.ns
 ⟨od,⟨I.obj,rfl,rfl,ho⟩,hl⟩
section
variable {prog:Program} {w:World} {A:Around} {E:Value→Shared→Prop} {s:Shared} {K:PySem.W.Frag} {x dx C f:Addr} {mA:Str→Option Value} {name:Str} {v:Value}
theorem Zqz {expr:Bool} {Q:Value→Shared→Prop} (X:K.In s.heap) (I:ObjM s.heap x dx C mA) (hg:PySem.W.plainGet K C name=true) (hh:PySem.W.hasDictIn K C=true)
  (ha:PySem.W.findIn K (.ref C) name=some none) (hv:mA name=some v) (hv':PySem.W.handedIn v=true) (h:Q v { s with toks:=s.toks+1 }) :
  wpAny (model prog w) A (getAttr (.ref x) name expr) Q E s:=by
 obtain⟨od,J,hl⟩:=I.look;exact PySem.W.get_value X J (PySem.W.plainGet_of hg).1 (PySem.W.findObj_own hh ha rfl (by rw[hl,hv])) hv' h
theorem Zoq {pl:Sem Bool} {Q:Value×List Value→Shared→Prop} (X:K.In s.heap) (I:ObjM s.heap x dx C mA) (hg:PySem.W.plainGet K C name=true)
  (hf:PySem.W.findIn K (.ref C) name=some (some (.ref f))) (ht:PySem.W.isFn K (.ref f)=true) (hv:mA name=none) (h:Q (.ref f,[.ref x]) s) :
  wpAny (model prog w) A (getMethod (.ref x) name pl) Q E s:=by
 obtain⟨od,J,hl⟩:=I.look;exact PySem.W.method_fn X J (PySem.W.plainGet_of hg).1 (PySem.W.plainGet_of hg).2 hf (beq_iff_eq.mp ht) (by show(PySem.W.lookIn name od).map (·.isSome)=some false; rw[hl,hv]; rfl) h
theorem Zri {ns:List Str} {Q:Unit→Shared→Prop} (X:K.In s.heap) (I:ObjM s.heap x dx C mA)
  (hs:PySem.W.findIn K (.ref C) "__setattr__" = some (some (.builtin "object.__setattr__"))) (hp:PySem.W.plainOver K C=true) (ht:PySem.W.takerIn K C name=some none) (hh:PySem.W.hasDictIn K C=true)
  (hw:PySem.Within mA ns) (hsz:ns.length≤sizeLine)
  (h:∀h',ObjM h' x dx C (fun y=>if y=name then some v else mA y)→Heap.SameBut dx s.heap h'→Q () { s with heap:=h',toks:=s.toks+2 }) :
  wpAny (model prog w) A (setAttr (.ref x) name v) Q E s:=by
 obtain⟨od,J,hl⟩:=I.look;refine PySem.W.set_plain X J hs (PySem.W.osa_open (s:={ s with toks:=s.toks+1 }) (r:=none) X J hp ht fun b=>?_);obtain⟨cd,hc,hd'⟩:=PySem.W.any_some hh;have hx:s.heap.get? x=some ⟨.ref C,some dx,.plain,#[]⟩:=I.obj;refine wpAny_bind (wpAny_pure (wpAny_bind (wpAny_bind (wpAny_loadPart hx (wpAny_bind (PySem.W.Looks.here (s:={ s with toks:=s.toks+1 }) (PySem.W.looks_clsIn X hc) ?_))))));rw[hd'];refine wpAny_pure (a:=some dx) (wpAny_bind (wpAny_pure (wpAny_bind ?_)));refine wpAny_nsSet1 (s:={ s with toks:=s.toks+1 }) I.ns fun h' hn2 hs2=>?_;obtain⟨oD,esD,epD,hoD,hdD,hcD⟩:=hn2.count (PySem.Within.cons name v hw);refine wpAny_bind (wpAny_lookBehind hoD (by rw[hdD]; exact pastItsLine_dict (Nat.le_trans hcD (by rw[List.length_cons]; omega))) ?_);exact wpAny_pure (h _ ⟨(hs2.2 _ (Ne.symm I.ne)).trans I.obj,hn2,I.ne⟩ hs2)
theorem ZoM {R:Result→Shared→Prop} {vs:List Value} {kw:List (Str×Value)} (X:K.In s.heap) (hm:PySem.W.makesIn K C=true)
  (hi:PySem.W.findIn K (.ref C) "__init__" = some (some (.ref f))) (hf:PySem.W.typeIn K (.ref f)=some (.type "function"))
  (h:codeAny (model prog w) (A.under (.builtin "type.__call__" ⟨.ref C::vs,kw⟩)) (.call (.ref f) ⟨.ref (s.heap.objs.size+1)::vs,kw⟩) (PySem.W.InitBack (s.heap.objs.size+1) R)
   { s with heap:=(s.heap.push PySem.W.emptyDict).push (PySem.W.instObj C s.heap.objs.size) }) :
  codeAny (model prog w) A (.call (.ref C) ⟨vs,kw⟩) R s:=by
 obtain⟨hh,g,d,t,os⟩:=s;exact PySem.W.make_core (PySem.W.makes_of X hm) (PySem.W.looks_findIn X hi) (fun self=>PySem.W.bind_fn X self hf) (.inl rfl) h
end
def putF (f:Str) (v:V):List (Str×V)→List (Str×V)
 | []=>[(f,v)]
 | (g,x)::r=>if g=f then(g,v)::r else(g,x)::putF f v r
theorem Zam (f g:Str) (v:V):∀fs:List (Str×V),(putF f v fs).lookup g=if g=f then some v else fs.lookup g
 | []=>by
  show List.lookup g [(f,v)]=_
  by_cases h:g=f
  ·have hb:(g == f)=true:=beq_iff_eq.mpr h
   simp only [List.lookup,hb,if_pos h]
  ·have hb:(g == f)=false:=beq_eq_false_iff_ne.mpr h
   simp only [List.lookup,hb,if_neg h]
 | (k,x)::r=>by
  have ih:=Zam f g v r;rw[show putF f v ((k,x)::r)=(if k=f then(k,v)::r else(k,x)::putF f v r) from rfl]
  by_cases hk:k=f
  ·rw[if_pos hk]
   by_cases h:g=k
   ·have hb:(g == k)=true:=beq_iff_eq.mpr h
    simp only [List.lookup,hb,if_pos (h.trans hk)]
   ·have hb:(g == k)=false:=beq_eq_false_iff_ne.mpr h
    simp only [List.lookup,hb,if_neg (fun e:g=f=>h (e.trans hk.symm))]
  ·rw[if_neg hk]
   by_cases h:g=k
   ·have hb:(g == k)=true:=beq_iff_eq.mpr h
    simp only [List.lookup,hb,if_neg (fun e:g=f=>hk (h.symm.trans e))]
   ·have hb:(g == k)=false:=beq_eq_false_iff_ne.mpr h
    simp only [List.lookup,hb];exact ih
theorem Zgt (f:Str) (v:V):∀fs:List (Str×V),f∈(putF f v fs).map (·.1)∧∀g,g∈fs.map (·.1)→g∈(putF f v fs).map (·.1)
 | []=>⟨by simp[putF],fun g h=>by simp at h⟩
 | (k,x)::r=>by
  obtain⟨i1,i2⟩:=Zgt f v r;rw[show putF f v ((k,x)::r)=(if k=f then(k,v)::r else(k,x)::putF f v r) from rfl]
  by_cases hk:k=f
  ·rw[if_pos hk]
   subst hk;exact⟨by simp,fun g h=>by simpa using h⟩
  ·rw[if_neg hk]
   refine⟨?_,fun g h=>?_⟩
   ·rw[List.map_cons]
    exact List.mem_cons_of_mem _ i1
   ·rw[List.map_cons]at h ⊢
    rcases List.mem_cons.mp h with e | e
    ·exact List.mem_cons.mpr (.inl e)
    ·exact List.mem_cons_of_mem _ (i2 g e)
theorem Zgv (f:Str) (v:V):∀fs:List (Str×V),(putF f v fs).length≤fs.length+1
 | []=>by simp[putF]
 | (k,x)::r=>by
  have ih:=Zgv f v r;rw[show putF f v ((k,x)::r)=(if k=f then(k,v)::r else(k,x)::putF f v r) from rfl]
  by_cases hk:k=f
  ·rw[if_pos hk,List.length_cons,List.length_cons]; omega
  ·rw[if_neg hk,List.length_cons,List.length_cons]; omega
theorem RelO.some_of {v:V} {o:Option Value} (r:RelO (some v) o):∃u,o=some u∧RelV v u:=by
 cases o with
 | none=>exact(show False from r).elim
 | some u=>exact⟨u,rfl,r⟩
theorem RelO.none_of {o:Option Value} (r:RelO none o):o=none:=by
 cases o with
 | none=>rfl
 | some u=>exact(show False from r).elim
theorem ZmN {v:V} {u:Value} (r:RelV v u):PySem.W.handedIn u=true:=by
 cases v with
 | non=>cases (show u=Value.none from r); rfl
 | bl b=>cases (show u=Value.bool b from r); rfl
 | int i=>obtain⟨t,e⟩:=(show ∃t,u=Value.int i t from r); cases e; rfl
 | str x=>obtain⟨t,e⟩:=(show ∃t,u=Value.str x t from r); cases e; rfl
 | byt b=>obtain⟨t,e⟩:=(show ∃t,u=Value.bytes b t from r); cases e; rfl
 | flt b=>obtain⟨t,e⟩:=(show ∃t,u=Value.float b t from r); cases e; rfl
 | ref a=>cases (show u=Value.ref a from r); rfl
 | ty n=>cases (show u=Value.type n from r); rfl
section
variable {P:Program} {w:World} {H H':Hp} {h h':Heap} {a C dx:Addr} {fs fs':List (Str×V)}
theorem Zh6 (hok:HOk P w H h) (e:H a=some (.ins C dx fs)):∃mA,ObjM h a dx C mA∧(∀f,RelO (fs.lookup f) (mA f))∧PySem.Within mA (fs.map (·.1))∧fs.length≤1000∧H dx=some (.own a):=by
 obtain⟨d,z,ne,ob,mA,n,r,q⟩:=(show Zb8 P w H h a (.ins C dx fs) from hok a _ e);exact⟨mA,⟨ob,n,ne⟩,r,q,z,d⟩
end
structure Cls (K:PySem.W.Frag) (C:Addr):Prop where
 pg:PySem.W.plainGet K C Str.empty=true
 hd:PySem.W.hasDictIn K C=true
 po:PySem.W.plainOver K C=true
 sa:PySem.W.findIn K (.ref C) "__setattr__" = some (some (.builtin "object.__setattr__"))
theorem Cls.get {K:PySem.W.Frag} {C:Addr} (c:Cls K C) (f:Str):PySem.W.plainGet K C f=true:=c.pg
def ZdP (K:PySem.W.Frag) (C:Addr) (f:Str):Prop:=PySem.W.findIn K (.ref C) f=some none
theorem ZdP.taker {K:PySem.W.Frag} {C:Addr} {f:Str} (n:ZdP K C f):PySem.W.takerIn K C f=some none:=by
 unfold PySem.W.takerIn;rw[show PySem.W.findIn K (.ref C) f=some none from n];rfl
structure Meth (K:PySem.W.Frag) (C:Addr) (m:Str) (f:Addr):Prop where
 at_:PySem.W.findIn K (.ref C) m=some (some (.ref f))
 fn:PySem.W.isFn K (.ref f)=true
 kp:PySem.W.keepIn K (.ref f)=true
section
variable {X:Cx} {pins:List (Addr×Obj)} {σ:St} {H:Hp} {s:Shared} {a C dx:Addr} {fs:List (Str×V)} {f:Str} {v:V} {A:Around} {E:Value→Shared→Prop}
theorem Zlt {b:Bool} {Q:Value→Shared→Prop} (I:Inv X pins σ H s) (e:H a=some (.ins C dx fs)) (c:Cls X.K C) (n:ZdP X.K C f) (l:fs.lookup f=some v)
  (h:∀u s',Inv X pins σ H s'→RelV v u→Q u s'):wpAny (model X.prog X.w) A (getAttr (.ref a) f b) Q E s:=by
 obtain⟨mA,O,r,_,_,_⟩:=Zh6 I.hok e;obtain⟨u,hu,ru⟩:=RelO.some_of (v:=v) (o:=mA f) (by rw[←l]; exact r f);exact Zqz I.kIn O (c.get f) c.hd n hu (ZmN ru) (h u _ (I.tok _) ru)
theorem Zlu {m:Str} {g:Addr} {pl:Sem Bool} {Q:Value×List Value→Shared→Prop} (I:Inv X pins σ H s) (e:H a=some (.ins C dx fs)) (c:Cls X.K C) (k:Meth X.K C m g) (l:fs.lookup m=none)
  (h:Q (.ref g,[.ref a]) s):wpAny (model X.prog X.w) A (getMethod (.ref a) m pl) Q E s:=by
 obtain⟨mA,O,r,_,_,_⟩:=Zh6 I.hok e;have hn:mA m=none:=RelO.none_of (by rw[←l]; exact r m);exact Zoq I.kIn O (c.get m) k.at_ k.fn hn h
theorem ZlQ {y:V} {u:Value} {Q:Unit→Shared→Prop} (I:Inv X pins σ H s) (e:H a=some (.ins C dx fs)) (c:Cls X.K C) (n:ZdP X.K C f) (hl:fs.length < 1000) (ry:RelV y u)
  (h:∀s',Inv X pins σ (upd H a (.ins C dx (putF f y fs))) s'→Q () s'):wpAny (model X.prog X.w) A (setAttr (.ref a) f u) Q E s:=by
 obtain⟨mA,O,r,wi,_,ho⟩:=Zh6 I.hok e
 have hz:(fs.map (·.1)).length≤sizeLine:=by rw[List.length_map,sizeLine_eq]; omega
 refine Zri I.kIn O c.sa c.po n.taker c.hd wi hz fun h' O' sb=>h _ ?_;have hd:∃o,h'.get? dx=some o:=let ⟨o,_,_,e',_⟩:=O'.ns; ⟨o,e'⟩;refine I.write (x:=a) (e:=dx) (by rw[e]; exact True.intro) (.inr ho) (fun b q hb z=>(sb.2 b hb).trans z) hd ?_;refine⟨by rw[ZaL O.ne]; exact ho,?_,O.ne,O'.obj,_,O'.ns,fun g=>?_,fun g hg=>?_⟩
 ·have:=Zgv f y fs; omega
 ·show RelO ((putF f y fs).lookup g) (if g=f then some u else mA g)
  rw[Zam]
  by_cases q:g=f
  ·rw[if_pos q,if_pos q]; exact ry
  ·rw[if_neg q,if_neg q]; exact r g
 ·by_cases q:g=f
  ·rw[q]; exact(Zgt f y fs).1
  ·refine(Zgt f y fs).2 g (wi g fun z=>hg ?_)
   show(if g=f then some u else mA g)=none;rw[if_neg q]; exact z
theorem Inv.made (I:Inv X pins σ H s):Inv X pins σ (upd (upd H s.heap.objs.size (.own (s.heap.objs.size+1))) (s.heap.objs.size+1) (.ins C s.heap.objs.size []))
  { s with heap:=(s.heap.push PySem.W.emptyDict).push (PySem.W.instObj C s.heap.objs.size) }:=by
 have e1:(s.heap.push PySem.W.emptyDict).get? s.heap.objs.size=some PySem.W.emptyDict:=Heap.get?_push_size s.heap rfl
 have e2:((s.heap.push PySem.W.emptyDict).push (PySem.W.instObj C s.heap.objs.size)).get? (s.heap.objs.size+1)=some (PySem.W.instObj C s.heap.objs.size):=by
  have:=Heap.get?_push_size (s.heap.push PySem.W.emptyDict) (o:=PySem.W.instObj C s.heap.objs.size) rfl
  rwa [Heap.size_push]at this
 have e3:(s.heap.push PySem.W.emptyDict).Ns s.heap.objs.size (fun _=>none):=⟨PySem.W.emptyDict,#[],_,e1,rfl,(fun e he=>absurd he (by simp)),fun _=>rfl⟩;have I1:=I.laid (a:=s.heap.objs.size) (o:=.own (s.heap.objs.size+1)) (h':=s.heap.push PySem.W.emptyDict) (t':=s.toks) (fun b u q=>Heap.get?_push_of_some _ q) (Nat.le_refl _) ⟨_,e1⟩;refine I1.laid (a:=s.heap.objs.size+1) (o:=.ins C s.heap.objs.size []) (t':=s.toks) (fun b u q=>Heap.get?_push_of_some _ q) (Nat.le_of_eq (Heap.size_push _ _)) ?_;have ne:s.heap.objs.size≠s.heap.objs.size+1:=Nat.ne_of_lt (Nat.lt_succ_self _);refine⟨by rw[ZaL ne,Zas],Nat.zero_le _,ne,e2,fun _=>none,(Heap.Ns1.of_empty e3).at fun o q=>Heap.get?_push_of_some _ q,fun _=>True.intro,fun y hy=>absurd rfl hy⟩
theorem Zqq {prog:Program} {w:World} {env:Env} {e:Expr} {f:Str} {pos:Pos} {s:Shared} {Q:Value→Shared→Prop} (hb:attributeBase e f env (eval e env)=eval e env)
  (h:wpAny (model prog w) A (eval e env) (fun o s₁=>wpAny (model prog w) A (getAttr o f true) Q E s₁) E s):wpAny (model prog w) A (eval (.Attribute e f pos) env) Q E s:=
 Attribute_any_ h (by rw[arm_eval_Attribute,hb])
end
def tFld (K:PySem.W.Frag) (ta:TE) (f:Str):TE:=fun σ H Q=>ta σ H fun x H1=>∃a C dx fs v,x=.ref a∧H1 a=some (.ins C dx fs)∧Cls K C∧ZdP K C f∧fs.lookup f=some v∧Q v H1
def sFld (K:PySem.W.Frag) (ta tv:TE) (f:Str):TS:=fun D σ H=>tv σ H fun y H1=>ta σ H1 fun x H2=>∃a C dx fs,x=.ref a∧H2 a=some (.ins C dx fs)∧Cls K C∧ZdP K C f∧fs.length < 1000∧
 D.nx σ (upd H2 a (.ins C dx (putF f y fs)))
section
variable {X:Cx} {o e value:Expr} {f:Str} {pos pos' tpos:Pos} {ta tv:TE}
theorem Ze2 (he:PE X e ta) (hb:attributeBase e f X.env (eval e X.env)=eval e X.env):PE X (.Attribute e f pos) (tFld X.K ta f):=by
 intro pins s σ H Q I h;refine Zqq hb (thn (he pins s σ H _ I h) fun u s1 ⟨x,H1,I1,rx,a,C,dx,fs,v,ex,ea,c,n,l,q⟩=>?_);subst ex;obtain rfl:u=Value.ref a:=rx;exact Zlt I1 ea c n l fun u' s2 I2 ru=>⟨v,H1,I2,ru,q⟩
theorem Zk2 (ha:PE X o ta) (hv:PE X value tv) (hs:swapsWith value (some (.Attribute o f pos')) pos.line X.env=pure false):PS X (.Assign [.Attribute o f pos'] value pos) (sFld X.K ta tv f):=by
 intro pins s σ H D I h;refine plainObj_wpAny_Assign_Attribute (thn (hv pins s σ H _ I h) fun u s1 ⟨y,H1,I1,ry,q⟩=>thn (ha pins s1 σ H1 _ I1 q) fun ov s2 ⟨x,H2,I2,rx,a,C,dx,fs,ex,ea,c,n,l,q2⟩=>?_) hs;subst ex;obtain rfl:ov=Value.ref a:=rx;exact ZlQ I2 ea c n l ry fun s3 I3=>⟨σ,_,I3,q2⟩
end
section
variable {X:Cx} {pins:List (Addr×Obj)} {σ:St} {H:Hp} {s:Shared} {A:Around} {E:Value→Shared→Prop} {Q:Value→Shared→Prop} {c:Value} {b:Bool}
inductive TyOf (K:PySem.W.Frag) (H:Hp):V→Value→Prop where
 | non:TyOf K H .non (.type "NoneType")
 | bl (x:Bool):TyOf K H (.bl x) (.type "bool")
 | int (i:Int):TyOf K H (.int i) (.type "int")
 | str (x:Str):TyOf K H (.str x) (.type "str")
 | flt (x:UInt64):TyOf K H (.flt x) (.type "float")
 | lst {a:Addr} {xs:List V} (e:H a=some (.lst xs)):TyOf K H (.ref a) (.type "list")
 | frz {a:Addr} {o:Obj} {xs:List V} (e:H a=some (.frz o (.lst xs))):TyOf K H (.ref a) (.type "list")
 | tup {a:Addr} {xs:List V} (e:H a=some (.tup xs)):TyOf K H (.ref a) (.type "tuple")
 | dK {a:Addr} {kvs:List (Key×V)} (e:H a=some (.dK kvs)):TyOf K H (.ref a) (.type "dict")
 | dT {a:Addr} {kvs:List (List Key×V)} (e:H a=some (.dT kvs)):TyOf K H (.ref a) (.type "dict")
 | ins {a C dx:Addr} {fs:List (Str×V)} (e:H a=some (.ins C dx fs)) (cl:Cls K C) (ha:PySem.W.findIn K (.ref C) "__class__" = some (some (.builtin "object.__class__")))
   (hn:PySem.W.specialIn K (.builtin "object.__class__") "__get__" = some (some (.builtin "getset_descriptor.__get__"))) (htk:PySem.W.takesIn K (.builtin "object.__class__")=some true)
   (hm:PySem.W.mroIn K C (.type "object")=some true):TyOf K H (.ref a) (.ref C)
theorem ZiQ {x:V} {u t:Value} (I:Inv X pins σ H s) (rx:RelV x u) (ty:TyOf X.K H x t) (e:PySem.W.kitOne X.K t c=some b) (h:∀tk,Q (.bool b) { s with toks:=tk }) :
  wpAny (model X.prog X.w) A (call (.builtin "isinstance") [u,c]) Q E s:=by
 cases ty with
 | non=>cases (show u=Value.none from rx); exact PySem.W.kia_one PySem.W.kitx_none I.kIn True.intro e (fun z=>nomatch z) h
 | bl y=>cases (show u=Value.bool y from rx); exact PySem.W.kia_one PySem.W.kitx_bool I.kIn True.intro e (fun z=>nomatch z) h
 | int i=>obtain⟨t,q⟩:=(show ∃t,u=Value.int i t from rx); cases q; exact PySem.W.kia_one PySem.W.kitx_int I.kIn True.intro e (fun z=>nomatch z) h
 | str y=>obtain⟨t,q⟩:=(show ∃t,u=Value.str y t from rx); cases q; exact PySem.W.kia_one PySem.W.kitx_str I.kIn True.intro e (fun z=>nomatch z) h
 | flt y=>obtain⟨t,q⟩:=(show ∃t,u=Value.float y t from rx); cases q; exact PySem.W.kia_one PySem.W.kitx_float I.kIn True.intro e (fun z=>nomatch z) h
 | @lst a xs ea=>
  cases (show u=Value.ref a from rx)
  obtain⟨_,_,n,_,h1⟩:=(show Zb8 X.prog X.w H s.heap a (.lst xs) from I.hok a _ ea);exact PySem.W.kia_one PySem.W.kitx_list I.kIn ⟨_,h1,rfl⟩ e (fun z=>nomatch z) h
 | @frz a ob xs ea=>
  cases (show u=Value.ref a from rx)
  obtain⟨_,_,_,n,_,h1⟩:=(show Zb8 X.prog X.w H s.heap a (.frz ob (.lst xs)) from I.hok a _ ea);exact PySem.W.kia_one PySem.W.kitx_list I.kIn ⟨_,h1,rfl⟩ e (fun z=>nomatch z) h
 | @tup a xs ea=>
  cases (show u=Value.ref a from rx)
  obtain⟨_,_,_,p⟩:=(show Zb8 X.prog X.w H s.heap a (.tup xs) from I.hok a _ ea);obtain⟨o,h1,h2,_⟩:=p;exact PySem.W.kia_one PySem.W.kitx_tuple I.kIn ⟨o,h1,h2⟩ e (fun z=>nomatch z) h
 | @dK a kvs ea=>
  cases (show u=Value.ref a from rx)
  obtain⟨_,_,vs,_,p⟩:=(show Zb8 X.prog X.w H s.heap a (.dK kvs) from I.hok a _ ea);obtain⟨o,es,ep,h1,h2,_⟩:=p;exact PySem.W.kia_one PySem.W.kitx_dict I.kIn ⟨o,h1,h2.1⟩ e (fun z=>nomatch z) h
 | @dT a kvs ea=>
  cases (show u=Value.ref a from rx)
  obtain⟨_,_,xs,_,o,es,ep,h1,h2,_⟩:=(show Zb8 X.prog X.w H s.heap a (.dT kvs) from I.hok a _ ea);exact PySem.W.kia_one PySem.W.kitx_dict I.kIn ⟨o,h1,h2.1⟩ e (fun z=>nomatch z) h
 | @ins a C dx fs ea cl ha hn htk hm=>
  cases (show u=Value.ref a from rx)
  obtain⟨mA,O,_⟩:=Zh6 I.hok ea;obtain⟨od,J,_⟩:=O.look;exact PySem.W.kia_one (PySem.W.kitx_own (cl.get _) cl.hd ha hn htk hm) I.kIn J e (fun z=>nomatch z) h
end
end L2
namespace L2
open PySem PySem.Spec PyProof.Rows
structure Room (k:Nat) (A:Around):Prop where
 hd:A.handled=none
 dp:A.depth+3 * k+5 < recursionLimit
 un:A.units+16 * k+200 < cLine
theorem Room.mono {j k:Nat} {A:Around} (r:Room k A) (h:j≤k):Room j A:=⟨r.hd,by have:=r.dp; omega,by have:=r.un; omega⟩
theorem Room.deeper {k:Nat} {A:Around} (r:Room (k+1) A) (env:Env):Room k (A.deeper env):=
 ⟨r.hd,by have:=r.dp; show A.depth+1+3 * k+5 < _; omega,by have:=r.un; show A.units+3+16 * k+200 < _; omega⟩
theorem ZlJ {A:Around} {C:Addr} {us:List Value} {kw:List (Str×Value)}:(A.under (.builtin "type.__call__" ⟨.ref C::us,kw⟩)).depth=A.depth+1:=by
 first | rfl | simp[Around.under,Code.weight,Code.isCreation,Code.isGuard,Code.isCaller,Code.frames,Code.isFrame,guardIds]
theorem ZlK {A:Around} {C:Addr} {us:List Value} {kw:List (Str×Value)}:(A.under (.builtin "type.__call__" ⟨.ref C::us,kw⟩)).units=A.units+1:=by
 first | rfl | simp[Around.under,Code.cUnits,Code.frames,Code.isFrame]
theorem Room.make {k:Nat} {A:Around} (r:Room (k+1) A) (C:Addr) (us:List Value) (kw:List (Str×Value)):Room k (A.under (.builtin "type.__call__" ⟨.ref C::us,kw⟩)):=
 ⟨r.hd,by have:=r.dp; rw[ZlJ]; omega,by have:=r.un; rw[ZlK]; omega⟩
theorem Room.depth {k:Nat} {A:Around} (r:Room k A):A.depth < recursionLimit:=by have:=r.dp; omega
theorem Room.units {k:Nat} {A:Around} (r:Room k A):A.units+64 < cLine:=by have:=r.un; omega
def tNil:TA:=fun _ H Q=>Q [] H
def ZnU (ta:TE) (tr:TA):TA:=fun σ H Q=>ta σ H fun x H1=>tr σ H1 fun xs H2=>Q (x::xs) H2
section
variable {X:Cx} {e:Expr} {es:List Expr} {te:TE} {t:TA} {pos:Pos}
theorem Zae:PA X [] tNil:=fun _ _ _ _ H Q I h=>Calls.spliced_nil ⟨[],H,I,.nil,h⟩
theorem Zaa (ha:PE X e te) (hr:PA X es t) (hs:starEach (e::es) X.env=(false,eval e X.env)::starEach es X.env:=by rfl):PA X (e::es) (ZnU te t):=by
 intro pos pins s σ H Q I h;rw[hs];show wpAny _ _ (spliced ((false,eval e X.env)::backTo pos (starEach es X.env))) _ _ s;refine Calls.spliced_cons (thn (ha pins s σ H _ I h) fun u s1 ⟨x,H1,I1,r1,q1⟩=>?_);exact thn (hr pos pins s1 σ H1 _ I1 q1) fun us s2 ⟨xs,H2,I2,r2,q2⟩=>⟨x::xs,H2,I2,.cons r1 r2,q2⟩
def tTup (t:TA):TE:=fun σ H Q=>t σ H fun xs H1=>xs.length≤sizeLine∧∀p,H1 p=none→Q (.ref p) (upd H1 p (.tup xs))
def tLst (t:TA):TE:=fun σ H Q=>t σ H fun xs H1=>xs.length≤sizeLine∧∀p,H1 p=none→Q (.ref p) (upd H1 p (.lst xs))
theorem ZeC {x1} (h:PA X es t):PE X (.Tuple es x1 pos) (tTup t):=by
 intro pins s σ H Q I hq;refine wpAny_Tuple_spliced (thn (h pos pins s σ H _ I hq) fun us s1 ⟨xs,H1,I1,r,z,q⟩=>⟨by rw[←r.length]; exact z,?_⟩);have hf:H1 s1.heap.objs.size=none:=I1.hok.fresh (Nat.le_refl _);refine⟨.ref s1.heap.objs.size,upd H1 s1.heap.objs.size (.tup xs),I1.laid (t':=s1.toks) (fun b u e=>Heap.get?_push_of_some _ e) (Nat.le_refl _) ?_,rfl,q _ hf⟩;exact⟨z,us,r,⟨_,Heap.get?_push_size _ rfl,rfl,_,rfl⟩⟩
theorem ZkX (h:PA X es t):PE X (.List es pos) (tLst t):=by
 intro pins s σ H Q I hq;refine wpAny_List_spliced (thn (h pos pins s σ H _ I hq) fun us s1 ⟨xs,H1,I1,r,z,q⟩=>⟨by rw[←r.length]; exact z,?_⟩);have hf:H1 s1.heap.objs.size=none:=I1.hok.fresh (Nat.le_refl _);refine⟨.ref s1.heap.objs.size,upd H1 s1.heap.objs.size (.lst xs),I1.laid (t':=s1.toks) (fun b u e=>Heap.get?_push_of_some _ e) (Nat.le_refl _) ?_,rfl,q _ hf⟩;exact⟨z,us,0,r,Heap.get?_push_size _ rfl⟩
end
abbrev Sp:=List V→Hp→VK→XK→Prop
abbrev CXT:=List Env→Hp→Shared→XK→Value→Shared→Prop
structure Env0 (P:Program) (w:World) (K:PySem.W.Frag) (mg:Str→Option Value) (base:Heap) (A:Around) (outer:List Env) (s:Shared) (H:Hp):Prop where
 frames:A.frames=some outer
 mod:Mod K mg base
 bs:∀b o,base.get? b=some o→s.heap.get? b=some o∧H b=none
 bsz:base.objs.size≤s.heap.objs.size
 funs:s.heap.FunFrames base outer
 frf:∀b∈frs outer,H b=none
 hok:HOk P w H s.heap
 bare:AllBare s.gens
def CE (outer:List Env) (P:Program) (w:World) (H:Hp) (s:Shared) (Q:VK) (u:Value) (s':Shared):Prop:=
 ∃v H',s'.os=s.os∧AllBare s'.gens∧Un (frs outer) [] H H' s.heap s'.heap∧HOk P w H' s'.heap∧RelV v u∧Q v H'
def CR (CX:CXT) (outer:List Env) (P:Program) (w:World) (H:Hp) (s:Shared) (Q:VK) (E:XK) (r:Result) (s':Shared):Prop:=
 match r with
 | .ok (.ret u)=>CE outer P w H s Q u s'
 | .ok _=>False
 | .error e=>CX outer H s E e s'
structure FnOk (P:Program) (w:World) (K:PySem.W.Frag) (mg:Str→Option Value) (base:Heap) (CX:CXT) (k:Nat) (f:Addr) (fd:FuncData) (ps:List Str) (sp:Sp):Prop where
 len:∀vs H Q E,sp vs H Q E→vs.length=ps.length
 run:∀(A:Around) (outer:List Env) (s:Shared) (H:Hp) (args:Args) (us:List Value) (vs:List V) (Q:VK) (E:XK),Room k A→Env0 P w K mg base A outer s H→BindsTo s fd args (ps.zip us)→Vals vs us→sp vs H Q E→
  codeAny (model P w) A (.call (.ref f) args) (CR CX outer P w H s Q E) s
theorem Env0.make {P:Program} {w:World} {K:PySem.W.Frag} {mg:Str→Option Value} {base:Heap} {A:Around} {outer:List Env} {s:Shared} {H:Hp} (e:Env0 P w K mg base A outer s H) (C:Addr) (us:List Value) (kw:List (Str×Value)) :
  Env0 P w K mg base (A.under (.builtin "type.__call__" ⟨.ref C::us,kw⟩)) outer s H:=⟨by first | exact e.frames | (simpa [Around.under,Code.envs,Code.isFrame,pushEnvs] using e.frames),e.mod,e.bs,e.bsz,e.funs,e.frf,e.hok,e.bare⟩
section
variable {X:Cx} {pins:List (Addr×Obj)} {σ:St} {H:Hp} {s s':Shared}
theorem Inv.env0 (I:Inv X pins σ H s):Env0 X.prog X.w X.K X.mg X.base X.A X.stack s H:=
 ⟨I.ok.frames,I.ok.mod,I.bs,Nat.le_trans I.ok.bsz I.sz,I.stack,I.stkFree,I.hok,I.bare⟩
theorem Inv.after {Q:VK} {u:Value} (I:Inv X pins σ H s) (h:CE X.stack X.prog X.w H s Q u s'):EP X pins σ Q u s':=by
 obtain⟨v,H',os,bare,un,hok,r,q⟩:=h;obtain⟨hh,g,d,t,os'⟩:=s';obtain rfl:os'=s.os:=os;exact⟨v,H',I.call (h':=hh) (g':=g) (d':=d) (t':=t) (ch:=[]) un hok bare (fun b z=>absurd z (by simp)),r,q⟩
end
def Zrx (sp:Sp) (dvs:List V) (E:XK) (t:TA):TE:=fun σ H Q=>t σ H fun vs H1=>sp (vs++dvs) H1 Q E
def Zrz (C:Addr) (sp:Sp) (dvs:List V) (E:XK) (t:TA):TE:=fun σ H Q=>t σ H fun vs H1=>∀x dx,H1 x=none→H1 dx=none→dx≠x→
 sp (.ref x::(vs++dvs)) (upd (upd H1 dx (.own x)) x (.ins C dx [])) (fun v H2=>v=.non∧Q (.ref x) H2) E
def ZaX (K:PySem.W.Frag) (fd:FuncData) (ps:List Str) (ds:List Value):Prop:=
 ∀(s:Shared) (us:List Value),K.In s.heap→(us++ds).length=ps.length→BindsTo s fd ⟨us,[]⟩ (ps.zip (us++ds))
theorem ZaX.all {K:PySem.W.Frag} {fd:FuncData} {ps:List Str} (h:∀us:List Value,us.length=ps.length→bindArgs fd ⟨us,[]⟩=pure (ps.zip us)):ZaX K fd ps []:=fun s us _ hl=>by
 rw[List.append_nil]at hl ⊢;exact .of_eq (h us hl)
def Zis (CX:CXT) (X:Cx) (E:XK):Prop:=∀(pins:List (Addr×Obj)) (σ:St) (H:Hp) (s:Shared) (e:Value) (s':Shared),Inv X pins σ H s→CX X.stack H s E e s'→X.xe e s'
section
variable {X:Cx} {CX:CXT} {k:Nat} {f C:Addr} {fd:FuncData} {ps:List Str} {sp:Sp} {dvs:List V} {ds:List Value} {E:XK} {x m:Str} {p pos apos:Pos} {e o:Expr} {es:List Expr} {ta:TE} {t:TA}
theorem Zqc {pins:List (Addr×Obj)} {σ:St} {H:Hp} {s:Shared} {Q:VK} {us:List Value} {vs:List V} (F:FnOk X.prog X.w X.K X.mg X.base CX k f fd ps sp) (hr:Room k X.A) (hb:ZaX X.K fd ps ds) (hd:Vals dvs ds) (hx:Zis CX X E)
  (I:Inv X pins σ H s) (r:Vals vs us) (h:sp (vs++dvs) H Q E):wpAny (model X.prog X.w) X.A (call (.ref f) us) (EP X pins σ Q) X.xe s:=by
 have r2:Vals (vs++dvs) (us++ds):=r.append hd
 have hl:(us++ds).length=ps.length:=by rw[←r2.length]; exact F.len _ _ _ _ h
 refine wpAny_call (codeAny_mono (F.run X.A X.stack s H ⟨us,[]⟩ (us++ds) (vs++dvs) Q E hr I.env0 (hb s us I.kIn hl) r2 h) fun r s' hq=>?_)
 cases r with
 | error e=>exact hx pins σ H s e s' I hq
 | ok fl=>
  cases fl with
  | ret u=>exact I.after hq
  | next=>exact False.elim hq
  | brk=>exact False.elim hq
  | cont=>exact False.elim hq
theorem Zra (F:FnOk X.prog X.w X.K X.mg X.base CX k f fd ps sp) (hr:Room k X.A) (hg:Gl X x) (hm:X.mg x=some (.ref f)) (hk:PySem.W.keepIn X.K (.ref f)=true) (hb:ZaX X.K fd ps ds) (hd:Vals dvs ds) (hx:Zis CX X E)
  (ha:PA X (e::es) t) (hdb:(x == ("__debug__" : Str))=false:=by decide) (he:starEach (e::es) X.env=(false,eval e X.env)::starEach es X.env:=by rfl) (hpl:(backTo pos (starEach es X.env)).any (·.1)=false:=by rfl) :
  PE X (.Call (.Name x p) (e::es) [] pos) (Zrx sp dvs E t):=by
 intro pins s σ H Q I h;refine wpAny_Call_Name_kw (ZeG I hg hm ?_ hdb);refine PySem.W.callWith_K (h₀:=X.base) I.ok.mod.kin hk (thn (ha pos pins s σ H _ I h) fun us s1 ⟨vs,H1,I1,r,q⟩=>⟨I1.kIn,?_⟩) he hpl;exact Zqc F hr hb hd hx I1 r q
structure Mk (K:PySem.W.Frag) (C f:Addr):Prop where
 makes:PySem.W.makesIn K C=true
 init:PySem.W.findIn K (.ref C) "__init__" = some (some (.ref f))
 fn:PySem.W.isFn K (.ref f)=true
 kp:PySem.W.keepIn K (.ref C)=true
theorem Zpb {pins:List (Addr×Obj)} {σ:St} {H:Hp} {s:Shared} {Q:VK} {us:List Value} {vs:List V} (M:Mk X.K C f) (F:FnOk X.prog X.w X.K X.mg X.base CX k f fd ps sp) (hr:Room (k+1) X.A) (hb:ZaX X.K fd ps ds) (hd:Vals dvs ds)
  (hx:Zis CX X E) (I:Inv X pins σ H s) (r:Vals vs us)
  (h:∀x dx,H x=none→H dx=none→dx≠x→sp (.ref x::(vs++dvs)) (upd (upd H dx (.own x)) x (.ins C dx [])) (fun v H2=>v=.non∧Q (.ref x) H2) E) :
  wpAny (model X.prog X.w) X.A (call (.ref C) us) (EP X pins σ Q) X.xe s:=by
 have hq:=h (s.heap.objs.size+1) s.heap.objs.size (I.hok.fresh (Nat.le_succ _)) (I.hok.fresh (Nat.le_refl _)) (Nat.ne_of_lt (Nat.lt_succ_self _));have I2:=Inv.made (C:=C) I;have r2:Vals (V.ref (s.heap.objs.size+1)::(vs++dvs)) (Value.ref (s.heap.objs.size+1)::(us++ds)):=.cons rfl (r.append hd)
 have hl:(Value.ref (s.heap.objs.size+1)::us++ds).length=ps.length:=by
  have e:=r2.length;rw[F.len _ _ _ _ hq]at e;exact e.symm
 refine wpAny_call (ZoM (f:=f) I.kIn M.makes M.init (beq_iff_eq.mp M.fn) (codeAny_mono (F.run _ X.stack _ _ ⟨Value.ref (s.heap.objs.size+1)::us,[]⟩ (Value.ref (s.heap.objs.size+1)::(us++ds)) _ _ E (hr.make C us [])
  (I2.env0.make C us []) (hb _ (Value.ref (s.heap.objs.size+1)::us) I2.kIn hl) r2 hq) fun r s' hq'=>?_))
 cases r with
 | error e=>exact hx pins σ _ _ e s' I2 hq'
 | ok fl=>
  cases fl with
  | ret u=>
   obtain⟨v,H',I3,rv,ev,q3⟩:=I2.after hq';subst ev;exact⟨rv,⟨V.ref (s.heap.objs.size+1),H',I3,rfl,q3⟩⟩
  | next=>exact False.elim hq'
  | brk=>exact False.elim hq'
  | cont=>exact False.elim hq'
theorem Zrb (M:Mk X.K C f) (F:FnOk X.prog X.w X.K X.mg X.base CX k f fd ps sp) (hr:Room (k+1) X.A) (hg:Gl X x) (hm:X.mg x=some (.ref C)) (hb:ZaX X.K fd ps ds) (hd:Vals dvs ds) (hx:Zis CX X E)
  (ha:PA X (e::es) t) (hdb:(x == ("__debug__" : Str))=false:=by decide) (he:starEach (e::es) X.env=(false,eval e X.env)::starEach es X.env:=by rfl) (hpl:(backTo pos (starEach es X.env)).any (·.1)=false:=by rfl) :
  PE X (.Call (.Name x p) (e::es) [] pos) (Zrz C sp dvs E t):=by
 intro pins s σ H Q I h;refine wpAny_Call_Name_kw (ZeG I hg hm ?_ hdb);refine PySem.W.callWith_K (h₀:=X.base) I.ok.mod.kin M.kp (thn (ha pos pins s σ H _ I h) fun us s1 ⟨vs,H1,I1,r,q⟩=>⟨I1.kIn,?_⟩) he hpl;exact Zpb M F hr hb hd hx I1 r q
end
section
variable {X:Cx} {CX:CXT} {k:Nat} {f C:Addr} {fd:FuncData} {ps ks:List Str} {sp:Sp} {E:XK} {x m:Str} {p pos apos kpos:Pos} {e o:Expr} {es:List Expr} {kws:List Keyword} {te ta:TE} {t tk:TA} {nm:Option Str}
variable {g:List Value→List Value→List Value} {gV:List V→List V→List V}
end
structure FnScope (N P:List Str) (sc:Scope):Prop where
 kind:sc.kind=.function
 co:sc.isCoroutine=false
 gen:sc.isGenerator=false
 nd:N.Nodup
 pre:N.take P.length=P
 par:∀x∈P,sc.names.lookup x=some .local∨sc.names.lookup x=some .cell
 nofree:∀y∈sc.names,y.2≠.free
theorem ZiC {kindOf:Str→Option NameKind} {x:Str}:∀{binds:List (Str×Value)} {m:Str→Option Value},(∀v,(x,v)∉binds)→bindL kindOf binds m x=m x
 | [],_,_=>rfl
 | (n,v)::r,m,h=>by
  unfold bindL;rw[ZiC fun w hw=>h w (List.mem_cons_of_mem _ hw)]
  split
  ·have:x≠n:=by rintro rfl; exact h v List.mem_cons_self
   simp[this]
  ·rfl
theorem ZiA {kindOf:Str→Option NameKind} {x:Str}:∀{binds:List (Str×Value)} {m:Str→Option Value},(∀v,(x,v)∉binds)→bindC kindOf binds m x=m x
 | [],_,_=>rfl
 | (n,v)::r,m,h=>by
  unfold bindC;rw[ZiA fun w hw=>h w (List.mem_cons_of_mem _ hw)]
  split
  ·rfl
  ·have:x≠n:=by rintro rfl; exact h v List.mem_cons_self
   simp[this]
theorem ZiB {kindOf:Str→Option NameKind} {x:Str} {v:Value}:∀{P:List Str} {vs:List Value} {i:Nat} {m:Str→Option Value},P.Nodup→P[i]?=some x→vs[i]?=some v→kindOf x=some .local→
  bindL kindOf (P.zip vs) m x=some v
 | [],_,_,_,_,h,_,_=>by simp at h
 | _::_,[],_,_,_,_,h,_=>by simp at h
 | p::P,w::vs,0,m,nd,h1,h2,hk=>by
  simp at h1 h2; subst h1; subst h2;show bindL kindOf ((p,w)::P.zip vs) m p=_;unfold bindL;rw[ZiC fun v hv=>(List.nodup_cons.mp nd).1 (List.of_mem_zip hv).1,if_pos hk];simp
 | p::P,w::vs,i+1,m,nd,h1,h2,hk=>by
  show bindL kindOf ((p,w)::P.zip vs) m x=_;unfold bindL;exact ZiB (i:=i) (List.nodup_cons.mp nd).2 (by simpa using h1) (by simpa using h2) hk
theorem Ziz {kindOf:Str→Option NameKind} {x:Str} {v:Value}:∀{P:List Str} {vs:List Value} {i:Nat} {m:Str→Option Value},P.Nodup→P[i]?=some x→vs[i]?=some v→kindOf x≠some .local→
  bindC kindOf (P.zip vs) m x=some v
 | [],_,_,_,_,h,_,_=>by simp at h
 | _::_,[],_,_,_,_,h,_=>by simp at h
 | p::P,w::vs,0,m,nd,h1,h2,hk=>by
  simp at h1 h2; subst h1; subst h2;show bindC kindOf ((p,w)::P.zip vs) m p=_;unfold bindC;rw[ZiA fun v hv=>(List.nodup_cons.mp nd).1 (List.of_mem_zip hv).1,if_neg hk];simp
 | p::P,w::vs,i+1,m,nd,h1,h2,hk=>by
  show bindC kindOf ((p,w)::P.zip vs) m x=_;unfold bindC;exact Ziz (i:=i) (List.nodup_cons.mp nd).2 (by simpa using h1) (by simpa using h2) hk
def start (N:List Str) (vs:List V):St:=vs.map some++List.replicate (N.length - vs.length) none
def cxOf (CX:CXT) (P:Program) (w:World) (K:PySem.W.Frag) (mg:Str→Option Value) (base:Heap) (N:List Str) (qual:Str) (scope:Scope) (f:Addr) (cd:Value) (A:Around) (outer:List Env) (s:Shared) (H:Hp) (E:XK):Cx where
 prog:=P
 w:=w
 K:=K
 mg:=mg
 base:=base
 A:=A.deeper (envOfC qual scope s.heap.objs.size f cd)
 N:=N
 s₀:=s
 H₀:=H
 env:=envOfC qual scope s.heap.objs.size f cd
 outer:=outer
 stack:=envOfC qual scope s.heap.objs.size f cd::outer
 ex:=[]
 calm:=true
 fn:=fun _=>true
 pn:=[]
 xe:=fun e s'=>wpAny (model P w) (A.deeper (envOfC qual scope s.heap.objs.size f cd)) (leaving (envOfC qual scope s.heap.objs.size f cd) e) (fun _ s''=>CX outer H s E e s'') (fun e' s''=>CX outer H s E e' s'') s'
theorem Zks {sc:Scope} {n:Nat} {x:Str} (h:sc.names.lookup x=some .cell):∃c,(cellsFrom n sc.names []).lookup x=some c:=by
 have q:=PySem.W.cellsFrom_some sc.names n [] (.inl h);exact Option.isSome_iff_exists.mp q
theorem ZmZ {CX:CXT} {P:Program} {w:World} {K:PySem.W.Frag} {mg:Str→Option Value} {base:Heap} {N ps:List Str} {qual:Str} {scope:Scope} {f:Addr} {cd:Value} {A:Around} {outer:List Env} {s s1:Shared} {H:Hp} {E:XK} {us:List Value} {vs:List V}
  (S:FnScope N ps scope) (hd:A.handled=none) (e0:Env0 P w K mg base A outer s H) (hl:vs.length=ps.length) (r:Vals vs us)
  (x:InCallC s s.heap.objs.size (bindL (envOfC qual scope s.heap.objs.size f cd).kindOf (ps.zip us) fun _=>none) (cellsFrom (s.heap.objs.size+1) scope.names []) (bindC (envOfC qual scope s.heap.objs.size f cd).kindOf (ps.zip us) fun _=>none) s1) :
  Inv (cxOf CX P w K mg base N qual scope f cd A outer s H E) [] (start N vs) H s1:=by
 have hpl:ps.length≤N.length:=by have:=congrArg List.length S.pre; rw[List.length_take]at this; omega
 obtain⟨h1,tk,rfl,hk⟩:=x.done;have noA:∀b:Addr,b∉(cxOf CX P w K mg base N qual scope f cd A outer s H E).ex:=fun b z=>absurd (show b∈([]:List Addr) from z) (by simp)
 refine⟨⟨e0.mod,S.kind,rfl,rfl,Nat.le_refl _,fun y z c h1 h2=>?_,fun y hy=>?_,fun y c _ h=>?_,fun _=>hd,Around.frames_deeper e0.frames,.inr ⟨rfl,rfl⟩,fun b z=>absurd z (noA b),e0.bs,e0.bsz,fun b _ _=>noA b,fun b z=>absurd z (noA b),e0.funs,e0.frf⟩,
  rfl,e0.bare,Un.kept hk,⟨_,x.toInCall.ns,fun i y v h1 h2 h3=>?_⟩,fun y c h=>⟨_,x.cell y c h⟩,e0.hok.fresh (Nat.le_refl _),fun y c h=>?_,fun p hp=>absurd (show p∈([]:List (Addr×Obj)) from hp) (by simp),e0.hok.kept hk,?_⟩
 ·exact name_of_addr x.apart (PySem.mem_of_lookup h1) (PySem.mem_of_lookup h2)
 ·have hy:scope.names.lookup y=some .cell∨scope.names.lookup y=some .free:=hy
  rcases hy with hy | hy
  ·exact Zks hy
  ·exact absurd rfl (S.nofree _ (PySem.mem_of_lookup hy))
 ·exact Nat.le_of_lt (x.above y c (PySem.mem_of_lookup h))
 ·have hi:i < vs.length:=by
   unfold start at h2
   by_cases hi:i < vs.length
   ·exact hi
   ·rw[List.getElem?_append_right (by simpa using hi)]at h2
    rw[List.getElem?_replicate]at h2
    split at h2 <;> cases h2
  have ha:vs[i]?=some v:=by
   unfold start at h2;rw[List.getElem?_append_left (by simpa using hi),List.getElem?_map]at h2
   cases e:vs[i]? with
   | none=>rw[e]at h2; cases h2
   | some a=>rw[e]at h2; cases h2; rfl
  obtain⟨u,hu,rv⟩:=r.get ha
  have hp:ps[i]?=some y:=by
   rw[←S.pre,List.getElem?_take_of_lt (by omega)]; exact h1
  have ndP:ps.Nodup:=by rw[←S.pre]; exact S.nd.sublist (List.take_sublist _ _)
  refine⟨u,rv,?_⟩
  rcases S.par y (List.mem_of_getElem? hp) with k | k
  ·exact .inl ⟨k,ZiB ndP hp hu k⟩
  ·obtain⟨c,e⟩:=Zks (n:=s.heap.objs.size+1) k
   refine .inr ⟨.inl k,c,e,?_⟩;have q:=x.cell y c e;rw[Ziz ndP hp hu (by show scope.names.lookup y≠_; rw[k]; decide)]at q;exact q
 ·exact e0.hok.fresh (Nat.le_of_lt (x.above y c (PySem.mem_of_lookup h)))
 ·unfold start
  show _=N.length;rw[List.length_append,List.length_map,List.length_replicate];omega
theorem ZrR {CX:CXT} {P:Program} {w:World} {K:PySem.W.Frag} {mg:Str→Option Value} {base:Heap} {k:Nat} {f:Addr} {name qual:Str} {params:Arguments} {body:List Stmt} {scope:Scope} {dV kV doc pm cdv ct oc:Value} {an od:Option Addr}
  {osl:Array (Option Value)} {N ps:List Str} {sp:Sp} (lk:K.lookup f=some ⟨oc,od,.func (PySem.W.fnOf name qual params body scope dV kV doc pm an cdv ct),osl⟩) (hcd:PySem.W.codeIn K cdv qual=true) (S:FnScope N ps scope)
  (len:∀vs H Q E,sp vs H Q E→vs.length=ps.length)
  (hbody:∀(A:Around) (outer:List Env) (s:Shared) (H:Hp) (vs:List V) (Q:VK) (E:XK),Room k (A.deeper (envOfC qual scope s.heap.objs.size f cdv))→sp vs H Q E→
   ∃t,PSs (cxOf CX P w K mg base N qual scope f cdv A outer s H E) body t∧t { nx:=fun _ H'=>Q .non H',rt:=Q } (start N vs) H) :
  FnOk P w K mg base CX (k+1) f (PySem.W.fnOf name qual params body scope dV kV doc pm an cdv ct) ps sp:=by
 refine⟨len,fun A outer s H args us vs Q E hr e0 hb r hsp=>?_⟩;have hl:=len _ _ _ _ hsp;have KX:K.In s.heap:=e0.mod.kin.keeps fun b o e=>(e0.bs b o e).1;have lim:s.heap.NoLimit:=e0.mod.nolimit.keeps fun b o e=>(e0.bs b o e).1
 have hkind:∀y∈ps.zip us,scope.names.lookup y.1=some .local∨(scope.names.lookup y.1=some .cell∧((cellsFrom (s.heap.objs.size+1) scope.names []).lookup y.1).isSome=true):=fun⟨n,v⟩ hy=>by
  rcases S.par n (List.of_mem_zip hy).1 with q | q
  ·exact .inl q
  ·exact .inr ⟨q,PySem.W.cellsFrom_some _ _ _ (.inl q)⟩
 refine codeAny_call_function hr.depth (KX _ _ lk) rfl S.co S.gen rfl (PySem.W.codeRec_of KX hcd) (hb _ _ _ _ ?_);refine wpAny_newFunctionEnv_cells S.kind hkind fun env he s1 x=>?_;subst he;refine⟨lim.keeps x.toInCall.keep,codeAny_func ?_⟩;obtain⟨t,ht,hq⟩:=hbody A outer s H vs Q E (hr.deeper _) hsp;have I:Inv (cxOf CX P w K mg base N qual scope f cdv A outer s H E) [] (start N vs) H s1:=ZmZ S hr.hd e0 hl r x;refine wpAny_mono (ht [] s1 (start N vs) H _ I hq) (fun fl s' hs=>?_) fun e s' hs=>hs
 have fin:∀{σ':St} {H':Hp} {v:V} {u:Value},Inv (cxOf CX P w K mg base N qual scope f cdv A outer s H E) [] σ' H' s'→RelV v u→Q v H'→CE outer P w H s Q u s':=
  fun {σ' H' v u} J rv q=>⟨v,H',J.os,J.bare,J.base,J.hok,rv,q⟩
 cases fl with
 | ret u=>
  obtain⟨v,σ',H',J,rv,q⟩:=hs;exact fin J rv q
 | next=>
  obtain⟨σ',H',J,q⟩:=hs;exact fin (v:=V.non) (u:=Value.none) J rfl q
 | brk=>
  obtain⟨_,_,_,q⟩:=hs;exact False.elim q
 | cont=>
  obtain⟨_,_,_,q⟩:=hs;exact False.elim q
end L2
namespace L2
open PySem PySem.Spec PyProof.Rows
section
variable {X:Cx} {x:Str} {p pos:Pos} {e:Expr} {es:List Expr} {t:TA} {id T:String} {r:List V→Hp→VK→Prop}
def tCB (r:List V→Hp→VK→Prop) (t:TA):TE:=fun σ H Q=>t σ H fun vs H1=>r vs H1 Q
theorem Zar (hc:Zgf X (.builtin id) r) (hg:Gl X x) (hm:X.mg x=none) (hv:bootBuiltins x=some (.builtin id)) (ha:PA X (e::es) t) (hn:x≠"__name__":=by decide) (hdb:(x == ("__debug__" : Str))=false:=by decide)
  (he:starEach (e::es) X.env=(false,eval e X.env)::starEach es X.env:=by rfl) (hpl:(backTo pos (starEach es X.env)).any (·.1)=false:=by rfl):PE X (.Call (.Name x p) (e::es) [] pos) (tCB r t):=by
 intro pins s σ H Q I h;refine wpAny_Call_Name_kw (ZeV I hg hm hv ?_ hn hdb);exact PyProof.Rows.callWith_builtin1 (thn (ha pos pins s σ H _ I h) fun us s1 ⟨vs,H1,I1,r1,q1⟩=>hc pins s1 σ H1 vs us Q I1 r1 q1) he hpl
theorem Ze1 (hc:Zgf X (.type T) r) (hg:Gl X x) (hm:X.mg x=none) (hv:bootBuiltins x=some (.type T)) (ha:PA X (e::es) t) (hn:x≠"__name__":=by decide) (hdb:(x == ("__debug__" : Str))=false:=by decide)
  (he:starEach (e::es) X.env=(false,eval e X.env)::starEach es X.env:=by rfl) (hpl:(backTo pos (starEach es X.env)).any (·.1)=false:=by rfl):PE X (.Call (.Name x p) (e::es) [] pos) (tCB r t):=by
 intro pins s σ H Q I h;refine wpAny_Call_Name_kw (ZeV I hg hm hv ?_ hn hdb);exact PyProof.Rows.callWith_type1 (thn (ha pos pins s σ H _ I h) fun us s1 ⟨vs,H1,I1,r1,q1⟩=>hc pins s1 σ H1 vs us Q I1 r1 q1) he hpl
end
end L2
namespace HT
open PySem PyProof.Rows
def lexLt:List Int→List Int→Bool
 | [],[]=>false
 | [],_::_=>true
 | _::_,[]=>false
 | x::xs,y::ys=>if x=y then lexLt xs ys else decide (x < y)
theorem lexLt_cons (x y:Int) (xs ys:List Int):lexLt (x::xs) (y::ys)=if x=y then lexLt xs ys else decide (x < y):=rfl
theorem lexLt_nil_nil:lexLt [] []=false:=rfl
theorem lexLt_nil_cons (y:Int) (ys:List Int):lexLt [] (y::ys)=true:=rfl
theorem lexLt_cons_nil (x:Int) (xs:List Int):lexLt (x::xs) []=false:=rfl
theorem eqAt_int (A:Around) (s:Shared) (a:Int) (t:Tok) (c:Int) (u:Tok):∃e,SeqAt.EqAt A s (.int a t) (.int c u) e∧(e=true ↔ a=c):=
 ⟨(a == c),SeqAt.EqAt.int_int a t c u,by simp⟩
section
open PySem.SeqAt
open PySem.AutoSeq1 (wpAny_loadPart')
open PySem.MeetsSeq PySem.MeetsSeq2 PySem.MeetsSeq3
end
section
variable {prog:Program} {w:World} {A:Around} {E:Value→Shared→Prop} {s:Shared}
def sIx (n d:Nat):Option Int→Nat
 | none=>d
 | some v=>if v < 0 then(v+(n:Int)).toNat else min v.toNat n
theorem sIx_none (n d:Nat):sIx n d none=d:=rfl
theorem sIx_nat (n d k:Nat):sIx n d (some (k:Int))=min k n:=by
 show(if (k:Int) < 0 then((k:Int)+(n:Int)).toNat else min (k:Int).toNat n)=min k n;rw[if_neg (by omega),Int.toNat_natCast]
theorem ZsO (n d:Nat) (hd:d≤n) (o:Option Int):sIx n d o≤n:=by
 cases o with
 | none=>exact hd
 | some v=>
  show(if v < 0 then(v+(n:Int)).toNat else min v.toNat n)≤n
  by_cases hv:v < 0
  ·rw[if_pos hv]; omega
  ·rw[if_neg hv]; exact Nat.min_le_right _ _
theorem Zms (v:Int) (n d:Nat):(if v < 0 then max (v+(n:Int)) 0 else min v (n:Int))=((sIx n d (some v):Nat):Int):=by
 show(if v < 0 then max (v+(n:Int)) 0 else min v (n:Int))=(((if v < 0 then(v+(n:Int)).toNat else min v.toNat n):Nat):Int)
 by_cases hv:v < 0
 ·simp only [if_pos hv]; omega
 ·simp only [if_neg hv]; omega
theorem Zln (lo hi:Option Int) (n:Nat):Builtin.Slice.sliceAdjust lo hi 1 (n:Int)=(((sIx n 0 lo:Nat):Int),((sIx n n hi:Nat):Int)):=by
 have h1 : ¬((1:Int) < 0):=by omega
 unfold Builtin.Slice.sliceAdjust;simp only [h1,if_false];refine Prod.ext ?_ ?_
 ·cases lo with
  | none=>rfl
  | some v=>exact Zms v n 0
 ·cases hi with
  | none=>rfl
  | some v=>exact Zms v n n
theorem ZlO (i j:Nat):Builtin.Slice.slicePlaces (i:Int) (j:Int) 1=j - i:=by
 unfold Builtin.Slice.slicePlaces
 have h1:(1:Int) > 0:=by omega
 simp only [h1,if_true,Int.ediv_one]
 split <;> omega
theorem ZhR {v:Value} {o:Option Int} {Q:Option Int→Shared→Prop} (p:IsPart v o) (h:Q o s):wpAny (model prog w) A (Builtin.Slice.slicePartIndex v) Q E s:=by
 cases p with
 | none=>exact slicePart_none h
 | int i t=>exact slicePart_int h
theorem Zf6 {sl:Addr} {vl vu:Value} {lo hi:Option Int} {n:Nat} {Q:Int×Int×Nat→Shared→Prop} (hs:s.heap.IsSliceOf sl vl vu .none) (pl:IsPart vl lo) (pu:IsPart vu hi)
  (h:Q (((sIx n 0 lo:Nat):Int),1,sIx n n hi - sIx n 0 lo) s):wpAny (model prog w) A (Builtin.Slice.sliceApplied (.ref sl) (pure (n:Int))) Q E s:=by
 obtain⟨os,hos,hcs,hds⟩:=id hs;unfold Builtin.Slice.sliceApplied Builtin.Slice.sliceFields;refine wpAny_bind (wpAny_bind (wpAny_field hos hds (x:=vl) rfl (wpAny_bind (wpAny_field hos hds (x:=vu) rfl (wpAny_bind (wpAny_field hos hds (x:=.none) rfl (wpAny_pure ?_)))))));refine wpAny_bind (slicePart_none ?_);show wpAny _ _ (if ((1:Int) == 0)=true then _ else _) _ _ s;rw[if_neg (by decide)];refine wpAny_bind (ZhR pl (wpAny_bind (ZhR pu (wpAny_bind (wpAny_pure ?_)))));show wpAny _ _ (match Builtin.Slice.sliceAdjust lo hi 1 (n:Int) with | (lo,hi)=>pure (lo,(1:Int),Builtin.Slice.slicePlaces lo hi 1)) _ _ s;rw[Zln lo hi n];show wpAny _ _ (pure (((sIx n 0 lo:Nat):Int),(1:Int),Builtin.Slice.slicePlaces ((sIx n 0 lo:Nat):Int) ((sIx n n hi:Nat):Int) 1)) _ _ s;rw[ZlO];exact wpAny_pure h
theorem ZoZ (xs:Array Value) (i k:Nat):((List.range k).filterMap fun(m:Nat)=>xs[((i:Int)+(m:Int) * 1).toNat]?).toArray=((xs.toList.drop i).take k).toArray:=by
 have e:(fun(m:Nat)=>xs[((i:Int)+(m:Int) * 1).toNat]?)=fun m=>xs[i+m]?:=by
  funext m
  have:((i:Int)+(m:Int) * 1).toNat=i+m:=by omega
  rw[this]
 rw[e];have:=pick_run xs i k;rw[List.filterMap_map]at this;have e2:((fun x=>xs[x]?) ∘ fun x=>i+x)=fun m=>xs[i+m]?:=rfl;rw[e2]at this;rw[this]
theorem getItem_tuple_cut {t sl:Addr} {items:Array Value} {vl vu:Value} {lo hi:Option Int} {Q:Value→Shared→Prop} (ht:IsTup s.heap t items) (hs:s.heap.IsSliceOf sl vl vu .none) (pl:IsPart vl lo) (pu:IsPart vu hi)
  (hw : ¬(sIx items.size 0 lo=0∧sIx items.size items.size hi=items.size))
  (h:Q (.ref s.heap.objs.size) { s with heap:=s.heap.push { cls:=.type "tuple",data:=.seq ((items.toList.drop (sIx items.size 0 lo)).take (sIx items.size items.size hi - sIx items.size 0 lo)).toArray } })
  (hsz:items.size≤sizeLine):wpAny (model prog w) A (getItem (.ref t) (.ref sl)) Q E s:=by
 have htake:sizeOk (.seq ((items.toList.drop (sIx items.size 0 lo)).take (sIx items.size items.size hi - sIx items.size 0 lo)).toArray):=by
  show((items.toList.drop (sIx items.size 0 lo)).take (sIx items.size items.size hi - sIx items.size 0 lo)).toArray.size≤sizeLine;rw[List.size_toArray,List.length_take,List.length_drop,Array.length_toList];omega
 have hj:sIx items.size items.size hi≤items.size:=ZsO _ _ (Nat.le_refl _) hi;obtain⟨os,hos,hcs,hds⟩:=id hs;have hTs:s.TypeIs (.ref sl) "slice":=⟨os,hos,hcs⟩;unfold getItem
 try with_reducible refine wpAny_holding ?_
 first | refine wpAny_bind (wpAny_pure ?_) | skip
 refine wpAny_bind (wpAny_sequenceKey ht.typeIs (by decide) ?_)
 refine wpAny_bind (wpAny_callSpecial?_slot (name:=Str.ofString "__getitem__") ht.typeIs PyProof.Rows.slot_tuple_getitem
  (wpAny_call_entry PyProof.Rows.slot_tuple_getitem ht.typeIs entry_tuple_getitem ?_ (args_tuple_getitem _ _)))
 show wpAny _ _ (Builtin.Tuple.tupleItemsOf (.ref t) >>= _) _ _ s;refine wpAny_bind (tupleItemsOf_ ht ?_);refine wpAny_bind (wpAny_typeOf hTs ?_);rw[if_pos (by decide)];refine wpAny_bind (Zf6 hs pl pu ?_)
 have hno : ¬((((sIx items.size 0 lo:Nat):Int) == 0 && (1:Int) == 1 && (sIx items.size items.size hi - sIx items.size 0 lo) == items.size)=true):=by
  intro q;rw[Bool.and_eq_true,Bool.and_eq_true]at q;have q1:((sIx items.size 0 lo:Nat):Int)=0:=eq_of_beq q.1.1;have q2:sIx items.size items.size hi - sIx items.size 0 lo=items.size:=eq_of_beq q.2;exact hw ⟨by omega,by omega⟩
 show wpAny _ _ (if (((sIx items.size 0 lo:Nat):Int) == 0 && (1:Int) == 1 && (sIx items.size items.size hi - sIx items.size 0 lo) == items.size)=true then _ else _) _ _ s;rw[if_neg hno,ZoZ]
 first
  | exact wpAny_bind (m:=Builtin.Tuple.tupleExact _) (wpAny_newObj_type (wpAny_pure ⟨_,rfl,wpAny_pure h⟩) htake)
  | exact wpAny_bind (m:=Builtin.Tuple.tupleExact _) (wpAny_newObj_type (wpAny_bind (wpAny_pure (wpAny_pure ⟨_,rfl,wpAny_pure h⟩))) htake)
  | exact wpAny_bind (wpAny_bind (m:=Builtin.Tuple.tupleExact _) (wpAny_newObj_type (wpAny_pure (wpAny_pure ⟨_,rfl,wpAny_pure h⟩)) htake))
  | exact wpAny_bind (wpAny_bind (m:=Builtin.Tuple.tupleExact _) (wpAny_newObj_type (wpAny_pure ⟨_,rfl,wpAny_pure h⟩) htake))
end
end HT
namespace L2
open PySem PySem.Spec PyProof.Rows
abbrev TO:=St→Hp→(Option Int→Hp→Prop)→Prop
def PO (X:Cx) (e:Option Expr) (t:TO):Prop:=
 ∀(pins:List (Addr×Obj)) (s:Shared) (σ:St) (H:Hp) (Q:Option Int→Hp→Prop),Inv X pins σ H s→t σ H Q→
  wpAny (model X.prog X.w) X.A (evalPart e X.env) (fun u s'=>∃o H',Inv X pins σ H' s'∧IsPart u o∧Q o H') X.xe s
def ZnW:TO:=fun _ H Q=>Q none H
def Zs4 (t:TE):TO:=fun σ H Q=>t σ H fun x H1=>∃i,x=.int i∧Q (some i) H1
theorem Zhz {ns:List Int}:∀{us:List Value},Vals (ns.map V.int) us→IntsAre us ns:=by
 induction ns with
 | nil=>intro us r; rw[List.map_nil]at r; cases r; exact .nil
 | cons n ns ih=>
  intro us r;rw[List.map_cons]at r
  cases r with
  | cons r1 r2=>
   obtain⟨t,e⟩:=r1;subst e;exact .cons n t (ih r2)
section
variable {X:Cx} {e:Expr} {te:TE} {lo hi:Option Expr} {tl th:TO} {pos p2:Pos}
theorem Znu:PO X none ZnW:=by
 intro pins s σ H Q I h;rw[evalPart_none];exact wpAny_pure ⟨none,H,I,.none,h⟩
theorem Zfu (h:PE X e te):PO X (some e) (Zs4 te):=by
 intro pins s σ H Q I hw;rw[evalPart_some];refine thn (h pins s σ H _ I hw) fun u s1 ⟨x,H1,I1,r1,q1⟩=>?_;obtain⟨i,rfl,q⟩:=q1;obtain⟨t,rfl⟩:=r1;exact⟨some i,H1,I1,.int i t,q⟩
def SlR (X:Cx) (r:V→Option Int→Option Int→Hp→VK→Prop):Prop:=
 ∀(pins:List (Addr×Obj)) (s:Shared) (σ:St) (H:Hp) (x:V) (v vl vu:Value) (lo hi:Option Int) (sl:Addr) (Q:VK),Inv X pins σ H s→RelV x v→s.heap.IsSliceOf sl vl vu .none→IsPart vl lo→IsPart vu hi→r x lo hi H Q→
  ∃T id,typeLookup (.type T) "__getitem__" = pure (some (.builtin id))∧s.TypeIs v T∧wpAny (model X.prog X.w) X.A (getItem v (.ref sl)) (EP X pins σ Q) X.xe s
theorem SlR.or {r r':V→Option Int→Option Int→Hp→VK→Prop} (h:SlR X r) (h':SlR X r'):SlR X (fun x lo hi H Q=>r x lo hi H Q∨r' x lo hi H Q):=by
 intro pins s σ H x v vl vu lo hi sl Q I rx hs pl pu q
 rcases q with q | q
 ·exact h pins s σ H x v vl vu lo hi sl Q I rx hs pl pu q
 ·exact h' pins s σ H x v vl vu lo hi sl Q I rx hs pl pu q
def tSl (r:V→Option Int→Option Int→Hp→VK→Prop) (te:TE) (tl th:TO):TE:=fun σ H Q=>te σ H fun x H1=>tl σ H1 fun l H2=>th σ H2 fun u H3=>r x l u H3 Q
theorem Zgb {r:V→Option Int→Option Int→Hp→VK→Prop} (hr:SlR X r) (he:PE X e te) (hl:PO X lo tl) (hu:PO X hi th):PE X (.Subscript e (.Slice lo hi none p2) pos) (tSl r te tl th):=by
 intro pins s σ H Q I h;refine Subscript_ (thn (he pins s σ H _ I h) fun v s1 ⟨x,H1,I1,r1,q1⟩=>?_);refine wpAny_Slice (thn (hl pins s1 σ H1 _ I1 q1) fun vl s2 ⟨l,H2,I2,pl,q2⟩=>thn (hu pins s2 σ H2 _ I2 q2) fun vu s3 ⟨u,H3,I3,pu,q3⟩=>?_);rw[evalPart_none];refine wpAny_pure ?_;have I4:Inv X pins σ H3 { s3 with heap:=s3.heap.push { cls:=.type "slice",data:=.fields #[vl,vu,.none] } }:=I3.kept (t':=s3.toks) fun b ob q=>Heap.get?_push_of_some _ q;obtain⟨T,id,hT,ht,hg⟩:=hr pins { s3 with heap:=s3.heap.push { cls:=.type "slice",data:=.fields #[vl,vu,.none] } } σ H3 x v vl vu l u s3.heap.objs.size Q I4 r1 (Heap.IsSliceOf.new ..) pl pu q3;show wpAny (model X.prog X.w) X.A (subscriptTail e (.Slice lo hi none p2) v (.ref s3.heap.objs.size)) (EP X pins σ Q) X.xe { s3 with heap:=s3.heap.push { cls:=.type "slice",data:=.fields #[vl,vu,.none] } };exact tail_any (ops:=[.ref s3.heap.objs.size,v]) ht hT hg (by with_unfolding_all rfl)
def cutV (xs:List V) (lo hi:Option Int):List V:=(xs.drop (HT.sIx xs.length 0 lo)).take (HT.sIx xs.length xs.length hi - HT.sIx xs.length 0 lo)
theorem Zgo (xs:List V) (lo hi:Option Int):(cutV xs lo hi).length≤xs.length:=by
 unfold cutV;rw[List.length_take,List.length_drop];omega
def rSlT (K:PySem.W.Frag):V→Option Int→Option Int→Hp→VK→Prop:=fun x lo hi H Q=>∃a xs,x=.ref a∧SqT K H a xs∧
 ¬(HT.sIx xs.length 0 lo=0∧HT.sIx xs.length xs.length hi=xs.length)∧∀p,H p=none→Q (.ref p) (upd H p (.tup (cutV xs lo hi)))
theorem ZsU:SlR X (rSlT X.K):=by
 intro pins s σ H x v vl vu lo hi sl Q I rx hs pl pu h;obtain⟨a,xs,rfl,hx,hw,q⟩:=h
 cases rx
 obtain⟨its,r,ht,hz⟩:=I.tuple hx
 have hlen:its.toArray.size=xs.length:=by rw[List.size_toArray]; exact r.length.symm
 refine⟨"tuple",_,PyProof.Rows.slot_tuple_getitem.lookup,ht.typeIs,?_⟩;refine HT.getItem_tuple_cut ht hs pl pu (by rw[hlen]; exact hw) ?_ (by rw[hlen]; exact hz);rw[hlen];refine⟨.ref s.heap.objs.size,_,I.laid (t':=s.toks) (o:=.tup (cutV xs lo hi)) (fun b ob q=>Heap.get?_push_of_some _ q) (Nat.le_refl _) ?_,rfl,q _ (I.hok.fresh (Nat.le_refl _))⟩;exact⟨Nat.le_trans (Zgo xs lo hi) hz,_,(r.drop (HT.sIx xs.length 0 lo)).take (HT.sIx xs.length xs.length hi - HT.sIx xs.length 0 lo),IsTup.new _ _⟩
end
end L2
namespace L2
open PySem PySem.Spec PyProof.Rows
def ixN (n:Nat) (i:Int):Option Nat:=if 0≤i then(if i < n then some i.toNat else none) else if -(n:Int)≤i then some (i+n).toNat else none
def atI {α:Type} (xs:List α) (i:Int):Option α:=(ixN xs.length i).bind fun j=>xs[j]?
theorem Zm1 {n:Nat} {i:Int} {j:Nat} (h:ixN n i=some j):seqIndex? i n=some j∧j < n∧-(n:Int)≤i∧i < n:=by
 unfold ixN at h
 by_cases h0:0≤i
 ·rw[if_pos h0]at h
  by_cases h1:i < n
  ·rw[if_pos h1]at h
   have e:i.toNat=j:=Option.some.inj h;exact⟨by rw[seqIndex_of h0 h1,e],by omega,by omega,h1⟩
  ·rw[if_neg h1]at h; cases h
 ·rw[if_neg h0]at h
  by_cases h1 : -(n:Int)≤i
  ·rw[if_pos h1]at h
   have e:(i+n).toNat=j:=Option.some.inj h;exact⟨by rw[seqIndex_neg (by omega) h1,e],by omega,h1,by omega⟩
  ·rw[if_neg h1]at h; cases h
theorem ZjE {α:Type} {xs:List α} {i:Int} {v:α} (h:atI xs i=some v):∃j,seqIndex? i xs.length=some j∧xs[j]?=some v∧j < xs.length∧-(xs.length:Int)≤i∧i < xs.length:=by
 unfold atI at h
 cases e:ixN xs.length i with
 | none=>rw[e]at h; cases h
 | some j=>
  rw[e]at h;obtain⟨h1,h2,h3,h4⟩:=Zm1 e;exact⟨j,h1,h,h2,h3,h4⟩
theorem Zmh {α:Type} {xs:List α} {j:Nat} {v:α} (h:xs[j]?=some v):atI xs (j:Int)=some v:=by
 have hj:j < xs.length:=(List.getElem?_eq_some_iff.mp h).1
 have e:ixN xs.length (j:Int)=some j:=by
  unfold ixN;rw[if_pos (by omega),if_pos (by omega)]; simp
 unfold atI; rw[e]; exact h
def Zqk (b:Expr):Prop:=∀o i,subscripted b false o i=operate [o,i] (getItem o i)
def IxR (X:Cx) (r:R2):Prop:=
 ∀(value slice:Expr) (pins:List (Addr×Obj)) (s:Shared) (σ:St) (H:Hp) (x y:V) (v u:Value) (Q:VK),Inv X pins σ H s→RelV x v→RelV y u→r x y H Q→
  subscripted slice false v u=operate [v,u] (getItem v u)→wpAny (model X.prog X.w) X.A (subscriptTail value slice v u) (EP X pins σ Q) X.xe s
def MtR (X:Cx) (id:String) (r:V→List V→Hp→VK→Prop):Prop:=
 ∀(pins:List (Addr×Obj)) (s:Shared) (σ:St) (H:Hp) (x:V) (xs:List V) (v:Value) (us:List Value) (Q:VK),Inv X pins σ H s→RelV x v→Vals xs us→r x xs H Q→
  wpAny (model X.prog X.w) X.A (call (.builtin id) (v::us)) (EP X pins σ Q) X.xe s
section
variable {X:Cx} {a b:Expr} {ta tb:TE} {pos:Pos}
theorem IxR.or {r r':R2} (h:IxR X r) (h':IxR X r'):IxR X (fun x y H Q=>r x y H Q∨r' x y H Q):=by
 intro value slice pins s σ H x y v u Q I rx ry q hs
 rcases q with q | q
 ·exact h value slice pins s σ H x y v u Q I rx ry q hs
 ·exact h' value slice pins s σ H x y v u Q I rx ry q hs
theorem Zcm {r:R2} (hr:IxR X r) (ha:PE X a ta) (hb:PE X b tb) (hs:Zqk b):PE X (.Subscript a b pos) (tOp r ta tb):=by
 intro pins s σ H Q I h;exact Subscript_ (binT ha hb I h fun v u s2 x y H2 I2 rx ry q=>hr a b pins s2 σ H2 x y v u Q I2 rx ry q (hs _ _))
def rIxL (K:PySem.W.Frag):R2:=fun x y H Q=>∃p xs i v,x=.ref p∧y=.int i∧SqL K H p xs∧atI xs i=some v∧Q v H
def rIxT (K:PySem.W.Frag):R2:=fun x y H Q=>∃p xs i v,x=.ref p∧y=.int i∧SqT K H p xs∧atI xs i=some v∧Q v H
def rIxS:R2:=fun x y H Q=>∃z i c,x=.str z∧y=.int i∧z.length≤sizeLine∧atI z.cps.toList i=some c∧Q (.str ⟨#[c]⟩) H
theorem ZqK:IxR X (rIxL X.K):=by
 intro value slice pins s σ H x y v u Q I rx ry h hs;obtain⟨p,xs,i,z,rfl,rfl,hq,he,q⟩:=h
 cases rx
 obtain⟨t,rfl⟩:=ry;obtain⟨its,r,pl,hz⟩:=I.list hq;obtain⟨j,h1,h2,h3,h4,h5⟩:=ZjE he;obtain⟨w,ew,rw'⟩:=r.get h2;have hl:=r.length;have hn:=ZhB;have fin:EP X pins σ Q w s:=⟨z,H,I,rw',q⟩
 by_cases h0:0≤i
 ·have hj:i.toNat=j:=by
   rw[seqIndex_of h0 h5]at h1;exact Option.some.inj h1
  exact item_listR pl.isList h0 (by omega) (by rw[hj]; simpa using ew) fin hs
 ·have hj:(i+(its.toArray.size:Int)).toNat=j:=by
   rw[seqIndex_neg (by omega) h4]at h1;rw[List.size_toArray,←hl];exact Option.some.inj h1
  exact subscriptTail_builtinR (x:=w) pl.isList.typeIs slot_list_getitem.lookup
   (wpAny_getItem_list_neg (Q:=fun r s'=>r=w∧EP X pins σ Q r s') pl.isList (by omega) (by rw[List.size_toArray] <;> omega) (by omega) (by rw[hj]; simpa using ew) ⟨rfl,fin⟩) hs
theorem Zsf:IxR X (rIxT X.K):=by
 intro value slice pins s σ H x y v u Q I rx ry h hs;obtain⟨p,xs,i,z,rfl,rfl,hq,he,q⟩:=h
 cases rx
 obtain⟨t,rfl⟩:=ry;obtain⟨its,r,pl,hz⟩:=I.tuple hq;obtain⟨j,h1,h2,h3,h4,h5⟩:=ZjE he;obtain⟨w,ew,rw'⟩:=r.get h2;have hl:=r.length;have hn:=ZhB;have fin:EP X pins σ Q w s:=⟨z,H,I,rw',q⟩
 exact subscriptTail_builtinR (x:=w) pl.typeIs slot_tuple_getitem.lookup
  (getItem_tuple (j:=j) (Q:=fun r s'=>r=w∧EP X pins σ Q r s') pl (by omega) (by omega) (by rw[List.size_toArray,←hl]; exact h1) (by simpa using ew) ⟨rfl,fin⟩) hs
theorem Zse:IxR X rIxS:=by
 intro value slice pins s σ H x y v u Q I rx ry h hs;obtain⟨z,i,c,rfl,rfl,hz,he,q⟩:=h;obtain⟨t,rfl⟩:=rx;obtain⟨t',rfl⟩:=ry;obtain⟨j,h1,h2,h3,h4,h5⟩:=ZjE he
 have hl:z.cps.toList.length=z.length:=by simp[Str.length]
 rw[hl]at h1 h4 h5;have hn:=ZhB
 exact tail_any (typeIs_str s z t) slot_str_getitem.lookup (getItem_str (c:=c) (by
  have e1:decide (i < -(2 ^ 63:Int))=false:=decide_eq_false (by omega);have e2:decide (i ≥ 2 ^ 63)=false:=decide_eq_false (by omega)
  rw[e1,e2,Bool.or_false]) (by rw[h1]; simpa using h2) ⟨.str ⟨#[c]⟩,H,I.tok _,⟨_,rfl⟩,q⟩) hs
def rIx (K:PySem.W.Frag):R2:=fun x y H Q=>rIxL K x y H Q∨rIxT K x y H Q∨rIxS x y H Q
theorem ZbD:IxR X (rIx X.K):=ZqK.or (Zsf.or Zse)
theorem ZlL (its:List Value) (n j:Nat) (u:Value):Obj.mapSeq (·.setIfInBounds j u) { cls:=.type "list",data:=.seq its.toArray n } = { cls:=.type "list",data:=.seq (its.set j u).toArray n }:=by
 simp[Obj.mapSeq]
theorem Inv.lst {pins:List (Addr×Obj)} {σ:St} {H:Hp} {s:Shared} {p:Addr} {xs:List V} (I:Inv X pins σ H s) (h:H p=some (.lst xs)) :
  ∃(its:List Value) (n:Nat),Vals xs its∧s.heap.get? p=some { cls:=.type "list",data:=.seq its.toArray n }∧xs.length≤sizeLine:=by
 obtain⟨z,its,n,r,e⟩:=I.hok p _ h;exact⟨its,n,r,e,z⟩
theorem Inv.lstUpd {pins:List (Addr×Obj)} {σ:St} {H:Hp} {s:Shared} {p:Addr} {xs ys:List V} {its its':List Value} {n n':Nat} {f:Obj→Obj} (I:Inv X pins σ H s) (h:H p=some (.lst xs))
  (ho:s.heap.get? p=some { cls:=.type "list",data:=.seq its.toArray n }) (hf:f { cls:=.type "list",data:=.seq its.toArray n } = { cls:=.type "list",data:=.seq its'.toArray n' }) (r:Vals ys its') (hz:ys.length≤sizeLine) (t:Nat) :
  Inv X pins σ (upd H p (.lst ys)) { s with heap:=s.heap.update p f,toks:=t }:=by
 have e:(s.heap.update p f).get? p=some { cls:=.type "list",data:=.seq its'.toArray n' }:=by
  rw[Heap.get?_update_self f ho (by rw[hf] <;> rfl),hf]
 refine I.write (x:=p) (e:=p) (by rw[h]; trivial) (.inl rfl) (fun b u hb q=>(Heap.get?_update_other _ _ (Ne.symm hb)).trans q) ⟨_,e⟩ ?_;exact⟨hz,its',n',r,e⟩
def ZsL:V→V→V→Hp→(Hp→Prop)→Prop:=fun o i v H Q=>∃p xs k j,o=.ref p∧i=.int k∧H p=some (.lst xs)∧ixN xs.length k=some j∧Q (upd H p (.lst (xs.set j v)))
theorem Zgd:PSet X ZsL:=by
 intro pins s σ H o i v ov iv u Q I ro ri rv h;obtain⟨p,xs,k,j,rfl,rfl,hp,hj,q⟩:=h
 cases ro
 obtain⟨t,rfl⟩:=ri;obtain⟨its,n,r,ho,hz⟩:=I.lst hp;obtain⟨h1,h2,h3,h4⟩:=Zm1 hj;have hl:=r.length;have hn:=ZhB
 have I':Inv X pins σ (upd H p (.lst (xs.set j v))) { s with heap:=s.heap.update p (Obj.mapSeq (·.setIfInBounds j u)) }:=
  I.lstUpd hp ho (ZlL its n j u) (r.set rv j) (by rw[List.length_set]; exact hz) s.toks
 by_cases h0:0≤k
 ·have hk:k.toNat=j:=by
   rw[seqIndex_of h0 h4]at h1;exact Option.some.inj h1
  exact PySem.W.ki_setAt ho h0 (by omega) (by rw[List.size_toArray,←hl]; exact h4) (by rw[hk]; exact⟨_,I',q⟩)
 ·have hk:(k+(its.toArray.size:Int)).toNat=j:=by
   rw[seqIndex_neg (by omega) h3]at h1;rw[List.size_toArray,←hl];exact Option.some.inj h1
  exact PySem.W.ki_setBack ho (by omega) (by rw[List.size_toArray,←hl]; exact h3) (by omega) (by rw[hk]; exact⟨_,I',q⟩)
theorem Zjk (lo hi:Option Int) (n:Nat):(sliceBounds lo hi none n).1=((HT.sIx n 0 lo:Nat):Int)∧(sliceBounds lo hi none n).2.1=((HT.sIx n n hi:Nat):Int)∧(sliceBounds lo hi none n).2.2=1:=by
 refine⟨?_,?_,rfl⟩
 ·cases lo with
  | none=>simp[sliceBounds,HT.sIx]
  | some i=>
   simp only [sliceBounds,HT.sIx,Option.getD_none,show(1:Int) > 0 by decide,if_true]
   by_cases h:i < 0
   ·simp only [h,if_true] <;> omega
   ·simp only [h,if_false] <;> omega
 ·cases hi with
  | none=>simp[sliceBounds,HT.sIx]
  | some i=>
   simp only [sliceBounds,HT.sIx,Option.getD_none,show(1:Int) > 0 by decide,if_true]
   by_cases h:i < 0
   ·simp only [h,if_true] <;> omega
   ·simp only [h,if_false] <;> omega
theorem Zil (its:List Value) (lo hi:Option Int):slicePick its.toArray lo hi none=((its.drop (HT.sIx its.length 0 lo)).take (HT.sIx its.length its.length hi - HT.sIx its.length 0 lo)).toArray:=by
 obtain⟨h1,h2,h3⟩:=Zjk lo hi its.toArray.size;unfold slicePick;rw[h1,h2,h3]
 simp only [sliceRange_one,pick_run,List.size_toArray] <;> rfl
def rSlL (K:PySem.W.Frag):V→Option Int→Option Int→Hp→VK→Prop:=fun x lo hi H Q=>∃a xs,x=.ref a∧SqL K H a xs∧∀p,H p=none→Q (.ref p) (upd H p (.lst (cutV xs lo hi)))
theorem Zrk:SlR X (rSlL X.K):=by
 intro pins s σ H x v vl vu lo hi sl Q I rx hs pl pu h;obtain⟨a,xs,rfl,hx,q⟩:=h
 cases rx
 obtain⟨its,r,ht,hz⟩:=I.list hx;have hlen:=r.length;refine⟨"list",_,slot_list_getitem.lookup,ht.isList.typeIs,?_⟩;refine wpAny_getItem_list_slice ht.isList hs pl pu .none (by simp) ?_ (by rw[List.size_toArray] <;> omega);rw[Zil,←hlen];refine⟨.ref s.heap.objs.size,_,I.laid (t':=s.toks) (o:=.lst (cutV xs lo hi)) (fun b ob q=>Heap.get?_push_of_some _ q) (Nat.le_refl _) ?_,rfl,q _ (I.hok.fresh (Nat.le_refl _))⟩;exact⟨Nat.le_trans (Zgo xs lo hi) hz,_,0,(r.drop (HT.sIx xs.length 0 lo)).take (HT.sIx xs.length xs.length hi - HT.sIx xs.length 0 lo),Heap.get?_push_size _ rfl⟩
theorem ZiF:Zgf X (.type "list") (fun xs H Q=>∃p ys,xs=[.ref p]∧(SqL X.K H p ys∨SqT X.K H p ys)∧∀l,H l=none→Q (.ref l) (upd H l (.lst ys))):=by
 intro pins s σ H xs us Q I r h;obtain⟨p,ys,rfl,hq,q⟩:=h;obtain⟨u,rfl,rx⟩:=Zko r
 cases rx
 have fin:∀(its:List Value),Vals ys its→ys.length≤sizeLine→∀(h':Heap) (c':Nat),(∀b o',s.heap.get? b=some o'→h'.get? b=some o')→
   h'.get? s.heap.objs.size=some { cls:=.type "list",dict:=none,data:=.seq its.toArray c',slots:=#[] }→EP X pins σ Q (.ref s.heap.objs.size) { s with heap:=h' }:=fun its r' hz h' c' kp e=>
  ⟨.ref s.heap.objs.size,_,I.laid (t':=s.toks) kp (Nat.le_refl _) (show Zb8 X.prog X.w _ h' _ (.lst ys) from⟨hz,its,c',r',e⟩),rfl,q _ (I.hok.fresh (Nat.le_refl _))⟩
 rcases hq with hq | hq
 ·obtain⟨its,r',pl,hz⟩:=I.list hq
  have hlen:=r'.length;obtain⟨o,ho,hc,n,hd⟩:=pl.isList;exact call_list_seq p (.inl rfl) ho hc hd (fun h' c' kp e=>fin its r' hz h' c' kp e) (by simp only [List.size_toArray] <;> omega)
 ·obtain⟨its,r',pl,hz⟩:=I.tuple hq
  have hlen:=r'.length;obtain⟨o,ho,hc,n,hd⟩:=pl;exact call_list_seq p (.inr rfl) ho hc hd (fun h' c' kp e=>fin its r' hz h' c' kp e) (by simp only [List.size_toArray] <;> omega)
theorem ZhY:Zgf X (.type "tuple") (fun xs H Q=>∃p ys,xs=[.ref p]∧((SqL X.K H p ys∧∀l,H l=none→Q (.ref l) (upd H l (.tup ys)))∨(SqT X.K H p ys∧Q (.ref p) H))):=by
 intro pins s σ H xs us Q I r h;obtain⟨p,ys,rfl,h⟩:=h;obtain⟨u,rfl,rx⟩:=Zko r
 cases rx
 rcases h with⟨hq,q⟩ | ⟨hq,q⟩
 ·obtain⟨its,r',pl,hz⟩:=I.list hq
  have hlen:=r'.length;refine call_tuple_list pl.isList (fun h' kp=>?_) (by simp only [List.size_toArray] <;> omega);have I1:Inv X pins σ H { s with heap:=h' }:=I.kept (t':=s.toks) kp
  have I2:Inv X pins σ (upd H h'.objs.size (.tup ys)) { s with heap:=h'.push { cls:=.type "tuple",data:=.seq its.toArray } }:=
   I1.laid (t':=s.toks) (fun b o e=>Heap.get?_push_of_some _ e) (Nat.le_refl _) (show Zb8 X.prog X.w _ _ _ (.tup ys) from⟨hz,its,r',IsTup.new _ _⟩)
  exact⟨.ref h'.objs.size,_,I2,rfl,q _ (I1.hok.fresh (Nat.le_refl _))⟩
 ·obtain⟨its,r',pl,hz⟩:=I.tuple hq
  exact call_tuple_same pl ⟨.ref p,H,I,rfl,q⟩
def tyV (K:PySem.W.Frag) (T:String) (x:V) (H:Hp):Prop:=match x with
 | .str _=>T = "str"
 | .int _=>T = "int"
 | .ref p=>(T = "list"∧∃xs,SqL K H p xs)∨(T = "tuple"∧∃o,K.lookup p=some o∧o.cls=.type "tuple"∧o.dict=none)∨
   (T = "dict"∧((∃kvs,H p=some (.dK kvs))∨∃kvs,H p=some (.dT kvs)))∨(T = "set"∧∃S n,H p=some (.set S n))
 | _=>False
theorem Zqg {pins:List (Addr×Obj)} {σ:St} {H:Hp} {s:Shared} {T:String} {x:V} {v:Value} (I:Inv X pins σ H s) (r:RelV x v) (ty:tyV X.K T x H) :
  s.TypeIs v T∧∀a,v=.ref a→∃ob,s.heap.get? a=some ob∧ob.dict=none:=by
 cases x with
 | str z=>
  obtain⟨t,rfl⟩:=r
  cases (show T = "str" from ty)
  exact⟨typeIs_str s z t,fun _ e=>nomatch e⟩
 | int i=>
  obtain⟨t,rfl⟩:=r
  cases (show T = "int" from ty)
  exact⟨typeIs_int s i t,fun _ e=>nomatch e⟩
 | ref p=>
  cases r
  rcases ty with⟨rfl,xs,hq⟩ | ⟨rfl,o,hk,hc,hd⟩ | ⟨rfl,hk⟩ | ⟨rfl,S,n,hk⟩
  ·obtain⟨its,_,pl,_⟩:=I.list hq
   refine⟨pl.isList.typeIs,fun a e=>?_⟩
   cases e
   obtain⟨o,n,e,c,hd,_⟩:=pl;exact⟨o,e,hd⟩
  ·refine⟨⟨o,I.kIn p o hk,hc⟩,fun a e=>?_⟩
   cases e
   exact⟨o,I.kIn _ o hk,hd⟩
  ·have z:∃o,s.heap.get? p=some o∧o.ExactDict:=by
    rcases hk with⟨kvs,hk⟩ | ⟨kvs,hk⟩
    ·obtain⟨_,_,_,_,o,_,_,e,ex,_⟩:=I.hok p _ hk
     exact⟨o,e,ex⟩
    ·obtain⟨_,_,_,_,o,_,_,e,ex,_⟩:=I.hok p _ hk
     exact⟨o,e,ex⟩
   obtain⟨o,e,ex⟩:=z;refine⟨⟨o,e,ex.1⟩,fun a e2=>?_⟩
   cases e2
   exact⟨o,e,ex.2.1⟩
  ·obtain⟨o,_,_,_,e,ex,_⟩:=I.hok p _ hk
   refine⟨⟨o,e,ex.1⟩,fun a e2=>?_⟩
   cases e2
   exact⟨o,e,ex.2.1⟩
 | _=>exact False.elim ty
def tBM0 (K:PySem.W.Frag) (T:String) (r:V→List V→Hp→VK→Prop) (to:TE):TE:=fun σ H Q=>to σ H fun x H1=>tyV K T x H1∧r x [] H1 Q
def tBM (K:PySem.W.Frag) (T:String) (r:V→List V→Hp→VK→Prop) (to:TE) (t:TA):TE:=fun σ H Q=>to σ H fun x H1=>tyV K T x H1∧t σ H1 fun xs H2=>r x xs H2 Q
variable {o e:Expr} {es:List Expr} {to:TE} {t:TA} {name:Str} {apos cpos:Pos} {T id:String} {r:V→List V→Hp→VK→Prop}
theorem Zp5 (pa:PlainAttrs T) (slot:Slot T name id) (hty:typeOf (.builtin id)=pure (.type "method_descriptor")) (hm:MtR X id r) (ho:PE X o to)
  (hbase:attributeBase o name X.env (eval o X.env)=eval o X.env:=by rfl) (hline:(apos.endLine == cpos.line)=true:=by rfl):PE X (.Call (.Attribute o name apos) [] [] cpos) (tBM0 X.K T r to):=by
 intro pins s σ H Q I h;refine wpAny_Call_method0_late hbase hline (thn (ho pins s σ H _ I h) fun v s1 ⟨x,H1,I1,r1,ty,q1⟩=>?_);obtain⟨h1,h2⟩:=Zqg I1 r1 ty;exact⟨T,id,pa,slot,hty,h1,h2,Calls.callWith_builtin rfl (PySem.evalArgs_none (hm pins s1 σ H1 x [] v [] Q I1 r1 .nil q1))⟩
theorem ZsD (pa:PlainAttrs T) (slot:Slot T name id) (hty:typeOf (.builtin id)=pure (.type "method_descriptor")) (hm:MtR X id r) (ho:PE X o to) (ha:PA X (e::es) t)
  (hbase:attributeBase o name X.env (eval o X.env)=eval o X.env:=by rfl)
  (hfew:((backTo cpos (starEach (e::es) X.env)).all (fun x=>!x.1) && (backToKw cpos (keywordEach [] X.env)).all (fun x=>x.1.isSome)
   && decide ((e::es).length+([]:List Keyword).length+(if ([]:List Keyword).isEmpty then 0 else 1) < 30))=true:=by rfl)
  (hline:(apos.endLine == cpos.line)=true:=by rfl) (hs:starEach (e::es) X.env=(false,eval e X.env)::starEach es X.env:=by rfl) (hplain:(backTo cpos (starEach es X.env)).any (·.1)=false:=by rfl) :
  PE X (.Call (.Attribute o name apos) (e::es) [] cpos) (tBM X.K T r to t):=by
 intro pins s σ H Q I h;refine wpAny_Call_method_late hbase hfew hline rfl (thn (ho pins s σ H _ I h) fun v s1 ⟨x,H1,I1,r1,ty,q1⟩=>?_);obtain⟨h1,h2⟩:=Zqg I1 r1 ty;refine⟨T,id,pa,slot,hty,h1,h2,?_⟩;have hA:=ha cpos pins s1 σ H1 _ I1 q1;rw[hs]at hA ⊢;refine Calls.callWith_builtin (by show(false || (backTo cpos (starEach es X.env)).any (·.1))=false; rw[hplain] <;> rfl) (Calls.evalArgs_plain ?_);exact thn hA fun us s2 ⟨vs,H2,I2,r2,q2⟩=>hm pins s2 σ H2 x vs v us Q I2 r1 r2 q2
end
end L2
namespace L2
open PySem PySem.Spec PyProof.Rows
def MtM (X:Cx) (id:String) (r:V→List V→Hp→VK→Prop):Prop:=
 ∀(pins:List (Addr×Obj)) (s:Shared) (σ:St) (H:Hp) (x:V) (xs:List V) (v:Value) (us:List Value) (Q:VK),Inv X pins σ H s→RelV x v→Vals xs us→r x xs H Q→
  wpAny (model X.prog X.w) X.A (call (.builtin id) (v::us)) (EP X pins σ Q) X.xe s
theorem Vals.one:∀{x:V} {us:List Value},Vals [x] us→∃u,us=[u]∧RelV x u
 | _,_,.cons r .nil=>⟨_,rfl,r⟩
section
variable {X:Cx} {pins:List (Addr×Obj)} {σ:St} {H:Hp} {s:Shared} {l b:Addr} {xs ys zs:List V}
theorem Inv.lset {its its':List Value} {n:Nat} {f:Array Value→Array Value} {t':Nat} (I:Inv X pins σ H s) (hH:H l=some (.lst xs))
  (e:s.heap.get? l=some { cls:=.type "list",data:=.seq its.toArray n }) (hf:f its.toArray=its'.toArray) (hv:Vals ys its') (hz:ys.length≤sizeLine) :
  Inv X pins σ (upd H l (.lst ys)) { s with heap:=s.heap.update l (Obj.mapSeq f),toks:=t' }:=by
 have q:=PySem.IsL.update e f;rw[hf]at q;refine I.write (x:=l) (e:=l) (by rw[hH]; exact trivial) (.inl rfl) (fun b' u hb hu=>(Heap.get?_update_other s.heap (Obj.mapSeq f) (Ne.symm hb)).trans hu) ⟨_,q⟩ ?_;exact⟨hz,its',_,hv,q⟩
theorem Inv.lnew {its:List Value} {t':Nat} (I:Inv X pins σ H s) (hv:Vals ys its) (hz:ys.length≤sizeLine) :
  Inv X pins σ (upd H s.heap.objs.size (.lst ys)) { s with heap:=s.heap.push { cls:=.type "list",data:=.seq its.toArray },toks:=t' }:=
 I.laid (fun _ _ q=>Heap.get?_push_of_some _ q) (Nat.le_refl _) ⟨hz,its,0,hv,Heap.get?_push_size _ rfl⟩
theorem Inv.fresh (I:Inv X pins σ H s):H s.heap.objs.size=none:=I.hok.fresh (Nat.le_refl _)
theorem Inv.lstM (I:Inv X pins σ H s) (hH:H l=some (.lst xs)):xs.length≤sizeLine∧∃(its:List Value) (n:Nat),Vals xs its∧xs.length=its.length∧s.heap.get? l=some { cls:=.type "list",data:=.seq its.toArray n }:=by
 obtain⟨z,its,n,r,e⟩:=I.hok l _ hH;exact⟨z,its,n,r,r.length,e⟩
end
section
variable {X:Cx}
def Zka:V→List V→Hp→VK→Prop:=fun x vs H Q=>∃l xs y,x=.ref l∧vs=[y]∧H l=some (.lst xs)∧xs.length < sizeLine∧Q .non (upd H l (.lst (xs++[y])))
theorem ZgE:MtM X "list.append" Zka:=by
 intro pins s σ H x vs v us Q I rx rv h;obtain⟨l,xs,y,rfl,rfl,hH,hz,q⟩:=h
 cases rx
 obtain⟨u,rfl,ru⟩:=rv.one;obtain⟨z,its,n,r,hl,e⟩:=I.lstM hH;refine call_meets F.slot_list_append ⟨_,e,rfl⟩ F.entry_list_append (F.args_list_append_2 _ _) (PySem.list_append l its.toArray n u (by rw[List.size_toArray]; omega)) ⟨e,?_⟩;refine⟨.non,_,I.lset (its':=its++[u]) hH e (by simp) (r.append (.cons ru .nil)) ?_,rfl,q⟩;rw[List.length_append,List.length_singleton];omega
def rCat:R2:=fun x y H Q=>∃l b xs zs,x=.ref l∧y=.ref b∧H l=some (.lst xs)∧H b=some (.lst zs)∧xs.length+zs.length≤sizeLine∧∀p,H p=none→Q (.ref p) (upd H p (.lst (xs++zs)))
theorem Zsw:OpR X (binaryOp .Add) rCat:=by
 intro pins s σ H x y v u Q I rx ry h;obtain⟨l,b,xs,zs,rfl,rfl,hH,hB,hz,q⟩:=h
 cases rx
 cases ry
 obtain⟨z,its,n,r,hl,e⟩:=I.lstM hH;obtain⟨z2,its2,n2,r2,hl2,e2⟩:=I.lstM hB;refine PySem.P.add_list e e2 ?_ (by rw[List.size_toArray,List.size_toArray]; omega)
 have ea:its.toArray++its2.toArray=(its++its2).toArray:=by simp
 rw[ea];exact⟨.ref _,_,I.lnew (t':=s.toks) (r.append r2) (by rw[List.length_append]; omega),rfl,q _ I.fresh⟩
end
section
variable {prog:Program} {w:World} {A:Around} {E:Value→Shared→Prop} {s:Shared}
end
section
variable {X:Cx}
end
end L2
namespace L2
open PySem PySem.Spec PyProof.Rows
section
variable {κ:Type} [DecidableEq κ]
end
section
variable {P:Program} {w:World} {H:Hp} {h:Heap} {a:Addr}
end
section
variable {X:Cx} {pins:List (Addr×Obj)} {σ:St} {H:Hp} {s:Shared} {a:Addr} {y v:V} {u r:Value} {o:Option V} {A:Around} {E:Value→Shared→Prop}
end
section
variable {X:Cx} {pins:List (Addr×Obj)} {σ:St} {H:Hp} {s:Shared} {a:Addr} {kvs:List (Key×V)} {k:Key} {u:Value} {A:Around} {E:Value→Shared→Prop}
end
section
variable {X:Cx} {o i e value:Expr} {pos pos' tpos:Pos} {td ty tv:TE}
end
section
variable {X:Cx} {pos:Pos}
end
section
variable {X:Cx} {pins:List (Addr×Obj)} {σ:St} {H:Hp} {s:Shared} {a:Addr} {y d:V} {u r:Value} {o:Option V} {A:Around} {E:Value→Shared→Prop}
end
section
variable {X:Cx} {o e f:Expr} {apos cpos:Pos} {td ty tx:TE}
end
section
variable {X:Cx} {pins:List (Addr×Obj)} {σ:St} {H:Hp} {s:Shared} {a:Addr} {kvs:List (Key×V)} {A:Around} {E:Value→Shared→Prop}
end
section
variable {X:Cx} {pins:List (Addr×Obj)} {σ:St} {H:Hp} {s:Shared} {a:Addr} {y:V} {u:Value} {A:Around} {E:Value→Shared→Prop}
end
end L2
namespace Att
open PySem PySem.W PySem.Calls PyProof.Rows
theorem Zgs {P:Params} {h:Heap}:∀(ns:List Int) (vs:List Value),WellAll P h vs (ns.map WData.int)→IntsAre vs ns:=by
 intro ns
 induction ns with
 | nil=>
  intro vs w;rw[List.map_nil]at w
  cases w
  exact .nil
 | cons n ns ih=>
  intro vs w;rw[List.map_cons]at w
  cases w with
  | cons a b=>
   cases a
   exact .cons _ _ (ih _ b)
theorem ZnC {l:OpenLaw} {n:Nat} (hn:l.most=some n) {P:Params} {h:Heap} {args:List WData} {vals:List Value}
  (hpre:l.row.toRowW.claim.pre args=true) (hwl:WellAll P h vals args) :
  ∃a vs ns,vals=[Value.ref a]∧args=[WData.list (ns.map WData.int)]∧h.get? a=some { cls:=.type "list",data:=.seq vs.toArray }∧IntsAre vs ns∧ns.length≤n:=by
 have hsh:WShape.hasAll [] args [.list .int]=true:=(pre_splitW hpre).1;have hc:l.pre.holds [] { args:=args } = true:=(pre_splitW hpre).2;obtain⟨d,r,rfl,h1,h2⟩:=hasAllW_cons hsh;obtain rfl:=hasAllW_nil h2;obtain⟨xs,rfl,h3⟩:=hasW_list h1;obtain⟨ns,rfl⟩:=items_int h3
 have hlen:ns.length≤n:=by
  unfold OpenLaw.pre at hc
  have h4:(WTm.not (.lt (.lit (.int (n:Int))) (.len (.arg 0)))).holds [] { args:=[.list (ns.map .int)] } = true:=by
   have h4:=(holds_andW hc).1;rw[hn]at h4;exact h4
  have h5:=condW_of h4 (w_not (w_lt w_lit (w_len_list (w_arg rfl))));rw[List.length_map]at h5;refine Nat.le_of_not_lt fun q=>?_
  have q':(n:Int) < ((ns.length:Nat):Int):=by omega
  first
   | (rw[decide_eq_true q']at h5; exact absurd h5 (by decide))
   | (simp at h5; omega)
 cases hwl with
 | cons w1 w2=>
  cases w2
  cases w1 with
  | list ho hall=>exact⟨_,_,ns,rfl,rfl,ho,Zgs ns _ hall,hlen⟩
theorem Znv (l:OpenLaw) (args:List WData):l.row.toRowW.claim.post args (.bool true) args=true:=
 postW_of (r:=l.row.toRowW) (X:=(true == true))
  (show WShape.has [] (.bool true) .bool=true by first | rfl | decide | simp[WShape.has,WShape.arms,WShape.armsAll])
  (show(WTm.eq .res (.lit (.bool true))).value [] { args:=args,res:=some (.bool true),after:=args } = some (.bool (true == true)) from w_eq_bool (w_res rfl) w_lit) rfl
theorem attach_call {l:OpenLaw} {n:Nat} {q:Program} {loose:List Str} {XP:(Str→Option Value)→Heap→Prop} {YP:World→Heap→Prop} {d:DefRec}
  (hn:l.most=some n) (hdf:d.params.defaults=[])
  (call:∀(w:World) (s₀ s₁:Shared) (mg mb:Str→Option Value) (fa:Addr) (o:Obj) (pm cd doc:Value) (a:Addr) (vs:List Value) (ns:List Int),
   Ground q loose [] XP w s₀ mg mb s₁.heap→YP w s₁.heap→
   s₁.heap.get? fa=some o→o.data=.func (docDef d.name d.params d.body d.scope pm cd doc)→s₁.heap.CodeRec cd d.name→mg d.name=some (.ref fa)→
   s₁.heap.get? a=some { cls:=.type "list",data:=.seq vs.toArray }→IntsAre vs ns→ns.length≤n→s₁.gens = #[]→
   codeAny (model l.prog w) callerA (.call (.ref fa) ⟨[.ref a],[]⟩) (fun r s'=>r=.ok (.ret (.bool true))∧OldK s₁.heap s'.heap∧s'.os=s₁.os∧AllBare s'.gens) s₁) :
  WalkO q loose XP YP l.row.toRowW d [] (fun f vs=>PySem.call f vs):=by
 intro w s₀ s₁ mg mb G Y fa o pm cd doc dV kV ho hd hcd hD hmg hg args vals as hpre hlay hrd hwl hlo;obtain rfl:dV=.none:=Dflts.none hD hdf;obtain rfl:kV=.none:=Dflts.noKw hD;obtain⟨a,vs,ns,rfl,rfl,hobj,hints,hlen⟩:=ZnC hn hpre hwl;refine enter_call (codeAny_mono (call w s₀ s₁ mg mb fa o pm cd doc a vs ns G Y ho (fd_plain hd) hcd hmg hobj hints hlen hg) fun r s' hq=>?_);obtain⟨rfl,h2,h3,h4⟩:=hq;exact⟨.inl ⟨.bool true,.bool true,[],rfl,fun _=>rfl,.bool true,Znv l _,fun _=>⟨List.Pairwise.nil,fun _ hm=>(nomatch hm)⟩⟩,h2,h3,h4⟩
section
variable {prog:Program} {w:World} {A:Around} {E:Value→Shared→Prop} {s:Shared} {K:Frag}
end
end Att
namespace L2
open PySem PySem.Spec PyProof.Rows
theorem Zjs:∀{vs:List Value} {ns:List Int},IntsAre vs ns→Vals (ns.map V.int) vs
 | _,_,.nil=>.nil
 | _,_,.cons n t h=>.cons ⟨t,rfl⟩ (Zjs h)
def Only (H:Hp):Prop:=∀b,H b=none∨∃o xs,H b=some (.frz o (.lst xs))
theorem ZoG {P:Program} {w:World} {K:PySem.W.Frag} {mg mb:Str→Option Value} {CX:CXT} {k:Nat} {fa a:Addr} {fd:FuncData} {x:Str} {sp:Sp} {s₁:Shared} {vs:List Value} {ns:List Int}
  (KX:K.In s₁.heap) (hns:s₁.heap.Ns mainGlobals mg) (hb:s₁.heap.Ns builtinsNs mb) (hbb:∀x:Str,x≠"__name__"→mb x=bootBuiltins x) (hlim:s₁.heap.NoLimit) (hg:s₁.gens = #[])
  (ha:s₁.heap.get? a=some { cls:=.type "list",data:=.seq vs.toArray }) (hi:IntsAre vs ns) (hl:ns.length≤sizeLine) (hr:Room k callerA)
  (F:∀base:Heap,K.In base→base.Ns mainGlobals mg→FnOk P w K mg base CX k fa fd [x] sp) (hbind:∀(s:Shared) (u:Value),BindsTo s fd ⟨[u],[]⟩ [(x,u)])
  (hsp:∀H:Hp,Only H→SqL K H a (ns.map V.int)→sp [.ref a] H (fun v _=>v=.bl true) fun _ _ _=>False)
  (hCX:∀H e s',CX [] H s₁ (fun _ _ _=>False) e s'→False) :
  codeAny (model P w) callerA (.call (.ref fa) ⟨[.ref a],[]⟩) (fun r s'=>r=.ok (.ret (.bool true))∧OldK s₁.heap s'.heap∧s'.os=s₁.os∧AllBare s'.gens) s₁:=by
 have rv:=Zjs hi;have lenV:=hi.length
 have core:∀H:Hp,Only H→SqL K H a (ns.map V.int)→HOk P w H s₁.heap→(∀b,H b≠none→b=a)→(H a≠none→K.lookup a=none)→
   codeAny (model P w) callerA (.call (.ref fa) ⟨[.ref a],[]⟩) (fun r s'=>r=.ok (.ret (.bool true))∧OldK s₁.heap s'.heap∧s'.os=s₁.os∧AllBare s'.gens) s₁:=by
  intro H hO hS hok hA hK;have base_of:∀{b:Addr} {o:Obj},s₁.heap.get? b=some o→H b=none→(hidT s₁.heap H).get? b=some o:=fun e n=>Zou e n
  have noA:∀{b:Addr} {o:Obj} {es:Array DictEntry} {ep:Nat},s₁.heap.get? b=some o→o.data=.dict es ep→H b=none:=fun {b o es ep} e d=>by
   cases q:H b with
   | none=>rfl
   | some u=>
    have e':b=a:=hA b (by rw[q]; simp);subst e';rw[ha]at e; cases e;have d':Data.seq vs.toArray _=Data.dict es ep:=d
    cases d'
  have nsK:∀{b:Addr} {m:Str→Option Value},s₁.heap.Ns b m→(hidT s₁.heap H).Ns b m:=fun {b m} ⟨o,es,ep,e,d,r⟩=>⟨o,es,ep,base_of e (noA e d),d,r⟩
  have hKb:K.In (hidT s₁.heap H):=fun b o e=>base_of (KX b o e) (by
   cases q:H b with
   | none=>rfl
   | some u=>
    have e':b=a:=hA b (by rw[q]; simp);subst e'
    rw[hK (by rw[q]; simp)]at e; cases e)
  have hM:Mod K mg (hidT s₁.heap H):=⟨hKb,nsK hns,⟨mb,nsK hb,hbb⟩,let ⟨mc,h1,h2⟩:=hlim; ⟨mc,nsK h1,h2⟩⟩;have e0:Env0 P w K mg (hidT s₁.heap H) callerA [] s₁ H:=⟨rfl,hM,fun b o e=>Zq4 e,Nat.le_of_eq (ZmP _ _),trivial,fun b hb=>absurd (show b∈([]:List Addr) from hb) (by simp),hok,.of_eq hg⟩;refine codeAny_mono ((F _ hKb (nsK hns)).run callerA [] s₁ H ⟨[.ref a],[]⟩ [.ref a] [.ref a] _ _ hr e0 (hbind s₁ (.ref a)) (.cons rfl .nil) (hsp H hO hS)) fun r s' h=>?_
  cases r with
  | error e=>exact(hCX H e s' h).elim
  | ok fl=>
   cases fl with
   | next=>exact False.elim h
   | brk=>exact False.elim h
   | cont=>exact False.elim h
   | ret u=>
    obtain⟨v,H',os,bare,un,hok',r',q⟩:=h;have q':v=.bl true:=q;subst q';obtain rfl:u=Value.bool true:=r';refine⟨rfl,OldK.of_keep fun b o e=>?_,os,bare⟩
    cases q:H b with
    | none=>exact un.keep b o e q (by intro z; exact absurd (show b∈([]:List Addr) from z) (by simp)) (by simp)
    | some u=>
     rcases hO b with z | ⟨ob,xs,z⟩
     ·rw[q]at z; cases z
     ·have z2:=un.frzs b ob _ z
      obtain⟨e1,_⟩:=hok b _ z;obtain⟨e2,_⟩:=hok' b _ z2;rw[e]at e1; cases e1;exact e2
 cases hk:K.lookup a with
 | some o=>
  have e:=KX a o hk;rw[ha]at e
  cases e
  refine core (fun _=>none) (fun _=>.inl rfl) (.inr ⟨_,vs.toArray,_,hk,rfl,rfl,rfl,by rw[List.size_toArray,lenV]; exact hl,by simpa using rv⟩) (fun b u z=>by have z':(none:Option HO)=some u:=z; cases z') (fun b z=>absurd rfl z) fun z=>absurd rfl z
 | none=>
  refine core (fun b=>if b=a then some (.frz { cls:=.type "list",data:=.seq vs.toArray } (.lst (ns.map V.int))) else none) (fun b=>?_) (.inl (.inr ⟨{ cls:=.type "list",data:=.seq vs.toArray },if_pos rfl⟩)) (fun b u z=>?_) (fun b z=>?_) fun _=>hk
  ·by_cases hb:b=a
   ·exact .inr ⟨_,_,if_pos hb⟩
   ·exact .inl (if_neg hb)
  ·by_cases hb:b=a
   ·have z':=(if_pos hb).symm.trans z
    cases z'
    subst hb;exact⟨ha,by rw[List.length_map]; exact hl,vs,_,rv,ha⟩
   ·have z':=(if_neg hb).symm.trans z
    cases z'
  ·by_cases hb:b=a
   ·exact hb
   ·exact absurd (if_neg hb) z
end L2
namespace L2
open PySem PySem.Spec PyProof.Rows
abbrev KOf {K:PySem.W.Frag} {h:Heap} (_:K.In h):PySem.W.Frag:=K
theorem ZrC {l:PySem.W.OpenLaw} {n k:Nat} {q:Program} {loose:List Str} {XP:(Str→Option Value)→Heap→Prop} {YP:World→Heap→Prop} {d:DefRec} {K:Params→PySem.W.Frag} {CX:World→CXT} {sp:World→Sp} {x:Str}
  (hn:l.most=some n) (hn2:n≤sizeLine) (hdf:d.params.defaults=[]) (hr:Room k callerA)
  (hY:∀(w:World) (h:Heap),YP w h→(K w.params).In h)
  (F:∀(w:World) (mg:Str→Option Value) (fa:Addr) (h:Heap),(K w.params).In h→h.Ns mainGlobals mg→mg d.name=some (.ref fa)→
   ∃fd:FuncData,(∀(s:Shared) (u:Value),BindsTo s fd ⟨[u],[]⟩ [(x,u)])∧
    ∀base:Heap,(K w.params).In base→base.Ns mainGlobals mg→FnOk l.prog w (K w.params) mg base (CX w) k fa fd [x] (sp w))
  (hsp:∀(w:World) (H:Hp) (a:Addr) (ns:List Int),ns.length≤n→Only H→SqL (K w.params) H a (ns.map V.int)→sp w [.ref a] H (fun v _=>v=.bl true) fun _ _ _=>False)
  (hCX:∀(w:World) (H:Hp) (s:Shared) (e:Value) (s':Shared),CX w [] H s (fun _ _ _=>False) e s'→False) :
  PySem.W.WalkO q loose XP YP l.row.toRowW d [] (fun f vs=>PySem.call f vs):=by
 refine Att.attach_call hn hdf fun w s₀ s₁ mg mb fa o pm cd doc a vs ns G Y ho hd hcd hmg hobj hints hlen hg=>?_;have KX:=hY w _ Y;obtain⟨fd,hb,hF⟩:=F w mg fa _ KX G.T.g hmg;exact ZoG KX G.T.g G.T.b G.T.builtins G.T.nolimit hg hobj hints (Nat.le_trans hlen hn2) hr hF hb (fun H hO hS=>hsp w H a ns hlen hO hS) fun H e s'=>hCX w H s₁ e s'
theorem walk_ofK {l:PySem.W.OpenLaw} {n k:Nat} {q:Program} {loose:List Str} {XP:(Str→Option Value)→Heap→Prop} {YP:World→Heap→Prop} {d:DefRec} {K:Params→PySem.W.Frag} {CX:CXT} {sp:PySem.W.Frag→Sp} {x:Str}
  (hn:l.most=some n) (hn2:n≤sizeLine) (hdf:d.params.defaults=[]) (hr:Room k callerA)
  (hY:∀(w:World) (h:Heap),YP w h→(K w.params).In h)
  (F:∀(w:World) (mg:Str→Option Value) (fa:Addr) (h:Heap),(K w.params).In h→h.Ns mainGlobals mg→mg d.name=some (.ref fa)→
   ∃fd:FuncData,(∀(s:Shared) (u:Value),BindsTo s fd ⟨[u],[]⟩ [(x,u)])∧
    ∀base:Heap,(K w.params).In base→base.Ns mainGlobals mg→FnOk l.prog w (K w.params) mg base CX k fa fd [x] (sp (K w.params)))
  (hsp:∀(K:PySem.W.Frag) (H:Hp) (a:Addr) (ns:List Int),ns.length≤n→Only H→SqL K H a (ns.map V.int)→sp K [.ref a] H (fun v _=>v=.bl true) fun _ _ _=>False)
  (hCX:∀(H:Hp) (s:Shared) (e:Value) (s':Shared),CX [] H s (fun _ _ _=>False) e s'→False) :
  PySem.W.WalkO q loose XP YP l.row.toRowW d [] (fun f vs=>PySem.call f vs):=
 ZrC (K:=K) (CX:=fun _=>CX) (sp:=fun w=>sp (K w.params)) hn hn2 hdf hr hY F (fun w H a ns h1 h2 h3=>hsp (K w.params) H a ns h1 h2 h3) fun _ H s e s'=>hCX H s e s'
end L2
namespace L2
open PySem PySem.Spec PyProof.Rows
def ZjR (s:Stmt) (j:Nat):Stmt:=match s with
 | .ClassDef _ _ _ body _ _ _ _ _ _ _=>body.getD j (.Pass ⟨0,0,0,0⟩)
 | _=>.Pass ⟨0,0,0,0⟩
def ZeD (s:Stmt):Arguments:=match s with
 | .FunctionDef _ a _ _ _ _ _ _ _ _=>a
 | _=>{ posonlyargs:=[],args:=[],vararg:=none,kwonlyargs:=[],kw_defaults:=[],kwarg:=none,defaults:=[] }
def ZdG (s:Stmt):List Stmt:=match s with
 | .FunctionDef _ _ b _ _ _ _ _ _ _=>b
 | _=>[]
def Zag (s:Stmt):Scope:=match s with
 | .FunctionDef _ _ _ _ _ _ sc _ _ _=>sc
 | _=>{ kind:=.function,names:=[],isGenerator:=false,isCoroutine:=false }
abbrev CX0:CXT:=fun _ _ _ _ _ _=>False
abbrev E0:XK:=fun _ _ _=>False
theorem Zq9 {X:Cx}:Zis CX0 X E0:=fun _ _ _ _ _ _ _ h=>h.elim
structure Fun (K:PySem.W.Frag) (x qual:Str) (st:Stmt) (f:Addr) (fd:FuncData):Prop where
 ex:∃(oc:Value) (od:Option Addr) (kV doc pm:Value) (an:Option Addr) (cdv ct:Value) (osl:Array (Option Value)),
  fd=PySem.W.fnOf x qual (ZeD st) (ZdG st) (Zag st) .none kV doc pm an cdv ct∧K.lookup f=some ⟨oc,od,.func fd,osl⟩ ∧PySem.W.codeIn K cdv qual=true
 kp:PySem.W.keepIn K (.ref f)=true
section
variable {P:Program} {w:World} {K:PySem.W.Frag} {mg:Str→Option Value} {base:Heap}
theorem Fun.ok {x qual:Str} {st:Stmt} {f:Addr} {fd:FuncData} {N ps:List Str} {k:Nat} {sp:Sp} (F:Fun K x qual st f fd) (S:FnScope N ps (Zag st)) (len:∀vs H Q E,sp vs H Q E→vs.length=ps.length)
  (hbody:∀(cdv:Value) (A:Around) (outer:List Env) (s:Shared) (H:Hp) (vs:List V) (Q:VK) (E:XK),Room k (A.deeper (envOfC qual (Zag st) s.heap.objs.size f cdv))→sp vs H Q E→
   ∃t,PSs (cxOf CX0 P w K mg base N qual (Zag st) f cdv A outer s H E).nox (ZdG st) t∧t { nx:=fun _ H'=>Q .non H',rt:=Q } (start N vs) H):FnOk P w K mg base CX0 (k+1) f fd ps sp:=by
 obtain⟨oc,od,kV,doc,pm,an,cdv,ct,osl,rfl,lk,hcd⟩:=F.ex;refine ZrR lk hcd S len fun A outer s H vs Q E hr hsp=>?_;obtain⟨t,h,q⟩:=hbody cdv A outer s H vs Q E hr hsp;exact⟨t,h.nox,q⟩
theorem Fun.binds {x qual:Str} {st:Stmt} {f:Addr} {fd:FuncData} {ps:List Str} (F:Fun K x qual st f fd)
  (h:∀(kV doc pm:Value) (an:Option Addr) (cdv ct:Value) (us:List Value),us.length=ps.length→bindArgs (PySem.W.fnOf x qual (ZeD st) (ZdG st) (Zag st) .none kV doc pm an cdv ct) ⟨us,[]⟩=pure (ps.zip us)):ZaX K fd ps []:=by
 obtain⟨oc,od,kV,doc,pm,an,cdv,ct,osl,rfl,lk,hcd⟩:=F.ex;exact .all (h kV doc pm an cdv ct)
theorem ZpB {x qual:Str} {st:Stmt} {f:Addr} {oc:Value} {od an:Option Addr} {osl:Array (Option Value)} {kV doc pm cdv ct:Value} (l:K.lookup f=some ⟨oc,od,.func (PySem.W.fnOf x qual (ZeD st) (ZdG st) (Zag st) .none kV doc pm an cdv ct),osl⟩)
  (c:PySem.W.codeIn K cdv qual=true) (k:PySem.W.keepIn K (.ref f)=true):Fun K x qual st f (PySem.W.fnOf x qual (ZeD st) (ZdG st) (Zag st) .none kV doc pm an cdv ct):=⟨⟨oc,od,kV,doc,pm,an,cdv,ct,osl,rfl,l,c⟩,k⟩
end
section
variable {X:Cx}
theorem pv (i:Nat) {x:Str} {pos:Pos} (hN:X.N[i]?=some x:=by rfl) (hv:Vis X.env.scope x:=by first | exact Or.inl rfl | exact Or.inr (Or.inl rfl) | exact Or.inr (Or.inr rfl)) (hd:(x == ("__debug__" : Str))=false:=by decide)
  (hcd:(x == ("__classdict__" : Str))=false:=by decide):PE X (.Name x pos) (tVar i):=ZsF hN hv hd hcd
end
abbrev Same (H H':Hp):Prop:=∀b o,H b=some o→H' b=some o
theorem Same.refl (H:Hp):Same H H:=fun _ _ h=>h
theorem Same.trans {H H1 H2:Hp} (a:Same H H1) (b:Same H1 H2):Same H H2:=fun c o h=>b c o (a c o h)
theorem Same.free {H H':Hp} (e:Same H H') {l:Addr} (h:H' l=Option.none):H l=Option.none:=by
 cases q:H l with
 | none=>rfl
 | some o=>
  rw[e l o q]at h
  cases h
theorem Same.seq {K:PySem.W.Frag} {H H':Hp} {a:Addr} {xs:List V} (e:Same H H') (h:SqL K H a xs):SqL K H' a xs:=by
 rcases h with(h | ⟨o,h⟩) | h
 ·exact .inl (.inl (e _ _ h))
 ·exact .inl (.inr ⟨o,e _ _ h⟩)
 ·exact .inr h
section
variable {X:Cx}
end
section
variable {κ:Type} [DecidableEq κ]
end
end L2
namespace EM
def bits (f:Nat→Bool):Nat→Nat
 | 0=>0
 | n+1=>bits f n+(if f n then 2 ^ n else 0)
theorem ZdB (f:Nat→Bool):∀n,bits f n < 2 ^ n
 | 0=>by simp[bits]
 | n+1=>by
  have h:=ZdB f n;simp only [bits]
  have e:(2:Nat) ^ (n+1)=2 ^ n+2 ^ n:=by rw[Nat.pow_succ]; omega
  split <;> omega
theorem Zaq (f:Nat→Bool) (i:Nat):∀n,(bits f n).testBit i=(decide (i < n) && f i)
 | 0=>by simp[bits]
 | n+1=>by
  have ih:=Zaq f i n;have hl:=ZdB f n;simp only [bits]
  by_cases hf:f n=true
  ·rw[if_pos hf,Nat.add_comm]
   rcases Nat.lt_trichotomy i n with h | h | h
   ·rw[Nat.testBit_two_pow_add_gt h,ih]
    simp[h,Nat.lt_succ_of_lt h]
   ·subst h
    rw[Nat.testBit_two_pow_add_eq,ih];simp[hf]
   ·have:(2:Nat) ^ n+bits f n < 2 ^ i:=by
     have e:(2:Nat) ^ (n+1)=2 ^ n+2 ^ n:=by rw[Nat.pow_succ]; omega
     have:(2:Nat) ^ (n+1)≤2 ^ i:=Nat.pow_le_pow_right (by decide) h;omega
    rw[Nat.testBit_lt_two_pow this]
    have : ¬i < n+1:=by omega
    simp[this]
  ·rw[if_neg hf,Nat.add_zero,ih]
   by_cases h:i=n
   ·subst h
    have:f i=false:=by simpa using hf
    simp[this]
   ·have:(i < n+1) ↔ (i < n):=by omega
    simp[this]
theorem ZdA {f g:Nat→Bool} {n:Nat} (h:∀i,i < n→f i=g i):bits f n=bits g n:=by
 apply Nat.eq_of_testBit_eq;intro i;rw[Zaq,Zaq]
 by_cases hi:i < n
 ·simp[hi,h i hi]
 ·simp[hi]
theorem Zqr (f g:Nat→Bool) (n:Nat):bits f n ||| bits g n=bits (fun i=>f i || g i) n:=by
 apply Nat.eq_of_testBit_eq;intro i;rw[Nat.testBit_or,Zaq,Zaq,Zaq]
 cases decide (i < n) <;> simp
theorem Zea (n:Nat):bits (fun _=>false) n=0:=by
 apply Nat.eq_of_testBit_eq;intro i;rw[Zaq];simp
theorem ZjG (f:Nat→Bool) (n:Nat) (h:f n=true):bits f n ||| 2 ^ n=bits f (n+1):=by
 have e:=Nat.two_pow_add_eq_or_of_lt (ZdB f n) 1;rw[Nat.mul_one]at e;rw[Nat.or_comm,←e];simp only [bits,h,if_true];omega
theorem ZiD (f:Nat→Bool) (n:Nat) (h:f n=false):bits f (n+1)=bits f n:=by
 simp[bits,h]
theorem ZqU (s k:Nat):s.testBit k=decide (s / 2 ^ k % 2=1):=Nat.testBit_eq_decide_div_mod_eq
theorem ZkV:∀(n x y:Nat),x < n→(x ||| y)=(x &&& y)+(x ^^^ y)
 | 0,x,y,h=>absurd h (by omega)
 | n+1,x,y,h=>by
  by_cases hx:x=0
  ·subst hx; simp
  ·have ih:=ZkV n (x / 2) (y / 2) (by omega)
   have e1:=Nat.div_add_mod (x ||| y) 2;have e2:=Nat.div_add_mod (x &&& y) 2;have e3:=Nat.div_add_mod (x ^^^ y) 2;rw[Nat.or_div_two]at e1;rw[Nat.and_div_two]at e2;rw[Nat.xor_div_two]at e3;have m1:(x ||| y) % 2=(x % 2 ||| y % 2):=Nat.or_mod_two_pow (n:=1);have m2:(x &&& y) % 2=(x % 2 &&& y % 2):=Nat.and_mod_two_pow (n:=1);have m3:(x ^^^ y) % 2=(x % 2 ^^^ y % 2):=Nat.xor_mod_two_pow (n:=1)
   have m4:(x % 2 ||| y % 2)=(x % 2 &&& y % 2)+(x % 2 ^^^ y % 2):=by
    rcases Nat.mod_two_eq_zero_or_one x with a | a <;> rcases Nat.mod_two_eq_zero_or_one y with b | b <;> rw[a,b] <;> rfl
   omega
end EM
namespace EM
end EM
namespace L2
open PySem PySem.Spec PyProof.Rows
section
variable {σ:St} {H:Hp} {Q:VK} {D:Ends} {K:PySem.W.Frag} {BQ:Bool→Hp→Prop}
theorem Zsd {i:Nat} {v:V} (h:σ[i]?=some (some v)) (k:Q v H):tVar i σ H Q:=⟨v,h,k⟩
theorem i_c {v:V} (k:Q v H):tC v σ H Q:=k
theorem i_op {r:R2} {ta tb:TE} (h:ta σ H fun x H1=>tb σ H1 fun y H2=>r x y H2 Q):tOp r ta tb σ H Q:=h
theorem i_un {r:V→Hp→VK→Prop} {ta:TE} (h:ta σ H fun x H1=>r x H1 Q):tUn r ta σ H Q:=h
theorem Zr8 {g:Int→Int→V} {i j:Int} (h:Q (g i j) H):rI0 g (.int i) (.int j) H Q:=⟨i,j,rfl,rfl,h⟩
theorem i_rI {C:Int→Int→Prop} {g:Int→Int→V} {i j:Int} (c:C i j) (h:Q (g i j) H):rI C g (.int i) (.int j) H Q:=⟨i,j,rfl,rfl,c,h⟩
theorem i_rU {g:Int→V} {i:Int} (h:Q (g i) H):rU g (.int i) H Q:=⟨i,rfl,h⟩
theorem ZqC {i j:Int} (h:Q (.bl (decide (i=j))) H):rEq (.int i) (.int j) H Q:=by
 refine⟨rfl,?_⟩
 have e:decide (V.int i=V.int j)=decide (i=j):=by simp
 rw[e]; exact h
theorem ZqF {i j:Int} (h:Q (.bl (!decide (i=j))) H):rNe (.int i) (.int j) H Q:=by
 refine⟨rfl,?_⟩
 have e:decide (V.int i=V.int j)=decide (i=j):=by simp
 rw[e]; exact h
theorem ZpV {t:TE} (h:t σ H fun x H'=>∃k,x=.bl k∧BQ k H'):Zs5 t σ H BQ:=h
theorem ZrY {b:Bool} {R:Bool→Prop} (h:R b):∃k,V.bl b=V.bl k∧R k:=⟨b,rfl,h⟩
theorem ZrV {t u:TT} (h:t σ H fun c H1=>if c=true then u σ H1 BQ else BQ false H1):tAnd t u σ H BQ:=h
theorem i_or {t u:TT} (h:t σ H fun c H1=>if c=true then BQ true H1 else u σ H1 BQ):tOr t u σ H BQ:=h
theorem Zr7 {t:TT} (h:t σ H fun c H1=>BQ (!c) H1):tNot t σ H BQ:=h
theorem ZpD {t u:TE} (h:t σ H fun x H1=>∃c,x=.bl c∧if c=true then u σ H1 Q else Q (.bl false) H1):ZsY t u σ H Q:=h
theorem ZiM {t u:TS} (h:t { D with nx:=u D } σ H):tSeq t u D σ H:=h
theorem ZpQ (h:D.nx σ H):Zs1 D σ H:=h
theorem ZpF {te:TE} (h:te σ H fun _ H1=>D.nx σ H1):ZsZ te D σ H:=h
theorem Zr9 {te:TE} (h:te σ H D.rt):tRet te D σ H:=h
theorem Zr3 {c:TT} {t u:TS} (h:c σ H fun b H1=>if b=true then t D σ H1 else u D σ H1):tIfS c t u D σ H:=h
theorem ZrW {te:TE} {g:TG} (h:te σ H fun x H1=>g x σ H1 D.nx):tAsg te g D σ H:=h
theorem ZpO {i:Nat} {v:V} {R:St→Hp→Prop} (h:R (σ.set i (some v)) H):Zg6 i v σ H R:=h
theorem Zr6 {R:List V→Hp→Prop} (h:R [] H):tNil σ H R:=h
theorem ZpE {ta:TE} {tr:TA} {R:List V→Hp→Prop} (h:ta σ H fun x H1=>tr σ H1 fun xs H2=>R (x::xs) H2):ZnU ta tr σ H R:=h
theorem i_cb {r:List V→Hp→VK→Prop} {t:TA} (h:t σ H fun vs H1=>r vs H1 Q):tCB r t σ H Q:=h
abbrev NewL (xs:List V) (H:Hp) (Q:VK):Prop:=xs.length≤sizeLine∧∀p,H p=none→Q (.ref p) (upd H p (.lst xs))
abbrev NewT (xs:List V) (H:Hp) (Q:VK):Prop:=xs.length≤sizeLine∧∀p,H p=none→Q (.ref p) (upd H p (.tup xs))
theorem Zsb {t:TA} (h:t σ H fun xs H1=>NewT xs H1 Q):tTup t σ H Q:=h
theorem Zr4 {t:TA} (h:t σ H fun xs H1=>NewL xs H1 Q):tLst t σ H Q:=h
theorem i_bm {T:String} {r:V→List V→Hp→VK→Prop} {to:TE} {t:TA} (h:to σ H fun x H1=>tyV K T x H1∧t σ H1 fun xs H2=>r x xs H2 Q):tBM K T r to t σ H Q:=h
theorem ZrX {T:String} {r:V→List V→Hp→VK→Prop} {to:TE} (h:to σ H fun x H1=>tyV K T x H1∧r x [] H1 Q):tBM0 K T r to σ H Q:=h
theorem Zr0 {ta:TE} {f:Str} (h:ta σ H fun x H1=>∃a C dx fs v,x=.ref a∧H1 a=some (.ins C dx fs)∧Cls K C∧ZdP K C f∧fs.lookup f=some v∧Q v H1):tFld K ta f σ H Q:=h
theorem ZpU {ta tv:TE} {f:Str} (h:tv σ H fun y H1=>ta σ H1 fun x H2=>∃a C dx fs,x=.ref a∧H2 a=some (.ins C dx fs)∧Cls K C∧ZdP K C f∧fs.length < 1000∧D.nx σ (upd H2 a (.ins C dx (putF f y fs)))):sFld K ta tv f D σ H:=h
theorem i_sl {r:V→Option Int→Option Int→Hp→VK→Prop} {te:TE} {tl th:TO} (h:te σ H fun x H1=>tl σ H1 fun l H2=>th σ H2 fun u H3=>r x l u H3 Q):tSl r te tl th σ H Q:=h
theorem ZpT {t:TE} {R:Option Int→Hp→Prop} (h:t σ H fun x H1=>∃i,x=.int i∧R (some i) H1):Zs4 t σ H R:=h
theorem ZrZ {b:Int} {R:Int→Prop} (h:R b):∃k,V.int b=V.int k∧R k:=⟨b,rfl,h⟩
theorem ZkF {R:Option Int→Hp→Prop} (h:R none H):ZnW σ H R:=h
theorem ZpW {b:Bool} {R:Bool→Prop} (h:R b):∃k,TruV K (.bl b) H k∧R k:=⟨b,rfl,h⟩
theorem Zg8 {c A B:Prop} [Decidable c] (h1:c→A) (h2 : ¬c→B):if decide c=true then A else B:=by
 by_cases h:c
 ·rw[if_pos (decide_eq_true h)]; exact h1 h
 ·rw[if_neg (by simp[h])]; exact h2 h
theorem Zow {c A B:Prop} [Decidable c] (h1 : ¬c→A) (h2:c→B):if (!decide c)=true then A else B:=by
 by_cases h:c
 ·rw[if_neg (by simp[h])]; exact h2 h
 ·rw[if_pos (by simp[h])]; exact h1 h
theorem ZjQ {b:Bool} {A B:Prop} (h1:b=true→A) (h2:b=false→B):if b=true then A else B:=by
 cases b
 ·rw[if_neg Bool.false_ne_true]; exact h2 rfl
 ·rw[if_pos rfl]; exact h1 rfl
theorem ZcA {b:Bool} {A B:Prop} (h:b=true) (k:A):if b=true then A else B:=by rw[if_pos h]; exact k
theorem ZaQ {b:Bool} {A B:Prop} (h:b=false) (k:B):if b=true then A else B:=by rw[if_neg (by rw[h]; exact Bool.false_ne_true)]; exact k
end
def ZrF (lo:Int) (n:Nat) (g:TG) (tb:TS) (D:Ends) (σ:St) (H:Hp):Prop:=
 ∃W:Nat→Nat→St→Hp→Prop,(∃m,W 0 m σ H)∧∀i m σ H,W i m σ H→
   ((Itr lo n).stop i H∧D.nx σ H)∨((Itr lo n).go i H∧∃N:St→Hp→Prop,(∀σ' H',N σ' H'→∃m',m' < m∧W (i+1) m' σ' H')∧∀x H',(Itr lo n).yld i H x H'→g x σ H' fun σ2 H2=>tb { D with nx:=N,ct:=N,bk:=D.nx } σ2 H2)
def ZrE (K:PySem.W.Frag) (a:Addr) (g:TG) (tb:TS) (D:Ends) (σ:St) (H:Hp):Prop:=
 ∃W:Nat→Nat→St→Hp→Prop,(∃m,W 0 m σ H)∧∀i m σ H,W i m σ H→
   ((Itl K a).stop i H∧D.nx σ H)∨((Itl K a).go i H∧∃N:St→Hp→Prop,(∀σ' H',N σ' H'→∃m',m' < m∧W (i+1) m' σ' H')∧∀x H',(Itl K a).yld i H x H'→g x σ H' fun σ2 H2=>tb { D with nx:=N,ct:=N,bk:=D.nx } σ2 H2)
def ZrG (K:PySem.W.Frag) (a:Addr) (g:TG) (tb:TS) (D:Ends) (σ:St) (H:Hp):Prop:=
 ∃W:Nat→Nat→St→Hp→Prop,(∃m,W 0 m σ H)∧∀i m σ H,W i m σ H→
   ((Itt K a).stop i H∧D.nx σ H)∨((Itt K a).go i H∧∃N:St→Hp→Prop,(∀σ' H',N σ' H'→∃m',m' < m∧W (i+1) m' σ' H')∧∀x H',(Itt K a).yld i H x H'→g x σ H' fun σ2 H2=>tb { D with nx:=N,ct:=N,bk:=D.nx } σ2 H2)
section
variable {σ:St} {H:Hp} {D:Ends} {K:PySem.W.Frag} {g:TG} {tb:TS}
theorem ZmT {ta:TA} (h:ta σ H fun vs H1=>∃j:Int,vs=[.int j]∧-(2 ^ 62)≤j∧j < 2 ^ 62∧ZrF 0 j.toNat g tb D σ H1):tFor (ZqA ta) g tb D σ H:=h
theorem ZfQ {n:Nat} (Pv:Nat→St→Hp→Prop) (h0:Pv 0 σ H) (hs:∀(i:Nat) σ H,i < n→Pv i σ H→g (.int (i:Int)) σ H fun σ2 H2=>tb { D with nx:=Pv (i+1),ct:=Pv (i+1),bk:=D.nx } σ2 H2) (hd:∀σ H,Pv n σ H→D.nx σ H):ZrF 0 n g tb D σ H:=ZmF Pv h0 (fun i σ H hi p=>by rw[Int.zero_add]; exact hs i σ H hi p) hd
theorem Ztj {a:Addr} {xs:List V} (Pv:Nat→St→Hp→Prop) (h0:Pv 0 σ H) (hl:∀i σ H,i≤xs.length→Pv i σ H→SqL K H a xs) (hs:∀i x σ H,xs[i]?=some x→Pv i σ H→g x σ H fun σ2 H2=>tb { D with nx:=Pv (i+1),ct:=Pv (i+1),bk:=D.nx } σ2 H2) (hd:∀σ H,Pv xs.length σ H→D.nx σ H):ZrE K a g tb D σ H:=Zon Pv h0 hl hs hd
theorem Ztk {a:Addr} {xs:List V} (Pv:Nat→St→Hp→Prop) (h0:Pv 0 σ H) (hl:∀i σ H,i≤xs.length→Pv i σ H→SqT K H a xs) (hs:∀i x σ H,xs[i]?=some x→Pv i σ H→g x σ H fun σ2 H2=>tb { D with nx:=Pv (i+1),ct:=Pv (i+1),bk:=D.nx } σ2 H2) (hd:∀σ H,Pv xs.length σ H→D.nx σ H):ZrG K a g tb D σ H:=Zqv Pv h0 hl hs hd
end
def Its (x:Str):It:=⟨fun i _=>i < x.cps.size,fun i H v H'=>H'=H∧∃c,x.cps[i]?=some c∧v=.str ⟨#[c]⟩,fun i _=>x.cps.size≤i⟩
theorem Zn1 {P:Program} {w:World} {K:PySem.W.Frag} {tg:Expr} (x:Str) (t:Tok) (it:Addr):Turn P w K tg (Its x) [it] it (fun i h=>h.IsStrIter it "str_ascii_iterator" x t i) where
 mem:=by simp
 obj:=fun i h st b hb=>by
  have e:b=it:=by simpa using hb
  subst e;obtain⟨o,e,c,d⟩:=st;exact⟨o,e,fun v z=>by rw[d]at z; cases z⟩
 keep:=fun i h h' st k=>let ⟨o,ho,r⟩:=st; ⟨o,k it (by simp) o ho,r⟩
 item:=by
  intro X hP hw hK hc i pins s σ H E I hf st hg;subst hP hw hK;obtain⟨f0,f1,f2,f3,f4,f5⟩:=hf it (by simp);have hg:i < x.cps.size:=hg;refine wpAny_pyNext_ascii_item st (c:=x.cps[i]) (by simp[hg]) fun h' st' sb=>?_;have I1:Inv X pins σ H { s with heap:=h',toks:=s.toks+1 }:=I.turned (fun b o hb e=>(sb.2 b hb).trans e) f0 f1 f3 f4 f5;obtain⟨o,e,c,d⟩:=id st';exact⟨_,rfl,ZmL (s:={ s with heap:=h',toks:=s.toks+1 }) e c d (by decide) ⟨.str ⟨#[x.cps[i]]⟩,H,I1,⟨_,rfl⟩,⟨rfl,_,by simp[hg],rfl⟩,st',fun b hb=>(hf b hb).1⟩⟩
 done:=by
  intro X hP hw hK hc i pins s σ H E I hf st hg;subst hP hw hK;obtain⟨f0,f1,f2,f3,f4,f5⟩:=hf it (by simp);have hg:x.cps.size≤i:=hg;exact wpAny_pyNext_ascii_end (I.ok.hd hc) st (by simp[hg]) fun h' eb=>⟨rfl,I.turned (t':=s.toks) (fun b o hb e=>eb b o hb e) f0 f1 f3 f4 f5⟩
 self:=fun _ _ _ _ _ st h=>wpAny_pyIter_striter_ascii st h
theorem Zn2 {P:Program} {w:World} {K:PySem.W.Frag} {tg:Expr} (x:Str) (t:Tok) (it:Addr):Turn P w K tg (Its x) [it] it (fun i h=>h.IsStrIter it "str_iterator" x t i) where
 mem:=by simp
 obj:=fun i h st b hb=>by
  have e:b=it:=by simpa using hb
  subst e;obtain⟨o,e,c,d⟩:=st;exact⟨o,e,fun v z=>by rw[d]at z; cases z⟩
 keep:=fun i h h' st k=>let ⟨o,ho,r⟩:=st; ⟨o,k it (by simp) o ho,r⟩
 item:=by
  intro X hP hw hK hc i pins s σ H E I hf st hg;subst hP hw hK;obtain⟨f0,f1,f2,f3,f4,f5⟩:=hf it (by simp);have hg:i < x.cps.size:=hg;refine wpAny_pyNext_wide_item st (c:=x.cps[i]) (by simp[hg]) fun h' st' sb=>?_;have I1:Inv X pins σ H { s with heap:=h',toks:=s.toks+1 }:=I.turned (fun b o hb e=>(sb.2 b hb).trans e) f0 f1 f3 f4 f5;obtain⟨o,e,c,d⟩:=id st';exact⟨_,rfl,ZmL (s:={ s with heap:=h',toks:=s.toks+1 }) e c d (by decide) ⟨.str ⟨#[x.cps[i]]⟩,H,I1,⟨_,rfl⟩,⟨rfl,_,by simp[hg],rfl⟩,st',fun b hb=>(hf b hb).1⟩⟩
 done:=by
  intro X hP hw hK hc i pins s σ H E I hf st hg;subst hP hw hK;obtain⟨f0,f1,f2,f3,f4,f5⟩:=hf it (by simp);have hg:x.cps.size≤i:=hg;exact wpAny_pyNext_wide_end (I.ok.hd hc) st (by simp[hg]) fun h' eb=>⟨rfl,I.turned (t':=s.toks) (fun b o hb e=>eb b o hb e) f0 f1 f3 f4 f5⟩
 self:=fun _ _ _ _ _ st h=>wpAny_pyIter_striter_wide st h
def iSeq (K:PySem.W.Frag) (tl:TE):TI:=fun σ H R=>tl σ H fun x H1=>(∃a xs,x=.ref a∧SqL K H1 a xs∧R (Itl K a) H1)∨(∃a xs,x=.ref a∧SqT K H1 a xs∧R (Itt K a) H1)∨(∃z,x=.str z∧R (Its z) H1)
theorem ZdV {X:Cx} {tg:Expr} {l:Expr} {tl:TE} (hl:PE X l tl):PI X tg l (iSeq X.K tl):=by
 intro pins s σ H R I h;refine thn (hl pins s σ H _ I h) fun v s1 ⟨x,H1,I1,r1,q1⟩=>?_
 have fp:∀b∈[s1.heap.objs.size],FpOk X pins H1 b:=fun b hb=>by
  have e:b=s1.heap.objs.size:=by simpa using hb
  subst e;exact I1.fpOk (Nat.le_refl _) (I1.hok.fresh (Nat.le_refl _))
 rcases q1 with⟨a,xs,e,hq,q⟩ | ⟨a,xs,e,hq,q⟩ | ⟨z,e,q⟩
 ·subst e
  cases r1
  obtain⟨its,rv,p,hz⟩:=I1.list hq;refine wpAny_pyIter_list p.isList ?_;exact⟨s1.heap.objs.size,[s1.heap.objs.size],_,_,H1,rfl,I1.kept (t':=s1.toks) fun b o e=>Heap.get?_push_of_some _ e,Zn0 a _,⟨_,Heap.get?_push_size _ rfl,rfl,rfl⟩,fp,q⟩
 ·subst e
  cases r1
  obtain⟨its,rv,p,hz⟩:=I1.tuple hq;refine wpAny_pyIter_tuple (show s1.heap.IsTuple a its.toArray from p) ?_;exact⟨s1.heap.objs.size,[s1.heap.objs.size],_,_,H1,rfl,I1.kept (t':=s1.toks) fun b o e=>Heap.get?_push_of_some _ e,ZlU a _,⟨_,Heap.get?_push_size _ rfl,rfl,rfl⟩,fp,q⟩
 ·subst e
  obtain⟨t,rfl⟩:=r1
  cases ha:z.cps.all (· < 128) with
  | false=>
   refine wpAny_pyIter_wide ha ?_;exact⟨s1.heap.objs.size,[s1.heap.objs.size],_,_,H1,rfl,I1.kept (t':=s1.toks) fun b o e=>Heap.get?_push_of_some _ e,Zn2 z t _,⟨_,Heap.get?_push_size _ rfl,rfl,rfl⟩,fp,q⟩
  | true=>
   refine wpAny_pyIter_ascii ha ?_;exact⟨s1.heap.objs.size,[s1.heap.objs.size],_,_,H1,rfl,I1.kept (t':=s1.toks) fun b o e=>Heap.get?_push_of_some _ e,Zn1 z t _,⟨_,Heap.get?_push_size _ rfl,rfl,rfl⟩,fp,q⟩
def Ztc (x:Str) (g:TG) (tb:TS) (D:Ends) (σ:St) (H:Hp):Prop:=
 ∃W:Nat→Nat→St→Hp→Prop,(∃m,W 0 m σ H)∧∀i m σ H,W i m σ H→
   ((Its x).stop i H∧D.nx σ H)∨((Its x).go i H∧∃N:St→Hp→Prop,(∀σ' H',N σ' H'→∃m',m' < m∧W (i+1) m' σ' H')∧∀x' H',(Its x).yld i H x' H'→g x' σ H' fun σ2 H2=>tb { D with nx:=N,ct:=N,bk:=D.nx } σ2 H2)
def SeqW (K:PySem.W.Frag) (x:V) (g:TG) (tb:TS) (D:Ends) (σ:St) (H1:Hp):Prop:=
 (∃a xs,x=.ref a∧SqL K H1 a xs∧ZrE K a g tb D σ H1)∨(∃a xs,x=.ref a∧SqT K H1 a xs∧ZrG K a g tb D σ H1)∨(∃z,x=.str z∧Ztc z g tb D σ H1)
section
variable {σ:St} {H:Hp} {D:Ends} {K:PySem.W.Frag} {g:TG} {tb:TS}
theorem ZpI {tl:TE} (h:tl σ H fun x H1=>SeqW K x g tb D σ H1):tFor (iSeq K tl) g tb D σ H:=h
theorem seqL {a:Addr} {xs:List V} (Pv:Nat→St→Hp→Prop) (h0:Pv 0 σ H) (hl:∀i σ H,i≤xs.length→Pv i σ H→SqL K H a xs) (hs:∀i x σ H,xs[i]?=some x→Pv i σ H→g x σ H fun σ2 H2=>tb { D with nx:=Pv (i+1),ct:=Pv (i+1),bk:=D.nx } σ2 H2) (hd:∀σ H,Pv xs.length σ H→D.nx σ H):SeqW K (.ref a) g tb D σ H:=.inl ⟨a,xs,rfl,hl 0 σ H (Nat.zero_le _) h0,Ztj Pv h0 hl hs hd⟩
theorem seqT {a:Addr} {xs:List V} (Pv:Nat→St→Hp→Prop) (h0:Pv 0 σ H) (hl:∀i σ H,i≤xs.length→Pv i σ H→SqT K H a xs) (hs:∀i x σ H,xs[i]?=some x→Pv i σ H→g x σ H fun σ2 H2=>tb { D with nx:=Pv (i+1),ct:=Pv (i+1),bk:=D.nx } σ2 H2) (hd:∀σ H,Pv xs.length σ H→D.nx σ H):SeqW K (.ref a) g tb D σ H:=.inr (.inl ⟨a,xs,rfl,hl 0 σ H (Nat.zero_le _) h0,Ztk Pv h0 hl hs hd⟩)
end
section
variable (P:Program) (w:World) (K:PySem.W.Frag) (mg:Str→Option Value) (base:Heap)
def FnS (k:Nat) (x:Str) (ps:List Str) (sp:Sp):Prop:=∃f fd,FnOk P w K mg base CX0 k f fd ps sp∧ZaX K fd ps []∧PySem.W.keepIn K (.ref f)=true∧mg x=some (.ref f)
def MeS (k:Nat) (C:Addr) (m:Str) (ps:List Str) (sp:Sp):Prop:=Cls K C∧∃f fd,FnOk P w K mg base CX0 k f fd ps sp∧ZaX K fd ps []∧Meth K C m f
def MkS (k:Nat) (x:Str) (C:Addr) (ps:List Str) (sp:Sp):Prop:=mg x=some (.ref C)∧∃f fd,Mk K C f∧FnOk P w K mg base CX0 k f fd ps sp∧ZaX K fd ps []
end
def tFn (sp:Sp) (t:TA):TE:=fun σ H Q=>t σ H fun vs H1=>sp vs H1 Q E0
def MkG (C:Addr) (sp:Sp) (vs:List V) (H1:Hp) (Q:VK):Prop:=∀x dx,H1 x=none→H1 dx=none→dx≠x→
 sp (.ref x::vs) (upd (upd H1 dx (.own x)) x (.ins C dx [])) (fun v H2=>v=.non∧Q (.ref x) H2) E0
def tMk (C:Addr) (sp:Sp) (t:TA):TE:=fun σ H Q=>t σ H fun vs H1=>MkG C sp vs H1 Q
def tDy (D:Addr→Prop) (m:Str) (sp:Sp) (ta:TE) (t:TA):TE:=fun σ H Q=>ta σ H fun x H1=>∃a C dx fs,x=.ref a∧H1 a=some (.ins C dx fs)∧D C∧fs.lookup m=none∧
 t σ H1 fun vs H2=>H2 a=some (.ins C dx fs)∧sp (x::vs) H2 Q E0
def spAt (sp:Sp) (C:Addr):Sp:=fun vs H Q E=>sp vs H Q E∧∃a dx fs r,vs=V.ref a::r∧H a=some (.ins C dx fs)
theorem i_fn {sp:Sp} {t:TA} {σ:St} {H:Hp} {Q:VK} (h:t σ H fun vs H1=>sp vs H1 Q E0):tFn sp t σ H Q:=h
theorem i_mk {C:Addr} {sp:Sp} {t:TA} {σ:St} {H:Hp} {Q:VK} (h:t σ H fun vs H1=>MkG C sp vs H1 Q):tMk C sp t σ H Q:=h
theorem i_dy {D:Addr→Prop} {m:Str} {sp:Sp} {ta:TE} {t:TA} {σ:St} {H:Hp} {Q:VK} (h:ta σ H fun x H1=>∃a C dx fs,x=.ref a∧H1 a=some (.ins C dx fs)∧D C∧fs.lookup m=none∧
 t σ H1 fun vs H2=>H2 a=some (.ins C dx fs)∧sp (x::vs) H2 Q E0):tDy D m sp ta t σ H Q:=h
theorem ZnT (sp:Sp) (t:TA):Zrx sp [] E0 t=tFn sp t:=by
 funext σ H Q
 unfold Zrx tFn
 have e:(fun(vs:List V) (H1:Hp)=>sp (vs++[]) H1 Q E0)=fun vs H1=>sp vs H1 Q E0:=by
  funext vs H1; rw[List.append_nil]
 rw[e]
theorem ZnV (C:Addr) (sp:Sp) (t:TA):Zrz C sp [] E0 t=tMk C sp t:=by
 funext σ H Q
 unfold Zrz tMk MkG
 congr 1
 funext vs H1
 rw[List.append_nil]
section
variable {X:Cx} {k k':Nat} {x m:Str} {C:Addr} {ps:List Str} {sp:Sp} {e o:Expr} {es:List Expr} {ta:TE} {t:TA} {p pos apos:Pos}
theorem ZaA (G:FnS X.prog X.w X.K X.mg X.base k x ps sp) (hr:Room k' X.A) (ha:PA X (e::es) t) (hk:k≤k':=by omega) (hg:Gl X x:=by rfl) (hdb:(x == ("__debug__" : Str))=false:=by decide)
  (he:starEach (e::es) X.env=(false,eval e X.env)::starEach es X.env:=by rfl) (hpl:(backTo pos (starEach es X.env)).any (·.1)=false:=by rfl):PE X (.Call (.Name x p) (e::es) [] pos) (tFn sp t):=by
 obtain⟨f,fd,F,hb,kp,hm⟩:=G;rw[←ZnT];exact Zra F (hr.mono hk) hg hm kp hb .nil Zq9 ha hdb he hpl
theorem Ztn (G:MkS X.prog X.w X.K X.mg X.base k x C ps sp) (hr:Room k' X.A) (ha:PA X (e::es) t) (hk:k+1≤k':=by omega) (hg:Gl X x:=by rfl) (hdb:(x == ("__debug__" : Str))=false:=by decide)
  (he:starEach (e::es) X.env=(false,eval e X.env)::starEach es X.env:=by rfl) (hpl:(backTo pos (starEach es X.env)).any (·.1)=false:=by rfl):PE X (.Call (.Name x p) (e::es) [] pos) (tMk C sp t):=by
 obtain⟨hm,f,fd,M,F,hb⟩:=G;rw[←ZnV];exact Zrb M F (hr.mono hk) hg hm hb .nil Zq9 ha hdb he hpl
theorem ZsE {pl:Sem Bool} {D:Addr→Prop} (hD:∀C,D C→MeS X.prog X.w X.K X.mg X.base k C m ps (spAt sp C)) (hr:Room k' X.A) (ho:PE X o ta) (ha:PA X (e::es) t) (hk:k≤k':=by omega)
  (hst:starEach (e::es) X.env=(false,eval e X.env)::starEach es X.env:=by rfl) (hpl:(backTo pos (starEach es X.env)).any (·.1)=false:=by rfl)
  (ht:eval (.Call (.Attribute o m apos) (e::es) [] pos) X.env=(do
   let ov ←eval o X.env
   standAt apos.atName
   let (f,first) ←holding [ov] (getMethod ov m pl)
   callWith pos f first (backTo pos (starEach (e::es) X.env)) (backToKw pos (keywordEach [] X.env))):=by rfl) :
  PE X (.Call (.Attribute o m apos) (e::es) [] pos) (tDy D m sp ta t):=by
 intro pins s σ H Q I h;refine PySem.W.methodCall_KW (pl:=pl) (thn (ho pins s σ H _ I h) fun u s1 ⟨x,H1,I1,rx,a,C,dx,fs,ex,ea,hC,l,q⟩=>?_) ht;subst ex;obtain rfl:u=Value.ref a:=rx;obtain⟨c,f,fd,F,hb,hm⟩:=hD C hC;refine Zlu I1 ea c hm l ?_;refine PySem.W.callWith_K (first:=[.ref a]) (h₀:=X.base) I.ok.mod.kin hm.kp (thn (ha pos pins s1 σ H1 _ I1 q) fun us s2 ⟨vs,H2,I2,r,eb,q2⟩=>⟨I2.kIn,?_⟩) hst hpl;exact Zqc (us:=.ref a::us) (vs:=.ref a::vs) (dvs:=[]) (E:=E0) F (hr.mono hk) hb .nil Zq9 I2 (.cons rfl r) (by rw[List.append_nil]; exact⟨q2,a,dx,fs,vs,rfl,eb⟩)
theorem ss (i:Nat) {x:Str} {e:Expr} {te:TE} {pos pos':Pos} (hN:X.N.Nodup) (he:PE X e te) (hi:X.N[i]?=some x:=by rfl) (hx:Loc X.env.scope x:=by first | exact Or.inl rfl | exact Or.inr rfl)
  (hs:swapsWith e (some (.Name x pos')) pos.line X.env=pure false:=by rfl) (hf:X.fn x=true∨X.env.scope.names.lookup x=some .local:=by first | exact .inl rfl | exact .inr rfl):PS X (.Assign [.Name x pos'] e pos) (tAsg te (Zg6 i)):=
 ZsI hN hi hx he hs hf
theorem sg (i:Nat) {x:Str} {pos:Pos} (hN:X.N.Nodup) (hi:X.N[i]?=some x:=by rfl) (hx:Loc X.env.scope x:=by first | exact Or.inl rfl | exact Or.inr rfl) (hf:X.fn x=true∨X.env.scope.names.lookup x=some .local:=by first | exact .inl rfl | exact .inr rfl):PG X (.Name x pos) (Zg6 i):=Znr hN hi hx hf
def rIsi (K:PySem.W.Frag):List V→Hp→VK→Prop:=fun xs H Q=>∃x t b,TyOf K H x t∧((∃n,xs=[x,.ty n]∧PySem.W.kitOne K t (.type n)=some b)∨(∃c,xs=[x,.ref c]∧PySem.W.kitOne K t (.ref c)=some b))∧Q (.bl b) H
theorem ZdC:Zgf X (.builtin "isinstance") (rIsi X.K):=by
 intro pins s σ H xs us Q I r h;obtain⟨x,t,b,ty,h,q⟩:=h
 rcases h with⟨n,rfl,e⟩ | ⟨c,rfl,e⟩
 ·obtain⟨u,v,rfl,ru,rv⟩:=Zn7 r
  obtain rfl:v=Value.type n:=rv;exact ZiQ I ru ty e fun tk=>⟨.bl b,H,I.tok tk,rfl,q⟩
 ·obtain⟨u,v,rfl,ru,rv⟩:=Zn7 r
  obtain rfl:v=Value.ref c:=rv;exact ZiQ I ru ty e fun tk=>⟨.bl b,H,I.tok tk,rfl,q⟩
theorem ZpK {K:PySem.W.Frag} {x:V} {n:String} {t:Value} {b:Bool} {H:Hp} {Q:VK} (ty:TyOf K H x t) (e:PySem.W.kitOne K t (.type n)=some b) (h:Q (.bl b) H):rIsi K [x,.ty n] H Q:=⟨x,t,b,ty,.inl ⟨n,rfl,e⟩,h⟩
def Zo6:R2:=fun x y H Q=>rI0 (fun i j=>V.int (i+j)) x y H Q∨(∃i j,x=.str i∧y=.str j∧i.length+j.length≤sizeLine∧Q (.str (i++j)) H)∨rCat x y H Q
theorem ZdI:OpR X (binaryOp .Add) Zo6:=OpR.or Zsv (OpR.or ZlN Zsw)
theorem ZpC {i j:Int} {H:Hp} {Q:VK} (h:Q (.int (i+j)) H):Zo6 (.int i) (.int j) H Q:=.inl ⟨i,j,rfl,rfl,h⟩
theorem ZrU {l b:Addr} {xs zs:List V} {H:Hp} {Q:VK} (h1:H l=some (.lst xs)) (h2:H b=some (.lst zs)) (z:xs.length+zs.length≤sizeLine) (h:∀p,H p=none→Q (.ref p) (upd H p (.lst (xs++zs)))):Zo6 (.ref l) (.ref b) H Q:=.inr (.inr ⟨l,b,xs,zs,rfl,rfl,h1,h2,z,h⟩)
end
section
variable {X:Cx} {K:PySem.W.Frag} {H:Hp} {Q:VK} {a:Expr} {ta:TE} {pos:Pos}
theorem ZdS:bootBuiltins "len" = some (.builtin "len"):=by decide +kernel
theorem Zav:bootBuiltins "isinstance" = some (.builtin "isinstance"):=by decide +kernel
theorem Zmn:bootBuiltins "sorted" = some (.builtin "sorted"):=by decide +kernel
theorem ZrH:bootBuiltins "all" = some (.builtin "all"):=by decide +kernel
theorem Zpv:bootBuiltins "int" = some (.type "int"):=by decide +kernel
theorem Zmm:bootBuiltins "bool" = some (.type "bool"):=by decide +kernel
theorem Zfi:bootBuiltins "list" = some (.type "list"):=by decide +kernel
theorem Zkr:bootBuiltins "tuple" = some (.type "tuple"):=by decide +kernel
theorem ZrI:bootBuiltins "set" = some (.type "set"):=by decide +kernel
theorem ZjH:bootBuiltins "reversed" = some (.type "reversed"):=by decide +kernel
theorem ZiE:bootBuiltins "enumerate" = some (.type "enumerate"):=by decide +kernel
def Zs3 (K:PySem.W.Frag) (ta:TE):TE:=fun σ H Q=>ta σ H fun x H1=>∃k,TruV K x H1 k∧Q (.bl (!k)) H1
theorem Zrc (ha:PE X a ta):PE X (.UnaryOp .Not a pos) (Zs3 X.K ta):=by
 intro pins s σ H Q I h;refine UnaryOp_ (thn (ha pins s σ H _ I h) fun v s1 ⟨x,H1,I1,r1,q1⟩=>?_);exact not_of (thn (Zqf pins s1 σ H1 x v (fun k H2=>Q (.bl (!k)) H2) I1 r1 q1) fun b s2 ⟨H2,I2,q2⟩=>⟨.bl (!b),H2,I2,rfl,q2⟩)
theorem ZpS {σ:St} (h:ta σ H fun x H1=>∃k,TruV K x H1 k∧Q (.bl (!k)) H1):Zs3 K ta σ H Q:=h
def rLen (K:PySem.W.Frag):List V→Hp→VK→Prop:=fun xs H Q=>∃x n,xs=[x]∧LenV K x H n∧Q (.int n) H
theorem Za5:Zgf X (.builtin "len") (rLen X.K):=Zoi
theorem ZpM {p:Addr} {xs:List V} (h:SqL K H p xs) (k:Q (.int xs.length) H):rLen K [.ref p] H Q:=⟨_,_,rfl,.inl ⟨xs,h,rfl⟩,k⟩
theorem ZpL {p:Addr} {xs:List V} (h:H p=some (.lst xs)) (k:Q (.int xs.length) H):rLen K [.ref p] H Q:=⟨_,_,rfl,.inl ⟨xs,SqL.of h,rfl⟩,k⟩
theorem ZpN {p:Addr} {xs:List V} (h:H p=some (.tup xs)) (k:Q (.int xs.length) H):rLen K [.ref p] H Q:=⟨_,_,rfl,.inr ⟨xs,SqT.of h,rfl⟩,k⟩
def Znx (K:PySem.W.Frag):List V→Hp→VK→Prop:=fun xs H Q=>∃p ys,xs=[.ref p]∧(SqL K H p ys∨SqT K H p ys)∧∀l,H l=none→Q (.ref l) (upd H l (.lst ys))
theorem Zfj:Zgf X (.type "list") (Znx X.K):=ZiF
def Zqb (K:PySem.W.Frag):List V→Hp→VK→Prop:=fun xs H Q=>∃p ys,xs=[.ref p]∧((SqL K H p ys∧∀l,H l=none→Q (.ref l) (upd H l (.tup ys)))∨(SqT K H p ys∧Q (.ref p) H))
theorem ZjJ:Zgf X (.type "tuple") (Zqb X.K):=ZhY
theorem Zsc {p:Addr} {ys:List V} (h:H p=some (.lst ys)) (k:∀l,H l=none→Q (.ref l) (upd H l (.tup ys))):Zqb K [.ref p] H Q:=⟨p,ys,rfl,.inl ⟨SqL.of h,k⟩⟩
theorem Ztf {p:Addr} {xs:List V} {j:Nat} {v:V} (h:SqL K H p xs) (e:xs[j]?=some v) (k:Q v H):rIx K (.ref p) (.int (j:Int)) H Q:=.inl ⟨p,xs,j,v,rfl,rfl,h,Zmh e,k⟩
theorem Zg9 {p:Addr} {xs:List V} {j:Nat} {v:V} (h:H p=some (.lst xs)) (e:xs[j]?=some v) (k:Q v H):rIx K (.ref p) (.int (j:Int)) H Q:=.inl ⟨p,xs,j,v,rfl,rfl,SqL.of h,Zmh e,k⟩
theorem Zes {p:Addr} {xs:List V} {i:Int} {v:V} (h:H p=some (.tup xs)) (e:atI xs i=some v) (k:Q v H):rIx K (.ref p) (.int i) H Q:=.inr (.inl ⟨p,xs,i,v,rfl,rfl,SqT.of h,e,k⟩)
def rSlG (K:PySem.W.Frag):V→Option Int→Option Int→Hp→VK→Prop:=fun x lo hi H Q=>rSlL K x lo hi H Q∨rSlT K x lo hi H Q
theorem ZsS:SlR X (rSlG X.K):=SlR.or Zrk ZsU
theorem Ztg {p:Addr} {xs:List V} {lo hi:Option Int} (h:SqL K H p xs) (k:∀l,H l=none→Q (.ref l) (upd H l (.lst (cutV xs lo hi)))):rSlG K (.ref p) lo hi H Q:=.inl ⟨p,xs,rfl,h,k⟩
theorem Zov {l:Addr} {xs:List V} {y:V} (h:H l=some (.lst xs)) (z:xs.length < sizeLine) (k:Q .non (upd H l (.lst (xs++[y])))):Zka (.ref l) [y] H Q:=⟨l,xs,y,rfl,rfl,h,z,k⟩
theorem tyL {l:Addr} {xs:List V} (h:H l=some (.lst xs)):tyV K "list" (.ref l) H:=.inl ⟨rfl,xs,SqL.of h⟩
end
theorem Zhj {n:Nat} (h:n≤1000000):n≤sizeLine:=Nat.le_trans h (by decide)
theorem ZnI {n:Nat} (h:n < 1000000):n < sizeLine:=Nat.lt_of_lt_of_le h (by decide)
theorem ZgF {l:List Addr} (h:l.Nodup) {i j:Nat} {a b:Addr} (ha:l[i]?=some a) (hb:l[j]?=some b) (hij:i≠j):a≠b:=by
 intro e;subst e;obtain⟨h1,e1⟩:=List.getElem?_eq_some_iff.mp ha;obtain⟨h2,e2⟩:=List.getElem?_eq_some_iff.mp hb;exact hij ((List.getElem_inj h).mp (e1.trans e2.symm))
theorem ZkJ (K:PySem.W.Frag) (n:String):PySem.W.kitOne K (.type n) (.type n)=some true:=by
 unfold PySem.W.kitOne;rw[if_pos (by simp)]
theorem ZbZ {H:Hp} {p:Addr} (h:H p=none) (o:HO):Same H (upd H p o):=fun b u q=>by rw[ZaL (ZaF q h)]; exact q
theorem ZnB {H:Hp} {p q:Addr} (hp:H p=none) (hq:H q=none) (o u:HO):Same H (upd (upd H q u) p o):=fun b v e=>by rw[ZaL (ZaF e hp),ZaL (ZaF e hq)]; exact e
theorem ZoF {K:PySem.W.Frag} {t c:String} {b:Bool} (h1:t≠c) (h2:PySem.W.kitMeta c=true) (h3:(PySem.fastBuiltinMro t).map (·.contains (Value.type c))=some b):PySem.W.kitOne K (.type t) (.type c)=some b:=by
 unfold PySem.W.kitOne;rw[if_neg (by simp[h1])];unfold PySem.W.kitCls
 dsimp only
 rw[if_pos h2];exact h3
theorem ZcV {K:PySem.W.Frag} {t:Value} {D:Addr} {b:Bool} (hne:t≠.ref D) (h1:PySem.W.isClsIn K D=true) (h2:PySem.W.typeIn K (.ref D)=some (.type "type")) (h3:PySem.W.subIn K t (.ref D)=some b):PySem.W.kitOne K t (.ref D)=some b:=by
 unfold PySem.W.kitOne;rw[if_neg (by simp[hne])];unfold PySem.W.kitCls
 dsimp only
 unfold PySem.W.isClsIn at h1;rw[if_pos (by rw[h1,h2]; rfl)];exact h3
theorem Zm6 (K:PySem.W.Frag) (D:Addr):PySem.W.kitOne K (.ref D) (.ref D)=some true:=by
 unfold PySem.W.kitOne;rw[if_pos (by simp)]
theorem ZfP (K:PySem.W.Frag):PySem.W.kitOne K (.type "int") (.type "bool")=some false:=ZoF (by decide) (by decide +kernel) (by decide +kernel)
structure Bt (mg:Str→Option Value):Prop where
 len:mg "len" = none
 range:mg "range" = none
 isinstance:mg "isinstance" = none
 int:mg "int" = none
 bool:mg "bool" = none
 str:mg "str" = none
 list:mg "list" = none
 tuple:mg "tuple" = none
 dict:mg "dict" = none
 set:mg "set" = none
 sorted:mg "sorted" = none
 max:mg "max" = none
 min:mg "min" = none
 sum:mg "sum" = none
 any:mg "any" = none
 all:mg "all" = none
 abs:mg "abs" = none
 reversed:mg "reversed" = none
 enumerate:mg "enumerate" = none
 zip:mg "zip" = none
def Ext (H H':Hp):Prop:=∀b o,H b=some o→(∀xs,o≠.lst xs)→H' b=some o
theorem Ext.of {H H':Hp} (a:Same H H'):Ext H H':=fun b o h _=>a b o h
theorem ZrM {xs:List V} {k:Nat} (h:k≤xs.length):cutV xs none (some (k:Int))=xs.take k:=by
 unfold cutV;rw[HT.sIx_none,HT.sIx_nat,Nat.min_eq_left h];simp
theorem Zom {xs:List V} {k:Nat} (h:k≤xs.length):cutV xs (some (k:Int)) none=xs.drop k:=by
 unfold cutV;rw[HT.sIx_none,HT.sIx_nat,Nat.min_eq_left h];rw[List.take_of_length_le (by rw[List.length_drop]; omega)]
theorem Zmt (xs:List V) (i j:Nat):cutV xs (some (i:Int)) (some (j:Int))=(xs.drop i).take (j - i):=by
 unfold cutV;rw[HT.sIx_nat,HT.sIx_nat]
 by_cases hi:i≤xs.length
 ·rw[Nat.min_eq_left hi]
  by_cases hj:j≤xs.length
  ·rw[Nat.min_eq_left hj]
  ·rw[Nat.min_eq_right (by omega),List.take_of_length_le (by rw[List.length_drop]; omega),List.take_of_length_le (by rw[List.length_drop]; omega)]
 ·rw[Nat.min_eq_right (show xs.length≤i by omega),List.drop_eq_nil_of_le (Nat.le_refl _),List.drop_eq_nil_of_le (show xs.length≤i by omega)]
  simp
theorem ZgD (ns:List Int) (i j:Nat):((ns.map V.int).drop i).take j=((ns.drop i).take j).map V.int:=by
 rw[List.map_take,List.map_drop]
theorem ZmJ {ns:List Int} {i:Nat} {x:V} (h:(ns.map V.int)[i]?=some x):∃n,x=V.int n∧ns[i]?=some n:=by
 rw[List.getElem?_map]at h
 cases e:ns[i]? with
 | none=>rw[e]at h; cases h
 | some n=>rw[e]at h; exact⟨n,(Option.some.inj h).symm,rfl⟩
section
variable {K:PySem.W.Frag} {H:Hp} {Q:VK}
theorem ZoB {xs:List V} (z:xs.length≤1000000) (h:∀(p:Addr) (H':Hp),Same H H'→H p=none→H' p=some (.lst xs)→Q (.ref p) H'):NewL xs H Q:=
 ⟨Zhj z,fun p hp=>h p _ (ZbZ hp _) hp Zas⟩
theorem Zhb {xs:List V} (z:xs.length≤1000000) (h:∀(p:Addr) (H':Hp),Same H H'→H p=none→H' p=some (.tup xs)→Q (.ref p) H'):NewT xs H Q:=
 ⟨Zhj z,fun p hp=>h p _ (ZbZ hp _) hp Zas⟩
theorem j_sl {p:Addr} {xs ys:List V} {lo hi:Option Int} (h:SqL K H p xs) (e:cutV xs lo hi=ys) (k:∀(l:Addr) (H':Hp),Same H H'→H l=none→H' l=some (.lst ys)→Q (.ref l) H'):rSlG K (.ref p) lo hi H Q:=
 Ztg h fun l hl=>by rw[e]; exact k l _ (ZbZ hl _) hl Zas
theorem ZqL {l b:Addr} {xs zs:List V} (h1:H l=some (.lst xs)) (h2:H b=some (.lst zs)) (z:xs.length+zs.length≤1000000) (h:∀(p:Addr) (H':Hp),Same H H'→H p=none→H' p=some (.lst (xs++zs))→Q (.ref p) H'):Zo6 (.ref l) (.ref b) H Q:=
 ZrU h1 h2 (Zhj z) fun p hp=>h p _ (ZbZ hp _) hp Zas
theorem Zm2 {p:Addr} {ys:List V} (h:SqL K H p ys∨SqT K H p ys) (k:∀(l:Addr) (H':Hp),Same H H'→H l=none→H' l=some (.lst ys)→Q (.ref l) H'):Znx K [.ref p] H Q:=
 ⟨p,ys,rfl,h,fun l hl=>k l _ (ZbZ hl _) hl Zas⟩
def But (l:Addr) (H H':Hp):Prop:=∀b o,b≠l→H b=some o→H' b=some o
theorem But.ext {l:Addr} {H H':Hp} {xs:List V} (h:H l=some (.lst xs)) (s:But l H H'):Ext H H':=fun b o e n=>s b o (Zsr e h (n xs)) e
theorem But.same {l:Addr} {H0 H H':Hp} (s:But l H H') (h0:H0 l=none) (s0:Same H0 H):Same H0 H':=fun b o e=>s b o (ZaF e h0) (s0 b o e)
theorem ZjI {l:Addr} {H:Hp} {o:HO}:But l H (upd H l o):=fun b u n e=>by rw[ZaL n]; exact e
theorem ZkI {l:Addr} {xs:List V} {y:V} (h:H l=some (.lst xs)) (z:xs.length < 1000000) (k:∀H':Hp,But l H H'→H' l=some (.lst (xs++[y]))→Q .non H'):Zka (.ref l) [y] H Q:=Zov h (ZnI z) (k _ ZjI Zas)
end
theorem ZpJ {to ti:TE} {t:TSet} {v:V} {σ:St} {H:Hp} {R:St→Hp→Prop} (h:to σ H fun o H1=>ti σ H1 fun i H2=>t o i v H2 fun H3=>R σ H3):gSub to ti t v σ H R:=h
theorem ZqJ {n j:Nat} (h:j < n):ixN n (j:Int)=some j:=by
 unfold ixN;rw[if_pos (by omega),if_pos (by omega)]; simp
theorem Zm3 {H:Hp} {p:Addr} {xs:List V} {j:Nat} {v:V} {R:Hp→Prop} (h:H p=some (.lst xs)) (hj:j < xs.length) (k:∀H':Hp,But p H H'→H' p=some (.lst (xs.set j v))→R H'):ZsL (.ref p) (.int (j:Int)) v H R:=
 ⟨p,xs,j,j,rfl,rfl,h,ZqJ hj,k _ ZjI Zas⟩
end L2
namespace L2
open PySem PySem.Spec PyProof.Rows
def Zb2 (X:Cx) (x:Str) (ns:List Str) (scope:Scope) (cl:List (Str×Addr)) (s:Shared) (H:Hp) (ex:List Addr):Cx where
 prog:=X.prog
 w:=X.w
 K:=X.K
 mg:=X.mg
 base:=X.base
 A:=X.A
 N:=x::ns
 s₀:=s
 H₀:=H
 env:=compEnvC scope cl s.heap.objs.size X.env
 outer:=X.stack
 stack:=X.stack
 ex:=ex
 fn:=fun _=>false
 calm:=X.calm
 pn:=[]
 xe:=fun _ _=>False
def subS (σ:St) (ix:List Nat):St:=ix.map fun k=>(σ[k]?).join
def Zhl (sc:Scope) (N:List Str) (x:Str) (ns:List Str) (ix:List Nat) (scope:Scope):Prop:=
 scope.kind=.function∧(∀y∈scope.names,y.2≠.cell∧(y.2=.local→scope.names.lookup y.1=some .local)∧(y.2=.free→sc.names.lookup y.1=some .cell∨sc.names.lookup y.1=some .free))∧
 scope.names.lookup x=some .local∧(∀y∈ns,scope.names.lookup y=some .free)∧(ix.map fun k=>N[k]?)=ns.map some∧(x::ns).Nodup
instance (sc:Scope) (N:List Str) (x:Str) (ns:List Str) (ix:List Nat) (scope:Scope):Decidable (Zhl sc N x ns ix scope):=by unfold Zhl; infer_instance
def ZhS (J:It) (ix:List Nat) (tc:TT) (te:TE) (σ:St) (Q:VK) (H1:Hp):Prop:=∀acc,H1 acc=none→∃W:Nat→Nat→List V→Hp→Prop,(∃m,W 0 m [] (upd H1 acc (.lst [])))∧
 ∀i m ys H,W i m ys H→(J.stop i H∧Q (.ref acc) H)∨(J.go i H∧∀x H',J.yld i H x H'→tc (some x::subS σ ix) H' fun b H2=>
  if b=true then te (some x::subS σ ix) H2 fun y H3=>H3 acc=some (.lst ys)∧ys.length < sizeLine∧∃m',m' < m∧W (i+1) m' (ys++[y]) (upd H3 acc (.lst (ys++[y]))) else ∃m',m' < m∧W (i+1) m' ys H2)
def Zpp (wi:TI) (ix:List Nat) (tc:TT) (te:TE):TE:=fun σ H Q=>wi σ H fun J H1=>ZhS J ix tc te σ Q H1
theorem Zds {α β:Type} [BEq α] [LawfulBEq α]:∀{l:List (α×β)} {a:α} {b:β},l.lookup a=some b→(a,b)∈l
 | [],_,_,h=>by simp at h
 | (k,v)::r,a,b,h=>by
  rw[List.lookup_cons]at h
  cases e:a == k with
  | true=>
   rw[e]at h
   have:a=k:=by simpa using e
   subst this
   cases h
   exact List.mem_cons_self
  | false=>
   rw[e]at h;exact List.mem_cons_of_mem _ (Zds h)
theorem Zfk {env:Env}:∀(names:List (Str×NameKind)) (acc:List (Str×Addr)),(∀y∈names,y.2=.free→∃c,env.cells.lookup y.1=some c)→(∀y c,acc.lookup y=some c→env.cells.lookup y=some c)→
  ∃cl,(forIn names acc fun x r=>match x with | (name,kind)=>if (kind == NameKind.free)=true then(do let a ←cellOf env name; pure (ForInStep.yield ((name,a)::r))) else pure (ForInStep.yield r):Sem (List (Str×Addr)))=pure cl∧
   (∀y c,cl.lookup y=some c→env.cells.lookup y=some c)∧(∀y,(∃c,acc.lookup y=some c)→∃c,cl.lookup y=some c)∧∀y∈names,y.2=.free→∃c,cl.lookup y.1=some c
 | [],acc,_,ha=>⟨acc,rfl,ha,fun _ h=>h,fun _ h=>nomatch h⟩
 | (name,kind)::r,acc,hn,ha=>by
  cases hk:kind == NameKind.free with
  | false=>
   obtain⟨cl,e,h1,h2,h3⟩:=Zfk r acc (fun y hy=>hn y (List.mem_cons_of_mem _ hy)) ha;refine⟨cl,?_,h1,h2,fun y hy hf=>?_⟩
   ·rw[List.forIn_cons]
    simp only [hk,Bool.false_eq_true,if_false];exact e
   ·rcases List.mem_cons.mp hy with rfl | hy
    ·have:kind=.free:=hf
     subst this;simp at hk
    ·exact h3 y hy hf
  | true=>
   have hkf:kind=.free:=by simpa using hk
   obtain⟨c,hc⟩:=hn (name,kind) List.mem_cons_self hkf;have hc:env.cells.lookup name=some c:=hc
   obtain⟨cl,e,h1,h2,h3⟩:=Zfk r ((name,c)::acc) (fun y hy=>hn y (List.mem_cons_of_mem _ hy)) (fun y c' hy=>by
    rw[List.lookup_cons]at hy
    cases e:y == name with
    | true=>
     rw[e]at hy
     have:y=name:=by simpa using e
     subst this
     cases hy
     exact hc
    | false=>
     rw[e]at hy
     exact ha y c' hy)
   refine⟨cl,?_,h1,fun y hy=>h2 y ?_,fun y hy hf=>?_⟩
   ·rw[List.forIn_cons]
    simp only [hk,if_true]
    have:cellOf env name=pure c:=by unfold cellOf; rw[hc]
    rw[this];exact e
   ·obtain⟨c',hc'⟩:=hy
    rw[List.lookup_cons]
    cases y == name
    ·exact⟨c',hc'⟩
    ·exact⟨c,rfl⟩
   ·rcases List.mem_cons.mp hy with rfl | hy
    ·exact h2 _ ⟨c,by rw[List.lookup_cons]; simp⟩
    ·exact h3 y hy hf
theorem Zhx {env:Env} (scope:Scope) (h:∀y∈scope.names,y.2=.free→∃c,env.cells.lookup y.1=some c) :
  ∃cl,closureFor scope env=pure cl∧(∀y c,cl.lookup y=some c→env.cells.lookup y=some c)∧∀y∈scope.names,y.2=.free→∃c,cl.lookup y.1=some c:=by
 obtain⟨cl,e,h1,_,h3⟩:=Zfk (env:=env) scope.names [] h (fun _ _ z=>by simp at z);refine⟨cl,?_,h1,h3⟩;show((forIn scope.names [] fun x r=>match x with | (name,kind)=>if (kind == NameKind.free)=true then(do let a ←cellOf env name; pure (ForInStep.yield ((name,a)::r))) else pure (ForInStep.yield r):Sem (List (Str×Addr))) >>= fun s=>pure s)=pure cl;rw[e];rfl
theorem ZfY {env:Env}:∀(names:List (Str×NameKind)) (y:Str),(names.map fun(n,k)=>if (k == NameKind.free && env.scope.kind == .function && env.kindOf n == some .cell) then(n,NameKind.cell) else(n,k)).lookup y =
  (names.lookup y).map fun k=>if (k == NameKind.free && env.scope.kind == .function && env.kindOf y == some .cell)=true then NameKind.cell else k
 | [],y=>by simp
 | (n,k)::r,y=>by
  have ih:=ZfY (env:=env) r y;rw[List.map_cons,List.lookup_cons]
  cases e:y == n with
  | true=>
   have ey:y=n:=by simpa using e
   subst ey
   by_cases hc:(k == NameKind.free && env.scope.kind == .function && env.kindOf y == some .cell)=true
   ·simp only [hc,if_true,List.lookup_cons,beq_self_eq_true,Option.map_some]
   ·simp only [hc,if_false,List.lookup_cons,beq_self_eq_true,Option.map_some,Bool.false_eq_true]
  | false=>
   by_cases hc:(k == NameKind.free && env.scope.kind == .function && env.kindOf n == some .cell)=true
   ·simp only [hc,if_true,List.lookup_cons,e]; exact ih
   ·simp only [hc,if_false,List.lookup_cons,e,Bool.false_eq_true]; exact ih
section
variable {X:Cx} {pins:List (Addr×Obj)} {σ:St} {H:Hp} {s:Shared} {cl:List (Str×Addr)} {x:Str} {ns:List Str} {ix:List Nat} {sc scope:Scope} {N:List Str} {fp:List Addr}
theorem Zqw (I:Inv X pins σ H s) (f:∀b∈fp,FpOk X pins H b) (hlt:∀b∈fp,b < s.heap.objs.size) (hcl:∀y c,cl.lookup y=some c→X.env.cells.lookup y=some c) {H':Hp} (hn:∀b∈fp,H' b=none):∀b∈fp,FpOk (Zb2 X x ns scope cl s H fp) [] H' b:=fun b hb=>by
 obtain⟨f0,f1,f2,f3,f4,f5⟩:=f b hb;refine⟨hn b hb,Nat.ne_of_lt (hlt b hb),fun z=>?_,.inl hb,fun y c e=>f4 y c (hcl y c e),fun p hp=>?_⟩
 ·rcases List.mem_cons.mp (I.stkSub b z) with z | z
  ·exact f1 z
  ·exact f2 z
 ·exact absurd (show p∈([]:List (Addr×Obj)) from hp) (by simp)
theorem ZoA {h1:Heap} {m:Str→Option Value} {t':Nat} (I:Inv X pins σ H s) (hsc:X.env.scope=sc) (hN:X.N=N) (C:Zhl sc N x ns ix scope) (hcl:∀y c,cl.lookup y=some c→X.env.cells.lookup y=some c)
  (hcla:∀y∈scope.names,y.2=.free→∃c,cl.lookup y.1=some c) (f:∀b∈fp,FpOk X pins H b) (hlt:∀b∈fp,b < s.heap.objs.size) (hn:h1.Ns s.heap.objs.size m) (hk:∀b o,s.heap.get? b=some o→h1.get? b=some o) :
  Inv (Zb2 X x ns scope cl s H fp) [] (none::subS σ ix) H { s with heap:=h1,toks:=t' }:=by
 obtain⟨c1,c2,c3,c4,c5,c6⟩:=C;have kind:∀y,(relabel scope X.env).names.lookup y=(scope.names.lookup y).map fun k=>if (k == NameKind.free && X.env.scope.kind == .function && X.env.kindOf y == some .cell)=true then NameKind.cell else k:=fun y=>ZfY scope.names y
 have fr:∀y,((relabel scope X.env).names.lookup y=some .cell∨(relabel scope X.env).names.lookup y=some .free)→scope.names.lookup y=some .free:=fun y h=>by
  rw[kind y]at h
  cases e:scope.names.lookup y with
  | none=>rw[e]at h; simp at h
  | some k=>
   rw[e]at h;have hm:=Zds e
   cases k with
   | free=>rfl
   | cell=>exact absurd rfl (c2 _ hm).1
   | «local»=>simp at h
   | globalExplicit=>simp at h
   | globalImplicit=>simp at h
 have fr':∀y,scope.names.lookup y=some .free→(relabel scope X.env).names.lookup y=some .cell∨(relabel scope X.env).names.lookup y=some .free:=fun y h=>by
  rw[kind y,h]
  by_cases hc:(NameKind.free == NameKind.free && X.env.scope.kind == .function && X.env.kindOf y == some .cell)=true
  ·left; rw[Option.map_some,if_pos hc]
  ·right; rw[Option.map_some,if_neg hc]
 have noC:∀p:Addr×Obj,p∉(Zb2 X x ns scope cl s H fp).pn++[]:=fun p hp=>absurd (show p∈([]:List (Addr×Obj)) from hp) (by simp)
 have lenE:ix.length=ns.length:=by
  have:=congrArg List.length c5
  rwa [List.length_map,List.length_map]at this
 refine⟨⟨I.ok.mod,c1,I.ok.glob,I.ok.blt,Nat.le_refl _,fun y z c h1 h2=>I.ok.inj y z c (hcl y c h1) (hcl z c h2),fun y hy=>?_,fun y c hy=>absurd hy (by simp[Zb2]),I.ok.hd,I.ok.frames,.inl rfl,fun b hb=>?_,I.bs,
  Nat.le_trans I.ok.bsz I.sz,fun b o e hb=>?_,fun b hb=>?_,I.stack,I.stkFree⟩,rfl,I.bare,Un.kept hk,⟨m,hn,fun i y v e1 e2 e3=>?_⟩,fun y c e=>?_,I.hok.fresh (Nat.le_refl _),fun y c e=>I.freeC y c (hcl y c e),fun p hp=>absurd hp (noC p),I.hok.kept hk,?_⟩
 ·exact hcla _ (Zds (fr y hy)) rfl
 ·obtain⟨f0,f1,f2,f3,f4,f5⟩:=f b hb
  exact⟨Nat.ne_of_lt (hlt b hb),fun y c e=>f4 y c (hcl y c e)⟩
 ·obtain⟨f0,f1,f2,f3,f4,f5⟩:=f b hb
  rcases f3 with z | z
  ·exact I.ok.noex b o e z
  ·exact absurd (Nat.lt_of_lt_of_le (Heap.lt_size (I.ok.bs b o e).1) z) (Nat.lt_irrefl _)
 ·obtain⟨f0,f1,f2,f3,f4,f5⟩:=f b hb
  intro z
  rcases List.mem_cons.mp (I.stkSub b z) with z | z
  ·exact f1 z
  ·exact f2 z
 ·cases i with
  | zero=>cases e2
  | succ j=>
   have e1':ns[j]?=some y:=e1;have e2':(ix.map fun k=>(σ[k]?).join)[j]?=some (some v):=e2;have e5:=congrArg (fun l=>l[j]?) c5;simp only [List.getElem?_map,e1',Option.map_some]at e5 e2'
   cases ek:ix[j]? with
   | none=>rw[ek]at e5; cases e5
   | some k=>
    rw[ek]at e5 e2'
    have eN:N[k]?=some y:=by simpa using e5
    have eσ:(σ[k]?).join=some v:=by simpa using e2'
    have eσ':σ[k]?=some (some v):=by
     cases q:σ[k]? with
     | none=>rw[q]at eσ; cases eσ
     | some w=>rw[q]at eσ; have:w=some v:=eσ; rw[this]
    have hy:=c4 y (List.mem_of_getElem? e1');have hk':=(c2 _ (Zds hy)).2.2 rfl;rw[←hsc]at hk';obtain⟨m0,hn0,hl⟩:=I.loc;obtain⟨u,r,l⟩:=hl k y v (by rw[hN]; exact eN) eσ' (.inr hk');refine⟨u,r,?_⟩
    rcases l with⟨kl,_⟩ | ⟨_,c,ec,z⟩
    ·exfalso
     have kl:X.env.scope.names.lookup y=some .local:=kl;rw[kl]at hk'
     rcases hk' with z | z <;> cases z
    ·obtain⟨c',ec'⟩:=hcla _ (Zds hy) rfl
     have ee:c'=c:=by
      have:=hcl y c' ec';rw[ec]at this;exact(Option.some.inj this).symm
     subst ee;obtain⟨o,ho,hd⟩:=z;exact .inr ⟨fr' y hy,c',ec',⟨o,hk _ _ ho,hd⟩⟩
 ·obtain⟨v,o,ho,hd⟩:=I.cell y c (hcl y c e)
  exact⟨v,o,hk _ _ ho,hd⟩
 ·show(none::subS σ ix).length=(x::ns).length
  rw[List.length_cons,List.length_cons];unfold subS;rw[List.length_map,lenE]
end
theorem Zl0 {α β:Type} {M:Model} {A:Around} {a:α} {P:α→Shared→Prop} {E E':Value→Shared→Prop} {s s':Shared} {t:Sem β} {Q:β→Shared→Prop} (h:wpAny M A (pure a) P E s) (k:P a s→wpAny M A t Q E' s'):wpAny M A t Q E' s':=
 fun Γ p hi=>k (h Γ p hi) Γ p hi
def PTs (X:Cx) (ifs:List Expr) (t:TT):Prop:=
 ∀(pins:List (Addr×Obj)) (s:Shared) (σ:St) (H:Hp) (Q:Bool→Hp→Prop),Inv X pins σ H s→t σ H Q→
  wpAny (model X.prog X.w) X.A (forIn ifs true fun c r=>if r=true then do let ok ←isTrue c X.env (eval c X.env); pure (ForInStep.yield ok) else pure (ForInStep.yield r)) (TP X pins σ Q) X.xe s
def Zs2:TT:=fun _ H Q=>Q true H
theorem Zj9 {X:Cx}:PTs X [] Zs2:=fun _ _ _ H _ I h=>wpAny_tests_nil ⟨H,I,h⟩
theorem Zif {X:Cx} {c:Expr} {t:TT} (h:PT X c t):PTs X [c] t:=fun pins s σ H Q I q=>wpAny_tests_one (h pins s σ H Q I q)
section
variable {X:Cx} {pins:List (Addr×Obj)} {σ:St} {H:Hp} {s:Shared} {cl:List (Str×Addr)} {x:Str} {ns:List Str} {ix:List Nat} {sc scope:Scope} {N:List Str} {fp:List Addr} {elt iter:Expr} {px pos:Pos} {ifs:List Expr} {tc:TT} {te:TE} {wi:TI}
theorem Zkt {E:Value→Shared→Prop} {J:It} {it:Addr} {tn:Nat→Heap→Prop} {Q:VK} {RR:Value→Addr→Result→Shared→Prop} (hsc:X.env.scope=sc) (hN:X.N=N) (C:Zhl sc N x ns ix scope) (hc:X.calm=true)
  (ht:∀cl s H ex,PTs (Zb2 X x ns scope cl s H ex) ifs tc) (he:∀cl s H ex,PE (Zb2 X x ns scope cl s H ex) elt te) (I:Inv X pins σ H s) (hcl:∀y c,cl.lookup y=some c→X.env.cells.lookup y=some c)
  (hcla:∀y∈scope.names,y.2=.free→∃c,cl.lookup y.1=some c) (T:Turn X.prog X.w X.K (.Name x px) J fp it tn) (st:tn 0 s.heap) (f:∀b∈fp,FpOk X pins H b) (h:ZhS J ix tc te σ Q H)
  (fin:∀D C m s' H',Inv X pins σ H' s'→s'.heap.Ns C m→FpOk X pins H' C→Q (.ref D) H'→RR (.ref D) C (.ok .next) s') :
  wpAny (model X.prog X.w) X.A (newList []) (fun ja s3=>wpAny (model X.prog X.w) X.A (newFunctionEnv scope X.env.globals cl [] X.env.qual none .none (some X.env)) (fun ce s4=>
   codeAny (model X.prog X.w) X.A (.compStart (.ListComp elt [⟨.Name x px,iter,ifs,0⟩] scope pos) 0 (.ref it) ja { ce with scope:=relabel scope X.env }) (RR ja ce.locals) s4) E s3) E s:=by
 have hC:=C;obtain⟨c1,c2,c3,c4,c5,c6⟩:=C;have hfr:H s.heap.objs.size=none:=I.hok.fresh (Nat.le_refl _);obtain⟨W,⟨m0,w0⟩,turn⟩:=h _ hfr;refine wpAny_newObj_type (wpAny_newFunctionEnv (fun y hy=>(c2 y hy).1) (by intro y hy; simp at hy) (fun h1 hn1 hs1=>?_) c1);have I3:=I.lnew (its:=[]) (ys:=[]) (t':=s.toks) .nil (Nat.zero_le _)
 have hlt0:∀b∈fp,b < s.heap.objs.size:=fun b hb=>by
  obtain⟨o,ho,_⟩:=T.obj _ _ st b hb;exact Heap.lt_size ho
 generalize hs3:({ s with heap:=s.heap.push { cls:=.type "list",data:=.seq ([]:List Value).toArray },toks:=s.toks }:Shared)=s3 at I3
 have e3:s3.heap=s.heap.push { cls:=.type "list",data:=.seq ([]:List Value).toArray }:=by rw[←hs3]
 have sz3:s3.heap.objs.size=s.heap.objs.size+1:=by rw[e3,Heap.size_push]
 have f3:∀b∈fp,FpOk X pins (upd H s.heap.objs.size (.lst [])) b:=fun b hb=>⟨by rw[ZaL (Nat.ne_of_lt (hlt0 b hb))]; exact(f b hb).1,(f b hb).2⟩
 have hlt:∀b∈fp,b < s3.heap.objs.size:=fun b hb=>by rw[sz3]; exact Nat.lt_succ_of_lt (hlt0 b hb)
 have hk:∀b o,s3.heap.get? b=some o→h1.get? b=some o:=fun b o e=>by
  refine(hs1.2 b ?_).trans (Heap.get?_push_of_some _ ?_)
  ·have:=Heap.lt_size e
   rw[sz3]at this;show b≠(s.heap.push _).objs.size;rw[Heap.size_push];exact Nat.ne_of_lt this
  ·rw[e3]at e; exact e
 have hn3:h1.Ns s3.heap.objs.size (fun y=>([]:List (Str×Value)).reverse.lookup y):=by rw[e3]; exact hn1
 have I4:=ZoA (t':=s3.toks+([]:List (Str×Value)).length) I3 hsc hN hC hcl hcla f3 hlt hn3 hk;have st4:tn 0 h1:=T.keep _ _ _ st fun b hb o e=>hk b o (by rw[e3]; exact Heap.get?_push_of_some _ e);have stat:∀{H':Hp},(∀b∈fp,H' b=none)→∀b∈fp,FpOk (Zb2 X x ns scope cl s3 (upd H s.heap.objs.size (.lst [])) fp) [] H' b:=fun {H'} hn=>Zqw I3 f3 hlt hcl hn
 have loop:∀s4:Shared,s4 = { s3 with heap:=h1,toks:=s3.toks+([]:List (Str×Value)).length }→
   codeAny (model X.prog X.w) X.A (.compLoop (.ListComp elt [⟨.Name x px,iter,ifs,0⟩] scope pos) 0 (.ref it) (.ref s.heap.objs.size) (compEnvC scope cl s3.heap.objs.size X.env)) (RR (.ref s.heap.objs.size) s3.heap.objs.size) s4:=by
  rintro s4 rfl;refine codeAny_compLoop_tests (fun n s'=>∃i v0 ys H',Inv (Zb2 X x ns scope cl s3 (upd H s.heap.objs.size (.lst [])) fp) [] (v0::subS σ ix) H' s'∧tn i s'.heap∧(∀b∈fp,H' b=none)∧W i n ys H') ?_ m0 ⟨0,none,[],_,I4,st4,fun b hb=>(f3 b hb).1,w0⟩;rintro n s5 ⟨i,v0,ys,H5,I5,st5,fr5,w5⟩
  rcases turn i n ys H5 w5 with⟨stop,q⟩ | ⟨go,step⟩
  ·refine wpAny_mono (T.done (Zb2 X x ns scope cl s3 (upd H s.heap.objs.size (.lst [])) fp) rfl rfl rfl hc i [] s5 _ H5 _ I5 (stat fr5) st5 stop) (fun r s6 hr=>?_) fun _ _ e=>e
   obtain⟨hr,I6⟩:=hr;subst hr;obtain⟨m6,hn6,_⟩:=id I6.loc;refine fin _ _ m6 s6 H5 (I3.call' I6.os I6.base I6.hok I6.bare fun b hb=>?_) hn6 (I3.fpOk (Nat.le_refl _) I6.free) q;obtain⟨g0,g1,g2,g3,g4,g5⟩:=f3 b hb;exact⟨g3,g1,g4,g5⟩
  ·refine wpAny_mono (T.item (Zb2 X x ns scope cl s3 (upd H s.heap.objs.size (.lst [])) fp) rfl rfl rfl hc i [] s5 _ H5 _ I5 (stat fr5) st5 go) (fun r s6 hr=>?_) fun _ _ e=>e
   obtain⟨u,hr,h6⟩:=hr;subst hr;refine Zl0 (a:=()) h6 fun q6=>?_;obtain⟨xv,H6,I6,r6,y6,st6,fr6⟩:=q6;have I6':=I6.pinned (stat fr6) (T.obj _ _ st6)
   have again:∀{m':Nat} {ys':List V} {H7:Hp} {s7:Shared},Inv (Zb2 X x ns scope cl s3 (upd H s.heap.objs.size (.lst [])) fp) ([]++Zjf fp s6.heap) (some xv::subS σ ix) H7 s7→W (i+1) m' ys' H7→
     ∃i v0 ys H',Inv (Zb2 X x ns scope cl s3 (upd H s.heap.objs.size (.lst [])) fp) [] (v0::subS σ ix) H' s7∧tn i s7.heap∧(∀b∈fp,H' b=none)∧W i m' ys H':=fun {m' ys' H7 s7} I7 w7=>by
    refine⟨i+1,some xv,ys',H7,I7.unpinned,T.keep _ _ _ st6 fun b hb o e=>(I7.pin (b,o) (List.mem_append_right _ (List.mem_append_right _ (Zel hb e)))).1,fun b hb=>?_,w7⟩;obtain⟨o,e,d⟩:=T.obj _ _ st6 b hb;exact(I7.pin (b,o) (List.mem_append_right _ (List.mem_append_right _ (Zel hb e)))).2.1
   have lx:(relabel scope X.env).names.lookup x=some .local:=lookup_relabel_local c3;refine wpAny_mono (Znr (X:=Zb2 X x ns scope cl s3 (upd H s.heap.objs.size (.lst [])) fp) (i:=0) (x:=x) (pos:=px) c6 rfl (.inl lx) (.inr lx) _ s6 _ H6 xv u (fun σ' H'=>σ'=some xv::subS σ ix∧H'=H6) I6' r6 ⟨rfl,rfl⟩) (fun _ s7 h7=>?_) fun _ _ e=>e.elim;obtain⟨σ7,H7,I7,rfl,rfl⟩:=h7;refine wpAny_mono (ht cl s3 _ fp _ s7 _ _ _ I7 (step xv _ y6)) (fun b s8 h8=>?_) fun _ _ e=>e.elim;obtain⟨H8,I8,q8⟩:=h8
   cases b with
   | false=>
    rw[if_neg Bool.false_ne_true]at q8 ⊢;obtain⟨m',hm,w8⟩:=q8;exact⟨m',hm,again I8 w8⟩
   | true=>
    rw[if_pos rfl]at q8 ⊢;refine wpAny_mono (he cl s3 _ fp _ s8 _ _ _ I8 q8) (fun uy s9 h9=>?_) fun _ _ e=>e.elim;obtain⟨y,H9,I9,r9,hacc,hz,m',hm,w9⟩:=h9;refine wpAny_mono (ZgE (X:=Zb2 X x ns scope cl s3 (upd H s.heap.objs.size (.lst [])) fp) _ s9 _ H9 (.ref s.heap.objs.size) [y] _ [uy] (fun v H'=>H'=upd H9 s.heap.objs.size (.lst (ys++[y]))) I9 rfl (.cons r9 .nil) ⟨_,ys,y,rfl,rfl,hacc,hz,rfl⟩) (fun _ s10 h10=>?_) fun _ _ e=>e.elim;obtain⟨v,H10,I10,_,rfl⟩:=h10;exact⟨m',hm,again I10 w9⟩
 exact codeAny_compStart_list (loop _ rfl) (T.self _ 0 _ _ _ st4 (loop _ rfl))
theorem Znp (hsc:X.env.scope=sc) (hN:X.N=N) (C:Zhl sc N x ns ix scope) (hc:X.calm=true) (hi:PI X (.Name x px) iter wi) (ht:∀cl s H ex,PTs (Zb2 X x ns scope cl s H ex) ifs tc) (he:∀cl s H ex,PE (Zb2 X x ns scope cl s H ex) elt te)
  (hs:∀v,foldedSetIterable iter X.env v=pure v:=by intro _; rfl):PE X (.ListComp elt [⟨.Name x px,iter,ifs,0⟩] scope pos) (Zpp wi ix tc te):=by
 intro pins s σ H Q I h
 obtain⟨cl,hclos,hcl,hcla⟩:=Zhx (env:=X.env) scope fun y hy hf=>I.ok.has y.1 (by
  have:=(C.2.1 y hy).2.2 hf;rw[←hsc]at this
  exact this)
 rw[eval_ListComp];refine wpAny_comprehension_free (use:=none) rfl hs hclos C.1 (fun y hy=>(C.2.1 y hy).2.1) (thn (hi pins s σ H _ I h) fun v s1 h1=>thn h1 fun itv s2 h2=>?_);obtain⟨it,fp,tn,J,H2,rfl,I2,T,st2,f2,hg⟩:=h2;refine Zkt (RR:=fun ja C=>compPost (model X.prog X.w) X.A X.xe none (EP X pins σ Q) ja C) hsc hN C hc ht he I2 hcl hcla T st2 f2 hg ?_;intro D C' m s' H' I' hn' fC q;obtain⟨g0,g1,g2,g3,g4,g5⟩:=fC;exact⟨m,hn',fun h' hs'=>⟨.ref D,H',I'.turned (t':=s'.toks) (fun b o hb e=>hs'.extBut b o hb e) g0 (Ne.symm (Ne.symm g1)) g3 g4 g5,rfl,q⟩⟩
theorem ZgS {y:Str} {py spos:Pos} (i:Nat) (hNd:X.N.Nodup) (hsc:X.env.scope=sc) (hN:X.N=N) (C:Zhl sc N x ns ix scope) (hc:X.calm=true) (hi:PI X (.Name x px) iter wi) (ht:∀cl s H ex,PTs (Zb2 X x ns scope cl s H ex) ifs tc) (he:∀cl s H ex,PE (Zb2 X x ns scope cl s H ex) elt te)
  (hs:∀v,foldedSetIterable iter X.env v=pure v:=by intro _; rfl) (hy:X.N[i]?=some y:=by rfl) (hl:X.env.scope.names.lookup y=some .local:=by rfl)
  (hsw:swapsWith (.ListComp elt [⟨.Name x px,iter,ifs,0⟩] scope pos) (some (.Name y py)) spos.line X.env=pure true:=by rfl) :
  PS X (.Assign [.Name y py] (.ListComp elt [⟨.Name x px,iter,ifs,0⟩] scope pos) spos) (tAsg (Zpp wi ix tc te) (Zg6 i)):=by
 intro pins s σ H D I h
 obtain⟨cl,hclos,hcl,hcla⟩:=Zhx (env:=X.env) scope fun y hy hf=>I.ok.has y.1 (by
  have:=(C.2.1 y hy).2.2 hf;rw[←hsc]at this
  exact this)
 rw[exec_Assign_Name_used _ _ _ _ hsw];refine wpAny_bind (wpAny_standAt (wpAny_bind ?_));show wpAny _ X.A (do let _ ←comprehension (.ListComp elt [⟨.Name x px,iter,ifs,0⟩] scope pos) scope X.env _ (newList []) false (eval iter X.env) (some (assign (.Name y py) X.env))) _ _ s
 refine wpAny_bind (wpAny_mono (wpAny_comprehension_free (use:=some (assign (.Name y py) X.env)) (Q:=fun _ s'=>SP X pins D .next s') rfl hs hclos C.1 (fun y hy=>(C.2.1 y hy).2.1)
  (thn (hi pins s σ H _ I h) fun v s1 h1=>thn h1 fun itv s2 h2=>?_)) (fun _ s' hq=>wpAny_pure (wpAny_pure hq)) fun _ _ e=>e)
 obtain⟨it,fp,tn,J,H2,rfl,I2,T,st2,f2,hg⟩:=h2;refine Zkt (RR:=fun ja C=>compPost (model X.prog X.w) X.A X.xe (some (assign (.Name y py) X.env)) (fun _ s'=>SP X pins D .next s') ja C) hsc hN C hc ht he I2 hcl hcla T st2 f2 hg ?_;intro D' C' m s' H' I' hn' fC q;obtain⟨g0,g1,g2,g3,g4,g5⟩:=fC;refine wpAny_assign_Name (Zjm I' hNd hy (.inl hl) (v:=.ref D') rfl (fun s'' I'' hs''=>?_) (.inr hl));obtain⟨a,sb,ha⟩:=hs''
 have hne:C'≠a:=by
  rcases ha with ha | ha
  ·rw[ha]; exact g1
  ·intro z; exact g4 y a ha z.symm
 exact⟨m,hn'.sameBut sb hne,fun h' hs'=>⟨_,H',I''.turned (t':=s''.toks) (fun b o hb e=>hs'.extBut b o hb e) g0 g1 g3 g4 g5,q⟩⟩
end
section
variable {wi:TI} {ix:List Nat} {tc:TT} {te:TE} {σ:St} {H:Hp} {Q:VK} {K:PySem.W.Frag}
theorem ZkD {ta:TA} (h:ta σ H fun vs H1=>∃j:Int,vs=[.int j]∧-(2 ^ 62)≤j∧j < 2 ^ 62∧ZhS (Itr 0 j.toNat) ix tc te σ Q H1):Zpp (ZqA ta) ix tc te σ H Q:=h
def Ztb (K:PySem.W.Frag) (x:V) (ix:List Nat) (tc:TT) (te:TE) (σ:St) (Q:VK) (H1:Hp):Prop:=
 (∃a xs,x=.ref a∧SqL K H1 a xs∧ZhS (Itl K a) ix tc te σ Q H1)∨(∃a xs,x=.ref a∧SqT K H1 a xs∧ZhS (Itt K a) ix tc te σ Q H1)∨(∃z,x=.str z∧ZhS (Its z) ix tc te σ Q H1)
theorem ZmR {tl:TE} (h:tl σ H fun x H1=>Ztb K x ix tc te σ Q H1):Zpp (iSeq K tl) ix tc te σ H Q:=h
theorem ZpR {BQ:Bool→Hp→Prop} (h:BQ true H):Zs2 σ H BQ:=h
def Wk (J:It) (xs:List V) (H1:Hp):Prop:=∀H',Same H1 H'→(∀i,i < xs.length→J.go i H'∧∀x H2,J.yld i H' x H2→H2=H'∧xs[i]?=some x)∧J.stop xs.length H'
theorem Zin (lo:Int) (n:Nat) (H:Hp):Wk (Itr lo n) ((List.range n).map fun i:Nat=>V.int (lo+(i:Int))) H:=fun H' _=>by
 refine⟨fun i hi=>?_,?_⟩
 ·rw[List.length_map,List.length_range]at hi
  refine⟨hi,fun x H2 y=>?_⟩;obtain⟨e,y⟩:=y;refine⟨e,?_⟩;rw[List.getElem?_map,List.getElem?_range hi,y];rfl
 ·rw[List.length_map,List.length_range]
  exact Nat.le_refl n
theorem Zim {a:Addr} {xs:List V} (h:SqL K H a xs):Wk (Itl K a) xs H:=fun H' s=>by
 have h':=s.seq h;refine⟨fun i hi=>⟨⟨xs,xs[i],h',by simp[hi]⟩,fun x H2 y=>?_⟩,⟨xs,h',Nat.le_refl _⟩⟩;obtain⟨e,y⟩:=y;exact⟨e,y xs h'⟩
theorem Zfl {J:It} {xs:List V} (Pv:Nat→List V→Prop) (hw:Wk J xs H) (hz:xs.length≤1000000) (h0:Pv 0 [])
  (hs:∀(i:Nat) (x:V) (ys:List V) (acc:Addr) (H':Hp),xs[i]?=some x→Same H H'→H acc=none→H' acc=some (.lst ys)→Pv i ys→ys.length≤i→
   ∀R:Bool→Hp→Prop,(∀b H2,Same H' H2→(b=false→Pv (i+1) ys)→(b=true→∀R2:V→Hp→Prop,(∀y H3,Same H2 H3→Pv (i+1) (ys++[y])→R2 y H3)→te (some x::subS σ ix) H2 R2)→R b H2)→tc (some x::subS σ ix) H' R)
  (hd:∀(acc:Addr) (ys:List V) (H':Hp),H acc=none→Same H H'→H' acc=some (.lst ys)→Pv xs.length ys→Q (.ref acc) H'):ZhS J ix tc te σ Q H:=by
 intro acc hacc
 have sU:∀{H2:Hp} (o:HO),Same H H2→Same H (upd H2 acc o):=fun o s b u e=>by rw[ZaL (ZaF e hacc)]; exact s b u e
 refine⟨fun i m ys H'=>m=xs.length - i∧i≤xs.length∧Same H H'∧H' acc=some (.lst ys)∧Pv i ys∧ys.length≤i,⟨xs.length,by simp,Nat.zero_le _,ZbZ hacc _,Zas,h0,Nat.le_refl _⟩,?_⟩;rintro i m ys H' ⟨rfl,hi,sm,ea,pv,hy⟩
 by_cases hlt:i < xs.length
 ·obtain⟨go,yl⟩:=(hw H' sm).1 i hlt
  refine .inr ⟨go,fun x H2 y=>?_⟩;obtain⟨rfl,hx⟩:=yl x H2 y;refine hs i x ys acc _ hx sm hacc ea pv hy _ fun b H3 s3 pf pt=>?_
  cases b with
  | false=>
   rw[if_neg Bool.false_ne_true];exact⟨xs.length - (i+1),by omega,rfl,hlt,sm.trans s3,s3 _ _ ea,pf rfl,Nat.le_succ_of_le hy⟩
  | true=>
   rw[if_pos rfl];refine pt rfl _ fun y H4 s4 py=>⟨s4 _ _ (s3 _ _ ea),ZnI (by omega),xs.length - (i+1),by omega,rfl,hlt,sU _ (sm.trans (s3.trans s4)),Zas,py,?_⟩;rw[List.length_append,List.length_singleton];omega
 ·have e:i=xs.length:=by omega
  subst e;exact .inl ⟨(hw H' sm).2,hd acc ys H' hacc sm ea pv⟩
end
section
variable {X:Cx} {K:PySem.W.Frag} {a o:Expr} {ta:TE} {pos:Pos}
theorem Zfp (hK:X.K=K):IxR X (rIx K):=by subst hK; exact ZbD
theorem ZgT (hK:X.K=K) (ha:PE X a ta) (he:∀whole,isTrue a X.env whole=(do let v ←whole; standAt a.pos; holding [v] (truthy v))):PT X a (fun σ H Q=>ta σ H fun x H'=>∃k,TruV K x H' k∧Q k H'):=by subst hK; exact Zan ha he
end
end L2
namespace EM
theorem Zrw (x y:Nat):x - (x &&& y)=(x &&& y) ^^^ x:=by
 have h:=ZkV (x+1) (x &&& y) x (by have:=Nat.and_le_left (n:=x) (m:=y); omega)
 have e1:(x &&& y) ||| x=x:=by
  apply Nat.eq_of_testBit_eq; intro i; rw[Nat.testBit_or,Nat.testBit_and]; cases x.testBit i <;> simp
 have e2:(x &&& y) &&& x=x &&& y:=by
  apply Nat.eq_of_testBit_eq; intro i; rw[Nat.testBit_and,Nat.testBit_and]; cases x.testBit i <;> simp
 rw[e1,e2]at h;omega
theorem Zbp (x y i:Nat):(x - (x &&& y)).testBit i=(x.testBit i && !y.testBit i):=by
 rw[Zrw,Nat.testBit_xor,Nat.testBit_and]
 cases x.testBit i <;> cases y.testBit i <;> rfl
abbrev Bar:=Nat×Nat
def Bar.good (b:Bar):Prop:=b.1 < 64∧b.2 &&& b.1=b.2
def lies (s:Nat) (b:Bar):Bool:=(List.range 6).all fun k=>!(b.1.testBit k && (b.2.testBit k != s.testBit k))
theorem Zib {s:Nat} {b:Bar}:lies s b=true ↔ ∀k,k < 6→b.1.testBit k=true→b.2.testBit k=s.testBit k:=by
 unfold lies;rw[List.all_eq_true]
 constructor
 ·intro h k hk hb
  have:=h k (List.mem_range.mpr hk);rw[hb]at this
  simpa using this
 ·intro h k hk
  cases hb:b.1.testBit k with
  | false=>rfl
  | true=>
   have:=h k (List.mem_range.mp hk) hb;simp[this]
theorem Zia {s:Nat} {b:Bar} (g:b.good):decide (s &&& b.1=b.2)=lies s b:=by
 obtain⟨g1,g2⟩:=g;have hi:∀k,6≤k→b.1.testBit k=false:=fun k hk=>Nat.testBit_lt_two_pow (Nat.lt_of_lt_of_le g1 (Nat.pow_le_pow_right (by decide) hk:2 ^ 6≤2 ^ k))
 have sub:∀k,b.2.testBit k=true→b.1.testBit k=true:=fun k h=>by
  rw[←g2,Nat.testBit_and]at h;simp at h; exact h.2
 rw[Bool.eq_iff_iff,decide_eq_true_iff,Zib]
 constructor
 ·intro h k _ hb
  rw[←h,Nat.testBit_and,hb,Bool.and_true]
 ·intro h
  apply Nat.eq_of_testBit_eq;intro k;rw[Nat.testBit_and]
  cases hb:b.1.testBit k with
  | false=>
   rw[Bool.and_false]
   cases hl:b.2.testBit k with
   | false=>rfl
   | true=>rw[sub k hl]at hb; cases hb
  | true=>
   rw[Bool.and_true]
   have hk:k < 6:=by
    by_cases hk:k < 6
    ·exact hk
    ·rw[hi k (by omega)]at hb; cases hb
   exact(h k hk hb).symm
def ZaD (n:Nat) (b:Bar):Nat:=bits (fun s=>lies s b) n
theorem Zeo {x m k:Nat} (h:x < 2 ^ m) (hk:m≤k):x.testBit k=false:=Nat.testBit_lt_two_pow (Nat.lt_of_lt_of_le h (Nat.pow_le_pow_right (by decide) hk))
theorem Zor {m a x:Nat} (hm:m≤6) (ha:a < 2 ^ m):Bar.good (a,a &&& x):=by
 have h6:(2:Nat) ^ m≤64:=Nat.le_trans (Nat.pow_le_pow_right (by decide) hm) (by decide);refine⟨(by show a < 64; omega),?_⟩;show(a &&& x) &&& a=a &&& x;apply Nat.eq_of_testBit_eq;intro k;rw[Nat.testBit_and,Nat.testBit_and]
 cases a.testBit k <;> simp
theorem Zos {m s:Nat} (hm:m≤6) (hs:s < 2 ^ m):Bar.good (2 ^ m - 1,s):=by
 have h6:(2:Nat) ^ m≤64:=Nat.le_trans (Nat.pow_le_pow_right (by decide) hm) (by decide);refine⟨(by show 2 ^ m - 1 < 64; omega),?_⟩;show s &&& (2 ^ m - 1)=s;rw[Nat.and_two_pow_sub_one_eq_mod,Nat.mod_eq_of_lt hs]
def clr (x k:Nat):Nat:=x - (x &&& 2 ^ k)
theorem Zg1 (x k i:Nat):(clr x k).testBit i=(x.testBit i && !decide (k=i)):=by
 unfold clr;rw[Zbp,Nat.testBit_two_pow]
def Bar.wo (b:Bar) (k:Nat):Bar:=(clr b.1 k,clr b.2 k)
theorem Zgq (p:Nat→Bool) (i:Nat):(List.range (i+1)).filter p=(List.range i).filter p++(if p i=true then [i] else []):=by
 rw[List.range_succ,List.filter_append,List.filter_cons,List.filter_nil]
theorem ZkA {b:Bar} (g:b.good) {k:Nat} (h:b.1.testBit k=false):b.2.testBit k=false:=by
 have:=g.2
 cases e:b.2.testBit k with
 | false=>rfl
 | true=>rw[←this,Nat.testBit_and,h,Bool.and_false]at e; cases e
theorem ZjN {b:Bar} (g:b.good) {k:Nat} (h:b.1.testBit k=true):k < 6:=by
 by_cases hk:k < 6
 ·exact hk
 ·rw[Zeo (m:=6) g.1 (by omega)]at h; cases h
end EM
namespace EM
open PySem PySem.W PyProof.Rows
section
variable {cmp:Nat→Nat→(Bool→Shared→Prop)→Shared→Prop} {Ok:Shared→Prop} {n:Nat} {lt:Nat→Nat→Bool} {R:Nat→Nat→Prop} {α β:Type}
structure Ga (n:Nat) (p:Array Nat):Prop where
 sz:p.size=n
 pm:p.Perm (List.toArray (List.range n))
theorem Ga.lo {p:Array Nat} (h:Ga n p) (h0:0 < n) (k:Nat):p.getD k 0 < n:=by
 rw[Array.getD_eq_getD_getElem?]
 cases e:p[k]? with
 | none=>exact h0
 | some v=>
  have hm:v∈p:=Array.mem_of_getElem? e;have:v∈(List.range n).toArray:=h.pm.mem_iff.mp hm
  simpa using this
theorem Ze3 {p:Array Nat} {i j:Nat} (hj:j≤p.size) (hij:i≤j) (k:Nat):(kas_rev p i j).getD k 0=if i≤k∧k < j then p.getD (i+j - 1 - k) 0 else p.getD k 0:=by
 unfold kas_rev;rw[Array.getD_eq_getD_getElem?,getElem?_mirror hj _ (by omega),Array.getD_eq_getD_getElem?,Array.getD_eq_getD_getElem?]
 by_cases h1:(i≤k∧k < i+(j - i) / 2)∨(j - (j - i) / 2≤k∧k < j)
 ·rw[if_pos h1,if_pos (by omega)]
 ·rw[if_neg h1]
  by_cases h2:i≤k∧k < j
  ·rw[if_pos h2]
   have:i+j - 1 - k=k:=by omega
   rw[this]
  ·rw[if_neg h2]
theorem Zmo {p:Array Nat} {k l:Nat} (hk:k < p.size) (hl:l≤k) (i:Nat):(bubble p k (k - l)).getD i 0=if i=l then p.getD k 0 else if l < i∧i≤k then p.getD (i - 1) 0 else p.getD i 0:=by
 rw[Array.getD_eq_getD_getElem?,getElem?_bubble hk _ (by omega),Array.getD_eq_getD_getElem?,Array.getD_eq_getD_getElem?,Array.getD_eq_getD_getElem?]
 have e:k - (k - l)=l:=by omega
 rw[e]
 split
 ·rfl
 ·split <;> rfl
theorem Ga.rev {p:Array Nat} (h:Ga n p) (i j:Nat):Ga n (kas_rev p i j):=⟨(mirror_size _ _ _ _).trans h.sz,(mirror_perm _ _ _ _).trans h.pm⟩
theorem Ga.bub {p:Array Nat} (h:Ga n p) (k d:Nat):Ga n (bubble p k d):=⟨(bubble_size _ _ _).trans h.sz,(bubble_perm _ _ _).trans h.pm⟩
end
end EM
namespace L2
open PySem PySem.Spec PyProof.Rows
section
variable {prog:Program} {w:World} {A:Around} {E:Value→Shared→Prop} {s:Shared}
theorem Zjl (ws:List Value):((ws.toArray.zip ws.toArray).map fun x=>x.2)=ws.toArray:=by
 apply Array.ext';rw[Array.toList_map,Array.toList_zip];exact List.map_snd_zip (Nat.le_refl _)
theorem Zpk {a:Addr} {ws:List Value} {k:Nat} {Pq:PySem.Fin→Shared→Prop} (ho:s.heap.get? a=some (seqObj "list" ws.toArray k)) (few:ws.length < 2)
  (h:Pq (.done (.ret .none)) { s with heap:=sortedHeap s.heap a ws ws.toArray }):wpAny (model prog w) A (Builtin.«list.sort» ⟨[.ref a],[]⟩) Pq E s:=by
 have sm:ws.toArray.size < 2:=by rw[List.size_toArray]; exact few
 have fit:ws.toArray.size≤sizeLine:=Nat.le_trans (Nat.le_of_lt sm) (by decide);have ha:=Heap.lt_size ho;rw[list_sort_plain];refine wpAny_bind (listItems_at ho rfl (wpAny_bind (listUpdate_at ho rfl ?_ fit (Nat.zero_le _))));obtain⟨c1,hc1⟩ : ∃c,(s.heap.update a (Obj.mapSeq fun _=>#[])).get? a=some (seqObj "list" #[] c):=⟨_,get?_update_seq ho _⟩;refine wpAny_bind (seqEpoch_at hc1 rfl (wpAny_bind (wpAny_newTuple ?_ (by simpa using fit))));refine wpAny_bind (wpAny_newList ?_ (Nat.zero_le _));refine wpAny_holding ?_
 have hc2:(((s.heap.update a (Obj.mapSeq fun _=>#[])).push (seqObj "tuple" ws.toArray 0)).push (seqObj "list" #[] 0)).get? a=some (seqObj "list" #[] c1):=
  Heap.get?_push_of_some _ (Heap.get?_push_of_some _ hc1)
 show wpAny (model prog w) A _ Pq E { s with heap:=((s.heap.update a (Obj.mapSeq fun _=>#[])).push (seqObj "tuple" ws.toArray 0)).push (seqObj "list" #[] 0) }
 dsimp only
 rw[if_pos sm,if_pos sm];refine wpAny_bind (wpAny_pure ?_);rw[StateT.run_pure];refine wpAny_bind (wpAny_pure ?_)
 dsimp only
 have ez:(arrOf (SortSt.mk' general' (ws.toArray.zip ws.toArray) #[] 7 none)).map (·.2)=ws.toArray:=Zjl ws;rw[ez];refine wpAny_bind (seqEpoch_at hc2 rfl (wpAny_bind (listUpdate_at hc2 rfl ?_ (Nat.zero_le _) (Nat.le_succ_of_le fit))));simp only [bne_self_eq_false,Bool.false_eq_true,if_false];exact wpAny_pure h
end
section
variable {X:Cx}
def ple (a b:Int×Int):Prop:=a.1 < b.1∨(a.1=b.1∧a.2≤b.2)
def Zct (H:Hp) (p:Addr) (k:Int×Int):Prop:=H p=some (.tup [.int k.1,.int k.2])
theorem Zjt:∀{ps:List Addr} {us:List Value},Vals (ps.map V.ref) us→us=ps.map Value.ref
 | [],_,r=>by cases r; rfl
 | p::ps,_,r=>by
  cases r with
  | cons r1 r2=>
   rw[Zjt r2]
   cases r1
   rfl
theorem Zjh:∀ps:List Addr,Vals (ps.map V.ref) (ps.map Value.ref)
 | []=>.nil
 | p::ps=>.cons rfl (Zjh ps)
theorem Zn8 {a b:Int} {us:List Value} (r:Vals [.int a,.int b] us):∃t u,us=[.int a t,.int b u]:=by
 cases r with
 | cons r1 r2=>
  cases r2 with
  | cons r3 r4=>
   cases r4
   obtain⟨t,rfl⟩:=r1;obtain⟨u,rfl⟩:=r3;exact⟨t,u,rfl⟩
theorem ZsH {a b c:Int×Int} (h:ple a b) (k:ple b c):ple a c:=by
 unfold ple at *;omega
def pltB (a b:Int×Int):Bool:=if a.1=b.1 then decide (a.2 < b.2) else decide (a.1 < b.1)
theorem Zo0 {a b:Int×Int} (h:pltB a b=true):ple a b:=by
 unfold pltB at h;unfold ple
 split at h
 ·have:=of_decide_eq_true h; omega
 ·have:=of_decide_eq_true h; omega
theorem Zrd {a b:Int×Int} (h:pltB a b=false):ple b a:=by
 unfold pltB at h;unfold ple
 split at h
 ·have:=of_decide_eq_false h; omega
 ·have:=of_decide_eq_false h; omega
theorem Zhh {α:Type} (d:α) (l:List α) {ix:List Nat} (h:ix.Perm (List.range l.length)):(ix.map fun i=>l.getD i d).Perm l:=by
 have e:(List.range l.length).map (fun i=>l.getD i d)=l:=by
  apply List.ext_getElem
  ·simp
  ·intro i h1 h2
   simp[List.getD_eq_getElem?_getD,h2]
 have:=h.map fun i=>l.getD i d
 rwa [e]at this
theorem Zj5 {α β:Type} {F:α→β→Prop} {xs:List α} {ys:List β} (h:Paired F xs ys) (d:α) (e:β) {i:Nat} (hi:i < xs.length):F (xs.getD i d) (ys.getD i e):=by
 induction h generalizing i with
 | nil=>exact absurd hi (by simp)
 | cons r s ih=>
  cases i with
  | zero=>exact r
  | succ i=>simpa using ih (by simpa using hi)
theorem Inv.tup_at {pins:List (Addr×Obj)} {σ:St} {H:Hp} {s:Shared} (I:Inv X pins σ H s) {p:Addr} {k:Int×Int} (h:Zct H p k):∃o t u c,s.heap.get? p=some o∧o.cls=.type "tuple"∧o.data=.seq #[.int k.1 t,.int k.2 u] c:=by
 obtain⟨_,its,r,o,e,hc,c,hd⟩:=I.hok p _ h;obtain⟨t,u,rfl⟩:=Zn8 r;exact⟨o,t,u,c,e,hc,hd⟩
end
end L2
namespace EM
open PySem PySem.W PyProof.Rows
def gal':Bool→Keyed→Array Keyed→Nat→Nat→Nat→StateT SortSt Sem (Option Nat):=sortPriv% PySem.Builtin.gallop
def mlo':Array Keyed→Array Keyed→StateT SortSt Sem (Array Keyed):=sortPriv% PySem.Builtin.mergeLo
def mhi':Array Keyed→Array Keyed→StateT SortSt Sem (Array Keyed):=sortPriv% PySem.Builtin.mergeHi
def bey' (l:Bool) (k:Keyed) (ar:Array Keyed) (b i:Nat):StateT SortSt Sem (Option Bool):=do
 let x ←elem' ar (b+i)
 if l then lt' x k else return (←lt' k x).map (!·)
def Zop (l:Bool) (k:Keyed) (ar:Array Keyed) (b n:Nat) (u v:Nat):StateT SortSt Sem (Option Nat):=do
 let mut u:=u
 let mut v:=v
 for _ in [0:n] do
  if u ≥ v then break
  let m:=u+(v - u) / 2
  let some c ←bey' l k ar b m | return none
  if c then u:=m+1 else v:=m
 return some v
theorem ZrS (l:Bool) (k:Keyed) (ar:Array Keyed) (b n h:Nat):gal' l k ar b n h=(do
  let mut s:=0
  let mut o:=1
  let some r ←bey' l k ar b h | return none
  if r then
   let M:=n - h
   for _ in [0:n] do
    if o ≥ M then break
    let some c ←bey' l k ar b (h+o) | return none
    if !c then break
    s:=o
    o:=2 * o+1
   Zop l k ar b n (h+s+1) (h+min o M)
  else
   let M:=h+1
   for _ in [0:n] do
    if o ≥ M then break
    let some c ←bey' l k ar b (h - o) | return none
    if c then break
    s:=o
    o:=2 * o+1
   Zop l k ar b n (h+1 - min o M) (h - s)):=by
 rfl
section
variable {prog:Program} {w:World} {A:Around} {E:Value→Shared→Prop} {κ:SortKind} {it:Array Keyed} {Ok:Shared→Prop} {N:Nat} {lt:Nat→Nat→Bool} {R:Nat→Nat→Prop} {α β:Type}
def Sq (prog:Program) (w:World) (A:Around) (E:Value→Shared→Prop) (Ok:Shared→Prop) {α:Type} (m:StateT SortSt Sem α) (st:SortSt) (Q:α→SortSt→Prop):Prop:=
 ∀(C:α→SortSt→Shared→Prop) s,Ok s→(∀a st' s',Ok s'→Q a st'→C a st' s')→kasC (model prog w) A E m C st s
theorem Sq.pure {a:α} {st:SortSt} {Q:α→SortSt→Prop} (h:Q a st):Sq prog w A E Ok (pure a) st Q:=fun C s o k=>kasC_pure (k a st s o h)
theorem Sq.bind {m:StateT SortSt Sem α} {f:α→StateT SortSt Sem β} {st:SortSt} {P1:α→SortSt→Prop} {Q:β→SortSt→Prop} (h:Sq prog w A E Ok m st P1) (h2:∀a st',P1 a st'→Sq prog w A E Ok (f a) st' Q):Sq prog w A E Ok (m >>= f) st Q:=fun C s o k=>
 kasC_bind (h _ s o fun a st' s' o' p=>h2 a st' p C s' o' k)
theorem Sq.get {st:SortSt} {Q:SortSt→SortSt→Prop} (h:Q st st):Sq prog w A E Ok (MonadState.get:StateT SortSt Sem SortSt) st Q:=fun C s o k=>kasC_get (k _ _ s o h)
theorem Sq.modify {f:SortSt→SortSt} {st:SortSt} {Q:PUnit→SortSt→Prop} (h:Q ⟨⟩ (f st)):Sq prog w A E Ok (_root_.modify f:StateT SortSt Sem PUnit) st Q:=fun C s o k=>kasC_modify (k _ _ s o h)
theorem Sq.rule {x:String} {st:SortSt} {Q:Unit→SortSt→Prop} (h:Q () st):Sq prog w A E Ok (liftM (PySem.rule x):StateT SortSt Sem Unit) st Q:=fun C s o k=>kasC_lift (wpAny_rule (k _ _ s o h))
theorem Sq.list {f:Nat→β→StateT SortSt Sem (ForInStep β)} {Q:β→SortSt→Prop} (I:Nat→β→SortSt→Prop) (m:Nat) (hs:∀i x c st,i < m→I i c st→Sq prog w A E Ok (f x c) st (fun r st'=>match r with | .done c'=>Q c' st' | .yield c'=>I (i+1) c' st')) (he:∀c st,I m c st→Q c st):∀(l:List Nat) (i:Nat) (c:β) (st:SortSt),i+l.length=m→I i c st→Sq prog w A E Ok (forIn l c f) st Q
 | [],i,c,st,hl,h=>by
  have e:i=m:=by simpa using hl
  subst e;exact fun C s o k=>kasC_nil (k _ _ s o (he c st h))
 | x::l,i,c,st,hl,h=>by
  rw[List.length_cons]at hl;refine fun C s o k=>kasC_cons (hs i x c st (by omega) h _ s o fun r st' s' o' p=>?_)
  cases r with
  | done c'=>exact k _ _ s' o' p
  | yield c'=>exact Sq.list I m hs he l (i+1) c' st' (by omega) p C s' o' k
theorem Sq.range {a b:Nat} {c:β} {f:Nat→β→StateT SortSt Sem (ForInStep β)} {st:SortSt} {Q:β→SortSt→Prop} (I:Nat→β→SortSt→Prop) (h0:I 0 c st) (hs:∀i x c st,i < b - a→I i c st→Sq prog w A E Ok (f x c) st (fun r st'=>match r with | .done c'=>Q c' st' | .yield c'=>I (i+1) c' st')) (he:∀c st,I (b - a) c st→Q c st):Sq prog w A E Ok (forIn [a:b] c f) st Q:=fun C s o k=>
 kasC_range (Sq.list I (b - a) hs he _ 0 c st (by simp) h0 C s o k)
def stt (κ:SortKind) (it:Array Keyed) (l:List Nat) (pd:Array (Nat×Nat×Nat)) (g:Nat):SortSt:=SortSt.mk' κ (l.map (kas_item it)).toArray pd g none
structure CmN (prog:Program) (w:World) (A:Around) (κ:SortKind) (it:Array Keyed) (Ok:Shared→Prop) (N:Nat) (lt:Nat→Nat→Bool) (R:Nat→Nat→Prop):Prop where
 ask:∀i j,i < N→j < N→∀(C:Bool→Shared→Prop) s,Ok s→(∀s',Ok s'→C (lt i j) s')→kas_cmp prog w A κ it i j C s
 yes:∀i j,lt i j=true→R i j
 no:∀i j,lt i j=false→R j i
 tr:∀i j k,R i j→R j k→R i k
theorem Sq.ask {i j:Nat} {l:List Nat} {pd:Array (Nat×Nat×Nat)} {g:Nat} {Q:Option Bool→SortSt→Prop} (M:CmN prog w A κ it Ok N lt R) (hi:i < N) (hj:j < N) (h:Q (some (lt i j)) (stt κ it l pd g)):Sq prog w A E Ok (lt' (kas_item it i) (kas_item it j)) (stt κ it l pd g) Q:=fun C s o k=>by
 rw[lt'_eq];refine kasC_bind (kasC_get ?_);refine kasC_bind (kasC_lift (wpAny_attempt (wpAny_mono (M.ask i j hi hj _ s o fun s' o'=>?_) (fun _ _ q=>q) fun _ _ hF=>hF.elim)));exact kasC_pure (k _ _ s' o' h)
theorem Sq.elem {ar:List Nat} {i:Nat} {x:Nat} {st:SortSt} {Q:Keyed→SortSt→Prop} (hx:ar[i]?=some x) (h:Q (kas_item it x) st):Sq prog w A E Ok (elem' (ar.map (kas_item it)).toArray i) st Q:=by
 rw[elem'_eq]
 have e:(ar.map (kas_item it)).toArray[i]?=some (kas_item it x):=by simp[hx]
 rw[e];exact Sq.pure h
def fB (lt:Nat→Nat→Bool) (l:Bool) (k x:Nat):Bool:=if l then lt x k else !(lt k x)
theorem Sq.bey {l:Bool} {k x b i:Nat} {ar:List Nat} {li:List Nat} {pd:Array (Nat×Nat×Nat)} {g:Nat} {Q:Option Bool→SortSt→Prop} (M:CmN prog w A κ it Ok N lt R) (hk:k < N) (hx:ar[b+i]?=some x) (hxn:x < N) (h:Q (some (fB lt l k x)) (stt κ it li pd g)):Sq prog w A E Ok (bey' l (kas_item it k) (ar.map (kas_item it)).toArray b i) (stt κ it li pd g) Q:=by
 unfold bey';refine Sq.bind (P1:=fun a st'=>a=kas_item it x∧st'=stt κ it li pd g) (Sq.elem hx ⟨rfl,rfl⟩) ?_;rintro a st' ⟨rfl,rfl⟩
 cases l with
 | true=>exact Sq.ask M hxn hk h
 | false=>
  rw[if_neg Bool.false_ne_true];refine Sq.bind (P1:=fun a st'=>a=some (lt k x)∧st'=stt κ it li pd g) (Sq.ask M hk hxn ⟨rfl,rfl⟩) ?_;rintro a st' ⟨rfl,rfl⟩;exact Sq.pure h
theorem ZmC (M:CmN prog w A κ it Ok N lt R) {l:Bool} {k x:Nat} (h:fB lt l k x=true):R x k:=by
 unfold fB at h
 cases l with
 | true=>exact M.yes _ _ h
 | false=>exact M.no _ _ (by simpa using h)
theorem Zqu (M:CmN prog w A κ it Ok N lt R) {l:Bool} {k x:Nat} (h:fB lt l k x=false):R k x:=by
 unfold fB at h
 cases l with
 | true=>exact M.no _ _ h
 | false=>exact M.yes _ _ (by simpa using h)
structure Gal (lt:Nat→Nat→Bool) (l:Bool) (k:Nat) (ar:List Nat) (b n u v:Nat):Prop where
 lo:u=0∨∃x,ar[b+(u - 1)]?=some x∧fB lt l k x=true
 hi:v=n∨∃x,ar[b+v]?=some x∧fB lt l k x=false
 le:u≤v
 vn:v≤n
theorem Sq.galR {l:Bool} {k b n u v:Nat} {ar:List Nat} {li:List Nat} {pd:Array (Nat×Nat×Nat)} {g:Nat} {Q:Option Nat→SortSt→Prop} (M:CmN prog w A κ it Ok N lt R) (hk:k < N) (ha:∀x∈ar,x < N) (hz:b+n≤ar.length) (hG:Gal lt l k ar b n u v) (h:∀v,Gal lt l k ar b n v v→Q (some v) (stt κ it li pd g)):Sq prog w A E Ok (Zop l (kas_item it k) (ar.map (kas_item it)).toArray b n u v) (stt κ it li pd g) Q:=by
 unfold Zop;refine Sq.bind (P1:=fun a st'=>∃v,a=(none,v,v)∧st'=stt κ it li pd g∧Gal lt l k ar b n v v) ?_ ?_
 ·refine Sq.range (fun i c st'=>∃u v,c=(none,u,v)∧st'=stt κ it li pd g∧Gal lt l k ar b n u v∧v - u≤n - i) ⟨u,v,rfl,rfl,hG,by have:=hG.vn; omega⟩ ?_ ?_
  ·rintro i x c st' hi ⟨u,v,rfl,rfl,G,hl⟩
   have g1:=G.le;have g2:=G.vn
   dsimp only
   by_cases huv:u ≥ v
   ·rw[if_pos huv]
    have:u=v:=by omega
    subst this;exact Sq.pure ⟨u,rfl,rfl,G⟩
   ·rw[if_neg huv]
    obtain⟨y,hy⟩ : ∃y,ar[b+(u+(v - u) / 2)]?=some y:=⟨_,List.getElem?_eq_getElem (by omega)⟩;have hyn:=ha y (List.mem_of_getElem? hy);refine Sq.bind (P1:=fun a st'=>a=some (fB lt l k y)∧st'=stt κ it li pd g) (Sq.bey M hk hy hyn ⟨rfl,rfl⟩) ?_;rintro a st' ⟨rfl,rfl⟩
    dsimp only
    cases hf:fB lt l k y with
    | true=>
     rw[if_pos rfl];exact Sq.pure ⟨_,_,rfl,rfl,⟨.inr ⟨y,by rw[Nat.add_sub_cancel]; exact hy,hf⟩,G.hi,by omega,G.vn⟩,by omega⟩
    | false=>
     rw[if_neg Bool.false_ne_true];exact Sq.pure ⟨_,_,rfl,rfl,⟨G.lo,.inr ⟨y,hy,hf⟩,by omega,by omega⟩,by omega⟩
  ·rintro c st' ⟨u,v,rfl,rfl,G,hl⟩
   have g1:=G.le
   have:u=v:=by omega
   subst this;exact⟨u,rfl,rfl,G⟩
 ·rintro a st' ⟨v,rfl,rfl,G⟩
  exact Sq.pure (h v G)
theorem Sq.gal {l:Bool} {k b n hn:Nat} {ar:List Nat} {li:List Nat} {pd:Array (Nat×Nat×Nat)} {g:Nat} {Q:Option Nat→SortSt→Prop} (M:CmN prog w A κ it Ok N lt R) (hk:k < N) (ha:∀x∈ar,x < N) (hz:b+n≤ar.length) (hh:hn < n) (h:∀v,Gal lt l k ar b n v v→Q (some v) (stt κ it li pd g)):Sq prog w A E Ok (gal' l (kas_item it k) (ar.map (kas_item it)).toArray b n hn) (stt κ it li pd g) Q:=by
 rw[ZrS];obtain⟨y,hy⟩ : ∃y,ar[b+hn]?=some y:=⟨_,List.getElem?_eq_getElem (by omega)⟩;have hyn:=ha y (List.mem_of_getElem? hy);refine Sq.bind (P1:=fun a st'=>a=some (fB lt l k y)∧st'=stt κ it li pd g) (Sq.bey M hk hy hyn ⟨rfl,rfl⟩) ?_;rintro a st' ⟨rfl,rfl⟩
 dsimp only
 cases hf:fB lt l k y with
 | true=>
  rw[if_pos rfl];refine Sq.bind (P1:=fun a st'=>∃s o,a=(none,s,o)∧st'=stt κ it li pd g∧Gal lt l k ar b n (hn+s+1) (hn+min o (n - hn))) ?_ ?_
  ·refine Sq.range (fun i c st'=>∃s o,c=(none,s,o)∧st'=stt κ it li pd g∧s < o∧s < n - hn∧i < o∧∃x,ar[b+(hn+s)]?=some x∧fB lt l k x=true) ⟨0,1,rfl,rfl,by omega,by omega,by omega,y,hy,hf⟩ ?_ ?_
   ·rintro i x c st' hi ⟨s,o,rfl,rfl,h1,h2,h3,z,hz1,hz2⟩
    dsimp only
    by_cases ho:o ≥ n - hn
    ·rw[if_pos ho]
     exact Sq.pure ⟨s,o,rfl,rfl,.inr ⟨z,by rw[Nat.add_sub_cancel]; exact hz1,hz2⟩,.inl (by omega),by omega,by omega⟩
    ·rw[if_neg ho]
     obtain⟨q,hq⟩ : ∃q,ar[b+(hn+o)]?=some q:=⟨_,List.getElem?_eq_getElem (by omega)⟩;refine Sq.bind (P1:=fun a st'=>a=some (fB lt l k q)∧st'=stt κ it li pd g) (Sq.bey M hk hq (ha q (List.mem_of_getElem? hq)) ⟨rfl,rfl⟩) ?_;rintro a st' ⟨rfl,rfl⟩
     dsimp only
     cases hf2:fB lt l k q with
     | true=>
      rw[if_neg (by decide)];exact Sq.pure ⟨o,2 * o+1,rfl,rfl,by omega,by omega,by omega,q,hq,hf2⟩
     | false=>
      rw[if_pos (by decide)];exact Sq.pure ⟨s,o,rfl,rfl,.inr ⟨z,by rw[Nat.add_sub_cancel]; exact hz1,hz2⟩,.inr ⟨q,by rw[Nat.min_eq_left (by omega)]; exact hq,hf2⟩,by omega,by omega⟩
   ·rintro c st' ⟨s,o,rfl,rfl,h1,h2,h3,z,hz1,hz2⟩
    exact⟨s,o,rfl,rfl,.inr ⟨z,by rw[Nat.add_sub_cancel]; exact hz1,hz2⟩,.inl (by omega),by omega,by omega⟩
  ·rintro a st' ⟨s,o,rfl,rfl,G⟩
   exact Sq.galR M hk ha hz G h
 | false=>
  rw[if_neg Bool.false_ne_true];refine Sq.bind (P1:=fun a st'=>∃s o,a=(none,s,o)∧st'=stt κ it li pd g∧Gal lt l k ar b n (hn+1 - min o (hn+1)) (hn - s)) ?_ ?_
  ·refine Sq.range (fun i c st'=>∃s o,c=(none,s,o)∧st'=stt κ it li pd g∧s < o∧s < hn+1∧i < o∧∃x,ar[b+(hn - s)]?=some x∧fB lt l k x=false) ⟨0,1,rfl,rfl,by omega,by omega,by omega,y,hy,hf⟩ ?_ ?_
   ·rintro i x c st' hi ⟨s,o,rfl,rfl,h1,h2,h3,z,hz1,hz2⟩
    dsimp only
    by_cases ho:o ≥ hn+1
    ·rw[if_pos ho]
     exact Sq.pure ⟨s,o,rfl,rfl,.inl (by omega),.inr ⟨z,hz1,hz2⟩,by omega,by omega⟩
    ·rw[if_neg ho]
     obtain⟨q,hq⟩ : ∃q,ar[b+(hn - o)]?=some q:=⟨_,List.getElem?_eq_getElem (by omega)⟩;refine Sq.bind (P1:=fun a st'=>a=some (fB lt l k q)∧st'=stt κ it li pd g) (Sq.bey M hk hq (ha q (List.mem_of_getElem? hq)) ⟨rfl,rfl⟩) ?_;rintro a st' ⟨rfl,rfl⟩
     dsimp only
     cases hf2:fB lt l k q with
     | true=>
      rw[if_pos rfl];exact Sq.pure ⟨s,o,rfl,rfl,.inr ⟨q,by rw[Nat.min_eq_left (by omega),show hn+1 - o - 1=hn - o by omega]; exact hq,hf2⟩,.inr ⟨z,hz1,hz2⟩,by omega,by omega⟩
     | false=>
      rw[if_neg Bool.false_ne_true];exact Sq.pure ⟨o,2 * o+1,rfl,rfl,by omega,by omega,by omega,q,hq,hf2⟩
   ·rintro c st' ⟨s,o,rfl,rfl,h1,h2,h3,z,hz1,hz2⟩
    exact⟨s,o,rfl,rfl,.inl (by omega),.inr ⟨z,hz1,hz2⟩,by omega,by omega⟩
  ·rintro a st' ⟨s,o,rfl,rfl,G⟩
   exact Sq.galR M hk ha hz G h
end
end EM
namespace EM
open PySem PySem.W PyProof.Rows
abbrev Zji (g:Nat) (s:SortSt):SortSt:=SortSt.mk' (kindOf s) (arrOf s) (pendingOf s) g (failedOf s)
abbrev T7:=Option (Array Keyed)×Array Keyed×Nat×Nat×Nat×Nat×Nat
def dN (a b o:Array Keyed) (i j:Nat):Array Keyed:=o++a.extract i a.size++b.extract j b.size
def loC (a b o:Array Keyed) (i j G p q:Nat):StateT SortSt Sem (ForInStep T7):=do
 let x ←elem' a i
 if i+1+1 == a.size then return .done (some (dN b a (o.push x) j (i+1)),o.push x,i+1,j,G,p,q)
 if p < 7 && q < 7 then return .done (none,o.push x,i+1,j,G,p,q)
 return .yield (none,o.push x,i+1,j,G,p,q)
def loB (a b o:Array Keyed) (i j G p q:Nat):StateT SortSt Sem (ForInStep T7):=do
 let y ←elem' b j
 if j+1 == b.size then return .done (some (dN a b (o.push y) i (j+1)),o.push y,i,j+1,G,p,q)
 let some k ←gal' true (←elem' a i) b (j+1) (b.size - (j+1)) 0 | return .done (some (dN a b (o.push y) i (j+1)),o.push y,i,j+1,G,p,q)
 if k > 0 then
  if j+1+k == b.size then return .done (some (dN a b (o.push y++b.extract (j+1) (j+1+k)) i (j+1+k)),o.push y++b.extract (j+1) (j+1+k),i,j+1+k,G,p,k)
  loC a b (o.push y++b.extract (j+1) (j+1+k)) i (j+1+k) G p k
 else loC a b (o.push y) i (j+1) G p k
def loA (a b o:Array Keyed) (i j G p q:Nat):StateT SortSt Sem (ForInStep T7):=do
 modify (Zji G)
 let some k ←gal' false (←elem' b j) a i (a.size - i) 0 | return .done (some (dN a b o i j),o,i,j,G,p,q)
 if k > 0 then
  if i+k+1 == a.size then return .done (some (dN b a (o++a.extract i (i+k)) j (i+k)),o++a.extract i (i+k),i+k,j,G,k,q)
  if i+k == a.size then return .done (some (dN a b (o++a.extract i (i+k)) (i+k) j),o++a.extract i (i+k),i+k,j,G,k,q)
  loB a b (o++a.extract i (i+k)) (i+k) j G k q
 else loB a b o i j G k q
abbrev T6:=Option (Array Keyed)×Array Keyed×Nat×Nat×Nat×Nat
def loS (a b o:Array Keyed) (i j p q G:Nat):StateT SortSt Sem (ForInStep T6):=do
 let some c ←lt' (←elem' b j) (←elem' a i) | return .done (some (dN a b o i j),o,i,j,p,q)
 if c then
  let y ←elem' b j
  if j+1 == b.size then return .done (some (dN a b (o.push y) i (j+1)),o.push y,i,j+1,0,q+1)
  if q+1 ≥ G then return .done (none,o.push y,i,j+1,0,q+1)
  return .yield (none,o.push y,i,j+1,0,q+1)
 else
  let x ←elem' a i
  if i+1+1 == a.size then return .done (some (dN b a (o.push x) j (i+1)),o.push x,i+1,j,p+1,0)
  if p+1 ≥ G then return .done (none,o.push x,i+1,j,p+1,0)
  return .yield (none,o.push x,i+1,j,p+1,0)
abbrev T5:=Option (Array Keyed)×Array Keyed×Nat×Nat×Nat
def loT (a b:Array Keyed) (T:Nat) (s:T5):StateT SortSt Sem (ForInStep T5):=do
 let t:T6 ←forIn [0:T] (none,s.2.1,s.2.2.1,s.2.2.2.1,0,0) fun _ t=>loS a b t.2.1 t.2.2.1 t.2.2.2.1 t.2.2.2.2.1 t.2.2.2.2.2 s.2.2.2.2
 match t.1 with
 | some r=>return .done (some r,t.2.1,t.2.2.1,t.2.2.2.1,s.2.2.2.2)
 | none=>
  PySem.rule "list.sort.gallop"
  let u:T7 ←forIn [0:T] (none,t.2.1,t.2.2.1,t.2.2.2.1,s.2.2.2.2+1,t.2.2.2.2.1,t.2.2.2.2.2) fun _ u=>
   if u.2.2.2.2.1 > 1 then loA a b u.2.1 u.2.2.1 u.2.2.2.1 (u.2.2.2.2.1 - 1) u.2.2.2.2.2.1 u.2.2.2.2.2.2 else loA a b u.2.1 u.2.2.1 u.2.2.2.1 u.2.2.2.2.1 u.2.2.2.2.2.1 u.2.2.2.2.2.2
  match u.1 with
  | some r=>return .done (some r,u.2.1,u.2.2.1,u.2.2.2.1,u.2.2.2.2.1)
  | none=>
   modify (Zji (u.2.2.2.2.1+1))
   return .yield (none,u.2.1,u.2.2.1,u.2.2.2.1,u.2.2.2.2.1+1)
theorem Zq1 (a b:Array Keyed):mlo' a b=(do
  PySem.rule "list.sort.merge-lo"
  let T:=a.size+b.size
  let mut o:Array Keyed:=#[←elem' b 0]
  let mut i:=0
  let mut j:=1
  if j == b.size then return dN a b o i j
  if i+1 == a.size then return dN b a o j i
  let mut G:=gallopOf (←get)
  for _ in [0:T] do
   let mut p:=0
   let mut q:=0
   for _ in [0:T] do
    let some c ←lt' (←elem' b j) (←elem' a i) | return dN a b o i j
    if c then
     o:=o.push (←elem' b j); j:=j+1; q:=q+1; p:=0
     if j == b.size then return dN a b o i j
     if q ≥ G then break
    else
     o:=o.push (←elem' a i); i:=i+1; p:=p+1; q:=0
     if i+1 == a.size then return dN b a o j i
     if p ≥ G then break
   PySem.rule "list.sort.gallop"
   G:=G+1
   for _ in [0:T] do
    if G > 1 then G:=G - 1
    modify (Zji G)
    let some k ←gal' false (←elem' b j) a i (a.size - i) 0 | return dN a b o i j
    p:=k
    if k > 0 then
     o:=o++a.extract i (i+k); i:=i+k
     if i+1 == a.size then return dN b a o j i
     if i == a.size then return dN a b o i j
    o:=o.push (←elem' b j); j:=j+1
    if j == b.size then return dN a b o i j
    let some k ←gal' true (←elem' a i) b j (b.size - j) 0 | return dN a b o i j
    q:=k
    if k > 0 then
     o:=o++b.extract j (j+k); j:=j+k
     if j == b.size then return dN a b o i j
    o:=o.push (←elem' a i); i:=i+1
    if i+1 == a.size then return dN b a o j i
    if p < 7 && q < 7 then break
   G:=G+1
   modify (Zji G)
  unsupported "internal:list.sort.merge-bound"):=rfl
theorem Zsq (a b:Array Keyed):mlo' a b=(do
  PySem.rule "list.sort.merge-lo"
  let y ←elem' b 0
  if 1 == b.size then return dN a b #[y] 0 1
  if 0+1 == a.size then return dN b a #[y] 1 0
  let st ←get
  let s:T5 ←forIn [0:a.size+b.size] (none,#[y],0,1,gallopOf st) fun _ s=>loT a b (a.size+b.size) s
  match s.1 with
  | some r=>return r
  | none=>unsupported "internal:list.sort.merge-bound"):=by
 rw[Zq1];unfold loT loA loB loC loS
 dsimp only
 congr 1
 funext _
 congr 1
 funext y
 congr 1
 congr 1
 congr 1
 funext st
 congr 1
 congr 1
 funext _ s
 congr 1
 funext t
 obtain⟨t1,t2,t3,t4,t5,t6⟩:=t
 cases t1 with
 | some r=>rfl
 | none=>
  dsimp only
  congr 1
  funext _
  congr 1
  congr 1
  funext u
  obtain⟨u1,u2⟩:=u
  cases u1 with
  | some r=>rfl
  | none=>rfl
 funext s
 obtain⟨s1,s2⟩:=s
 cases s1 with
 | some r=>rfl
 | none=>rfl
section
variable {prog:Program} {w:World} {A:Around} {E:Value→Shared→Prop} {κ:SortKind} {it:Array Keyed} {Ok:Shared→Prop} {N:Nat} {lt:Nat→Nat→Bool} {R:Nat→Nat→Prop} {α β:Type}
abbrev ar (it:Array Keyed) (l:List Nat):Array Keyed:=(l.map (kas_item it)).toArray
theorem ZdY (l:List Nat) (x:Nat):(ar it l).push (kas_item it x)=ar it (l++[x]):=by simp[ar]
theorem Zgi (l r:List Nat):ar it l++ar it r=ar it (l++r):=by simp[ar]
theorem ZcU (l:List Nat):(ar it l).size=l.length:=by simp[ar]
theorem Zgj (l:List Nat) (i j:Nat):(ar it l).extract i j=ar it ((l.drop i).take (j - i)):=by
 unfold ar;rw[List.extract_toArray,List.extract_eq_take_drop,List.map_take,List.map_drop]
theorem Zmf (l:List Nat) (i:Nat):(ar it l).extract i l.length=ar it (l.drop i):=by
 rw[Zgj,List.take_of_length_le (by rw[List.length_drop]; exact Nat.le_refl _)]
theorem CmN.refl (M:CmN prog w A κ it Ok N lt R) (i:Nat):R i i:=by
 cases h:lt i i with
 | true=>exact M.yes _ _ h
 | false=>exact M.no _ _ h
theorem ZjP (M:CmN prog w A κ it Ok N lt R) {xs:List Nat} {h:Nat} (hp:xs.Pairwise R) (h0:xs[0]?=some h):∀x∈xs,R h x:=by
 cases xs with
 | nil=>cases h0
 | cons y r=>
  have e:y=h:=by simpa using h0
  subst e;intro x hx
  rcases List.mem_cons.mp hx with rfl | hx
  ·exact M.refl _
  ·exact(List.pairwise_cons.mp hp).1 x hx
theorem ZoH (M:CmN prog w A κ it Ok N lt R) {xs:List Nat} {m z:Nat} (hp:xs.Pairwise R) (h0:xs[m]?=some z):∀x∈xs.take (m+1),R x z:=by
 intro x hx;obtain⟨i,hi,e⟩:=List.getElem_of_mem hx;rw[List.length_take]at hi;rw[List.getElem_take]at e;obtain⟨hm,ez⟩:=List.getElem?_eq_some_iff.mp h0
 by_cases c:i=m
 ·subst c
  rw[←e,←ez];exact M.refl _
 ·have:=List.pairwise_iff_getElem.mp hp i m (by omega) hm (by omega)
  rw[e,ez]at this;exact this
structure MI (R:Nat→Nat→Prop) (xa xb lo:List Nat) (i j:Nat):Prop where
 pa:(lo++xa.drop i).Pairwise R
 pb:(lo++xb.drop j).Pairwise R
 pm:(lo++(xa.drop i++xb.drop j)).Perm (xa++xb)
theorem MI.swap {xa xb lo:List Nat} {i j:Nat} (h:MI R xa xb lo i j):MI R xb xa lo j i:=
 ⟨h.pb,h.pa,((List.Perm.append_left lo List.perm_append_comm).trans h.pm).trans List.perm_append_comm⟩
theorem MI.bulk {xa xb lo:List Nat} {i j k:Nat} (h:MI R xa xb lo i j) (c:∀x∈(xa.drop i).take k,∀y∈xb.drop j,R x y):MI R xa xb (lo++(xa.drop i).take k) (i+k) j:=by
 have e:xa.drop i=(xa.drop i).take k++xa.drop (i+k):=by rw[←List.drop_drop,List.take_append_drop]
 obtain⟨h1,h2,h3⟩:=h;rw[e]at h1 h3;refine⟨by rw[List.append_assoc]; exact h1,?_,?_⟩
 ·rw[List.append_assoc,List.pairwise_append]
  rw[List.pairwise_append]at h2 h1;obtain⟨a1,a2,a3⟩:=h1;obtain⟨b1,b2,b3⟩:=h2;rw[List.pairwise_append]at a2;refine⟨a1,List.pairwise_append.mpr ⟨a2.1,b2,c⟩,fun x hx y hy=>?_⟩
  rcases List.mem_append.mp hy with hy | hy
  ·exact a3 x hx y (List.mem_append_left _ hy)
  ·exact b3 x hx y hy
 ·rw[List.append_assoc,←List.append_assoc (List.take k _)]
  exact h3
theorem Zd1 {xs:List Nat} {i x:Nat} (h:xs[i]?=some x):(xs.drop i)[0]?=some x∧(xs.drop i).take 1=[x]:=by
 have h0:(xs.drop i)[0]?=some x:=by rw[List.getElem?_drop]; exact h
 refine⟨h0,?_⟩
 cases e:xs.drop i with
 | nil=>rw[e]at h0; cases h0
 | cons y r=>
  rw[e]at h0
  have:y=x:=by simpa using h0
  rw[this];rfl
theorem MI.one (M:CmN prog w A κ it Ok N lt R) {xa xb lo:List Nat} {i j x:Nat} (h:MI R xa xb lo i j) (hx:xa[i]?=some x) (c:∀y∈xb.drop j,R x y):MI R xa xb (lo++[x]) (i+1) j:=by
 have:=h.bulk (k:=1) (fun z hz=>by rw[(Zd1 hx).2]at hz; rw[List.mem_singleton.mp hz]; exact c);rw[(Zd1 hx).2]at this;exact this
theorem MI.headB (M:CmN prog w A κ it Ok N lt R) {xa xb lo:List Nat} {i j x y:Nat} (h:MI R xa xb lo i j) (hy:xb[j]?=some y) (c:R x y):∀z∈xb.drop j,R x z:=fun z hz=>
 M.tr _ _ _ c (ZjP M (List.pairwise_append.mp h.pb).2.1 (Zd1 hy).1 z hz)
theorem MI.gal (M:CmN prog w A κ it Ok N lt R) {l:Bool} {xa xb lo:List Nat} {i j y k:Nat} (h:MI R xa xb lo i j) (hy:xb[j]?=some y) (G:Gal lt l y xa i (xa.length - i) k k):MI R xa xb (lo++(xa.drop i).take k) (i+k) j∧∀z∈xa.drop (i+k),R y z:=by
 have sa:=(List.pairwise_append.mp h.pa).2.1;refine⟨h.bulk fun x hx=>?_,?_⟩
 ·rcases G.lo with e | ⟨z,hz,hf⟩
  ·rw[e]at hx
   simp at hx
  ·have hk:(xa.drop i)[k - 1]?=some z:=by rw[List.getElem?_drop]; exact hz
   cases k with
   | zero=>simp at hx
   | succ k=>
    have:=ZoH M sa hk x (by simpa using hx);exact h.headB M hy (M.tr _ _ _ this (ZmC M hf))
 ·rcases G.hi with e | ⟨z,hz,hf⟩
  ·intro z hz
   rw[List.drop_of_length_le (by have:=G.vn; omega)]at hz
   cases hz
  ·intro q hq
   have s2:(xa.drop (i+k)).Pairwise R:=by rw[←List.drop_drop]; exact sa.sublist (List.drop_sublist _ _)
   exact M.tr _ _ _ (Zqu M hf) (ZjP M s2 (Zd1 hz).1 q hq)
def Mrg (R:Nat→Nat→Prop) (it:Array Keyed) (xa xb:List Nat) (o:Array Keyed):Prop:=∃lo,o=ar it lo∧lo.Pairwise R∧lo.Perm (xa++xb)
theorem MI.doneA {xa xb lo:List Nat} {i j:Nat} (h:MI R xa xb lo i j) (e:xb.length≤j):Mrg R it xa xb (ar it lo++ar it (xa.drop i)++ar it (xb.drop j)):=by
 have e0:xb.drop j=[]:=List.drop_of_length_le e;have pm:=h.pm;rw[e0,List.append_nil]at pm;refine⟨lo++xa.drop i,by rw[e0,Zgi]; simp[ar],h.pa,pm⟩
theorem MI.doneB {xa xb lo:List Nat} {i j:Nat} (h:MI R xa xb lo i j) (e:xa.length≤i):Mrg R it xa xb (ar it lo++ar it (xa.drop i)++ar it (xb.drop j)):=by
 have e0:xa.drop i=[]:=List.drop_of_length_le e;have pm:=h.pm;rw[e0,List.nil_append]at pm;refine⟨lo++xb.drop j,by rw[e0]; simp[ar],h.pb,pm⟩
theorem MI.last {xa xb lo:List Nat} {i j z:Nat} (h:MI R xa xb lo i j) (hz:xa[i]?=some z) (e:i+1=xa.length) (c:∀y∈xb,R y z):Mrg R it xa xb (ar it lo++ar it (xb.drop j)++ar it (xa.drop i)):=by
 have e0:xa.drop i=[z]:=by
  have:=(Zd1 hz).2;rw[List.take_of_length_le (by rw[List.length_drop]; omega)]at this;exact this
 have pm:=h.pm;have pa:=h.pa;rw[e0]at pm pa;refine⟨lo++xb.drop j++[z],by rw[e0,Zgi,Zgi],?_,?_⟩
 ·rw[List.pairwise_append]
  refine⟨h.pb,List.pairwise_singleton _ _,fun x hx y hy=>?_⟩;rw[List.mem_singleton.mp hy]
  rcases List.mem_append.mp hx with hx | hx
  ·exact(List.pairwise_append.mp pa).2.2 x hx z (by simp)
  ·exact c x (List.mem_of_mem_drop hx)
 ·rw[List.append_assoc]
  exact(List.Perm.append_left lo List.perm_append_comm).trans pm
end
end EM
namespace EM
open PySem PySem.W PyProof.Rows
section
variable {prog:Program} {w:World} {A:Around} {E:Value→Shared→Prop} {κ:SortKind} {it:Array Keyed} {Ok:Shared→Prop} {N:Nat} {lt:Nat→Nat→Bool} {R:Nat→Nat→Prop} {α β:Type}
theorem Sq.elemB {l:List Nat} {i x:Nat} {f:Keyed→StateT SortSt Sem β} {st:SortSt} {Q:β→SortSt→Prop} (hx:l[i]?=some x) (h:Sq prog w A E Ok (f (kas_item it x)) st Q):Sq prog w A E Ok (elem' (ar it l) i >>= f) st Q:=
 Sq.bind (P1:=fun a st'=>a=kas_item it x∧st'=st) (Sq.elem hx ⟨rfl,rfl⟩) (by rintro _ _ ⟨rfl,rfl⟩; exact h)
theorem Sq.askB {i j:Nat} {li:List Nat} {pd:Array (Nat×Nat×Nat)} {g:Nat} {f:Option Bool→StateT SortSt Sem β} {Q:β→SortSt→Prop} (M:CmN prog w A κ it Ok N lt R) (hi:i < N) (hj:j < N) (h:Sq prog w A E Ok (f (some (lt i j))) (stt κ it li pd g) Q):Sq prog w A E Ok (lt' (kas_item it i) (kas_item it j) >>= f) (stt κ it li pd g) Q:=
 Sq.bind (P1:=fun a st'=>a=some (lt i j)∧st'=stt κ it li pd g) (Sq.ask M hi hj ⟨rfl,rfl⟩) (by rintro _ _ ⟨rfl,rfl⟩; exact h)
theorem Sq.galB {l:Bool} {k b n hn:Nat} {xs:List Nat} {li:List Nat} {pd:Array (Nat×Nat×Nat)} {g:Nat} {f:Option Nat→StateT SortSt Sem β} {Q:β→SortSt→Prop} (M:CmN prog w A κ it Ok N lt R) (hk:k < N) (ha:∀x∈xs,x < N) (hz:b+n≤xs.length) (hh:hn < n) (h:∀v,Gal lt l k xs b n v v→Sq prog w A E Ok (f (some v)) (stt κ it li pd g) Q):Sq prog w A E Ok (gal' l (kas_item it k) (ar it xs) b n hn >>= f) (stt κ it li pd g) Q:=
 Sq.bind (P1:=fun a st'=>∃v,a=some v∧st'=stt κ it li pd g∧Gal lt l k xs b n v v) (Sq.gal M hk ha hz hh fun v G=>⟨v,rfl,rfl,G⟩) (by rintro _ _ ⟨v,rfl,rfl,G⟩; exact h v G)
theorem Sq.ruleB {x:String} {f:Unit→StateT SortSt Sem β} {st:SortSt} {Q:β→SortSt→Prop} (h:Sq prog w A E Ok (f ()) st Q):Sq prog w A E Ok ((liftM (PySem.rule x):StateT SortSt Sem Unit) >>= f) st Q:=
 Sq.bind (P1:=fun a st'=>st'=st) (Sq.rule rfl) (by rintro _ _ rfl; exact h)
theorem Sq.getB {f:SortSt→StateT SortSt Sem β} {st:SortSt} {Q:β→SortSt→Prop} (h:Sq prog w A E Ok (f st) st Q):Sq prog w A E Ok ((MonadState.get:StateT SortSt Sem SortSt) >>= f) st Q:=
 Sq.bind (P1:=fun a st'=>a=st∧st'=st) (Sq.get ⟨rfl,rfl⟩) (by rintro _ _ ⟨rfl,rfl⟩; exact h)
theorem Sq.modB {u:SortSt→SortSt} {f:PUnit→StateT SortSt Sem β} {st:SortSt} {Q:β→SortSt→Prop} (h:Sq prog w A E Ok (f ⟨⟩) (u st) Q):Sq prog w A E Ok ((_root_.modify u:StateT SortSt Sem PUnit) >>= f) st Q:=
 Sq.bind (P1:=fun a st'=>st'=u st) (Sq.modify rfl) (by rintro _ _ rfl; exact h)
structure Go (R:Nat→Nat→Prop) (it:Array Keyed) (xa xb:List Nat) (m:Nat) (o:Array Keyed) (i j:Nat):Prop where
 ex:∃lo,o=ar it lo∧MI R xa xb lo i j
 ia:i+1 < xa.length
 jb:j < xb.length
 mm:m≤i+j
def Got (R:Nat→Nat→Prop) (it:Array Keyed) (xa xb:List Nat) (m:Nat) (r:Option (Array Keyed)) (o:Array Keyed) (i j:Nat):Prop:=(∃r',r=some r'∧Mrg R it xa xb r')∨(r=none∧Go R it xa xb m o i j)
theorem Zlr (xa xb lo:List Nat) (i j:Nat):dN (ar it xa) (ar it xb) (ar it lo) i j=ar it lo++ar it (xa.drop i)++ar it (xb.drop j):=by
 unfold dN;rw[ZcU,ZcU,Zmf,Zmf]
structure Two (R:Nat→Nat→Prop) (N:Nat) (xa xb:List Nat):Prop where
 ha:∀x∈xa,x < N
 hb:∀x∈xb,x < N
 sa:xa.Pairwise R
 sb:xb.Pairwise R
 hd:∃x0 y0,xa[0]?=some x0∧xb[0]?=some y0∧R y0 x0
 la:∃z,xa[xa.length - 1]?=some z∧∀y∈xb,R y z
theorem Two.last {xa xb lo:List Nat} {i j:Nat} (D:Two R N xa xb) (h:MI R xa xb lo i j) (e:i+1=xa.length):Mrg R it xa xb (dN (ar it xb) (ar it xa) (ar it lo) j i):=by
 obtain⟨z,hz,c⟩:=D.la;rw[Zlr];exact h.last (by rw[←hz]; congr 1; omega) e c
theorem Zgk {xs:List Nat} {i:Nat} (h:i < xs.length):∃x,xs[i]?=some x∧x∈xs:=⟨_,List.getElem?_eq_getElem h,List.getElem_mem h⟩
theorem ZrP (xs:List Nat) (i k:Nat):(ar it xs).extract i (i+k)=ar it ((xs.drop i).take k):=by rw[Zgj,Nat.add_sub_cancel_left]
theorem Sq.loC (M:CmN prog w A κ it Ok N lt R) {xa xb lo:List Nat} {i j G p q m:Nat} (D:Two R N xa xb) (I:MI R xa xb lo i j) (hi:i+1 < xa.length) (hj:j < xb.length) (hm:m≤i+j+1) (hc:∃x,xa[i]?=some x∧∀y∈xb.drop j,R x y) {st:SortSt} {Q:ForInStep T7→SortSt→Prop} (h:∀r o i' j' G' p' q',Got R it xa xb m r o i' j'→Q (.done (r,o,i',j',G',p',q')) st) (h2:∀o i' j' G' p' q',Go R it xa xb m o i' j'→Q (.yield (none,o,i',j',G',p',q')) st):Sq prog w A E Ok (loC (ar it xa) (ar it xb) (ar it lo) i j G p q) st Q:=by
 obtain⟨x,hx,hxy⟩:=hc;have I1:=I.one M hx hxy;unfold EM.loC;refine Sq.elemB hx ?_;rw[ZcU,ZdY]
 by_cases e:i+1+1=xa.length
 ·rw[if_pos (by rw[e]; exact beq_self_eq_true _)]
  exact Sq.pure (h _ _ _ _ _ _ _ (.inl ⟨_,rfl,D.last I1 e⟩))
 rw[if_neg (by simpa using e)];have g:Go R it xa xb m (ar it (lo++[x])) (i+1) j:=⟨⟨_,rfl,I1⟩,by omega,hj,by omega⟩
 split
 ·exact Sq.pure (h _ _ _ _ _ _ _ (.inr ⟨rfl,g⟩))
 ·exact Sq.pure (h2 _ _ _ _ _ _ g)
theorem Sq.loB (M:CmN prog w A κ it Ok N lt R) {xa xb lo:List Nat} {i j G p q m:Nat} (D:Two R N xa xb) (I:MI R xa xb lo i j) (hi:i+1 < xa.length) (hj:j < xb.length) (hm:m≤i+j+1) (hc:∃y,xb[j]?=some y∧∀x∈xa.drop i,R y x) {li:List Nat} {pd:Array (Nat×Nat×Nat)} {g:Nat} {Q:ForInStep T7→SortSt→Prop} (h:∀r o i' j' G' p' q',Got R it xa xb m r o i' j'→Q (.done (r,o,i',j',G',p',q')) (stt κ it li pd g)) (h2:∀o i' j' G' p' q',Go R it xa xb m o i' j'→Q (.yield (none,o,i',j',G',p',q')) (stt κ it li pd g)):Sq prog w A E Ok (loB (ar it xa) (ar it xb) (ar it lo) i j G p q) (stt κ it li pd g) Q:=by
 obtain⟨y,hy,hyx⟩:=hc;have I1:=(I.swap.one M hy hyx).swap;unfold EM.loB;refine Sq.elemB hy ?_;rw[ZcU,ZdY]
 by_cases e:j+1=xb.length
 ·rw[if_pos (by rw[e]; exact beq_self_eq_true _)]
  exact Sq.pure (h _ _ _ _ _ _ _ (.inl ⟨_,rfl,by rw[Zlr]; exact I1.doneA (by omega)⟩))
 rw[if_neg (by simpa using e)];obtain⟨x,hx,hxm⟩:=Zgk (xs:=xa) (i:=i) (by omega);refine Sq.elemB hx ?_;refine Sq.galB M (D.ha x hxm) D.hb (by omega) (by omega) fun k K=>?_
 dsimp only
 obtain⟨I2,hk2⟩:=I1.swap.gal M hx K;have I2:=I2.swap
 by_cases hk:k > 0
 ·rw[if_pos hk,ZrP,Zgi]
  by_cases e3:j+1+k=xb.length
  ·rw[if_pos (by rw[e3]; exact beq_self_eq_true _)]
   exact Sq.pure (h _ _ _ _ _ _ _ (.inl ⟨_,rfl,by rw[Zlr]; exact I2.doneA (by omega)⟩))
  rw[if_neg (by simpa using e3)];have:=K.vn;exact Sq.loC M D I2 hi (by omega) (by omega) ⟨x,hx,hk2⟩ h h2
 ·rw[if_neg hk]
  have:k=0:=by omega
  subst this;rw[List.take_zero,List.append_nil]at I2;exact Sq.loC M D I2 hi (by omega) (by omega) ⟨x,hx,hk2⟩ h h2
theorem Sq.loA (M:CmN prog w A κ it Ok N lt R) {xa xb lo:List Nat} {i j G p q m:Nat} (D:Two R N xa xb) (I:MI R xa xb lo i j) (hi:i+1 < xa.length) (hj:j < xb.length) (hm:m≤i+j+1) {li:List Nat} {pd:Array (Nat×Nat×Nat)} {g:Nat} {Q:ForInStep T7→SortSt→Prop} (h:∀r o i' j' G' p' q',Got R it xa xb m r o i' j'→Q (.done (r,o,i',j',G',p',q')) (stt κ it li pd G)) (h2:∀o i' j' G' p' q',Go R it xa xb m o i' j'→Q (.yield (none,o,i',j',G',p',q')) (stt κ it li pd G)):Sq prog w A E Ok (loA (ar it xa) (ar it xb) (ar it lo) i j G p q) (stt κ it li pd g) Q:=by
 unfold EM.loA;refine Sq.modB ?_;show Sq prog w A E Ok _ (stt κ it li pd G) Q;obtain⟨y,hy,hym⟩:=Zgk (xs:=xb) (i:=j) hj;refine Sq.elemB hy ?_;rw[ZcU];refine Sq.galB M (D.hb y hym) D.ha (by omega) (by omega) fun k K=>?_
 dsimp only
 obtain⟨I2,hk2⟩:=I.gal M hy K
 by_cases hk:k > 0
 ·rw[if_pos hk,ZrP,Zgi]
  by_cases e3:i+k+1=xa.length
  ·rw[if_pos (by rw[e3]; exact beq_self_eq_true _)]
   exact Sq.pure (h _ _ _ _ _ _ _ (.inl ⟨_,rfl,D.last I2 e3⟩))
  rw[if_neg (by simpa using e3)]
  by_cases e4:i+k=xa.length
  ·rw[if_pos (by rw[e4]; exact beq_self_eq_true _)]
   exact Sq.pure (h _ _ _ _ _ _ _ (.inl ⟨_,rfl,by rw[Zlr]; exact I2.doneB (by omega)⟩))
  rw[if_neg (by simpa using e4)];have:=K.vn;exact Sq.loB M D I2 (by omega) hj (by omega) ⟨y,hy,hk2⟩ h h2
 ·rw[if_neg hk]
  have:k=0:=by omega
  subst this;rw[List.take_zero,List.append_nil]at I2;exact Sq.loB M D I2 hi hj (by omega) ⟨y,hy,hk2⟩ h h2
theorem Sq.loS (M:CmN prog w A κ it Ok N lt R) {xa xb:List Nat} {o:Array Keyed} {i j G p q m:Nat} (D:Two R N xa xb) (I:Go R it xa xb m o i j) {li:List Nat} {pd:Array (Nat×Nat×Nat)} {g:Nat} {Q:ForInStep T6→SortSt→Prop} (h:∀r o i' j' p' q',Got R it xa xb (m+1) r o i' j'→Q (.done (r,o,i',j',p',q')) (stt κ it li pd g)) (h2:∀o i' j' p' q',Go R it xa xb (m+1) o i' j'→Q (.yield (none,o,i',j',p',q')) (stt κ it li pd g)):Sq prog w A E Ok (loS (ar it xa) (ar it xb) o i j p q G) (stt κ it li pd g) Q:=by
 obtain⟨⟨lo,rfl,I⟩,hi,hj,hm⟩:=I;unfold EM.loS;obtain⟨y,hy,hym⟩:=Zgk (xs:=xb) (i:=j) hj;obtain⟨x,hx,hxm⟩:=Zgk (xs:=xa) (i:=i) (by omega);refine Sq.elemB hy (Sq.elemB hx (Sq.askB M (D.hb y hym) (D.ha x hxm) ?_))
 dsimp only
 cases hl:lt y x with
 | true=>
  rw[if_pos rfl];refine Sq.elemB hy ?_;have I1:=(I.swap.one M hy (I.swap.headB M hx (M.yes _ _ hl))).swap;rw[ZcU,ZdY]
  by_cases e:j+1=xb.length
  ·rw[if_pos (by rw[e]; exact beq_self_eq_true _)]
   exact Sq.pure (h _ _ _ _ _ _ (.inl ⟨_,rfl,by rw[Zlr]; exact I1.doneA (by omega)⟩))
  rw[if_neg (by simpa using e)];have g:Go R it xa xb (m+1) (ar it (lo++[y])) i (j+1):=⟨⟨_,rfl,I1⟩,by omega,by omega,by omega⟩
  split
  ·exact Sq.pure (h _ _ _ _ _ _ (.inr ⟨rfl,g⟩))
  ·exact Sq.pure (h2 _ _ _ _ _ g)
 | false=>
  rw[if_neg Bool.false_ne_true];refine Sq.elemB hx ?_;have I1:=I.one M hx (I.headB M hy (M.no _ _ hl));rw[ZcU,ZdY]
  by_cases e:i+1+1=xa.length
  ·rw[if_pos (by rw[e]; exact beq_self_eq_true _)]
   exact Sq.pure (h _ _ _ _ _ _ (.inl ⟨_,rfl,D.last I1 e⟩))
  rw[if_neg (by simpa using e)];have g:Go R it xa xb (m+1) (ar it (lo++[x])) (i+1) j:=⟨⟨_,rfl,I1⟩,by omega,by omega,by omega⟩
  split
  ·exact Sq.pure (h _ _ _ _ _ _ (.inr ⟨rfl,g⟩))
  ·exact Sq.pure (h2 _ _ _ _ _ g)
theorem Go.le {xa xb:List Nat} {m m':Nat} {o:Array Keyed} {i j:Nat} (h:Go R it xa xb m o i j) (e:m'≤m):Go R it xa xb m' o i j:=⟨h.ex,h.ia,h.jb,Nat.le_trans e h.mm⟩
theorem Sq.loT (M:CmN prog w A κ it Ok N lt R) {xa xb:List Nat} {T m:Nat} (D:Two R N xa xb) (hT:T=xa.length+xb.length) {s:T5} (I:Go R it xa xb m s.2.1 s.2.2.1 s.2.2.2.1) {li:List Nat} {pd:Array (Nat×Nat×Nat)} {g:Nat} {Q:ForInStep T5→SortSt→Prop} (h:∀r s' g',Mrg R it xa xb r→Q (.done (some r,s')) (stt κ it li pd g')) (h2:∀o i j G g',Go R it xa xb (m+1) o i j→Q (.yield (none,o,i,j,G)) (stt κ it li pd g')):Sq prog w A E Ok (loT (ar it xa) (ar it xb) T s) (stt κ it li pd g) Q:=by
 obtain⟨s0,o,i,j,G⟩:=s;have I:Go R it xa xb m o i j:=I;unfold EM.loT;refine Sq.bind (P1:=fun t st'=>st'=stt κ it li pd g∧Got R it xa xb (m+1) t.1 t.2.1 t.2.2.1 t.2.2.2.1) ?_ ?_
 ·refine Sq.range (fun n t st'=>st'=stt κ it li pd g∧t.1=none∧Go R it xa xb (m+n) t.2.1 t.2.2.1 t.2.2.2.1) ⟨rfl,rfl,I⟩ ?_ ?_
  ·rintro n _ ⟨t1,o,i,j,p,q⟩ st' hn ⟨rfl,rfl,I⟩
   exact Sq.loS M D I (fun r o i' j' p' q' h'=>⟨rfl,h'.imp id fun h=>⟨h.1,h.2.le (by omega)⟩⟩) fun o i' j' p' q' h'=>⟨rfl,rfl,h'⟩
  ·rintro⟨t1,o,i,j,p,q⟩ st' ⟨rfl,rfl,I⟩
   have a1:i+1 < xa.length:=I.ia;have a2:j < xb.length:=I.jb;have a3:m+(T - 0)≤i+j:=I.mm;omega
 rintro⟨t1,o,i,j,p,q⟩ st' ⟨rfl,h1⟩
 rcases h1 with⟨r,hr,h1⟩ | ⟨hr,h1⟩
 ·obtain rfl:t1=some r:=hr
  exact Sq.pure (h r _ _ h1)
 obtain rfl:t1=none:=hr
 dsimp only
 refine Sq.ruleB ?_;refine Sq.bind (P1:=fun u st'=>∃g',st'=stt κ it li pd g'∧Got R it xa xb (m+1) u.1 u.2.1 u.2.2.1 u.2.2.2.1) ?_ ?_
 ·refine Sq.range (fun n u st'=>∃g',st'=stt κ it li pd g'∧u.1=none∧Go R it xa xb (m+1+n) u.2.1 u.2.2.1 u.2.2.2.1) ⟨g,rfl,rfl,h1⟩ ?_ ?_
  ·rintro n _ ⟨t1,o,i,j,G,p,q⟩ st' hn ⟨g',rfl,rfl,⟨⟨lo,e,I⟩,hi,hj,hm⟩⟩
   obtain rfl:o=ar it lo:=e;have a3:m+1+n≤i+j:=hm
   dsimp only
   split
   ·exact Sq.loA (m:=m+1+(n+1)) M D I hi hj (by omega) (fun r o i' j' G' p' q' h'=>⟨_,rfl,h'.imp id fun h=>⟨h.1,h.2.le (by omega)⟩⟩) fun o i' j' G' p' q' h'=>⟨_,rfl,rfl,h'⟩
   ·exact Sq.loA (m:=m+1+(n+1)) M D I hi hj (by omega) (fun r o i' j' G' p' q' h'=>⟨_,rfl,h'.imp id fun h=>⟨h.1,h.2.le (by omega)⟩⟩) fun o i' j' G' p' q' h'=>⟨_,rfl,rfl,h'⟩
  ·rintro⟨t1,o,i,j,G,p,q⟩ st' ⟨g',rfl,rfl,I⟩
   exact⟨g',rfl,.inr ⟨rfl,I.le (by omega)⟩⟩
 rintro⟨t1,o,i,j,G,p,q⟩ st' ⟨g',rfl,h1⟩
 rcases h1 with⟨r,hr,h1⟩ | ⟨hr,h1⟩
 ·obtain rfl:t1=some r:=hr
  exact Sq.pure (h r _ _ h1)
 obtain rfl:t1=none:=hr
 dsimp only
 refine Sq.modB ?_;exact Sq.pure (h2 _ _ _ _ _ h1)
theorem Sq.mlo (M:CmN prog w A κ it Ok N lt R) {xa xb:List Nat} (D:Two R N xa xb) {li:List Nat} {pd:Array (Nat×Nat×Nat)} {g:Nat} {Q:Array Keyed→SortSt→Prop} (h:∀o g',Mrg R it xa xb o→Q o (stt κ it li pd g')):Sq prog w A E Ok (mlo' (ar it xa) (ar it xb)) (stt κ it li pd g) Q:=by
 rw[Zsq,ZcU,ZcU];obtain⟨x0,y0,hx0,hy0,hxy⟩:=D.hd;have la:0 < xa.length:=(List.getElem?_eq_some_iff.mp hx0).1;have lb:0 < xb.length:=(List.getElem?_eq_some_iff.mp hy0).1;refine Sq.ruleB ?_;refine Sq.elemB hy0 ?_;have e0:(#[kas_item it y0]:Array Keyed)=ar it [y0]:=rfl;rw[e0];have I00:MI R xa xb [] 0 0:=⟨by simpa using D.sa,by simpa using D.sb,by simp⟩;have I0:MI R xa xb [y0] 0 1:=(MI.one M I00.swap hy0 (fun x hx=>M.tr _ _ _ hxy (ZjP M D.sa hx0 x (by simpa using hx)))).swap
 by_cases e1:1=xb.length
 ·rw[if_pos (by rw[←e1]; rfl)]
  exact Sq.pure (h _ _ (by rw[Zlr]; exact I0.doneA (by omega)))
 rw[if_neg (by simpa using e1)]
 by_cases e2:0+1=xa.length
 ·rw[if_pos (by rw[←e2]; rfl)]
  exact Sq.pure (h _ _ (D.last I0 e2))
 rw[if_neg (by simpa using e2)];refine Sq.getB ?_;refine Sq.bind (P1:=fun s st'=>∃g' r,st'=stt κ it li pd g'∧s.1=some r∧Mrg R it xa xb r) ?_ ?_
 ·refine Sq.range (fun n s st'=>∃g',st'=stt κ it li pd g'∧s.1=none∧Go R it xa xb n s.2.1 s.2.2.1 s.2.2.2.1) ⟨g,rfl,rfl,⟨_,rfl,I0⟩,by show 0+1 < _; omega,by show 1 < _; omega,Nat.zero_le _⟩ ?_ ?_
  ·rintro n _ s st' hn ⟨g',rfl,hs,I⟩
   exact Sq.loT M D rfl I (fun r s' g' h'=>⟨g',r,rfl,rfl,h'⟩) fun o i j G g' h'=>⟨g',rfl,rfl,h'⟩
  ·rintro s st' ⟨g',rfl,hs,I⟩
   have a1:=I.ia;have a2:=I.jb;have a3:=I.mm;omega
 rintro⟨s1,s2⟩ st' ⟨g',r,rfl,rfl,h'⟩;exact Sq.pure (h r g' h')
end
end EM
namespace EM
open PySem PySem.W PyProof.Rows
abbrev U7:=Option (Array Keyed)×Nat×Nat×Array Keyed×Nat×Nat×Nat
def uN (a b o:Array Keyed) (i j:Nat):Array Keyed:=a.extract 0 i++b.extract 0 j++o.reverse
def hiC (a b o:Array Keyed) (i j G p q:Nat):StateT SortSt Sem (ForInStep U7):=do
 let x ←elem' a (i - 1)
 if i - 1 == 0 then return .done (some (uN a b (o.push x) (i - 1) j),i - 1,j,o.push x,G,p,q)
 if p < 7 && q < 7 then return .done (none,i - 1,j,o.push x,G,p,q)
 return .yield (none,i - 1,j,o.push x,G,p,q)
def hiB (a b o:Array Keyed) (i j G p q:Nat):StateT SortSt Sem (ForInStep U7):=do
 let y ←elem' b (j - 1)
 if j - 1 == 1 then return .done (some (uN b a (o.push y) (j - 1) i),i,j - 1,o.push y,G,p,q)
 let some k ←gal' true (←elem' a (i - 1)) b 0 (j - 1) (j - 1 - 1) | return .done (some (uN a b (o.push y) i (j - 1)),i,j - 1,o.push y,G,p,q)
 if j - 1 - k > 0 then
  if k == 1 then return .done (some (uN b a (o.push y++(b.extract k (j - 1)).reverse) k i),i,k,o.push y++(b.extract k (j - 1)).reverse,G,p,j - 1 - k)
  if k == 0 then return .done (some (uN a b (o.push y++(b.extract k (j - 1)).reverse) i k),i,k,o.push y++(b.extract k (j - 1)).reverse,G,p,j - 1 - k)
  hiC a b (o.push y++(b.extract k (j - 1)).reverse) i k G p (j - 1 - k)
 else hiC a b (o.push y) i (j - 1) G p (j - 1 - k)
def hiA (a b o:Array Keyed) (i j G p q:Nat):StateT SortSt Sem (ForInStep U7):=do
 modify (Zji G)
 let some k ←gal' false (←elem' b (j - 1)) a 0 i (i - 1) | return .done (some (uN a b o i j),i,j,o,G,p,q)
 if i - k > 0 then
  if k == 0 then return .done (some (uN a b (o++(a.extract k i).reverse) k j),k,j,o++(a.extract k i).reverse,G,i - k,q)
  hiB a b (o++(a.extract k i).reverse) k j G (i - k) q
 else hiB a b o i j G (i - k) q
abbrev U6:=Option (Array Keyed)×Nat×Nat×Array Keyed×Nat×Nat
def hiS (a b o:Array Keyed) (i j p q G:Nat):StateT SortSt Sem (ForInStep U6):=do
 let some c ←lt' (←elem' b (j - 1)) (←elem' a (i - 1)) | return .done (some (uN a b o i j),i,j,o,p,q)
 if c then
  let x ←elem' a (i - 1)
  if i - 1 == 0 then return .done (some (uN a b (o.push x) (i - 1) j),i - 1,j,o.push x,p+1,0)
  if p+1 ≥ G then return .done (none,i - 1,j,o.push x,p+1,0)
  return .yield (none,i - 1,j,o.push x,p+1,0)
 else
  let y ←elem' b (j - 1)
  if j - 1 == 1 then return .done (some (uN b a (o.push y) (j - 1) i),i,j - 1,o.push y,0,q+1)
  if q+1 ≥ G then return .done (none,i,j - 1,o.push y,0,q+1)
  return .yield (none,i,j - 1,o.push y,0,q+1)
abbrev U5:=Option (Array Keyed)×Nat×Nat×Array Keyed×Nat
def hiT (a b:Array Keyed) (T:Nat) (s:U5):StateT SortSt Sem (ForInStep U5):=do
 let t:U6 ←forIn [0:T] (none,s.2.1,s.2.2.1,s.2.2.2.1,0,0) fun _ t=>hiS a b t.2.2.2.1 t.2.1 t.2.2.1 t.2.2.2.2.1 t.2.2.2.2.2 s.2.2.2.2
 match t.1 with
 | some r=>return .done (some r,t.2.1,t.2.2.1,t.2.2.2.1,s.2.2.2.2)
 | none=>
  PySem.rule "list.sort.gallop"
  let u:U7 ←forIn [0:T] (none,t.2.1,t.2.2.1,t.2.2.2.1,s.2.2.2.2+1,t.2.2.2.2.1,t.2.2.2.2.2) fun _ u=>
   if u.2.2.2.2.1 > 1 then hiA a b u.2.2.2.1 u.2.1 u.2.2.1 (u.2.2.2.2.1 - 1) u.2.2.2.2.2.1 u.2.2.2.2.2.2 else hiA a b u.2.2.2.1 u.2.1 u.2.2.1 u.2.2.2.2.1 u.2.2.2.2.2.1 u.2.2.2.2.2.2
  match u.1 with
  | some r=>return .done (some r,u.2.1,u.2.2.1,u.2.2.2.1,u.2.2.2.2.1)
  | none=>
   modify (Zji (u.2.2.2.2.1+1))
   return .yield (none,u.2.1,u.2.2.1,u.2.2.2.1,u.2.2.2.2.1+1)
theorem ZqZ (a b:Array Keyed):mhi' a b=(do
  PySem.rule "list.sort.merge-hi"
  let T:=a.size+b.size
  let mut i:=a.size - 1
  let mut j:=b.size
  let mut o:Array Keyed:=#[←elem' a i]
  if i == 0 then return uN a b o i j
  if j == 1 then return uN b a o j i
  let mut G:=gallopOf (←get)
  for _ in [0:T] do
   let mut p:=0
   let mut q:=0
   for _ in [0:T] do
    let some c ←lt' (←elem' b (j - 1)) (←elem' a (i - 1)) | return uN a b o i j
    if c then
     i:=i - 1; o:=o.push (←elem' a i); p:=p+1; q:=0
     if i == 0 then return uN a b o i j
     if p ≥ G then break
    else
     j:=j - 1; o:=o.push (←elem' b j); q:=q+1; p:=0
     if j == 1 then return uN b a o j i
     if q ≥ G then break
   PySem.rule "list.sort.gallop"
   G:=G+1
   for _ in [0:T] do
    if G > 1 then G:=G - 1
    modify (Zji G)
    let some t ←gal' false (←elem' b (j - 1)) a 0 i (i - 1) | return uN a b o i j
    let k:=i - t
    p:=k
    if k > 0 then
     o:=o++(a.extract t i).reverse; i:=t
     if i == 0 then return uN a b o i j
    j:=j - 1; o:=o.push (←elem' b j)
    if j == 1 then return uN b a o j i
    let some t ←gal' true (←elem' a (i - 1)) b 0 j (j - 1) | return uN a b o i j
    let k:=j - t
    q:=k
    if k > 0 then
     o:=o++(b.extract t j).reverse; j:=t
     if j == 1 then return uN b a o j i
     if j == 0 then return uN a b o i j
    i:=i - 1; o:=o.push (←elem' a i)
    if i == 0 then return uN a b o i j
    if p < 7 && q < 7 then break
   G:=G+1
   modify (Zji G)
  unsupported "internal:list.sort.merge-bound"):=rfl
theorem Zsp (a b:Array Keyed):mhi' a b=(do
  PySem.rule "list.sort.merge-hi"
  let y ←elem' a (a.size - 1)
  if a.size - 1 == 0 then return uN a b #[y] (a.size - 1) b.size
  if b.size == 1 then return uN b a #[y] b.size (a.size - 1)
  let st ←get
  let s:U5 ←forIn [0:a.size+b.size] (none,a.size - 1,b.size,#[y],gallopOf st) fun _ s=>hiT a b (a.size+b.size) s
  match s.1 with
  | some r=>return r
  | none=>unsupported "internal:list.sort.merge-bound"):=by
 rw[ZqZ];unfold hiT hiA hiB hiC hiS
 dsimp only
 congr 1
 funext _
 congr 1
 funext y
 congr 1
 congr 1
 congr 1
 funext st
 congr 1
 congr 1
 funext _ s
 congr 1
 funext t
 obtain⟨t1,t2,t3,t4,t5,t6⟩:=t
 cases t1 with
 | some r=>rfl
 | none=>
  dsimp only
  congr 1
  funext _
  congr 1
  congr 1
  funext u
  obtain⟨u1,u2⟩:=u
  cases u1 with
  | some r=>rfl
  | none=>rfl
 funext s
 obtain⟨s1,s2⟩:=s
 cases s1 with
 | some r=>rfl
 | none=>rfl
end EM
namespace EM
open PySem PySem.W PyProof.Rows
section
variable {prog:Program} {w:World} {A:Around} {E:Value→Shared→Prop} {κ:SortKind} {it:Array Keyed} {Ok:Shared→Prop} {N:Nat} {lt:Nat→Nat→Bool} {R:Nat→Nat→Prop} {α β:Type}
structure HI (R:Nat→Nat→Prop) (xa xb lo:List Nat) (i j:Nat):Prop where
 pa:(xa.take i++lo.reverse).Pairwise R
 pb:(xb.take j++lo.reverse).Pairwise R
 pm:(xa.take i++(xb.take j++lo.reverse)).Perm (xa++xb)
theorem HI.swap {xa xb lo:List Nat} {i j:Nat} (h:HI R xa xb lo i j):HI R xb xa lo j i:=by
 refine⟨h.pb,h.pa,?_⟩
 have e:(xb.take j++(xa.take i++lo.reverse)).Perm (xa.take i++(xb.take j++lo.reverse)):=by
  rw[←List.append_assoc,←List.append_assoc];exact List.Perm.append_right _ List.perm_append_comm
 exact(e.trans h.pm).trans List.perm_append_comm
theorem Zpq (xs:List Nat) {t i:Nat} (h:t≤i):xs.take i=xs.take t++(xs.take i).drop t:=by
 have:=List.take_append_drop t (xs.take i);rw[List.take_take,Nat.min_eq_left h]at this;exact this.symm
theorem HI.bulk {xa xb lo:List Nat} {i j t:Nat} (h:HI R xa xb lo i j) (ht:t≤i) (c:∀x∈(xa.take i).drop t,∀y∈xb.take j,R y x):HI R xa xb (lo++((xa.take i).drop t).reverse) t j:=by
 have e:=Zpq xa ht;obtain⟨h1,h2,h3⟩:=h
 have er:(lo++((xa.take i).drop t).reverse).reverse=(xa.take i).drop t++lo.reverse:=by rw[List.reverse_append,List.reverse_reverse]
 generalize hd:(xa.take i).drop t=D at e c er ⊢;rw[e]at h1 h3;refine⟨by rw[er,←List.append_assoc]; exact h1,?_,?_⟩
 ·rw[er,List.pairwise_append]
  rw[List.append_assoc,List.pairwise_append]at h1;obtain⟨a1,a2,a3⟩:=h1;rw[List.pairwise_append]at h2;obtain⟨b1,b2,b3⟩:=h2;refine⟨b1,a2,fun y hy x hx=>?_⟩
  rcases List.mem_append.mp hx with hx | hx
  ·exact c x hx y hy
  ·exact b3 y hy x hx
 ·rw[er]
  refine List.Perm.trans ?_ h3;rw[List.append_assoc];refine List.Perm.append_left _ ?_;rw[←List.append_assoc,←List.append_assoc];exact List.Perm.append_right _ List.perm_append_comm
theorem ZnY {xs:List Nat} {i x:Nat} (hi:1≤i) (h:xs[i - 1]?=some x):(xs.take i).drop (i - 1)=[x]:=by
 obtain⟨hl,e⟩:=List.getElem?_eq_some_iff.mp h
 have:xs.take i=xs.take (i - 1)++[x]:=by
  have e1:xs.take (i - 1+1)=xs.take (i - 1)++[x]:=by
   rw[List.take_add_one,h];rfl
  rw[←e1]
  congr 1
  omega
 rw[this,List.drop_left' (by rw[List.length_take]; omega)]
theorem HI.one {xa xb lo:List Nat} {i j x:Nat} (h:HI R xa xb lo i j) (hi:1≤i) (hx:xa[i - 1]?=some x) (c:∀y∈xb.take j,R y x):HI R xa xb (lo++[x]) (i - 1) j:=by
 have:=h.bulk (t:=i - 1) (by omega) (fun z hz=>by rw[ZnY hi hx]at hz; rw[List.mem_singleton.mp hz]; exact c);rw[ZnY hi hx]at this;exact this
theorem upto (M:CmN prog w A κ it Ok N lt R) {xs:List Nat} {j x y:Nat} (sp:xs.Pairwise R) (hj:1≤j) (hy:xs[j - 1]?=some y) (c:R y x):∀z∈xs.take j,R z x:=fun z hz=>
 M.tr _ _ _ (ZoH M sp hy z (by rw[show j - 1+1=j by omega]; exact hz)) c
theorem HI.gal (M:CmN prog w A κ it Ok N lt R) {l:Bool} {xa xb lo:List Nat} {i j y k:Nat} (h:HI R xa xb lo i j) (sa:xa.Pairwise R) (hy:∀z∈xb.take j,R z y) (hi:i≤xa.length) (G:Gal lt l y xa 0 i k k):HI R xa xb (lo++((xa.take i).drop k).reverse) k j∧∀z∈xa.take k,R z y:=by
 refine⟨h.bulk G.vn fun x hx z hz=>?_,?_⟩
 ·rcases G.hi with e | ⟨q,hq,hf⟩
  ·rw[e,List.drop_of_length_le (by rw[List.length_take]; omega)]at hx
   cases hx
  ·refine M.tr _ _ _ (hy z hz) (M.tr _ _ _ (Zqu M hf) ?_)
   rw[Nat.zero_add]at hq;have hx2:x∈xa.drop k:=(List.Sublist.drop (List.take_sublist i xa) k).subset hx;exact ZjP M (sa.sublist (List.drop_sublist k xa)) (Zd1 hq).1 x hx2
 ·rcases G.lo with e | ⟨q,hq,hf⟩
  ·rw[e]
   intro z hz;simp at hz
  ·rw[Nat.zero_add]at hq
   cases k with
   | zero=>intro z hz; simp at hz
   | succ k=>exact upto M sa (by omega) hq (ZmC M hf)
theorem ZrB (xa xb lo:List Nat) (i j:Nat):uN (ar it xa) (ar it xb) (ar it lo) i j=ar it (xa.take i++xb.take j++lo.reverse):=by
 unfold uN;rw[Zgj,Zgj];simp[ar]
theorem HI.doneA {xa xb lo:List Nat} {j:Nat} (h:HI R xa xb lo 0 j):Mrg R it xa xb (uN (ar it xa) (ar it xb) (ar it lo) 0 j):=by
 have pm:=h.pm;rw[List.take_zero,List.nil_append]at pm;exact⟨_,ZrB _ _ _ _ _,by rw[List.take_zero,List.nil_append]; exact h.pb,by rw[List.take_zero,List.nil_append]; exact pm⟩
theorem HI.doneB {xa xb lo:List Nat} {i:Nat} (h:HI R xa xb lo i 0):Mrg R it xa xb (uN (ar it xa) (ar it xb) (ar it lo) i 0):=by
 have pm:=h.pm;rw[List.take_zero,List.nil_append]at pm;exact⟨_,ZrB _ _ _ _ _,by rw[List.take_zero,List.append_nil]; exact h.pa,by rw[List.take_zero,List.append_nil]; exact pm⟩
theorem Two.first (M:CmN prog w A κ it Ok N lt R) {xa xb lo:List Nat} {i:Nat} (D:Two R N xa xb) (h:HI R xa xb lo i 1):Mrg R it xa xb (uN (ar it xb) (ar it xa) (ar it lo) 1 i):=by
 obtain⟨x0,y0,hx0,hy0,hxy⟩:=D.hd
 have e:xb.take 1=[y0]:=by
  have:=(Zd1 hy0).2;rw[List.drop_zero]at this;exact this
 have pm:=h.swap.pm;have pb:=h.pb;rw[e]at pm pb;refine⟨_,ZrB _ _ _ _ _,?_,?_⟩
 ·rw[e,List.append_assoc,List.singleton_append,List.pairwise_cons]
  refine⟨fun x hx=>?_,h.pa⟩
  rcases List.mem_append.mp hx with hx | hx
  ·exact M.tr _ _ _ hxy (ZjP M D.sa hx0 x (List.mem_of_mem_take hx))
  ·exact(List.pairwise_append.mp pb).2.2 y0 (by simp) x hx
 ·rw[e,List.append_assoc]
  exact pm.trans List.perm_append_comm
structure Ho (R:Nat→Nat→Prop) (it:Array Keyed) (xa xb:List Nat) (m:Nat) (o:Array Keyed) (i j:Nat):Prop where
 ex:∃lo,o=ar it lo∧HI R xa xb lo i j
 i1:1≤i
 il:i≤xa.length
 j2:2≤j
 jl:j≤xb.length
 mm:m+i+j≤xa.length+xb.length
def Hot (R:Nat→Nat→Prop) (it:Array Keyed) (xa xb:List Nat) (m:Nat) (r:Option (Array Keyed)) (o:Array Keyed) (i j:Nat):Prop:=(∃r',r=some r'∧Mrg R it xa xb r')∨(r=none∧Ho R it xa xb m o i j)
theorem ZsM (xs:List Nat) (k i:Nat):((ar it xs).extract k i).reverse=ar it ((xs.take i).drop k).reverse:=by
 rw[Zgj,←List.drop_take];simp[ar]
theorem Sq.hiC (M:CmN prog w A κ it Ok N lt R) {xa xb lo:List Nat} {i j G p q m:Nat} (D:Two R N xa xb) (I:HI R xa xb lo i j) (h1:1≤i) (hi:i≤xa.length) (hj2:2≤j) (hj:j≤xb.length) (hm:m+i+j≤xa.length+xb.length+1) (hc:∃x,xa[i - 1]?=some x∧∀y∈xb.take j,R y x) {st:SortSt} {Q:ForInStep U7→SortSt→Prop} (h:∀r o i' j' G' p' q',Hot R it xa xb m r o i' j'→Q (.done (r,i',j',o,G',p',q')) st) (h2:∀o i' j' G' p' q',Ho R it xa xb m o i' j'→Q (.yield (none,i',j',o,G',p',q')) st):Sq prog w A E Ok (hiC (ar it xa) (ar it xb) (ar it lo) i j G p q) st Q:=by
 obtain⟨x,hx,hxy⟩:=hc;have I1:=I.one h1 hx hxy;unfold EM.hiC;refine Sq.elemB hx ?_;rw[ZdY]
 by_cases e:i - 1=0
 ·rw[if_pos (by rw[e]; rfl)]
  refine Sq.pure (h _ _ _ _ _ _ _ (.inl ⟨_,rfl,?_⟩));rw[e]at I1 ⊢;exact I1.doneA
 rw[if_neg (by simpa using e)];have g:Ho R it xa xb m (ar it (lo++[x])) (i - 1) j:=⟨⟨_,rfl,I1⟩,by omega,by omega,hj2,hj,by omega⟩
 split
 ·exact Sq.pure (h _ _ _ _ _ _ _ (.inr ⟨rfl,g⟩))
 ·exact Sq.pure (h2 _ _ _ _ _ _ g)
theorem Sq.hiB (M:CmN prog w A κ it Ok N lt R) {xa xb lo:List Nat} {i j G p q m:Nat} (D:Two R N xa xb) (I:HI R xa xb lo i j) (h1:1≤i) (hi:i≤xa.length) (hj2:2≤j) (hj:j≤xb.length) (hm:m+i+j≤xa.length+xb.length+2) (hc:∃y,xb[j - 1]?=some y∧∀x∈xa.take i,R x y) {li:List Nat} {pd:Array (Nat×Nat×Nat)} {g:Nat} {Q:ForInStep U7→SortSt→Prop} (h:∀r o i' j' G' p' q',Hot R it xa xb m r o i' j'→Q (.done (r,i',j',o,G',p',q')) (stt κ it li pd g)) (h2:∀o i' j' G' p' q',Ho R it xa xb m o i' j'→Q (.yield (none,i',j',o,G',p',q')) (stt κ it li pd g)):Sq prog w A E Ok (hiB (ar it xa) (ar it xb) (ar it lo) i j G p q) (stt κ it li pd g) Q:=by
 obtain⟨y,hy,hyx⟩:=hc;have I1:=(I.swap.one (by omega) hy hyx).swap;unfold EM.hiB;refine Sq.elemB hy ?_;rw[ZdY]
 by_cases e:j - 1=1
 ·rw[if_pos (by rw[e]; rfl)]
  refine Sq.pure (h _ _ _ _ _ _ _ (.inl ⟨_,rfl,?_⟩));rw[e]at I1 ⊢
  exact D.first M I1
 rw[if_neg (by simpa using e)];obtain⟨x,hx,hxm⟩:=Zgk (xs:=xa) (i:=i - 1) (by omega);refine Sq.elemB hx ?_;refine Sq.galB M (D.ha x hxm) D.hb (by omega) (by omega) fun k K=>?_
 dsimp only
 have kv:=K.vn;obtain⟨I2,hk2⟩:=I1.swap.gal M D.sb (upto M D.sa h1 hx (M.refl _)) (by omega) K;have I2:=I2.swap
 by_cases hk:j - 1 - k > 0
 ·rw[if_pos hk,ZsM,Zgi]
  by_cases e3:k=1
  ·rw[if_pos (by rw[e3]; rfl)]
   refine Sq.pure (h _ _ _ _ _ _ _ (.inl ⟨_,rfl,?_⟩));subst e3
   exact D.first M I2
  rw[if_neg (by simpa using e3)]
  by_cases e4:k=0
  ·rw[if_pos (by rw[e4]; rfl)]
   refine Sq.pure (h _ _ _ _ _ _ _ (.inl ⟨_,rfl,?_⟩));subst e4;exact I2.doneB
  rw[if_neg (by simpa using e4)];exact Sq.hiC M D I2 h1 hi (by omega) (by omega) (by omega) ⟨x,hx,hk2⟩ h h2
 ·rw[if_neg hk]
  have e5:k=j - 1:=by omega
  rw[e5,List.drop_of_length_le (by rw[List.length_take]; omega),List.reverse_nil,List.append_nil]at I2;rw[e5]at hk2;exact Sq.hiC M D I2 h1 hi (by omega) (by omega) (by omega) ⟨x,hx,hk2⟩ h h2
theorem Sq.hiA (M:CmN prog w A κ it Ok N lt R) {xa xb lo:List Nat} {i j G p q m:Nat} (D:Two R N xa xb) (I:HI R xa xb lo i j) (h1:1≤i) (hi:i≤xa.length) (hj2:2≤j) (hj:j≤xb.length) (hm:m+i+j≤xa.length+xb.length+2) {li:List Nat} {pd:Array (Nat×Nat×Nat)} {g:Nat} {Q:ForInStep U7→SortSt→Prop} (h:∀r o i' j' G' p' q',Hot R it xa xb m r o i' j'→Q (.done (r,i',j',o,G',p',q')) (stt κ it li pd G)) (h2:∀o i' j' G' p' q',Ho R it xa xb m o i' j'→Q (.yield (none,i',j',o,G',p',q')) (stt κ it li pd G)):Sq prog w A E Ok (hiA (ar it xa) (ar it xb) (ar it lo) i j G p q) (stt κ it li pd g) Q:=by
 unfold EM.hiA;refine Sq.modB ?_;show Sq prog w A E Ok _ (stt κ it li pd G) Q;obtain⟨y,hy,hym⟩:=Zgk (xs:=xb) (i:=j - 1) (by omega);refine Sq.elemB hy ?_;refine Sq.galB M (D.hb y hym) D.ha (by omega) (by omega) fun k K=>?_
 dsimp only
 have kv:=K.vn;obtain⟨I2,hk2⟩:=I.gal M D.sa (upto M D.sb (by omega) hy (M.refl _)) hi K
 by_cases hk:i - k > 0
 ·rw[if_pos hk,ZsM,Zgi]
  by_cases e3:k=0
  ·rw[if_pos (by rw[e3]; rfl)]
   refine Sq.pure (h _ _ _ _ _ _ _ (.inl ⟨_,rfl,?_⟩));subst e3;exact I2.doneA
  rw[if_neg (by simpa using e3)];exact Sq.hiB M D I2 (by omega) (by omega) hj2 hj (by omega) ⟨y,hy,hk2⟩ h h2
 ·rw[if_neg hk]
  have e5:k=i:=by omega
  rw[e5,List.drop_of_length_le (by rw[List.length_take]; omega),List.reverse_nil,List.append_nil]at I2;rw[e5]at hk2;exact Sq.hiB M D I2 h1 hi hj2 hj (by omega) ⟨y,hy,hk2⟩ h h2
theorem Sq.hiS (M:CmN prog w A κ it Ok N lt R) {xa xb:List Nat} {o:Array Keyed} {i j G p q m:Nat} (D:Two R N xa xb) (I:Ho R it xa xb m o i j) {li:List Nat} {pd:Array (Nat×Nat×Nat)} {g:Nat} {Q:ForInStep U6→SortSt→Prop} (h:∀r o i' j' p' q',Hot R it xa xb (m+1) r o i' j'→Q (.done (r,i',j',o,p',q')) (stt κ it li pd g)) (h2:∀o i' j' p' q',Ho R it xa xb (m+1) o i' j'→Q (.yield (none,i',j',o,p',q')) (stt κ it li pd g)):Sq prog w A E Ok (hiS (ar it xa) (ar it xb) o i j p q G) (stt κ it li pd g) Q:=by
 obtain⟨⟨lo,rfl,I⟩,h1,hi,hj2,hj,hm⟩:=I;unfold EM.hiS;obtain⟨y,hy,hym⟩:=Zgk (xs:=xb) (i:=j - 1) (by omega);obtain⟨x,hx,hxm⟩:=Zgk (xs:=xa) (i:=i - 1) (by omega);refine Sq.elemB hy (Sq.elemB hx (Sq.askB M (D.hb y hym) (D.ha x hxm) ?_))
 dsimp only
 cases hl:lt y x with
 | true=>
  rw[if_pos rfl];refine Sq.elemB hx ?_;have I1:=I.one h1 hx (upto M D.sb (by omega) hy (M.yes _ _ hl));rw[ZdY]
  by_cases e:i - 1=0
  ·rw[if_pos (by rw[e]; rfl)]
   refine Sq.pure (h _ _ _ _ _ _ (.inl ⟨_,rfl,?_⟩));rw[e]at I1 ⊢;exact I1.doneA
  rw[if_neg (by simpa using e)];have g:Ho R it xa xb (m+1) (ar it (lo++[x])) (i - 1) j:=⟨⟨_,rfl,I1⟩,by omega,by omega,hj2,hj,by omega⟩
  split
  ·exact Sq.pure (h _ _ _ _ _ _ (.inr ⟨rfl,g⟩))
  ·exact Sq.pure (h2 _ _ _ _ _ g)
 | false=>
  rw[if_neg Bool.false_ne_true];refine Sq.elemB hy ?_;have I1:=(I.swap.one (by omega) hy (upto M D.sa h1 hx (M.no _ _ hl))).swap;rw[ZdY]
  by_cases e:j - 1=1
  ·rw[if_pos (by rw[e]; rfl)]
   refine Sq.pure (h _ _ _ _ _ _ (.inl ⟨_,rfl,?_⟩));rw[e]at I1 ⊢
   exact D.first M I1
  rw[if_neg (by simpa using e)];have g:Ho R it xa xb (m+1) (ar it (lo++[y])) i (j - 1):=⟨⟨_,rfl,I1⟩,h1,hi,by omega,by omega,by omega⟩
  split
  ·exact Sq.pure (h _ _ _ _ _ _ (.inr ⟨rfl,g⟩))
  ·exact Sq.pure (h2 _ _ _ _ _ g)
theorem Ho.le {xa xb:List Nat} {m m':Nat} {o:Array Keyed} {i j:Nat} (h:Ho R it xa xb m o i j) (e:m'≤m):Ho R it xa xb m' o i j:=⟨h.ex,h.i1,h.il,h.j2,h.jl,by have:=h.mm; omega⟩
theorem Sq.hiT (M:CmN prog w A κ it Ok N lt R) {xa xb:List Nat} {T m:Nat} (D:Two R N xa xb) (hT:T=xa.length+xb.length) {s:U5} (I:Ho R it xa xb m s.2.2.2.1 s.2.1 s.2.2.1) {li:List Nat} {pd:Array (Nat×Nat×Nat)} {g:Nat} {Q:ForInStep U5→SortSt→Prop} (h:∀r s' g',Mrg R it xa xb r→Q (.done (some r,s')) (stt κ it li pd g')) (h2:∀o i j G g',Ho R it xa xb (m+1) o i j→Q (.yield (none,i,j,o,G)) (stt κ it li pd g')):Sq prog w A E Ok (hiT (ar it xa) (ar it xb) T s) (stt κ it li pd g) Q:=by
 obtain⟨s0,i,j,o,G⟩:=s;have I:Ho R it xa xb m o i j:=I;unfold EM.hiT;refine Sq.bind (P1:=fun t st'=>st'=stt κ it li pd g∧Hot R it xa xb (m+1) t.1 t.2.2.2.1 t.2.1 t.2.2.1) ?_ ?_
 ·refine Sq.range (fun n t st'=>st'=stt κ it li pd g∧t.1=none∧Ho R it xa xb (m+n) t.2.2.2.1 t.2.1 t.2.2.1) ⟨rfl,rfl,I⟩ ?_ ?_
  ·rintro n _ ⟨t1,i,j,o,p,q⟩ st' hn ⟨rfl,rfl,I⟩
   exact Sq.hiS M D I (fun r o i' j' p' q' h'=>⟨rfl,h'.imp id fun h=>⟨h.1,h.2.le (by omega)⟩⟩) fun o i' j' p' q' h'=>⟨rfl,rfl,h'⟩
  ·rintro⟨t1,i,j,o,p,q⟩ st' ⟨rfl,rfl,I⟩
   have a1:1≤i:=I.i1;have a3:m+(T - 0)+i+j≤xa.length+xb.length:=I.mm;omega
 rintro⟨t1,i,j,o,p,q⟩ st' ⟨rfl,h1⟩
 rcases h1 with⟨r,hr,h1⟩ | ⟨hr,h1⟩
 ·obtain rfl:t1=some r:=hr
  exact Sq.pure (h r _ _ h1)
 obtain rfl:t1=none:=hr
 dsimp only
 refine Sq.ruleB ?_;refine Sq.bind (P1:=fun u st'=>∃g',st'=stt κ it li pd g'∧Hot R it xa xb (m+1) u.1 u.2.2.2.1 u.2.1 u.2.2.1) ?_ ?_
 ·refine Sq.range (fun n u st'=>∃g',st'=stt κ it li pd g'∧u.1=none∧Ho R it xa xb (m+1+n) u.2.2.2.1 u.2.1 u.2.2.1) ⟨g,rfl,rfl,h1⟩ ?_ ?_
  ·rintro n _ ⟨t1,i,j,o,G,p,q⟩ st' hn ⟨g',rfl,rfl,⟨⟨lo,e,I⟩,hi1,hi,hj2,hj,hm⟩⟩
   obtain rfl:o=ar it lo:=e;have a3:m+1+n+i+j≤xa.length+xb.length:=hm
   dsimp only
   split
   ·exact Sq.hiA (m:=m+1+(n+1)) M D I hi1 hi hj2 hj (by omega) (fun r o i' j' G' p' q' h'=>⟨_,rfl,h'.imp id fun h=>⟨h.1,h.2.le (by omega)⟩⟩) fun o i' j' G' p' q' h'=>⟨_,rfl,rfl,h'⟩
   ·exact Sq.hiA (m:=m+1+(n+1)) M D I hi1 hi hj2 hj (by omega) (fun r o i' j' G' p' q' h'=>⟨_,rfl,h'.imp id fun h=>⟨h.1,h.2.le (by omega)⟩⟩) fun o i' j' G' p' q' h'=>⟨_,rfl,rfl,h'⟩
  ·rintro⟨t1,i,j,o,G,p,q⟩ st' ⟨g',rfl,rfl,I⟩
   exact⟨g',rfl,.inr ⟨rfl,I.le (by omega)⟩⟩
 rintro⟨t1,i,j,o,G,p,q⟩ st' ⟨g',rfl,h1⟩
 rcases h1 with⟨r,hr,h1⟩ | ⟨hr,h1⟩
 ·obtain rfl:t1=some r:=hr
  exact Sq.pure (h r _ _ h1)
 obtain rfl:t1=none:=hr
 dsimp only
 refine Sq.modB ?_;exact Sq.pure (h2 _ _ _ _ _ h1)
theorem Sq.mhi (M:CmN prog w A κ it Ok N lt R) {xa xb:List Nat} (D:Two R N xa xb) {li:List Nat} {pd:Array (Nat×Nat×Nat)} {g:Nat} {Q:Array Keyed→SortSt→Prop} (h:∀o g',Mrg R it xa xb o→Q o (stt κ it li pd g')):Sq prog w A E Ok (mhi' (ar it xa) (ar it xb)) (stt κ it li pd g) Q:=by
 rw[Zsp,ZcU,ZcU];obtain⟨x0,y0,hx0,hy0,hxy⟩:=D.hd;obtain⟨z,hz,hc⟩:=D.la;have la:0 < xa.length:=(List.getElem?_eq_some_iff.mp hx0).1;have lb:0 < xb.length:=(List.getElem?_eq_some_iff.mp hy0).1;refine Sq.ruleB ?_;refine Sq.elemB hz ?_;have e0:(#[kas_item it z]:Array Keyed)=ar it [z]:=rfl;rw[e0];have I00:HI R xa xb [] xa.length xb.length:=⟨by simpa using D.sa,by simpa using D.sb,by simp⟩;have I0:HI R xa xb [z] (xa.length - 1) xb.length:=I00.one (by omega) hz (fun y hy=>hc y (List.mem_of_mem_take hy))
 by_cases e1:xa.length - 1=0
 ·rw[if_pos (by rw[e1]; rfl)]
  rw[e1]at I0 ⊢;exact Sq.pure (h _ _ I0.doneA)
 rw[if_neg (by simpa using e1)]
 by_cases e2:xb.length=1
 ·rw[if_pos (by rw[e2]; rfl)]
  rw[e2]at I0 ⊢;exact Sq.pure (h _ _ (D.first M I0))
 rw[if_neg (by simpa using e2)];refine Sq.getB ?_;refine Sq.bind (P1:=fun s st'=>∃g' r,st'=stt κ it li pd g'∧s.1=some r∧Mrg R it xa xb r) ?_ ?_
 ·refine Sq.range (fun n s st'=>∃g',st'=stt κ it li pd g'∧s.1=none∧Ho R it xa xb n s.2.2.2.1 s.2.1 s.2.2.1) ⟨g,rfl,rfl,⟨_,rfl,I0⟩,by show 1≤_ - 1; omega,by show _ - 1≤_; omega,by show 2≤xb.length; omega,Nat.le_refl _,by show 0+(xa.length - 1)+xb.length≤xa.length+xb.length; omega⟩ ?_ ?_
  ·rintro n _ s st' hn ⟨g',rfl,hs,I⟩
   exact Sq.hiT M D rfl I (fun r s' g' h'=>⟨g',r,rfl,rfl,h'⟩) fun o i j G g' h'=>⟨g',rfl,rfl,h'⟩
  ·rintro s st' ⟨g',rfl,hs,I⟩
   have a1:=I.i1;have a3:=I.mm;omega
 rintro⟨s1,s2⟩ st' ⟨g',r,rfl,rfl,h'⟩;exact Sq.pure (h r g' h')
end
end EM
namespace EM
open PySem PySem.W PyProof.Rows
abbrev Zto (p:Array (Nat×Nat×Nat)) (s:SortSt):SortSt:=SortSt.mk' (kindOf s) (arrOf s) p (gallopOf s) (failedOf s)
abbrev Zrf (m:Array Keyed) (t:Nat) (s:SortSt):SortSt:=SortSt.mk' (kindOf s) (m.toList.zipIdx.foldl (fun a (x:Keyed×Nat)=>a.setIfInBounds (t+x.2) x.1) (arrOf s)) (pendingOf s) (gallopOf s) (failedOf s)
theorem Zso (i:Nat):mergeAt' i=(do
  let s ←get
  let (some (a,m,p),some (b,n,_)):=((pendingOf s)[i]?,(pendingOf s)[i+1]?) | unsupported "internal:list.sort.pending"
  set (Zto (((pendingOf s).setIfInBounds i (a,m+n,p)).eraseIdxIfInBounds (i+1)) s)
  let some k ←gal' false (←elem' (arrOf s) b) (arrOf s) a m 0 | return false
  let (a,m):=(a+k,m - k)
  if m == 0 then return true
  let some n ←gal' true (←elem' (arrOf s) (a+m - 1)) (arrOf s) b n (n - 1) | return false
  if n == 0 then return true
  let x:=(arrOf s).extract a b
  let y:=(arrOf s).extract b (b+n)
  let z ←if m≤n then mlo' x y else mhi' x y
  modify (Zrf z a)
  return (failedOf (←get)).isNone):=rfl
end EM
namespace EM
open PySem PySem.W PyProof.Rows
abbrev V2:=Option (Option Nat)×Nat
abbrev V3:=Option (Option Nat)×Nat×Nat
def rnS (u n:Nat):StateT SortSt Sem (ForInStep V2):=do
 let some c ←ltAt' (u+n) (u+n - 1) | return .done (some none,n)
 if c then return .done (none,n)
 return .yield (none,n+1)
def rnD (u n q:Nat):StateT SortSt Sem (ForInStep V3):=do
 let some c ←ltAt' (u+n) (u+n - 1) | return .done (some none,n,q)
 if c then
  if q > 0 then
   reverseSlice' (u+n - (q+1)) (u+n)
   return .yield (none,n+1,0)
  else return .yield (none,n+1,0)
 else
  let some d ←ltAt' (u+n - 1) (u+n) | return .done (some none,n,q)
  if d then return .done (none,n,q)
  return .yield (none,n+1,q+1)
def rnT (u n m:Nat):StateT SortSt Sem (Option Nat):=do
 reverseSlice' u (u+n)
 let s:V2 ←forIn [n:m] (none,n) fun _ s=>rnS u s.2
 match s.1 with
 | some r=>return r
 | none=>return some s.2
def rnP (u n m:Nat):StateT SortSt Sem (Option Nat):=do
 PySem.rule "list.sort.descending-run"
 let s:V3 ←forIn [n+1:m] (none,n+1,0) fun _ s=>rnD u s.2.1 s.2.2
 match s.1 with
 | some r=>return r
 | none=>
  if s.2.2 > 0 then
   reverseSlice' (u+s.2.1 - (s.2.2+1)) (u+s.2.1)
   rnT u s.2.1 m
  else rnT u s.2.1 m
theorem ZrJ (u m:Nat):countRun' u m=(do
  let s:V2 ←forIn [1:m] (none,1) fun _ s=>rnS u s.2
  match s.1 with
  | some r=>return r
  | none=>
   if s.2 == m then return some s.2
   if s.2 > 1 then
    let some c ←ltAt' u (u+s.2 - 1) | return none
    if c then return some s.2
    reverseSlice' u (u+s.2)
    rnP u s.2 m
   else rnP u s.2 m):=by
 rw[countRun'_eq];unfold rnP rnT rnS rnD
 dsimp only
 congr 1
 funext s
 obtain⟨s1,n⟩:=s
 cases s1 with
 | some r=>rfl
 | none=>
  dsimp only
  split
  ·rfl
  ·split
   ·congr 1
    funext x
    cases x with
    | none=>rfl
    | some c=>
     dsimp only
     split
     ·rfl
     ·congr 1
      funext _
      congr 1
      funext _
      congr 1
      funext s2
      obtain⟨s1,n2,q2⟩:=s2
      cases s1 with
      | some r=>rfl
      | none=>
       dsimp only
       split
       ·congr 1
        funext _
        congr 1
        funext _
        congr 1
        funext s3
        obtain⟨s1,n3⟩:=s3
        cases s1 <;> rfl
       ·congr 1
        funext _
        congr 1
        funext s3
        obtain⟨s1,n3⟩:=s3
        cases s1 <;> rfl
   ·congr 1
    funext _
    congr 1
    funext s2
    obtain⟨s1,n2,q2⟩:=s2
    cases s1 with
    | some r=>rfl
    | none=>
     dsimp only
     split
     ·congr 1
      funext _
      congr 1
      funext _
      congr 1
      funext s3
      obtain⟨s1,n3⟩:=s3
      cases s1 <;> rfl
     ·congr 1
      funext _
      congr 1
      funext s3
      obtain⟨s1,n3⟩:=s3
      cases s1 <;> rfl
end EM
namespace EM
open PySem PySem.W PyProof.Rows
section
variable {prog:Program} {w:World} {A:Around} {E:Value→Shared→Prop} {κ:SortKind} {it:Array Keyed} {Ok:Shared→Prop} {N:Nat} {lt:Nat→Nat→Bool} {R:Nat→Nat→Prop} {α β:Type} {pd:Array (Nat×Nat×Nat)} {g:Nat}
def stA (κ:SortKind) (it:Array Keyed) (p:Array Nat) (pd:Array (Nat×Nat×Nat)) (g:Nat):SortSt:=SortSt.mk' κ (p.map (kas_item it)) pd g none
theorem Zk8 (l:List Nat):stA κ it l.toArray pd g=stt κ it l pd g:=by unfold stA stt; rw[List.map_toArray]
theorem Sq.at {p:Array Nat} {i j:Nat} {f:Option Bool→StateT SortSt Sem β} {Q:β→SortSt→Prop} (M:CmN prog w A κ it Ok N lt R) (hG:Ga N p) (hi:i < N) (hj:j < N) (h:Sq prog w A E Ok (f (some (lt (p.getD i 0) (p.getD j 0)))) (stA κ it p pd g) Q):Sq prog w A E Ok (ltAt' i j >>= f) (stA κ it p pd g) Q:=by
 have h0:0 < N:=by omega
 have ge:∀k,k < N→(p.map (kas_item it))[k]?=some (kas_item it (p.getD k 0)):=fun k hk=>by
  have e:p.getD k 0=p[k]'(by rw[hG.sz]; exact hk):=by simp[Array.getD,hG.sz,hk]
  rw[e];simp[hG.sz,hk]
 refine Sq.bind (P1:=fun a st'=>a=some (lt (p.getD i 0) (p.getD j 0))∧st'=stA κ it p pd g) ?_ (by rintro _ _ ⟨rfl,rfl⟩; exact h);rw[ltAt'_eq];refine Sq.getB ?_;show Sq prog w A E Ok (do let x ←elem' (p.map (kas_item it)) i; let y ←elem' (p.map (kas_item it)) j; lt' x y) _ _;rw[elem'_eq,elem'_eq,ge i hi,ge j hj];refine Sq.bind (P1:=fun a st'=>a=kas_item it (p.getD i 0)∧st'=stA κ it p pd g) (Sq.pure ⟨rfl,rfl⟩) ?_;rintro _ _ ⟨rfl,rfl⟩;refine Sq.bind (P1:=fun a st'=>a=kas_item it (p.getD j 0)∧st'=stA κ it p pd g) (Sq.pure ⟨rfl,rfl⟩) ?_;rintro _ _ ⟨rfl,rfl⟩;have:=Sq.ask (E:=E) (l:=p.toList) (pd:=pd) (g:=g) (Q:=fun a st'=>a=some (lt (p.getD i 0) (p.getD j 0))∧st'=stA κ it p pd g) M (hG.lo h0 i) (hG.lo h0 j) ⟨rfl,by rw[←Zk8,Array.toArray_toList]⟩;rw[←Zk8,Array.toArray_toList]at this;exact this
theorem Sq.rev {p:Array Nat} {i j:Nat} {f:Unit→StateT SortSt Sem β} {Q:β→SortSt→Prop} (h:Sq prog w A E Ok (f ()) (stA κ it (kas_rev p i j) pd g) Q):Sq prog w A E Ok (reverseSlice' i j >>= f) (stA κ it p pd g) Q:=by
 refine Sq.bind (P1:=fun _ st'=>st'=stA κ it (kas_rev p i j) pd g) ?_ (by rintro _ _ rfl; exact h);rw[reverseSlice'_eq];refine Sq.modify ?_;show SortSt.mk' κ (mirror (p.map (kas_item it)) i j ((j - i) / 2)) pd g none=SortSt.mk' κ ((mirror p i j ((j - i) / 2)).map (kas_item it)) pd g none;have e1:mirror (p.map (kas_item it)) i j ((j - i) / 2)=(mirror p i j ((j - i) / 2)).map (kas_item it):=kas_swaps_map (kas_item it) (fun k=>i+k) (fun k=>j - 1 - k) _ p;rw[e1]
theorem Sq.down {p:Array Nat} {k l:Nat} {f:Unit→StateT SortSt Sem β} {Q:β→SortSt→Prop} (h:Sq prog w A E Ok (f ()) (stA κ it (bubble p k (k - l)) pd g) Q):Sq prog w A E Ok (moveDown' k l >>= f) (stA κ it p pd g) Q:=by
 refine Sq.bind (P1:=fun _ st'=>st'=stA κ it (bubble p k (k - l)) pd g) ?_ (by rintro _ _ rfl; exact h);rw[moveDown'_eq];refine Sq.modify ?_;show SortSt.mk' κ (bubble (p.map (kas_item it)) k (k - l)) pd g none=SortSt.mk' κ ((bubble p k (k - l)).map (kas_item it)) pd g none;have e1:bubble (p.map (kas_item it)) k (k - l)=(bubble p k (k - l)).map (kas_item it):=kas_swaps_map (kas_item it) (fun i=>k - i) (fun i=>k - i - 1) _ p;rw[e1]
def AscO (R:Nat→Nat→Prop) (p:Array Nat) (u m:Nat):Prop:=∀i,i+1 < m→R (p.getD (u+i) 0) (p.getD (u+i+1) 0)
def DscO (R:Nat→Nat→Prop) (p:Array Nat) (u m:Nat):Prop:=∀i,i+1 < m→R (p.getD (u+i+1) 0) (p.getD (u+i) 0)
def AlkO (R:Nat→Nat→Prop) (p:Array Nat) (u a m:Nat):Prop:=∀i,a≤i→i+1 < m→R (p.getD (u+i) 0) (p.getD (u+i+1) 0)
def PreO (p p':Array Nat) (u:Nat):Prop:=∀k,k < u→p'.getD k 0=p.getD k 0
theorem AscO.le (M:CmN prog w A κ it Ok N lt R) {p:Array Nat} {u m:Nat} (h:AscO R p u m) {i j:Nat} (hij:i≤j) (hj:j < m):R (p.getD (u+i) 0) (p.getD (u+j) 0):=by
 induction j with
 | zero=>
  have:i=0:=by omega
  subst this; exact M.refl _
 | succ j ih=>
  by_cases e:i=j+1
  ·subst e; exact M.refl _
  ·exact M.tr _ _ _ (ih (by omega) (by omega)) (h j hj)
theorem DscO.le (M:CmN prog w A κ it Ok N lt R) {p:Array Nat} {u m:Nat} (h:DscO R p u m) {i j:Nat} (hij:i≤j) (hj:j < m):R (p.getD (u+j) 0) (p.getD (u+i) 0):=by
 induction j with
 | zero=>
  have:i=0:=by omega
  subst this; exact M.refl _
 | succ j ih=>
  by_cases e:i=j+1
  ·subst e; exact M.refl _
  ·exact M.tr _ _ _ (h j hj) (ih (by omega) (by omega))
theorem PreO.rev {p p':Array Nat} {u i j:Nat} (h:PreO p p' u) (hui:u≤i) (hij:i≤j) (hj:j≤p'.size):PreO p (kas_rev p' i j) u:=fun k hk=>by
 rw[Ze3 hj hij,if_neg (by omega)];exact h k hk
theorem Zkv (M:CmN prog w A κ it Ok N lt R) {p:Array Nat} {u a m:Nat} (hs:u+m≤p.size) (ham:a≤m) (d:DscO R p u m) (k:AlkO R p u a m):DscO R (kas_rev p (u+a) (u+m)) u m:=fun i hi=>by
 rw[Ze3 hs (by omega),Ze3 hs (by omega)]
 by_cases h1:a≤i
 ·rw[if_pos (by omega),if_pos (by omega)]
  have:=k (a+m - 1 - (i+1)) (by omega) (by omega);rw[show u+(a+m - 1 - (i+1))+1=u+a+(u+m) - 1 - (u+i) by omega,show u+(a+m - 1 - (i+1))=u+a+(u+m) - 1 - (u+i+1) by omega]at this;exact this
 ·rw[if_neg (show ¬(u+a≤u+i∧u+i < u+m) by omega)]
  by_cases h2:a≤i+1
  ·rw[if_pos (by omega)]
   have e:i+1=a:=by omega
   have r1:=d.le M (i:=a) (j:=m - 1) (by omega) (by omega);have r2:=d i hi;rw[show u+i+1=u+a by omega]at r2;rw[show u+a+(u+m) - 1 - (u+i+1)=u+(m - 1) by omega];exact M.tr _ _ _ r1 r2
  ·rw[if_neg (by omega)]
   exact d i hi
theorem Sq.rnS (M:CmN prog w A κ it Ok N lt R) {p:Array Nat} {u m a:Nat} (hG:Ga N p) (hz:u+m≤N) (ha1:1≤a) (ham:a≤m) (hA:AscO R p u a) {f:V2→StateT SortSt Sem β} {Q:β→SortSt→Prop} (h:∀n,a≤n→n≤m→AscO R p u n→(n=m∨R (p.getD (u+n) 0) (p.getD (u+n - 1) 0))→Sq prog w A E Ok (f (none,n)) (stA κ it p pd g) Q):Sq prog w A E Ok (forIn [a:m] (none,a) (fun _ s=>EM.rnS u s.2) >>= f) (stA κ it p pd g) Q:=by
 refine Sq.bind (P1:=fun c st'=>∃n,c=(none,n)∧st'=stA κ it p pd g∧a≤n∧n≤m∧AscO R p u n∧(n=m∨R (p.getD (u+n) 0) (p.getD (u+n - 1) 0))) ?_ (by rintro _ _ ⟨n,rfl,rfl,b1,b2,b3,b4⟩; exact h n b1 b2 b3 b4);refine Sq.range (fun i c st'=>c=(none,a+i)∧st'=stA κ it p pd g∧AscO R p u (a+i)) ⟨rfl,rfl,hA⟩ ?_ ?_
 ·rintro i x c st' hi ⟨rfl,rfl,hA⟩
  unfold EM.rnS;refine Sq.at M hG (by show u+(a+i) < N; omega) (by show u+(a+i) - 1 < N; omega) ?_
  dsimp only
  cases hl:lt (p.getD (u+(a+i)) 0) (p.getD (u+(a+i) - 1) 0) with
  | true=>
   rw[if_pos rfl];exact Sq.pure ⟨_,rfl,rfl,by omega,by omega,hA,.inr (M.yes _ _ hl)⟩
  | false=>
   rw[if_neg Bool.false_ne_true];refine Sq.pure ⟨rfl,rfl,fun j hj=>?_⟩
   by_cases e:j+1 < a+i
   ·exact hA j e
   ·have:=M.no _ _ hl
    rw[show u+j=u+(a+i) - 1 by omega,show u+(a+i) - 1+1=u+(a+i) by omega];exact this
 ·rintro c st' ⟨rfl,rfl,hA⟩
  exact⟨_,rfl,rfl,by omega,by omega,hA,.inl (by omega)⟩
def Run (R:Nat→Nat→Prop) (N:Nat) (p0 p:Array Nat) (u m n:Nat):Prop:=Ga N p∧PreO p0 p u∧1≤n∧n≤m∧AscO R p u n
theorem Sq.rnT (M:CmN prog w A κ it Ok N lt R) {p0 p:Array Nat} {u m n:Nat} (hG:Ga N p) (hP:PreO p0 p u) (hz:u+m≤N) (hn1:1≤n) (hnm:n≤m) (d:DscO R p u n) {Q:Option Nat→SortSt→Prop} (h:∀n p',Run R N p0 p' u m n→Q (some n) (stA κ it p' pd g)):Sq prog w A E Ok (EM.rnT u n m) (stA κ it p pd g) Q:=by
 unfold EM.rnT
 have hs:u+n≤p.size:=by rw[hG.sz]; omega
 refine Sq.rev ?_;refine Sq.rnS M (hG.rev _ _) hz hn1 hnm (fun i hi=>?_) fun n' b1 b2 b3 _=>?_
 ·rw[Ze3 hs (by omega),Ze3 hs (by omega),if_pos (by omega),if_pos (by omega)]
  have:=d (n - 1 - (i+1)) (by omega);rw[show u+(n - 1 - (i+1))+1=u+(u+n) - 1 - (u+i) by omega,show u+(n - 1 - (i+1))=u+(u+n) - 1 - (u+i+1) by omega]at this;exact this
 ·exact Sq.pure (h n' _ ⟨hG.rev _ _,hP.rev (Nat.le_refl _) (by omega) hs,by omega,b2,b3⟩)
theorem Sq.rnP (M:CmN prog w A κ it Ok N lt R) {p0 p:Array Nat} {u m n:Nat} (hG:Ga N p) (hP:PreO p0 p u) (hz:u+m≤N) (hn1:1≤n) (hnm:n+1≤m) (d:DscO R p u (n+1)) {Q:Option Nat→SortSt→Prop} (h:∀n p',Run R N p0 p' u m n→Q (some n) (stA κ it p' pd g)):Sq prog w A E Ok (EM.rnP u n m) (stA κ it p pd g) Q:=by
 unfold EM.rnP;refine Sq.ruleB ?_;refine Sq.bind (P1:=fun c st'=>∃n q p,c=(none,n,q)∧st'=stA κ it p pd g∧Ga N p∧PreO p0 p u∧q+1≤n∧n≤m∧DscO R p u n∧AlkO R p u (n - (q+1)) n) ?_ ?_
 ·refine Sq.range (fun i c st'=>∃q p,c=(none,n+1+i,q)∧st'=stA κ it p pd g∧Ga N p∧PreO p0 p u∧q+1≤n+1+i∧DscO R p u (n+1+i)∧AlkO R p u (n+1+i - (q+1)) (n+1+i)) ⟨0,p,rfl,rfl,hG,hP,by omega,d,fun i h1 h2=>by omega⟩ ?_ ?_
  ·rintro i x c st' hi ⟨q,p,rfl,rfl,hG,hP,hq,d,al⟩
   generalize hk:n+1+i=k at hq d al
   have hk1:2≤k:=by omega
   have hkm:k < m:=by omega
   have em:u+(k - 1)+1=u+k:=by omega
   have em2:u+k - 1=u+(k - 1):=by omega
   have hs:u+k≤p.size:=by rw[hG.sz]; omega
   unfold EM.rnD
   dsimp only
   refine Sq.at M hG (by omega) (by omega) ?_
   dsimp only
   cases hl:lt (p.getD (u+k) 0) (p.getD (u+k - 1) 0) with
   | true=>
    rw[if_pos rfl];have rm:=M.yes _ _ hl
    by_cases hq0:q > 0
    ·rw[if_pos hq0]
     refine Sq.rev (Sq.pure ⟨0,_,by rw[←hk,Nat.add_assoc],rfl,hG.rev _ _,hP.rev (by omega) (by omega) hs,by omega,?_,fun j h1 h2=>by omega⟩);rw[show n+1+(i+1)=k+1 by omega,show u+k - (q+1)=u+(k - (q+1)) by omega];intro j hj
     by_cases e:j+1 < k
     ·exact Zkv M hs (by omega) d al j e
     ·have ej:j=k - 1:=by omega
      subst ej;rw[em,Ze3 hs (by omega),Ze3 hs (by omega),if_neg (by omega),if_pos (by omega),show u+(k - (q+1))+(u+k) - 1 - (u+(k - 1))=u+(k - (q+1)) by omega];rw[em2]at rm;exact M.tr _ _ _ rm (d.le M (by omega) (by omega))
    ·rw[if_neg hq0]
     refine Sq.pure ⟨0,p,by rw[←hk,Nat.add_assoc],rfl,hG,hP,by omega,?_,fun j h1 h2=>by omega⟩;rw[show n+1+(i+1)=k+1 by omega];intro j hj
     by_cases e:j+1 < k
     ·exact d j e
     ·have ej:j=k - 1:=by omega
      subst ej;rw[em]; rw[em2]at rm; exact rm
   | false=>
    rw[if_neg Bool.false_ne_true];refine Sq.at M hG (by omega) (by omega) ?_
    dsimp only
    cases hl2:lt (p.getD (u+k - 1) 0) (p.getD (u+k) 0) with
    | true=>
     rw[if_pos rfl];exact Sq.pure ⟨k,q,p,rfl,rfl,hG,hP,hq,by omega,d,al⟩
    | false=>
     rw[if_neg Bool.false_ne_true];have r1:=M.no _ _ hl;have r2:=M.no _ _ hl2;rw[em2]at r1 r2;refine Sq.pure ⟨q+1,p,by rw[←hk,Nat.add_assoc],rfl,hG,hP,by omega,?_,?_⟩
     ·rw[show n+1+(i+1)=k+1 by omega]
      intro j hj
      by_cases e:j+1 < k
      ·exact d j e
      ·have ej:j=k - 1:=by omega
       subst ej;rw[em]; exact r2
     ·rw[show n+1+(i+1)=k+1 by omega]
      intro j h1 h2
      by_cases e:j+1 < k
      ·exact al j (by omega) e
      ·have ej:j=k - 1:=by omega
       subst ej;rw[em]; exact r1
  ·rintro c st' ⟨q,p,rfl,rfl,hG,hP,hq,d,al⟩
   exact⟨_,q,p,rfl,rfl,hG,hP,hq,by omega,d,al⟩
 rintro c st' ⟨n',q,p',rfl,rfl,hG',hP',hq,hn',d',al⟩
 dsimp only
 have hs:u+n'≤p'.size:=by rw[hG'.sz]; omega
 by_cases hq0:q > 0
 ·rw[if_pos hq0]
  refine Sq.rev ?_;rw[show u+n' - (q+1)=u+(n' - (q+1)) by omega];exact Sq.rnT M (hG'.rev _ _) (hP'.rev (by omega) (by omega) hs) hz (by omega) hn' (Zkv M hs (by omega) d' al) h
 ·rw[if_neg hq0]
  exact Sq.rnT M hG' hP' hz (by omega) hn' d' h
theorem Sq.cnt (M:CmN prog w A κ it Ok N lt R) {p:Array Nat} {u m:Nat} (hG:Ga N p) (hz:u+m≤N) (hm1:1≤m) {Q:Option Nat→SortSt→Prop} (h:∀n p',Run R N p p' u m n→Q (some n) (stA κ it p' pd g)):Sq prog w A E Ok (countRun' u m) (stA κ it p pd g) Q:=by
 rw[ZrJ];have hP:PreO p p u:=fun k _=>rfl;refine Sq.rnS M hG hz (Nat.le_refl 1) hm1 (fun i hi=>by omega) fun n b1 b2 b3 b4=>?_
 dsimp only
 have hs:u+n≤p.size:=by rw[hG.sz]; omega
 by_cases e:n=m
 ·rw[if_pos (by rw[e]; exact beq_self_eq_true _)]
  exact Sq.pure (h n p ⟨hG,hP,b1,b2,b3⟩)
 rw[if_neg (by simpa using e)];have rm:R (p.getD (u+n) 0) (p.getD (u+n - 1) 0):=b4.resolve_left e
 by_cases h1:n > 1
 ·rw[if_pos h1]
  refine Sq.at M hG (by omega) (by omega) ?_
  dsimp only
  cases hl:lt (p.getD u 0) (p.getD (u+n - 1) 0) with
  | true=>
   rw[if_pos rfl];exact Sq.pure (h n p ⟨hG,hP,b1,b2,b3⟩)
  | false=>
   rw[if_neg Bool.false_ne_true];refine Sq.rev ?_;refine Sq.rnP M (hG.rev _ _) (hP.rev (Nat.le_refl _) (by omega) hs) hz b1 (by omega) (fun i hi=>?_) h;rw[Ze3 hs (by omega),Ze3 hs (by omega)]
   by_cases e2:i+1 < n
   ·rw[if_pos (by omega),if_pos (by omega)]
    have:=b3 (n - 1 - (i+1)) (by omega);rw[show u+(n - 1 - (i+1))+1=u+(u+n) - 1 - (u+i) by omega,show u+(n - 1 - (i+1))=u+(u+n) - 1 - (u+i+1) by omega]at this;exact this
   ·have ei:i+1=n:=by omega
    rw[if_neg (by omega),if_pos (by omega),show u+i+1=u+n by omega,show u+(u+n) - 1 - (u+i)=u by omega];exact M.tr _ _ _ rm (M.no _ _ hl)
 ·rw[if_neg h1]
  refine Sq.rnP M hG hP hz b1 (by omega) (fun i hi=>?_) h
  have ei:i=0:=by omega
  have en:n=1:=by omega
  subst ei en;exact rm
end
end EM
namespace EM
open PySem PySem.W PyProof.Rows
section
variable {prog:Program} {w:World} {A:Around} {E:Value→Shared→Prop} {κ:SortKind} {it:Array Keyed} {Ok:Shared→Prop} {N:Nat} {lt:Nat→Nat→Bool} {R:Nat→Nat→Prop} {α β:Type} {pd:Array (Nat×Nat×Nat)} {g:Nat}
theorem Sq.listX {f:Nat→β→StateT SortSt Sem (ForInStep β)} {Q:β→SortSt→Prop} (I:Nat→β→SortSt→Prop) (b:Nat) (hs:∀x c st,x < b→I x c st→Sq prog w A E Ok (f x c) st (fun r st'=>match r with | .done c'=>Q c' st' | .yield c'=>I (x+1) c' st')) (he:∀c st,I b c st→Q c st):∀(n x:Nat) (c:β) (st:SortSt),x+n=b→I x c st→Sq prog w A E Ok (forIn (List.range' x n) c f) st Q
 | 0,x,c,st,hl,h=>by
  have e:x=b:=by omega
  subst e;exact fun C s o k=>kasC_nil (k _ _ s o (he c st h))
 | n+1,x,c,st,hl,h=>by
  rw[List.range'_succ];refine fun C s o k=>kasC_cons (hs x c st (by omega) h _ s o fun r st' s' o' p=>?_)
  cases r with
  | done c'=>exact k _ _ s' o' p
  | yield c'=>exact Sq.listX I b hs he n (x+1) c' st' (by omega) p C s' o' k
theorem Sq.rangeX {a b:Nat} {c:β} {f:Nat→β→StateT SortSt Sem (ForInStep β)} {st:SortSt} {Q:β→SortSt→Prop} (I:Nat→β→SortSt→Prop) (hab:a≤b) (h0:I a c st) (hs:∀x c st,x < b→I x c st→Sq prog w A E Ok (f x c) st (fun r st'=>match r with | .done c'=>Q c' st' | .yield c'=>I (x+1) c' st')) (he:∀c st,I b c st→Q c st):Sq prog w A E Ok (forIn [a:b] c f) st Q:=fun C s o k=>
 kasC_range (Sq.listX I b hs he _ a c st (by omega) h0 C s o k)
theorem PreO.bub {p p':Array Nat} {u k l:Nat} (h:PreO p p' u) (hul:u≤l) (hlk:l≤k) (hk:k < p'.size):PreO p (bubble p' k (k - l)) u:=fun i hi=>by
 rw[Zmo hk hlk,if_neg (by omega),if_neg (by omega)];exact h i hi
theorem Sq.bin (M:CmN prog w A κ it Ok N lt R) {p0 p:Array Nat} {u m ok:Nat} (hG:Ga N p) (hP:PreO p0 p u) (hz:u+m≤N) (h1:1≤ok) (hok:ok≤m) (hA:AscO R p u ok) {Q:Bool→SortSt→Prop} (h:∀p',Ga N p'→PreO p0 p' u→AscO R p' u m→Q true (stA κ it p' pd g)):Sq prog w A E Ok (binarySort' u m ok) (stA κ it p pd g) Q:=by
 rw[binarySort'_eq,show max ok 1=ok by omega];refine Sq.bind (P1:=fun c st'=>∃p,c=(none,())∧st'=stA κ it p pd g∧Ga N p∧PreO p0 p u∧AscO R p u m) ?_ (by rintro _ _ ⟨p,rfl,rfl,b1,b2,b3⟩; exact Sq.pure (h p b1 b2 b3));refine Sq.rangeX (fun k c st'=>∃p,c=(none,())∧st'=stA κ it p pd g∧Ga N p∧PreO p0 p u∧1≤k∧AscO R p u k) hok ⟨p,rfl,rfl,hG,hP,h1,hA⟩ ?_ (by rintro c st' ⟨p,rfl,rfl,b1,b2,_,b3⟩; exact⟨p,rfl,rfl,b1,b2,b3⟩);clear hG hP hA;rintro k c st' hk ⟨p,rfl,rfl,hG,hP,hk1,a⟩
 have hks:u+k < p.size:=by rw[hG.sz]; omega
 dsimp only
 refine Sq.bind (P1:=fun c st'=>∃l,c=(none,l,l)∧st'=stA κ it p pd g∧l≤k∧(∀i,i < l→R (p.getD (u+i) 0) (p.getD (u+k) 0))∧∀i,l≤i→i < k→R (p.getD (u+k) 0) (p.getD (u+i) 0)) ?_ ?_
 ·refine Sq.range (fun i c st'=>∃l r,c=(none,l,r)∧st'=stA κ it p pd g∧l≤r∧r≤k∧r - l≤k - i∧(∀i,i < l→R (p.getD (u+i) 0) (p.getD (u+k) 0))∧∀i,r≤i→i < k→R (p.getD (u+k) 0) (p.getD (u+i) 0)) ⟨0,k,rfl,rfl,by omega,by omega,by omega,fun i z=>by omega,fun i z1 z2=>by omega⟩ ?_ ?_
  ·rintro i x c st' hi ⟨l,r,rfl,rfl,b1,b2,b3,b4,b5⟩
   dsimp only
   by_cases hlr:l ≥ r
   ·rw[if_pos hlr]
    have e:l=r:=by omega
    subst e;exact Sq.pure ⟨l,rfl,rfl,b2,b4,b5⟩
   ·rw[if_neg hlr]
    refine Sq.at M hG (by omega) (by omega) ?_
    dsimp only
    cases hl:lt (p.getD (u+k) 0) (p.getD (u+(l+r) / 2) 0) with
    | true=>
     rw[if_pos rfl];exact Sq.pure ⟨_,_,rfl,rfl,by omega,by omega,by omega,b4,fun i h4 h5=>M.tr _ _ _ (M.yes _ _ hl) (a.le M h4 h5)⟩
    | false=>
     rw[if_neg Bool.false_ne_true];exact Sq.pure ⟨_,_,rfl,rfl,by omega,by omega,by omega,fun i h4=>M.tr _ _ _ (a.le M (i:=i) (j:=(l+r) / 2) (by omega) (by omega)) (M.no _ _ hl),b5⟩
  ·rintro c st' ⟨l,r,rfl,rfl,b1,b2,b3,b4,b5⟩
   have e:l=r:=by omega
   subst e;exact⟨l,rfl,rfl,b2,b4,b5⟩
 rintro c st' ⟨l,rfl,rfl,y1,y2,y3⟩
 dsimp only
 refine Sq.down ?_;refine Sq.pure ⟨_,rfl,rfl,hG.bub _ _,hP.bub (by omega) (by omega) hks,by omega,fun i hi=>?_⟩;rw[Zmo hks (by omega),Zmo hks (by omega)]
 by_cases c1:i=l
 ·rw[if_pos (by omega),if_neg (by omega),if_pos (by omega),show u+i+1 - 1=u+l by omega]
  exact y3 l (Nat.le_refl _) (by omega)
 ·rw[if_neg (by omega)]
  by_cases c2:l < i
  ·rw[if_pos (by omega),if_neg (by omega),if_pos (by omega)]
   have:=a (i - 1) (by omega);rw[show u+(i - 1)+1=u+i+1 - 1 by omega,show u+(i - 1)=u+i - 1 by omega]at this;exact this
  ·rw[if_neg (by omega)]
   by_cases c3:i+1=l
   ·rw[if_pos (by omega)]
    exact y2 i (by omega)
   ·rw[if_neg (by omega),if_neg (by omega)]
    exact a i (by omega)
theorem ZmH (M:CmN prog w A κ it Ok N lt R) {l:Bool} {k v:Nat} {P X T:List Nat} (sx:X.Pairwise R) (G:Gal lt l k (P++(X++T)) P.length X.length v v):v≤X.length∧(∀x∈X.take v,R x k)∧∀x∈X.drop v,R k x:=by
 have ge:∀i,i < X.length→(P++(X++T))[P.length+i]?=X[i]?:=fun i hi=>by
  rw[List.getElem?_append_right (by omega),Nat.add_sub_cancel_left,List.getElem?_append_left hi]
 have vn:=G.vn;refine⟨vn,?_,?_⟩
 ·rcases G.lo with e | ⟨z,hz,hf⟩
  ·rw[e]
   intro x hx;simp at hx
  ·cases v with
   | zero=>intro x hx; simp at hx
   | succ v=>
    rw[Nat.add_sub_cancel,ge v (by omega)]at hz;exact fun x hx=>M.tr _ _ _ (ZoH M sx hz x hx) (ZmC M hf)
 ·rcases G.hi with e | ⟨z,hz,hf⟩
  ·rw[e,List.drop_length]
   intro x hx
   cases hx
  ·by_cases hv:v < X.length
   ·rw[ge v hv]at hz
    exact fun x hx=>M.tr _ _ _ (Zqu M hf) (ZjP M (sx.sublist (List.drop_sublist _ _)) (Zd1 hz).1 x hx)
   ·rw[List.drop_of_length_le (by omega)]
    intro x hx
    cases hx
theorem ZsJ {α:Type}:∀(z pre old suf:List α) (t:Nat),old.length=z.length→pre.length=t→(z.zipIdx.foldl (fun(a:Array α) (x:α×Nat)=>a.setIfInBounds (t+x.2) x.1) (pre++(old++suf)).toArray)=(pre++(z++suf)).toArray:=by
 have key:∀(z:List α) (n:Nat) (pre old suf:List α) (t:Nat),old.length=z.length→pre.length=t+n→((z.zipIdx n).foldl (fun(a:Array α) (x:α×Nat)=>a.setIfInBounds (t+x.2) x.1) (pre++(old++suf)).toArray)=(pre++(z++suf)).toArray:=by
  intro z
  induction z with
  | nil=>
   intro n pre old suf t h1 h2;have:old=[]:=List.length_eq_zero_iff.mp h1;subst this;rfl
  | cons x z ih=>
   intro n pre old suf t h1 h2
   cases old with
   | nil=>simp at h1
   | cons y old=>
    rw[List.zipIdx_cons,List.foldl_cons]
    have e:(pre++(y::old++suf)).toArray.setIfInBounds (t+n) x=((pre++[x])++(old++suf)).toArray:=by
     rw[List.setIfInBounds_toArray,List.set_append_right _ _ (by omega),h2,Nat.sub_self];simp
    show List.foldl _ ((pre++(y::old++suf)).toArray.setIfInBounds (t+n) x) _=_;rw[e,ih (n+1) (pre++[x]) old suf t (by simpa using h1) (by rw[List.length_append,List.length_singleton]; omega)];simp
 intro z pre old suf t h1 h2;exact key z 0 pre old suf t h1 (by omega)
theorem Sq.setB {s':SortSt} {f:PUnit→StateT SortSt Sem β} {st:SortSt} {Q:β→SortSt→Prop} (h:Sq prog w A E Ok (f ⟨⟩) s' Q):Sq prog w A E Ok ((MonadStateOf.set s':StateT SortSt Sem PUnit) >>= f) st Q:=fun C s o k=>by
 have:=h C s o k;unfold kasC at this ⊢;rw[StateT.run_bind,StateT.run_set];exact wpAny_bind (wpAny_pure this)
theorem Sq.mat (M:CmN prog w A κ it Ok N lt R) {P X Y S:List Nat} {i p p2:Nat} (hn:∀x∈P++(X++(Y++S)),x < N) (sx:X.Pairwise R) (sy:Y.Pairwise R) (x1:X≠[]) (y1:Y≠[]) (ha:pd[i]?=some (P.length,X.length,p)) (hb:pd[i+1]?=some (P.length+X.length,Y.length,p2)) {Q:Bool→SortSt→Prop} (h:∀Z g',Z.Pairwise R→Z.Perm (X++Y)→Q true (stt κ it (P++(Z++S)) ((pd.setIfInBounds i (P.length,X.length+Y.length,p)).eraseIdxIfInBounds (i+1)) g')):Sq prog w A E Ok (mergeAt' i) (stt κ it (P++(X++(Y++S))) pd g) Q:=by
 rw[Zso];refine Sq.getB ?_;have e1:pendingOf (stt κ it (P++(X++(Y++S))) pd g)=pd:=rfl;have e2:arrOf (stt κ it (P++(X++(Y++S))) pd g)=ar it (P++(X++(Y++S))):=rfl;rw[e1,ha,hb]
 dsimp only
 refine Sq.setB ?_;generalize ((pd.setIfInBounds i (P.length,X.length+Y.length,p)).eraseIdxIfInBounds (i+1))=pd' at h ⊢;show Sq prog w A E Ok _ (stt κ it (P++(X++(Y++S))) pd' g) Q;have lx:0 < X.length:=List.length_pos_iff.mpr x1;have ly:0 < Y.length:=List.length_pos_iff.mpr y1;obtain⟨y0,hy0,hy0m⟩:=Zgk (xs:=Y) (i:=0) ly;obtain⟨xl,hxl,hxlm⟩:=Zgk (xs:=X) (i:=X.length - 1) (by omega);have hnx:∀x∈X,x < N:=fun x hx=>hn x (by simp[hx]);have hny:∀x∈Y,x < N:=fun x hx=>hn x (by simp[hx])
 have gy0:(P++(X++(Y++S)))[P.length+X.length]?=some y0:=by
  rw[List.getElem?_append_right (by omega),List.getElem?_append_right (by omega),show P.length+X.length - P.length - X.length=0 by omega,List.getElem?_append_left ly];exact hy0
 rw[e2];refine Sq.elemB gy0 ?_;refine Sq.galB M (hny y0 hy0m) hn (by simp only [List.length_append]; omega) lx fun k K=>?_;obtain⟨kx,f1,f2⟩:=ZmH M sx K
 dsimp only
 have aY:∀y∈Y,R y0 y:=ZjP M sy hy0;have aX:∀x∈X,R x xl:=fun x hx=>ZoH M sx hxl x (by rw[show X.length - 1+1=X.length by omega,List.take_length]; exact hx)
 have same:(∀x∈X,∀y∈Y,R x y)→Q true (stt κ it (P++(X++(Y++S))) pd' g):=fun c=>by
  have:=h (X++Y) g (List.pairwise_append.mpr ⟨sx,sy,c⟩) (List.Perm.refl _);rw[List.append_assoc]at this;exact this
 by_cases e3:X.length - k=0
 ·rw[if_pos (by rw[e3]; rfl)]
  refine Sq.pure (same fun x hx y hy=>M.tr _ _ _ (f1 x ?_) (aY y hy));rw[List.take_of_length_le (by omega)];exact hx
 rw[if_neg (by simpa using e3)]
 have gxl:(P++(X++(Y++S)))[P.length+k+(X.length - k) - 1]?=some xl:=by
  rw[List.getElem?_append_right (by omega),List.getElem?_append_left (by omega),←hxl]
  congr 1
  omega
 refine Sq.elemB gxl ?_
 have eb:P++(X++(Y++S))=(P++X)++(Y++S):=by rw[List.append_assoc]
 have lb:P.length+X.length=(P++X).length:=by rw[List.length_append]
 refine Sq.galB M (hnx xl hxlm) hn (by simp only [List.length_append]; omega) (by omega) fun k2 K2=>?_;rw[eb,lb]at K2;obtain⟨ky,f3,f4⟩:=ZmH M sy K2
 dsimp only
 by_cases e4:k2=0
 ·rw[if_pos (by rw[e4]; rfl)]
  refine Sq.pure (same fun x hx y hy=>M.tr _ _ _ (aX x hx) (f4 y ?_));rw[e4];exact hy
 rw[if_neg (by simpa using e4)]
 have ex:(ar it (P++(X++(Y++S)))).extract (P.length+k) (P.length+X.length)=ar it (X.drop k):=by
  rw[Zgj,List.drop_append,List.drop_of_length_le (by omega),List.nil_append,show P.length+k - P.length=k by omega,List.drop_append_of_le_length kx,List.take_append_of_le_length (by rw[List.length_drop]; omega),List.take_of_length_le (by rw[List.length_drop]; omega)]
 have ey:(ar it (P++(X++(Y++S)))).extract (P.length+X.length) (P.length+X.length+k2)=ar it (Y.take k2):=by
  rw[Zgj,eb,lb,List.drop_left,Nat.add_sub_cancel_left,List.take_append_of_le_length ky]
 rw[ex,ey]
 have D:Two R N (X.drop k) (Y.take k2):=by
  refine⟨fun x hx=>hnx x (List.mem_of_mem_drop hx),fun y hy=>hny y (List.mem_of_mem_take hy),sx.sublist (List.drop_sublist _ _),sy.sublist (List.take_sublist _ _),?_,xl,?_,f3⟩
  ·obtain⟨x0,hx0,hx0m⟩:=Zgk (xs:=X.drop k) (i:=0) (by rw[List.length_drop]; omega)
   exact⟨x0,y0,hx0,by rw[List.getElem?_take_of_lt (by omega)]; exact hy0,f2 x0 hx0m⟩
  ·rw[List.getElem?_drop,List.length_drop,←hxl]
   congr 1
   omega
 have fin:∀(o:Array Keyed) (g':Nat),Mrg R it (X.drop k) (Y.take k2) o→Sq prog w A E Ok ((do
   _root_.modify (Zrf o (P.length+k))
   let s ←MonadState.get
   Pure.pure (failedOf s).isNone:StateT SortSt Sem Bool)) (stt κ it (P++(X++(Y++S))) pd' g') Q:=by
  rintro o g' ⟨zl,rfl,sz,pz⟩;refine Sq.modB ?_
  have est:Zrf (ar it zl) (P.length+k) (stt κ it (P++(X++(Y++S))) pd' g')=stt κ it (P++((X.take k++(zl++Y.drop k2))++S)) pd' g':=by
   have hz:(X.drop k++Y.take k2).length=zl.length:=pz.length_eq.symm
   have e5:P++(X++(Y++S))=(P++X.take k)++((X.drop k++Y.take k2)++(Y.drop k2++S)):=by
    simp only [List.append_assoc];rw[←List.append_assoc (Y.take k2),List.take_append_drop,←List.append_assoc (X.take k),List.take_append_drop]
   have e6:P++((X.take k++(zl++Y.drop k2))++S)=(P++X.take k)++(zl++(Y.drop k2++S)):=by simp only [List.append_assoc]
   show SortSt.mk' κ (List.foldl (fun(a:Array Keyed) (x:Keyed×Nat)=>a.setIfInBounds (P.length+k+x.2) x.1) ((P++(X++(Y++S))).map (kas_item it)).toArray (ar it zl).toList.zipIdx) pd' g' none=SortSt.mk' κ ((P++((X.take k++(zl++Y.drop k2))++S)).map (kas_item it)).toArray pd' g' none;have:=ZsJ (zl.map (kas_item it)) ((P++X.take k).map (kas_item it)) ((X.drop k++Y.take k2).map (kas_item it)) ((Y.drop k2++S).map (kas_item it)) (P.length+k) (by rw[List.length_map,List.length_map,hz]) (by rw[List.length_map,List.length_append,List.length_take]; omega);rw[e5,e6,List.map_append,List.map_append (l₁:=X.drop k++Y.take k2),List.map_append (l₁:=P++X.take k),List.map_append (l₁:=zl)];exact congrArg (fun a=>SortSt.mk' κ a pd' g' none) this
  rw[est];refine Sq.getB ?_;refine Sq.pure (h _ g' ?_ ?_)
  ·have mz:∀z∈zl,z∈X.drop k∨z∈Y.take k2:=fun z hz=>List.mem_append.mp (pz.mem_iff.mp hz)
   rw[List.pairwise_append,List.pairwise_append];refine⟨sx.sublist (List.take_sublist _ _),⟨sz,sy.sublist (List.drop_sublist _ _),fun z hz y hy=>?_⟩,fun x hx z hz=>?_⟩
   ·rcases mz z hz with hz | hz
    ·exact M.tr _ _ _ (aX z (List.mem_of_mem_drop hz)) (f4 y hy)
    ·have:=sy
     rw[←List.take_append_drop k2 Y,List.pairwise_append]at this;exact this.2.2 z hz y hy
   ·rcases List.mem_append.mp hz with hz | hz
    ·rcases mz z hz with hz | hz
     ·have:=sx
      rw[←List.take_append_drop k X,List.pairwise_append]at this;exact this.2.2 x hx z hz
     ·exact M.tr _ _ _ (f1 x hx) (aY z (List.mem_of_mem_take hz))
    ·exact M.tr _ _ _ (f1 x hx) (aY z (List.mem_of_mem_drop hz))
  ·have q1:(X.take k++(zl++Y.drop k2)).Perm (X.take k++((X.drop k++Y.take k2)++Y.drop k2)):=List.Perm.append_left _ (List.Perm.append_right _ pz)
   refine q1.trans ?_;rw[List.append_assoc,List.take_append_drop,←List.append_assoc,List.take_append_drop]
 split
 ·refine Sq.bind (P1:=fun o st'=>∃g',Mrg R it (X.drop k) (Y.take k2) o∧st'=stt κ it (P++(X++(Y++S))) pd' g') (Sq.mlo M D fun o g' hM=>⟨g',hM,rfl⟩) ?_
  rintro o st' ⟨g',hM,rfl⟩;exact fin o g' hM
 ·refine Sq.bind (P1:=fun o st'=>∃g',Mrg R it (X.drop k) (Y.take k2) o∧st'=stt κ it (P++(X++(Y++S))) pd' g') (Sq.mhi M D fun o g' hM=>⟨g',hM,rfl⟩) ?_
  rintro o st' ⟨g',hM,rfl⟩;exact fin o g' hM
end
end EM
namespace EM
open PySem PySem.W PyProof.Rows
def srF:StateT SortSt Sem (ForInStep (Option Unit×Unit)):=do
 let p:=pendingOf (←get)
 if p.size≤1 then return .done (none,())
 let i:=p.size - 2
 let b:=if i > 0 then p[i - 1]?.map (·.2.1) else none
 let i:=if b.any (· < (p[i+1]?.elim 0 (·.2.1))) then i - 1 else i
 if !(←mergeAt' i) then return .done (some (),())
 return .yield (none,())
def srM (o:Nat):StateT SortSt Sem (ForInStep (Option Unit×Unit)):=do
 let p:=pendingOf (←get)
 let some (_,_,c):=(if p.size > 1 then p[p.size - 2]? else none) | return .done (none,())
 if c≤o then return .done (none,())
 if !(←mergeAt' (p.size - 2)) then return .done (some (),())
 return .yield (none,())
def srQ (u n:Nat):StateT SortSt Sem (ForInStep (Option Unit×Nat)):=do
 modify fun s=>setPending s ((pendingOf s).push (u,n,0))
 return .yield (none,u+n)
def srP (z u n:Nat):StateT SortSt Sem (ForInStep (Option Unit×Nat)):=do
 if let some (a,b,_):=(pendingOf (←get)).back? then
  let t:Option Unit×Unit ←forIn [0:z] (none,()) fun _ _=>srM (power' z (2 * a+b) (2 * a+b+b+n) z)
  match t.1 with
  | some r=>return .done (some r,u)
  | none=>
   modify fun s=>setPending s ((pendingOf s).modify ((pendingOf s).size - 1) fun(x,y,_)=>(x,y,power' z (2 * a+b) (2 * a+b+b+n) z))
   srQ u n
 else srQ u n
def srA (z r u:Nat):StateT SortSt Sem (ForInStep (Option Unit×Nat)):=do
 if u ≥ z then return .done (none,u)
 let some n ←countRun' u (z - u) | return .done (some (),u)
 if n < r then
  PySem.rule "list.sort.binary-insertion"
  if !(←binarySort' u (min (z - u) r) n) then return .done (some (),u)
  srP z u (min (z - u) r)
 else srP z u n
theorem ZsX:sortRuns'=(do
  let st ←get
  let s:Option Unit×Nat ←forIn [0:(arrOf st).size] (none,0) fun _ s=>srA (arrOf st).size (minRun' (arrOf st).size (arrOf st).size 0) s.2
  match s.1 with
  | some r=>return r
  | none=>
   let t:Option Unit×Unit ←forIn [0:(arrOf st).size] (none,()) fun _ _=>srF
   match t.1 with
   | some r=>return r
   | none=>return ()):=by
 rw[sortRuns'_eq];unfold srA srP srQ srM srF
 dsimp only
 congr 1
 funext st
 congr 1
 ·congr 1
  funext _ s
  split
  ·rfl
  ·congr 1
   funext x
   cases x with
   | none=>rfl
   | some n=>
    dsimp only
    split
    ·congr 1
     funext _
     congr 1
     funext b
     split
     ·rfl
     ·congr 1
      funext st2
      cases hb:(pendingOf st2).back? with
      | none=>rfl
      | some t=>
       obtain⟨a,b,c⟩:=t
       dsimp only
       congr 1
       funext t
       obtain⟨t1,t2⟩:=t
       cases t1 <;> rfl
    ·congr 1
     funext st2
     cases hb:(pendingOf st2).back? with
     | none=>rfl
     | some t=>
      obtain⟨a,b,c⟩:=t
      dsimp only
      congr 1
      funext t
      obtain⟨t1,t2⟩:=t
      cases t1 <;> rfl
 ·funext s
  obtain⟨s1,s2⟩:=s
  cases s1 with
  | some r=>rfl
  | none=>
   dsimp only
   congr 1
   funext t
   obtain⟨t1,t2⟩:=t
   cases t1 <;> rfl
end EM
namespace EM
open PySem PySem.W PyProof.Rows
inductive Cov (R:Nat→Nat→Prop):Nat→List (List Nat)→List (Nat×Nat×Nat)→Prop
 | nil {a:Nat}:Cov R a [] []
 | cons {a p:Nat} {X:List Nat} {Xs:List (List Nat)} {q:List (Nat×Nat×Nat)}:X≠[]→X.Pairwise R→Cov R (a+X.length) Xs q→Cov R a (X::Xs) ((a,X.length,p)::q)
section
variable {prog:Program} {w:World} {A:Around} {E:Value→Shared→Prop} {κ:SortKind} {it:Array Keyed} {Ok:Shared→Prop} {N:Nat} {lt:Nat→Nat→Bool} {R:Nat→Nat→Prop} {α β:Type} {g:Nat}
theorem Cov.len:∀{Xs:List (List Nat)} {a:Nat} {q:List (Nat×Nat×Nat)},Cov R a Xs q→Xs.length=q.length∧q.length≤Xs.flatten.length
 | _,_,_,.nil=>⟨rfl,Nat.le_refl _⟩
 | _,_,_,.cons (X:=X) h _ r=>by
  obtain⟨a,b⟩:=r.len;have:=List.length_pos_iff.mpr h;simp only [List.length_cons,List.flatten_cons,List.length_append];omega
theorem Cov.two {X Y:List Nat}:∀{Us Vs:List (List Nat)} {a:Nat} {q:List (Nat×Nat×Nat)},Cov R a (Us++X::Y::Vs) q→∃qu qv p p2,q=qu++(a+Us.flatten.length,X.length,p)::(a+Us.flatten.length+X.length,Y.length,p2)::qv∧qu.length=Us.length∧X≠[]∧Y≠[]∧X.Pairwise R∧Y.Pairwise R∧∀Z:List Nat,Z.Pairwise R→Z.length=X.length+Y.length→Cov R a (Us++Z::Vs) (qu++(a+Us.flatten.length,X.length+Y.length,p)::qv)
 | [],Vs,a,q,h=>by
  cases h with
  | cons h1 h2 r=>
   rename_i p q1
   cases r with
   | cons h3 h4 r=>
    rename_i p2 qv
    refine⟨[],qv,p,p2,by simp,rfl,h1,h3,h2,h4,fun Z hZ hl=>?_⟩
    have hz:Z≠[]:=fun e=>by rw[e]at hl; have:=List.length_pos_iff.mpr h1; simp at hl; omega
    have:=Cov.cons (a:=a) (p:=p) (X:=Z) hz hZ (by rw[hl,←Nat.add_assoc]; exact r);rw[hl]at this
    simpa using this
 | U::Us,Vs,a,_,.cons (p:=p0) (q:=q1) h1 h2 r=>by
  obtain⟨qu,qv,p,p2,e,el,x1,x2,x3,x4,k⟩:=Cov.two (Us:=Us) (Vs:=Vs) r;refine⟨(a,U.length,p0)::qu,qv,p,p2,?_,by simp[el],x1,x2,x3,x4,fun Z hZ hl=>?_⟩
  ·rw[e]
   simp only [List.flatten_cons,List.length_append,List.cons_append,Nat.add_assoc]
  ·have:=Cov.cons (p:=p0) h1 h2 (k Z hZ hl)
   simp only [List.flatten_cons,List.length_append,List.cons_append,Nat.add_assoc]at this ⊢;exact this
theorem Cov.snoc {X:List Nat} (h1:X≠[]) (h2:X.Pairwise R) {p:Nat}:∀{Xs:List (List Nat)} {a:Nat} {q:List (Nat×Nat×Nat)},Cov R a Xs q→Cov R a (Xs++[X]) (q++[(a+Xs.flatten.length,X.length,p)])
 | _,a,_,.nil=>by simpa using Cov.cons (a:=a) (p:=p) h1 h2 .nil
 | _,a,_,.cons (X:=Y) (Xs:=Xs) h3 h4 r=>by
  have:=Cov.snoc h1 h2 (p:=p) r;rw[Nat.add_assoc,←List.length_append,←List.flatten_cons]at this;exact .cons h3 h4 this
theorem Cov.pow (f:Nat→Nat):∀{Xs:List (List Nat)} {a:Nat} {q:List (Nat×Nat×Nat)} (i:Nat),Cov R a Xs q→Cov R a Xs (q.modify i fun x=>(x.1,x.2.1,f x.2.2))
 | _,a,_,0,.nil=>.nil
 | _,a,_,i+1,.nil=>.nil
 | _,a,_,0,.cons h3 h4 r=>.cons h3 h4 r
 | _,a,_,i+1,.cons h3 h4 r=>by
  rw[List.modify_succ_cons];exact .cons h3 h4 (Cov.pow f i r)
structure SrI (R:Nat→Nat→Prop) (N:Nat) (l:List Nat) (Xs:List (List Nat)) (T:List Nat) (q:List (Nat×Nat×Nat)):Prop where
 el:l=Xs.flatten++T
 pm:l.Perm (List.range N)
 cv:Cov R 0 Xs q
theorem SrI.lo {l:List Nat} {Xs:List (List Nat)} {T:List Nat} {q:List (Nat×Nat×Nat)} (h:SrI R N l Xs T q):∀x∈l,x < N:=fun x hx=>by simpa using h.pm.mem_iff.mp hx
theorem Sq.matC (M:CmN prog w A κ it Ok N lt R) {l:List Nat} {Xs:List (List Nat)} {T:List Nat} {q:List (Nat×Nat×Nat)} {i:Nat} (I:SrI R N l Xs T q) (hi:i+1 < q.length) {Q:Bool→SortSt→Prop} (h:∀l' Xs' q' g',SrI R N l' Xs' T q'→q'.length+1=q.length→Xs'.flatten.length=Xs.flatten.length→Q true (stt κ it l' q'.toArray g')):Sq prog w A E Ok (mergeAt' i) (stt κ it l q.toArray g) Q:=by
 have hxl:=I.cv.len.1
 obtain⟨Us,X,Y,Vs,rfl,rfl⟩ : ∃Us X Y Vs,Xs=Us++X::Y::Vs∧i=Us.length:=by
  refine⟨Xs.take i,Xs[i],Xs[i+1],Xs.drop (i+2),?_,by rw[List.length_take]; omega⟩
  conv=>lhs; rw[←List.take_append_drop i Xs]
  rw[List.drop_eq_getElem_cons (by omega),List.drop_eq_getElem_cons (by omega)]
 obtain⟨qu,qv,p,p2,rfl,elq,x1,x2,x3,x4,k⟩:=I.cv.two;rw[Nat.zero_add]at k ⊢
 have el:l=Us.flatten++(X++(Y++(Vs.flatten++T))):=by rw[I.el]; simp
 have pd1:(qu++(Us.flatten.length,X.length,p)::(Us.flatten.length+X.length,Y.length,p2)::qv).toArray[Us.length]?=some (Us.flatten.length,X.length,p):=by
  rw[List.getElem?_toArray,List.getElem?_append_right (by omega),elq,Nat.sub_self]; rfl
 have pd2:(qu++(Us.flatten.length,X.length,p)::(Us.flatten.length+X.length,Y.length,p2)::qv).toArray[Us.length+1]?=some (Us.flatten.length+X.length,Y.length,p2):=by
  rw[List.getElem?_toArray,List.getElem?_append_right (by omega),elq,Nat.add_sub_cancel_left]; rfl
 have hN:=I.lo;have pm:=I.pm;rw[el]at hN pm ⊢;refine Sq.mat M hN x3 x4 x1 x2 pd1 pd2 fun Z g' sz pz=>?_;have hzl:=pz.length_eq;rw[List.length_append]at hzl
 have e5:((qu++(Us.flatten.length,X.length,p)::(Us.flatten.length+X.length,Y.length,p2)::qv).toArray.setIfInBounds Us.length (Us.flatten.length,X.length+Y.length,p)).eraseIdxIfInBounds (Us.length+1)=(qu++(Us.flatten.length,X.length+Y.length,p)::qv).toArray:=by
  rw[List.setIfInBounds_toArray,List.eraseIdxIfInBounds_toArray,List.set_append_right _ _ (by omega),elq,Nat.sub_self,List.set_cons_zero,List.eraseIdx_append_of_length_le (by omega),elq,Nat.add_sub_cancel_left];rfl
 rw[e5];refine h _ (Us++Z::Vs) _ g' ⟨by simp,?_,k Z sz hzl⟩ (by simp only [List.length_append,List.length_cons]; omega) (by simp[hzl]; omega);refine List.Perm.trans (List.Perm.append_left _ ?_) pm;rw[←List.append_assoc X];exact List.Perm.append_right _ pz
theorem Sq.srF (M:CmN prog w A κ it Ok N lt R) {l:List Nat} {Xs:List (List Nat)} {q:List (Nat×Nat×Nat)} (I:SrI R N l Xs [] q) {Q:ForInStep (Option Unit×Unit)→SortSt→Prop} (h1:q.length≤1→Q (.done (none,())) (stt κ it l q.toArray g)) (h2:∀l' Xs' q' g',SrI R N l' Xs' [] q'→q'.length+1=q.length→Q (.yield (none,())) (stt κ it l' q'.toArray g')):Sq prog w A E Ok EM.srF (stt κ it l q.toArray g) Q:=by
 unfold EM.srF;refine Sq.getB ?_;have e1:pendingOf (stt κ it l q.toArray g)=q.toArray:=rfl;rw[e1]
 dsimp only
 by_cases hz:q.toArray.size≤1
 ·rw[if_pos hz]
  exact Sq.pure (h1 (by simpa using hz))
 rw[if_neg hz]
 have hz : ¬q.length≤1:=by simpa using hz
 have hsz:q.toArray.size=q.length:=by simp
 rw[hsz];refine Sq.bind (P1:=fun b st'=>b=true∧∃l' Xs' q' g',st'=stt κ it l' q'.toArray g'∧SrI R N l' Xs' [] q'∧q'.length+1=q.length) (Sq.matC M I ?_ fun l' Xs' q' g' I' hl _=>⟨rfl,l',Xs',q',g',rfl,I',hl⟩) ?_
 ·(repeat' split) <;> omega
 rintro b st' ⟨rfl,l',Xs',q',g',rfl,I',hl⟩;exact Sq.pure (h2 l' Xs' q' g' I' hl)
theorem Sq.srM (M:CmN prog w A κ it Ok N lt R) {l:List Nat} {Xs:List (List Nat)} {T:List Nat} {q:List (Nat×Nat×Nat)} {o:Nat} (I:SrI R N l Xs T q) {Q:ForInStep (Option Unit×Unit)→SortSt→Prop} (h1:Q (.done (none,())) (stt κ it l q.toArray g)) (h2:∀l' Xs' q' g',SrI R N l' Xs' T q'→Xs'.flatten.length=Xs.flatten.length→Q (.yield (none,())) (stt κ it l' q'.toArray g')):Sq prog w A E Ok (EM.srM o) (stt κ it l q.toArray g) Q:=by
 unfold EM.srM;refine Sq.getB ?_;have e1:pendingOf (stt κ it l q.toArray g)=q.toArray:=rfl;rw[e1]
 dsimp only
 split
 ·rename_i x y c hc
  split
  ·exact Sq.pure h1
  ·have hz:1 < q.length:=by
    by_cases hz:q.toArray.size > 1
    ·simpa using hz
    ·rw[if_neg hz]at hc
     cases hc
   have hsz:q.toArray.size=q.length:=by simp
   rw[hsz];refine Sq.bind (P1:=fun b st'=>b=true∧∃l' Xs' q' g',st'=stt κ it l' q'.toArray g'∧SrI R N l' Xs' T q'∧Xs'.flatten.length=Xs.flatten.length) (Sq.matC M I (by omega) fun l' Xs' q' g' I' hl hf=>⟨rfl,l',Xs',q',g',rfl,I',hf⟩) ?_;rintro b st' ⟨rfl,l',Xs',q',g',rfl,I',hf⟩;exact Sq.pure (h2 l' Xs' q' g' I' hf)
 ·exact Sq.pure h1
theorem SrI.more {l:List Nat} {Xs:List (List Nat)} {X T:List Nat} {q:List (Nat×Nat×Nat)} (I:SrI R N l Xs (X++T) q) (h1:X≠[]) (h2:X.Pairwise R):SrI R N l (Xs++[X]) T (q++[(Xs.flatten.length,X.length,0)]):=by
 have:=I.cv.snoc h1 h2 (p:=0);rw[Nat.zero_add]at this;exact⟨by rw[I.el]; simp,I.pm,this⟩
theorem Sq.srP (M:CmN prog w A κ it Ok N lt R) {l:List Nat} {Xs:List (List Nat)} {X T:List Nat} {q:List (Nat×Nat×Nat)} {z u n:Nat} (I:SrI R N l Xs (X++T) q) (hu:Xs.flatten.length=u) (hn:X.length=n) (h1:X≠[]) (h2:X.Pairwise R) {Q:ForInStep (Option Unit×Nat)→SortSt→Prop} (h:∀l' Xs' q' g',SrI R N l' Xs' T q'→Xs'.flatten.length=u+n→Q (.yield (none,u+n)) (stt κ it l' q'.toArray g')):Sq prog w A E Ok (EM.srP z u n) (stt κ it l q.toArray g) Q:=by
 have fin:∀(l:List Nat) (Xs:List (List Nat)) (q:List (Nat×Nat×Nat)) (g:Nat),SrI R N l Xs (X++T) q→Xs.flatten.length=u→Sq prog w A E Ok (srQ u n) (stt κ it l q.toArray g) Q:=fun l Xs q g I hu=>by
  unfold srQ;refine Sq.modB ?_;have I2:=I.more h1 h2;rw[hu,hn]at I2;have:=h l _ _ g I2 (by simp[hu,hn]);refine Sq.pure ?_
  have e:setPending (stt κ it l q.toArray g) ((pendingOf (stt κ it l q.toArray g)).push (u,n,0))=stt κ it l (q++[(u,n,0)]).toArray g:=by
   show SortSt.mk' κ (l.map (kas_item it)).toArray (q.toArray.push (u,n,0)) g none=SortSt.mk' κ (l.map (kas_item it)).toArray (q++[(u,n,0)]).toArray g none;rw[List.push_toArray]
  rw[e];exact this
 unfold EM.srP;refine Sq.getB ?_
 dsimp only
 split
 ·rename_i a b c hc
  refine Sq.bind (P1:=fun t st'=>t.1=none∧∃l' Xs' q' g',st'=stt κ it l' q'.toArray g'∧SrI R N l' Xs' (X++T) q'∧Xs'.flatten.length=u) ?_ ?_
  ·refine Sq.range (fun i t st'=>t.1=none∧∃l' Xs' q' g',st'=stt κ it l' q'.toArray g'∧SrI R N l' Xs' (X++T) q'∧Xs'.flatten.length=u) ⟨rfl,l,Xs,q,g,rfl,I,hu⟩ ?_ (fun c st' h=>h)
   rintro i _ c st' hi ⟨_,l',Xs',q',g',rfl,I',hu'⟩;exact Sq.srM M I' ⟨rfl,l',Xs',q',g',rfl,I',hu'⟩ fun l2 Xs2 q2 g2 I2 h2=>⟨rfl,l2,Xs2,q2,g2,rfl,I2,h2.trans hu'⟩
  ·rintro⟨t1,t2⟩ st' ⟨rfl,l',Xs',q',g',rfl,I',hu'⟩
   dsimp only
   refine Sq.modB ?_
   have e:setPending (stt κ it l' q'.toArray g') ((pendingOf (stt κ it l' q'.toArray g')).modify ((pendingOf (stt κ it l' q'.toArray g')).size - 1) fun(x,y,_)=>(x,y,power' z (2 * a+b) (2 * a+b+b+n) z))=stt κ it l' (q'.modify (q'.length - 1) fun x=>(x.1,x.2.1,power' z (2 * a+b) (2 * a+b+b+n) z)).toArray g':=by
    show SortSt.mk' κ (l'.map (kas_item it)).toArray (q'.toArray.modify (q'.toArray.size - 1) fun x=>(x.1,x.2.1,power' z (2 * a+b) (2 * a+b+b+n) z)) g' none=SortSt.mk' κ (l'.map (kas_item it)).toArray _ g' none;rw[List.modify_toArray,List.size_toArray]
   rw[e];exact fin l' Xs' _ g' ⟨I'.el,I'.pm,I'.cv.pow (fun _=>power' z (2 * a+b) (2 * a+b+b+n) z) _⟩ hu'
 ·exact fin l Xs q g I hu
theorem Zpa (M:CmN prog w A κ it Ok N lt R) {F T:List Nat} {p':Array Nat} {n:Nat} (hz:(F++T).length=N) (hG:Ga N p') (hP:PreO (F++T).toArray p' F.length) (hn1:1≤n) (hn:F.length+n≤N) (a:AscO R p' F.length n):∃X T',p'.toList=F++(X++T')∧X.length=n∧X≠[]∧X.Pairwise R:=by
 have hs:=hG.sz
 have gd:∀(p:Array Nat) (k:Nat),p.getD k 0=p.toList.getD k 0:=fun p k=>by
  rw[Array.getD_eq_getD_getElem?,List.getD_eq_getElem?_getD,Array.getElem?_toList]
 have hl:p'.toList.length=N:=by rw[Array.length_toList]; exact hs
 have e1:p'.toList.take F.length=F:=by
  apply List.ext_getElem
  ·rw[List.length_take]; omega
  ·intro k h1 h2
   have:=hP k h2;rw[gd,gd,List.getD_eq_getElem?_getD,List.getD_eq_getElem?_getD,List.getElem?_eq_getElem (by omega)]at this
   have e2:(F++T).toArray.toList[k]?=some F[k]:=by simp[List.getElem?_append_left h2]
   rw[e2]at this;rw[List.getElem_take];exact this
 refine⟨(p'.toList.drop F.length).take n,(p'.toList.drop F.length).drop n,?_,?_,?_,?_⟩
 ·rw[List.take_append_drop]
  conv=>lhs; rw[←List.take_append_drop F.length p'.toList,e1]
 ·rw[List.length_take,List.length_drop]; omega
 ·intro e
  have:=congrArg List.length e;rw[List.length_take,List.length_drop]at this;simp at this;omega
 ·rw[List.pairwise_iff_getElem]
  intro i j hi hj hij;rw[List.length_take,List.length_drop]at hi hj;have:=a.le M (i:=i) (j:=j) (by omega) (by omega);rw[gd,gd,List.getD_eq_getElem?_getD,List.getD_eq_getElem?_getD,List.getElem?_eq_getElem (by omega),List.getElem?_eq_getElem (by omega)]at this;rw[List.getElem_take,List.getElem_take,List.getElem_drop,List.getElem_drop];exact this
theorem Ztd {l:List Nat} (h:l.Perm (List.range N)):Ga N l.toArray:=⟨by have:=h.length_eq; simpa using this,by rw[Array.perm_iff_toList_perm]; simpa using h⟩
theorem Sq.srA (M:CmN prog w A κ it Ok N lt R) {l:List Nat} {Xs:List (List Nat)} {T:List Nat} {q:List (Nat×Nat×Nat)} {r u:Nat} (I:SrI R N l Xs T q) (hu:Xs.flatten.length=u) {Q:ForInStep (Option Unit×Nat)→SortSt→Prop} (h1:N≤u→Q (.done (none,u)) (stt κ it l q.toArray g)) (h2:∀l' Xs' T' q' g' n,SrI R N l' Xs' T' q'→1≤n→Xs'.flatten.length=u+n→Q (.yield (none,u+n)) (stt κ it l' q'.toArray g')):Sq prog w A E Ok (EM.srA N r u) (stt κ it l q.toArray g) Q:=by
 unfold EM.srA
 by_cases hz:u ≥ N
 ·rw[if_pos hz]
  exact Sq.pure (h1 hz)
 rw[if_neg hz]
 have hlN:l.length=N:=by have:=I.pm.length_eq; simpa using this
 have el:=I.el
 have hlu:u+T.length=N:=by rw[←hlN,el,List.length_append,hu]
 have hG:=Ztd I.pm;refine Sq.bind (P1:=fun a st'=>∃n p',a=some n∧st'=stA κ it p' q.toArray g∧Run R N l.toArray p' u (N - u) n) ?_ ?_
 ·rw[←Zk8]
  exact Sq.cnt M hG (by omega) (by omega) fun n p' hR=>⟨n,p',rfl,rfl,hR⟩
 rintro a st' ⟨n,p',rfl,rfl,hG',hP',n1,nm,hA⟩
 dsimp only
 have go:∀(p':Array Nat) (n:Nat),Ga N p'→PreO l.toArray p' u→1≤n→u+n≤N→AscO R p' u n→Sq prog w A E Ok (EM.srP N u n) (stA κ it p' q.toArray g) Q:=fun p' n hG hP n1 nm hA=>by
  subst hu;rw[el]at hP;obtain⟨X,T',e,hX,x1,x2⟩:=Zpa M (by rw[←el]; exact hlN) hG hP n1 nm hA
  have es:stA κ it p' q.toArray g=stt κ it (Xs.flatten++(X++T')) q.toArray g:=by rw[←e,←Zk8,Array.toArray_toList]
  rw[es]
  have pm:(Xs.flatten++(X++T')).Perm (List.range N):=by
   rw[←e];have:=Array.perm_iff_toList_perm.mp hG.pm
   simpa using this
  exact Sq.srP M ⟨rfl,pm,I.cv⟩ rfl hX x1 x2 fun l' Xs' q' g' I' hl=>h2 l' Xs' T' q' g' n I' n1 hl
 by_cases hr:n < r
 ·rw[if_pos hr]
  refine Sq.ruleB ?_;refine Sq.bind (P1:=fun b st'=>∃p',b=true∧st'=stA κ it p' q.toArray g∧Ga N p'∧PreO l.toArray p' u∧AscO R p' u (min (N - u) r)) (Sq.bin M hG' hP' (by omega) n1 (by omega) hA fun p2 b1 b2 b3=>⟨p2,rfl,rfl,b1,b2,b3⟩) ?_;rintro b st' ⟨p2,rfl,rfl,b1,b2,b3⟩;exact go p2 _ b1 b2 (by omega) (by omega) b3
 ·rw[if_neg hr]
  exact go p' n hG' hP' n1 (by omega) hA
theorem Sq.runs (M:CmN prog w A κ it Ok N lt R) {Q:Unit→SortSt→Prop} (h:∀l pd g,l.Perm (List.range N)→l.Pairwise R→Q () (stt κ it l pd g)):Sq prog w A E Ok sortRuns' (stt κ it (List.range N) #[] g) Q:=by
 rw[ZsX];refine Sq.getB ?_
 have hz:(arrOf (stt κ it (List.range N) #[] g)).size=N:=by
  show((List.range N).map (kas_item it)).toArray.size=N;simp
 rw[hz];refine Sq.bind (P1:=fun s st'=>s.1=none∧∃l Xs q g',st'=stt κ it l q.toArray g'∧SrI R N l Xs [] q) ?_ ?_
 ·refine Sq.range (fun i s st'=>∃u l Xs T q g',s=(none,u)∧st'=stt κ it l q.toArray g'∧SrI R N l Xs T q∧Xs.flatten.length=u∧i≤u) ⟨0,_,[],List.range N,[],g,rfl,rfl,⟨rfl,List.Perm.refl _,.nil⟩,rfl,Nat.le_refl _⟩ ?_ ?_
  ·rintro i _ s st' hi ⟨u,l,Xs,T,q,g',rfl,rfl,I,hu,hiu⟩
   refine Sq.srA M I hu (fun hN=>?_) fun l' Xs' T' q' g' n I' n1 hl=>⟨u+n,l',Xs',T',q',g',rfl,rfl,I',hl,by omega⟩
   have hT:T=[]:=by
    have h1:=I.pm.length_eq;rw[I.el,List.length_append,hu,List.length_range]at h1;exact List.length_eq_zero_iff.mp (by omega)
   subst hT;exact⟨rfl,l,Xs,q,g',rfl,I⟩
  ·rintro s st' ⟨u,l,Xs,T,q,g',rfl,rfl,I,hu,hiu⟩
   have hT:T=[]:=by
    have h1:=I.pm.length_eq;rw[I.el,List.length_append,hu,List.length_range]at h1;exact List.length_eq_zero_iff.mp (by omega)
   subst hT;exact⟨rfl,l,Xs,q,g',rfl,I⟩
 rintro⟨s1,s2⟩ st' ⟨rfl,l,Xs,q,g',rfl,I⟩
 dsimp only
 refine Sq.bind (P1:=fun t st'=>t.1=none∧∃l Xs q g',st'=stt κ it l q.toArray g'∧SrI R N l Xs [] q∧q.length≤1) ?_ ?_
 ·refine Sq.range (fun i t st'=>t.1=none∧∃l Xs q g',st'=stt κ it l q.toArray g'∧SrI R N l Xs [] q∧(q.length+i≤N∨q.length≤1)) ⟨rfl,l,Xs,q,g',rfl,I,?_⟩ ?_ ?_
  ·have h1:=I.cv.len.2
   have h2:=I.pm.length_eq;rw[I.el,List.append_nil,List.length_range]at h2;exact .inl (by omega)
  ·rintro i _ t st' hi ⟨_,l,Xs,q,g',rfl,I,hq⟩
   exact Sq.srF M I (fun hl=>⟨rfl,l,Xs,q,g',rfl,I,hl⟩) fun l' Xs' q' g' I' hl=>⟨rfl,l',Xs',q',g',rfl,I',by omega⟩
  ·rintro t st' ⟨h0,l,Xs,q,g',rfl,I,hq⟩
   exact⟨h0,l,Xs,q,g',rfl,I,by omega⟩
 rintro⟨t1,t2⟩ st' ⟨rfl,l,Xs,q,g',rfl,I,hq⟩;refine Sq.pure (h l _ g' I.pm ?_);have el:=I.el;rw[List.append_nil]at el;have hc:=I.cv;have hl:=hc.len.1
 match Xs,q,hc,hl,hq,el with
 | [],_,_,_,_,el=>rw[el]; exact List.Pairwise.nil
 | [X],_,.cons _ h2 _,_,_,el=>rw[el]; simpa using h2
 | X::Y::Xs,q,_,hl,hq,_=>simp only [List.length_cons]at hl; omega
end
end EM
namespace L2
open PySem PySem.Spec PyProof.Rows
section
variable {prog:Program} {w:World} {A:Around} {E:Value→Shared→Prop} {s:Shared}
def Zcc (h:Heap) (a:Addr) (ws:List Value):Heap:=((h.update a (Obj.mapSeq fun _=>#[])).push (seqObj "tuple" ws.toArray 0)).push (seqObj "list" #[] 0)
theorem ZnJ {a:Addr} {ws:List Value} {k:Nat} {κ:SortKind} {lt:Nat→Nat→Bool} {R:Nat→Nat→Prop} {Pq:PySem.Fin→Shared→Prop} (ho:s.heap.get? a=some (seqObj "list" ws.toArray k)) (h2:2≤ws.length) (fit:ws.length≤100000)
  (hk:∀Q:SortKind→Shared→Prop,Q κ { s with heap:=Zcc s.heap a ws }→wpAny (model prog w) A (keyKind' ws.toArray) Q E { s with heap:=Zcc s.heap a ws })
  (M:EM.CmN prog w A κ (ws.toArray.zip ws.toArray) (fun s'=>s' = { s with heap:=Zcc s.heap a ws }) ws.length lt R)
  (h:∀l:List Nat,l.Perm (List.range ws.length)→l.Pairwise R→Pq (.done (.ret .none)) { s with heap:=sortedHeap s.heap a ws (l.map fun i=>ws.getD i Value.none).toArray }):wpAny (model prog w) A (Builtin.«list.sort» ⟨[.ref a],[]⟩) Pq E s:=by
 have sm : ¬ws.toArray.size < 2:=by rw[List.size_toArray]; omega
 have fz:ws.toArray.size≤sizeLine:=by rw[List.size_toArray,sizeLine_eq]; omega
 have ha:=Heap.lt_size ho;rw[list_sort_plain];refine wpAny_bind (listItems_at ho rfl (wpAny_bind (listUpdate_at ho rfl ?_ fz (Nat.zero_le _))));obtain⟨c1,hc1⟩ : ∃c,(s.heap.update a (Obj.mapSeq fun _=>#[])).get? a=some (seqObj "list" #[] c):=⟨_,get?_update_seq ho _⟩;refine wpAny_bind (seqEpoch_at hc1 rfl (wpAny_bind (wpAny_newTuple ?_ (by simpa using fz))));refine wpAny_bind (wpAny_newList ?_ (Nat.zero_le _));refine wpAny_holding ?_;have hc2:(Zcc s.heap a ws).get? a=some (seqObj "list" #[] c1):=Heap.get?_push_of_some _ (Heap.get?_push_of_some _ hc1);show wpAny (model prog w) A _ Pq E { s with heap:=Zcc s.heap a ws }
 dsimp only
 rw[if_neg sm,if_neg sm];refine wpAny_bind (hk _ ?_)
 have iz:(ws.toArray.zip ws.toArray).size=ws.length:=by simp
 have est:SortSt.mk' κ (ws.toArray.zip ws.toArray) #[] 7 none=EM.stt κ (ws.toArray.zip ws.toArray) (List.range ws.length) #[] 7:=by
  have e:=PySem.W.kas_range (ws.toArray.zip ws.toArray);rw[iz,List.map_toArray]at e;unfold EM.stt;rw[e]
 rw[est];refine wpAny_bind (EM.Sq.runs (E:=E) M (g:=7) (Q:=fun _ st'=>∃l pd g,l.Perm (List.range ws.length)∧l.Pairwise R∧st'=EM.stt κ (ws.toArray.zip ws.toArray) l pd g) (fun l pd g a b=>⟨l,pd,g,a,b,rfl⟩) (fun _ st' s'=>s' = { s with heap:=Zcc s.heap a ws }∧∃l pd g,l.Perm (List.range ws.length)∧l.Pairwise R∧st'=EM.stt κ (ws.toArray.zip ws.toArray) l pd g) _ rfl (fun _ st' s' e q=>⟨e,q⟩) |> fun z=>wpAny_mono z ?_ fun _ _ e=>e);rintro⟨⟨⟩,st'⟩ s' ⟨rfl,l,pd,g,pm,pw,rfl⟩
 dsimp only
 have ez:(arrOf (EM.stt κ (ws.toArray.zip ws.toArray) l pd g)).map (·.2)=(l.map fun i=>ws.getD i Value.none).toArray:=by
  show((l.map (PySem.W.kas_item (ws.toArray.zip ws.toArray))).toArray.map (·.2))=_;rw[List.map_toArray,List.map_map];exact congrArg List.toArray (List.map_congr_left fun i _=>by show(PySem.W.kas_item _ i).2=_; rw[PySem.W.kat_item rfl])
 rw[ez]
 have lz:l.length=ws.length:=by have:=pm.length_eq; simpa using this
 refine wpAny_bind (seqEpoch_at hc2 rfl (wpAny_bind (listUpdate_at hc2 rfl ?_ (Nat.zero_le _) (by rw[List.size_toArray,List.length_map,sizeLine_eq]; omega))));have ef:failedOf (EM.stt κ (ws.toArray.zip ws.toArray) l pd g)=none:=rfl;rw[ef];simp only [bne_self_eq_false,Bool.false_eq_true,if_false];exact wpAny_pure (h l pm pw)
theorem Zq0 {h:Heap} {a b:Addr} {ws:List Value} {o:Obj} (hb:b≠a) (q:h.get? b=some o):(Zcc h a ws).get? b=some o:=by
 unfold Zcc;refine Heap.get?_push_of_some _ (Heap.get?_push_of_some _ ?_);rw[Heap.get?_update_ne _ _ _ _ hb];exact q
end
section
variable {X:Cx}
end
end L2
namespace L2
open PySem PySem.Spec PyProof.Rows
section
variable {X:Cx} {K:PySem.W.Frag} {σ:St} {H:Hp} {Q:VK} {a:Expr} {ta:TE} {pos:Pos}
def rSlX:V→Option Int→Option Int→Hp→VK→Prop:=fun x lo hi H Q=>∃z,x=.str z∧z.length≤sizeLine∧Q (.str (Txt.slice z lo hi)) H
theorem ZsT:SlR X rSlX:=by
 intro pins s σ H x v vl vu lo hi sl Q I rx hs pl pu h;obtain⟨z,rfl,hz,q⟩:=h;obtain⟨t,rfl⟩:=rx;refine⟨"str",_,F.slot_str_getitem.lookup,typeIs_str _ _ _,?_⟩;obtain⟨o,ho,hc,hd⟩:=hs
 have fin:∀(l u:Option (Int×Tok)),vl=partValue l→vu=partValue u→l.map (·.1)=lo→u.map (·.1)=hi→wpAny (model X.prog X.w) X.A (getItem (.str z t) (.ref sl)) (EP X pins σ Q) X.xe s:=fun l u e1 e2 e3 e4=>by
  subst e1 e2 e3 e4
  exact wpAny_getItem_str_slice (l:=l) (u:=u) (st:=none) ⟨o,ho,hc,hd⟩ rfl
   (post_val_or_str ⟨Nat.le_trans (Txt.slice_le z _ _) hz,fun t' k=>⟨.str _,H,I.tok k,⟨t',rfl⟩,q⟩⟩)
 have pv:∀{v:Value} {o:Option Int},IsPart v o→∃l:Option (Int×Tok),v=partValue l∧l.map (·.1)=o:=fun {v o} h=>by
  cases h <;> first | exact⟨none,rfl,rfl⟩ | exact⟨some (_,_),rfl,rfl⟩
 obtain⟨l,e1,e3⟩:=pv pl;obtain⟨u,e2,e4⟩:=pv pu;exact fin l u e1 e2 e3 e4
def rSlA (K:PySem.W.Frag):V→Option Int→Option Int→Hp→VK→Prop:=fun x lo hi H Q=>rSlG K x lo hi H Q∨rSlX x lo hi H Q
theorem Zk5:SlR X (rSlA X.K):=SlR.or ZsS ZsT
theorem ZoC {p:Addr} {xs ys:List V} {lo hi:Option Int} (h:SqL K H p xs) (e:cutV xs lo hi=ys) (k:∀(l:Addr) (H':Hp),Same H H'→H l=none→H' l=some (.lst ys)→Q (.ref l) H'):rSlA K (.ref p) lo hi H Q:=.inl (j_sl h e k)
end
end L2
namespace L2
open PySem PySem.Spec PyProof.Rows
mutual
def DV (H:Hp):PyData→V→Prop
 | .none,v=>v=.non
 | .bool b,v=>v=.bl b
 | .int i,v=>v=.int i
 | .str x,v=>v=.str x
 | .list ds,v=>∃p xs,v=.ref p∧H p=some (.lst xs)∧DVs H ds xs
 | .tuple ds,v=>∃p xs,v=.ref p∧H p=some (.tup xs)∧DVs H ds xs
 | .dict _,_=>False
def DVs (H:Hp):List PyData→List V→Prop
 | [],xs=>xs=[]
 | d::ds,xs=>∃v r,xs=v::r∧DV H d v∧DVs H ds r
end
section
variable {X:Cx} {pins:List (Addr×Obj)} {σ:St} {H:Hp} {s:Shared}
mutual
theorem ZdJ (I:Inv X pins σ H s):∀(d:PyData) (v:V) (u:Value),DV H d v→RelV v u→∃as,Reads s.heap u d as
 | .none,v,u,h,r=>by
  rw[DV]at h; subst h; cases r; exact⟨_,.none⟩
 | .bool b,v,u,h,r=>by
  rw[DV]at h; subst h; cases r; exact⟨_,.bool b⟩
 | .int i,v,u,h,r=>by
  rw[DV]at h; subst h; obtain⟨t,rfl⟩:=r; exact⟨_,.int i t⟩
 | .str x,v,u,h,r=>by
  rw[DV]at h; subst h; obtain⟨t,rfl⟩:=r; exact⟨_,.str x t⟩
 | .list ds,v,u,h,r=>by
  rw[DV]at h;obtain⟨p,xs,rfl,e,hs⟩:=h
  cases r
  obtain⟨z,its,n,r',e'⟩:=I.hok p _ e;obtain⟨as,ra⟩:=ZgW I ds xs its hs r';exact⟨_,.list e' rfl rfl (by simpa using ra)⟩
 | .tuple ds,v,u,h,r=>by
  rw[DV]at h;obtain⟨p,xs,rfl,e,hs⟩:=h
  cases r
  obtain⟨z,its,r',o,e',hc,n,hd⟩:=I.hok p _ e;obtain⟨as,ra⟩:=ZgW I ds xs its hs r';exact⟨_,.tuple e' hc hd (by simpa using ra)⟩
 | .dict _,v,u,h,r=>by rw[DV]at h; exact h.elim
theorem ZgW (I:Inv X pins σ H s):∀(ds:List PyData) (xs:List V) (us:List Value),DVs H ds xs→Vals xs us→∃as,ReadsAll s.heap us ds as
 | [],xs,us,h,r=>by
  rw[DVs]at h; subst h; cases r; exact⟨_,.nil⟩
 | d::ds,xs,us,h,r=>by
  rw[DVs]at h;obtain⟨v,r0,rfl,h1,h2⟩:=h
  cases r with
  | cons r1 r2=>
   obtain⟨a1,q1⟩:=ZdJ I d v _ h1 r1;obtain⟨a2,q2⟩:=ZgW I ds r0 _ h2 r2;exact⟨_,.cons q1 q2⟩
end
def rEqD:R2:=fun x y H Q=>∃d1 d2,DV H d1 x∧DV H d2 y∧d1.canLay0=true∧d2.canLay0=true∧d1.depth≤60∧Q (.bl (PyData.eqv d1 d2)) H
theorem Zsx (hu:X.A.units+64 < cLine):OpR X (compareOp .Eq) rEqD:=by
 intro pins s σ H x y v u Q I rx ry h;obtain⟨d1,d2,h1,h2,c1,c2,hd,q⟩:=h;obtain⟨a1,q1⟩:=ZdJ I d1 x v h1 rx;obtain⟨a2,q2⟩:=ZdJ I d2 y u h2 ry;exact SeqAt.compareEq_reads q1 q2 c1 c2 (Nat.lt_of_le_of_lt (Nat.add_le_add_left (Nat.le_trans (Nat.min_le_left _ _) hd) _) (by omega)) ⟨.bl _,H,I,rfl,q⟩
def rEqA:R2:=fun x y H Q=>rEq x y H Q∨rEqD x y H Q
theorem ZbW (hu:X.A.units+64 < cLine):OpR X (compareOp .Eq) rEqA:=OpR.or Ztl (Zsx hu)
def rNeD:R2:=fun x y H Q=>∃d1 d2,DV H (.list d1) x∧DV H (.list d2) y∧PyData.canLayAll0 d1=true∧PyData.canLayAll0 d2=true∧PyData.depthAll d1≤60∧Q (.bl (!PyData.eqvAll d1 d2)) H
theorem ZsB (hu:X.A.units+64 < cLine):OpR X (compareOp .NotEq) rNeD:=by
 intro pins s σ H x y v u Q I rx ry h;obtain⟨d1,d2,h1,h2,c1,c2,hd,q⟩:=h;obtain⟨a1,q1⟩:=ZdJ I (.list d1) x v h1 rx;obtain⟨a2,q2⟩:=ZdJ I (.list d2) y u h2 ry
 cases q1 with
 | @list b1 o vs n _ as1 g1 g2 g3 g4=>
  cases q2 with
  | @list b2 o' vs' n' _ as2 k1 k2 k3 k4=>
   have hl:s.heap.IsList _ vs:=⟨_,g1,g2,_,g3⟩;have hl':s.heap.IsList _ vs':=⟨_,k1,k2,_,k3⟩
   have n1:vs.size=d1.length:=by simpa using SeqAt.ReadsAll.length _ _ _ g4
   have n2:vs'.size=d2.length:=by simpa using SeqAt.ReadsAll.length _ _ _ k4
   have fin:EP X pins σ Q (.bool (!PyData.eqvAll d1 d2)) s:=⟨.bl _,H,I,rfl,q⟩
   by_cases hz:vs.size=vs'.size
   ·refine SeqAt.RcNeAt.lists hl hl' hz (by omega) (e:=SeqAt.pairEq d1 d2) (fun j j1 j2=>?_) _ _ _ _ ?_
    ·have:=SeqAt.eqAt_readsAll d1 d2 X.A.in1 s vs.toList vs'.toList _ _ g4 k4 c1 c2 (by
      have:X.A.in1.units=X.A.units+1∨X.A.in1.units=X.A.units:=by first | exact .inl rfl | exact .inr rfl
      have h3:=Nat.min_le_left (PyData.depthAll d1) (PyData.depthAll d2)
      omega) j (by simpa using j1) (by simpa using j2)
     simpa using this
    ·have e:=SeqAt.eqvAll_eq d1 d2
     rw[←n1,←n2,←hz,Nat.min_self,beq_self_eq_true,Bool.and_true]at e;rw[e]; exact fin
   ·refine SeqAt.RcNeAt.lists_lengths hl hl' (by simpa using hz) (by omega) _ _ _ _ ?_
    have e:=SeqAt.eqvAll_eq d1 d2
    have hb:(d1.length == d2.length)=false:=by
     rw[←n1,←n2]; simpa using hz
    rw[hb,Bool.and_false]at e;rw[←e]at fin;exact fin
def rNeT:R2:=fun x y H Q=>∃d1 d2,DV H (.tuple d1) x∧DV H (.tuple d2) y∧PyData.canLayAll0 d1=true∧PyData.canLayAll0 d2=true∧PyData.depthAll d1≤60∧Q (.bl (!PyData.eqvAll d1 d2)) H
theorem ZsC (hu:X.A.units+64 < cLine):OpR X (compareOp .NotEq) rNeT:=by
 intro pins s σ H x y v u Q I rx ry h;obtain⟨d1,d2,h1,h2,c1,c2,hd,q⟩:=h;obtain⟨a1,q1⟩:=ZdJ I (.tuple d1) x v h1 rx;obtain⟨a2,q2⟩:=ZdJ I (.tuple d2) y u h2 ry
 cases q1 with
 | @tuple b1 o vs n _ as1 g1 g2 g3 g4=>
  cases q2 with
  | @tuple b2 o' vs' n' _ as2 k1 k2 k3 k4=>
   have hl:s.heap.IsTuple _ vs:=⟨_,g1,g2,_,g3⟩;have hl':s.heap.IsTuple _ vs':=⟨_,k1,k2,_,k3⟩
   have n1:vs.size=d1.length:=by simpa using SeqAt.ReadsAll.length _ _ _ g4
   have n2:vs'.size=d2.length:=by simpa using SeqAt.ReadsAll.length _ _ _ k4
   refine SeqAt.RcNeAt.tuples hl hl' (by omega) (e:=SeqAt.pairEq d1 d2) (fun j j1 j2=>?_) _ _ _ _ ?_
   ·have:=SeqAt.eqAt_readsAll d1 d2 X.A.in1 s vs.toList vs'.toList _ _ g4 k4 c1 c2 (by
     have:X.A.in1.units=X.A.units+1∨X.A.in1.units=X.A.units:=by first | exact .inl rfl | exact .inr rfl
     have h3:=Nat.min_le_left (PyData.depthAll d1) (PyData.depthAll d2)
     omega) j (by simpa using j1) (by simpa using j2)
    simpa using this
   ·rw[n1,n2,SeqAt.eqvAll_eq d1 d2]
    exact⟨.bl _,H,I,rfl,q⟩
def rNeA:R2:=fun x y H Q=>rNe x y H Q∨rNeD x y H Q∨rNeT x y H Q
theorem ZeB (hu:X.A.units+64 < cLine):OpR X (compareOp .NotEq) rNeA:=OpR.or Ztm (OpR.or (ZsB hu) (ZsC hu))
end
def pd (k:Int×Int):PyData:=.tuple [.int k.1,.int k.2]
theorem ZpA (x y:Int×Int):PyData.eqv (pd x) (pd y)=decide (x=y):=by
 obtain⟨a,b⟩:=x;obtain⟨c,d⟩:=y;simp only [pd,PyData.eqv,PyData.eqvAll,Bool.and_true,Prod.mk.injEq]
 by_cases h:a=c
 ·subst h; by_cases h':b=d
  ·subst h'; simp
  ·simp[h']
 ·simp[h]
theorem Zd3:∀a b:List (Int×Int),PyData.eqvAll (a.map pd) (b.map pd)=decide (a=b)
 | [],[]=>rfl
 | [],_::_=>by simp[PyData.eqvAll]
 | _::_,[]=>by simp[PyData.eqvAll]
 | x::a,y::b=>by
  simp only [List.map_cons,PyData.eqvAll,ZpA,Zd3 a b,List.cons.injEq]
  by_cases h:x=y
  ·subst h; simp
  ·simp[h]
theorem Zd4:∀a:List (Int×Int),PyData.canLayAll0 (a.map pd)=true
 | []=>rfl
 | _::a=>by simp[PyData.canLayAll0,PyData.canLay0,pd,Zd4 a]
theorem ZiH:∀a:List (Int×Int),PyData.depthAll (a.map pd)≤60
 | []=>by simp[PyData.depthAll]
 | _::a=>by
  have:=ZiH a;simp only [List.map_cons,PyData.depthAll,pd,PyData.depth]; omega
theorem Zkw (H:Hp):∀a:List Int,DVs H (a.map .int) (a.map V.int)
 | []=>by rw[List.map_nil,DVs]; rfl
 | x::a=>by
  rw[List.map_cons,DVs];exact⟨.int x,a.map V.int,rfl,by rw[DV],Zkw H a⟩
theorem ZjL {H:Hp} {p:Addr} {k:Int×Int} (h:Zct H p k):DV H (pd k) (.ref p):=by
 unfold pd;rw[DV];exact⟨p,_,rfl,h,Zkw H [k.1,k.2]⟩
theorem Zd2 {H:Hp}:∀{ps:List Addr} {ks:List (Int×Int)},Paired (Zct H) ps ks→DVs H (ks.map pd) (ps.map V.ref)
 | _,_,.nil=>by rw[List.map_nil,DVs]; rfl
 | _,_,.cons r q=>by
  rw[List.map_cons,DVs];exact⟨_,_,rfl,ZjL r,Zd2 q⟩
section
variable {K:PySem.W.Frag} {H:Hp} {Q:VK}
theorem ZkE {l l':Addr} {ps ps':List Addr} {ks ks':List (Int×Int)} (h:H l=some (.lst (ps.map V.ref))) (h':H l'=some (.lst (ps'.map V.ref))) (p:Paired (Zct H) ps ks) (p':Paired (Zct H) ps' ks') (q:Q (.bl (!decide (ks=ks'))) H):rNeA (.ref l) (.ref l') H Q:=by
 refine .inr (.inl ⟨ks.map pd,ks'.map pd,?_,?_,Zd4 ks,Zd4 ks',ZiH ks,?_⟩)
 ·rw[DV]; exact⟨l,_,rfl,h,Zd2 p⟩
 ·rw[DV]; exact⟨l',_,rfl,h',Zd2 p'⟩
 ·rw[Zd3]; exact q
theorem Zr5 {p p':Addr} {k k':Int×Int} (h:Zct H p k) (h':Zct H p' k') (q:Q (.bl (!decide (k=k'))) H):rNeA (.ref p) (.ref p') H Q:=by
 refine .inr (.inr ⟨[.int k.1,.int k.2],[.int k'.1,.int k'.2],ZjL h,ZjL h',?_,?_,?_,?_⟩)
 ·simp[PyData.canLay0,PyData.canLayAll0]
 ·simp[PyData.canLay0,PyData.canLayAll0]
 ·simp[PyData.depth,PyData.depthAll]
 ·have e:=ZpA k k'
  unfold pd at e;rw[PyData.eqv]at e;rw[e]; exact q
theorem ZpG {i j:Int} (h:Q (.bl (decide (i=j))) H):rEqA (.int i) (.int j) H Q:=.inl (ZqC h)
theorem ZpP {i j:Int} (h:Q (.bl (!decide (i=j))) H):rNeA (.int i) (.int j) H Q:=.inl (ZqF h)
end
end L2
namespace PySem
open Sem (wp)
theorem Zne:typeLookup (.type "list_reverseiterator") "__len__" = pure none:=by rw[typeLookup_type,builtinLookup_eq_fast]; kernel_rfl
theorem ZoK:typeLookup (.type "list_reverseiterator") "__length_hint__" = pure (some (.builtin "list_reverseiterator.__length_hint__")):=by rw[typeLookup_type,builtinLookup_eq_fast]; kernel_rfl
section
variable {prog:Program} {w:World} {A:Around} {s:Shared} {R:Result→Shared→Prop}
variable {I:Addr} {fp wr:List Addr} {G:Array GenState→Array GenState→Prop} {n:Nat} {P:Nat→Value→Prop} {St:Nat→Shared→Prop}
theorem Zls (W:WalksS prog w A.in1 I fp wr G n P St) (hT:∀i s,St i s→s.TypeIs (.ref I) "list_reverseiterator") (S:Addr) (res:Value) (c₀:Nat) (hst:St 0 s) (hSf:S∉fp) (hI:I∈fp)
  (hS:s.heap.get? S=some { cls:=.type "list",data:=.seq #[] c₀ })
  (hR:∀s' acc' c',Moved (S::wr) G s s'→s'.heap.get? S=some { cls:=.type "list",dict:=none,data:=.seq acc' c',slots:=#[] }→ItemsOf P acc' n→R (.ok (.ret res)) s') (hn:n≤sizeLine) :
  wpAny (model prog w) A.in1 (Builtin.List.listExtendWith (.ref S) (.ref I) res)
   (fun fin s'=>match fin with | .done f=>R (.ok f) s' | .again c'=>c'.quiet=true∧codeAny (model prog w) A c' R s') (fun e s'=>R (.error e) s') s:=by
 have hSI:S≠I:=fun e=>hSf (e ▸ hI)
 have h1:Builtin.List.listSameRef (.ref S) (.ref I)=false:=by simp[Builtin.List.listSameRef,hSI]
 unfold Builtin.List.listExtendWith;refine wpAny_bind (wpAny_typeOf (hT 0 _ hst) ?_);rw[if_neg (by rw[h1]; decide)];refine wpAny_bind (W.self 0 _ _ _ hst ?_);refine wpAny_bind (wpAny_holding ?_);unfold Builtin.List.listLengthHint;refine wpAny_bind (wpAny_specialOf (hT 0 _ hst) Zne ?_);show wpAny _ A.in1 (specialOf (Value.ref I) (Str.ofString "__length_hint__") >>= _) _ _ _;refine wpAny_bind (wpAny_specialOf (hT 0 _ hst) ZoK ?_)
 (generalize hid:("list_reverseiterator.__length_hint__" : String)=id0; (fail_if_success (clear hid id0)); wp_delta; rw[show splitId id0=some ("list_reverseiterator","__length_hint__") from by subst hid; decide +kernel]; subst hid)
 refine wpAny_bind (wpAny_isInstance (b:=true) (hT 0 _ hst) (by rw[isSubtype_type]; kernel_rfl) ?_);refine wpAny_pure ?_;rw[if_neg (by decide)];exact wpAny_pure ⟨plainId_quiet F.plain_extend_loop _,codeAny_extend_loopS W hn _ hSf _ n 0 _ _ _ rfl (Nat.zero_le _) hst hS (ItemsOf.nil P) fun s' acc' c' hm hS' hacc=>hR s' acc' c' hm hS' hacc⟩
theorem Zoz (W:WalksS prog w A.in1 I fp wr G n P St) (hT:∀i s,St i s→s.TypeIs (.ref I) "list_reverseiterator") (S:Addr) (hst:St 0 s) (hSf:S∉fp) (hI:I∈fp)
  (hS:s.heap.get? S=some { cls:=.type "list",data:=.seq #[] })
  (hR:∀s' acc' c',Moved (S::wr) G s s'→s'.heap.get? S=some { cls:=.type "list",dict:=none,data:=.seq acc' c',slots:=#[] }→ItemsOf P acc' n→R (.ok (.ret .none)) s') (hn:n≤sizeLine) :
  wpAny (model prog w) A.in1 (Builtin.«list.__init__» ⟨[.ref S,.ref I],[]⟩)
   (fun fin s'=>match fin with | .done f=>R (.ok f) s' | .again c'=>c'.quiet=true∧codeAny (model prog w) A c' R s') (fun e s'=>R (.error e) s') s:=by
 show wpAny _ A.in1 (do let old ←Builtin.List.listItems (.ref S); Builtin.List.listUpdate (.ref S) (fun _=>#[]); letGo old.toList.reverse; Builtin.List.listExtendWith (.ref S) (.ref I) .none) _ _ s;refine wpAny_bind ?_;unfold Builtin.List.listItems;refine wpAny_bind (wpAny_seqItems hS rfl (wpAny_pure ?_));show wpAny _ A.in1 (updateSeq S (fun _=>#[]) >>= fun _=>letGo (#[]:Array Value).toList.reverse >>= fun _=>Builtin.List.listExtendWith (.ref S) (.ref I) .none) _ _ s;refine wpAny_bind (wpAny_updateSeq hS rfl ?_);have hS₂:=Heap.get?_update_self (Obj.mapSeq (fun _=>(#[]:Array Value))) hS rfl
 have oth:∀b o,b≠S→s.heap.get? b=some o→(s.heap.update S (Obj.mapSeq (fun _=>(#[]:Array Value)))).get? b=some o:=
  fun b o hb e=>(Heap.get?_update_other _ _ (Ne.symm hb)).trans e
 refine wpAny_bind (wpAny_letGo ?_);refine Zls (hn:=hn) W hT S .none _ (W.frame 0 s _ s.toks hst (Nat.le_refl _) fun b hb o e=>oth b o (fun h=>hSf (h ▸ hb)) e) hSf hI hS₂ fun s' acc' c' hm hS' hacc=>?_;exact hR s' acc' c' (Moved.trans W.gtrans ((Moved.refl W.grefl).then_heap (Nat.le_refl _) fun b o hb e=>oth b o (fun h=>hb (h ▸ List.mem_cons_self)) e) hm) hS' hacc
end
section
variable {prog:Program} {w:World} {A:Around} {E:Value→Shared→Prop} {s:Shared}
variable {I:Addr} {fp wr:List Addr} {G:Array GenState→Array GenState→Prop} {n:Nat} {P:Nat→Value→Prop} {St:Nat→Shared→Prop}
theorem ZhX {Q:Value→Shared→Prop} (W:WalksS prog w A.in1.in1 I fp wr G n P St) (hT:∀i s,St i s→s.TypeIs (.ref I) "list_reverseiterator") (hst:St 0 s) (hfp:∀b∈fp,b < s.heap.objs.size) (hI:I∈fp)
  (hQ:∀s' acc' c',Moved (s.heap.objs.size::wr) G { s with heap:=s.heap.push { cls:=.type "list",data:=.seq #[] } } s'→
   s'.heap.get? s.heap.objs.size=some { cls:=.type "list",dict:=none,data:=.seq acc' c',slots:=#[] }→ItemsOf P acc' n→Q (.ref s.heap.objs.size) s') (hn:n≤sizeLine) :
  wpAny (model prog w) A (call (.type "list") [.ref I]) Q E s:=by
 have hSf:s.heap.objs.size∉fp:=fun hm=>Nat.lt_irrefl _ (hfp _ hm)
 refine callType_codes (Q₁:=fun obj s₁=>obj=.ref s.heap.objs.size∧s₁ = { s with heap:=s.heap.push { cls:=.type "list",data:=.seq #[] } }) F.called_list (F.typeCall_list_1 _) F.entry_list_init
  (code_list_new _ ⟨rfl,rfl⟩) fun obj s₁ h₁=>?_
 obtain⟨rfl,rfl⟩:=h₁;have hS:(s.heap.push { cls:=.type "list",data:=.seq #[] }).get? s.heap.objs.size=some { cls:=.type "list",data:=.seq #[] }:=Heap.get?_push_size _ rfl;refine⟨⟨_,hS,rfl⟩,F.args_list_init_2 _ _,Zoz (hn:=hn) W hT _ (W.frame 0 s _ s.toks hst (Nat.le_refl _) fun b _ o e=>Heap.get?_push_of_some _ e) hSf hI hS fun s' acc' c' hm hS' hacc=>?_⟩;exact⟨rfl,hQ s' acc' c' hm hS' hacc⟩
end
end PySem
namespace L2
open PySem PySem.Spec PyProof.Rows
section
variable {X:Cx} {tg:Expr}
def Zk9 (K:PySem.W.Frag) (te:TE):TE:=fun σ H Q=>te σ H fun x H1=>∃p ys,x=.ref p∧SqL K H1 p ys∧∀l,H1 l=none→Q (.ref l) (upd H1 l (.lst ys.reverse))
theorem Zm0 {its:List Value} {acc:Array Value} (h:ItemsOf (fun i v=>its.toArray[its.toArray.size - 1 - i]?=some v) acc its.toArray.size):acc.toList=its.reverse:=by
 obtain⟨h1,h2⟩:=h
 have h1:acc.size=its.length:=by rw[h1]; simp
 apply List.ext_getElem?;intro i
 by_cases hi:i < its.length
 ·have e:acc[i]?=some (acc[i]'(by omega)):=Array.getElem?_eq_getElem (by omega)
  have:=h2 i _ e;rw[List.size_toArray,List.getElem?_toArray]at this;rw[Array.getElem?_toList,e,←this,List.getElem?_reverse hi]
 ·rw[Array.getElem?_toList,Array.getElem?_eq_none (by omega),List.getElem?_eq_none (by rw[List.length_reverse]; omega)]
theorem Zg3:∀{xs xs':List V} {us us':List Value},Vals xs us→Vals xs' us'→Vals (xs++xs') (us++us')
 | _,_,_,_,.nil,r=>r
 | _,_,_,_,.cons h r,r'=>.cons h (Zg3 r r')
theorem ZfZ:∀{xs:List V} {us:List Value},Vals xs us→Vals xs.reverse us.reverse
 | _,_,.nil=>.nil
 | _,_,.cons h r=>by
  rw[List.reverse_cons,List.reverse_cons];exact Zg3 (ZfZ r) (.cons h .nil)
theorem ZhO {e:Expr} {te:TE} {p p2 pos pos2:Pos} (hc:X.calm=true) (hg:Gl X "list") (hm:X.mg "list" = none) (hg2:Gl X "reversed") (hm2:X.mg "reversed" = none) (ha:PE X e te)
  (he:starEach [e] X.env=(false,eval e X.env)::starEach [] X.env:=by rfl) :
  PE X (.Call (.Name "list" p) [.Call (.Name "reversed" p2) [e] [] pos2] [] pos) (Zk9 X.K te):=by
 intro pins s σ H Q I h;refine wpAny_Call_Name_kw (ZeV I hg hm Zfi ?_);refine PyProof.Rows.callWith_type1 ?_ rfl rfl;show wpAny _ _ (spliced ((false,eval (.Call (.Name "reversed" p2) [e] [] pos2) X.env)::backTo pos (starEach [] X.env))) _ _ s;refine Calls.spliced_cons ?_;refine wpAny_Call_Name_kw (ZeV I hg2 hm2 ZjH ?_)
 let R:List V→Hp→Prop:=fun vs H1=>match vs with | [x]=>(∃p ys,x=V.ref p∧SqL X.K H1 p ys∧∀l,H1 l=none→Q (.ref l) (upd H1 l (.lst ys.reverse))) | _=>False
 have h':ZnU te tNil σ H R:=h;refine PyProof.Rows.callWith_type1 (thn (Zaa ha Zae he pos2 pins s σ H R I h') fun us s1 ⟨vs,H1,I1,r1,q1⟩=>?_) he rfl
 match vs,r1,q1 with
 | [x],r1,q1=>
  obtain⟨p,ys,rfl,hq,q⟩:=q1;obtain⟨u,rfl,rx⟩:=Zko r1
  cases rx
  obtain⟨its,rv,pl,hz⟩:=I1.list hq;have hlen:=rv.length;have pl0:s1.heap.IsList p its.toArray:=pl.isList
  have hpl:p < s1.heap.objs.size:=by obtain⟨o,ho,_⟩:=id pl0; exact Heap.lt_size ho
  refine call_reversed_list pl0 ?_;refine Calls.spliced_nil ?_;have I2:Inv X pins σ H1 { s1 with heap:=s1.heap.push (revObj p ((its.toArray.size:Int) - 1)) }:=I1.kept (t':=s1.toks) fun b o e=>Heap.get?_push_of_some _ e;have pl2:(s1.heap.push (revObj p ((its.toArray.size:Int) - 1))).IsList p its.toArray:=pl0.at fun o e=>Heap.get?_push_of_some _ e;have W:=(Walks.listRev (prog:=X.prog) (w:=X.w) (A:=X.A.in1.in1) (I.ok.hd hc) s1.heap.objs.size p (Nat.ne_of_lt hpl) its.toArray).toS;refine ZhX (s:={ s1 with heap:=s1.heap.push (revObj p ((its.toArray.size:Int) - 1)) }) W (fun i s st=>st.2.1.typeIs) ⟨Nat.zero_le _,⟨_,Heap.get?_push_size _ rfl,rfl,by simp[revObj]⟩,pl2⟩ (fun b hb=>?_) (by simp) (fun s' acc c' hm hS hacc=>?_) (by simp only [List.size_toArray]; omega)
  ·have hs:(s1.heap.push (revObj p ((its.toArray.size:Int) - 1))).objs.size=s1.heap.objs.size+1:=by simp[Heap.push]
   show b < (s1.heap.push (revObj p ((its.toArray.size:Int) - 1))).objs.size;rw[hs];simp at hb
   rcases hb with rfl | rfl
   ·exact Nat.lt_succ_self _
   ·exact Nat.lt_succ_of_lt hpl
  ·rw[Moved.eq_with hm]
   have hf:H1 (s1.heap.push (revObj p ((its.toArray.size:Int) - 1))).objs.size=none:=I2.hok.fresh (Nat.le_refl _);have ea:=Zm0 hacc
   have ea':acc=its.reverse.toArray:=by rw[←ea]
   have hz':ys.reverse.length≤sizeLine:=by rw[List.length_reverse]; exact hz
   have kp:∀b o,s1.heap.get? b=some o→s'.heap.get? b=some o:=fun b o e=>by
    have hb:=Heap.lt_size e;refine hm.heap b o (fun hmem=>?_) (Heap.get?_push_of_some _ (Heap.get?_push_of_some _ e))
    rcases List.mem_cons.mp hmem with e' | e'
    ·have hs:(s1.heap.push (revObj p ((its.toArray.size:Int) - 1))).objs.size=s1.heap.objs.size+1:=by simp[Heap.push]
     have e'':b=(s1.heap.push (revObj p ((its.toArray.size:Int) - 1))).objs.size:=e';rw[hs]at e'';exact absurd hb (by rw[e'']; exact Nat.not_lt.mpr (Nat.le_succ _))
    ·exact absurd hb (by rw[List.mem_singleton.mp e']; exact Nat.lt_irrefl _)
   refine⟨.ref _,upd H1 _ (.lst ys.reverse),I1.laid (t':=s'.toks) kp ?_ (show Zb8 X.prog X.w _ s'.heap _ (.lst ys.reverse) from⟨hz',its.reverse,c',ZfZ rv,by rw[←ea']; exact hS⟩),rfl,q _ hf⟩;simp[Heap.push]
end
section
variable {σ:St} {H:Hp} {Q:VK} {D:Ends} {K:PySem.W.Frag} {g:TG} {tb:TS} {ix:List Nat} {tc:TT} {te:TE}
def Zps (K:PySem.W.Frag) (x:V) (H1:Hp) (Q:VK):Prop:=∃p ys,x=.ref p∧SqL K H1 p ys∧∀l,H1 l=none→Q (.ref l) (upd H1 l (.lst ys.reverse))
theorem ZiL (h:te σ H fun x H1=>Zps K x H1 Q):Zk9 K te σ H Q:=h
theorem ZiR {p:Addr} {ys:List V} (h:SqL K H p ys) (k:∀(l:Addr) (H':Hp),Same H H'→H l=none→H' l=some (.lst ys.reverse)→Q (.ref l) H'):Zps K (.ref p) H Q:=
 ⟨p,ys,rfl,h,fun l hl=>k l _ (ZbZ hl _) hl Zas⟩
end
end L2
namespace PySem
open Sem (wp)
open AutoSeq1 (wpAny_loadPart')
theorem Zi8 (a:Addr) (vs:Array Value) (m:Nat) (dc:Option Addr) (sc:Array (Option Value)):Meets (Builtin.«enumerate.__new__» ⟨[.type "enumerate",.ref a],[]⟩) (fun _ R z=>
    z.heap.get? a=some { cls:=.type "tuple",dict:=dc,data:=.seq vs m,slots:=sc }∧
    R (.ok (.ret (.ref (z.heap.push { cls:=.type "tuple_iterator",data:=.fields #[.ref a,.int 0 0] }).objs.size)))
      { z with heap:=(z.heap.push { cls:=.type "tuple_iterator",data:=.fields #[.ref a,.int 0 0] }).push { cls:=.type "enumerate",data:=.fields #[.none,.bool false,.ref z.heap.objs.size,rawInt 0,.none,.none] } }):=
  .of_wp fun pr wo ar R z hz=>by
    obtain⟨hp,gg,dd,tt,ss⟩:=z;obtain⟨ha,hR⟩:=hz;have hsubE:=sub_enumerate;have hT:Heap.IsTuple (Shared.heap ⟨hp,gg,dd,tt,ss⟩) a vs:=⟨_,ha,rfl,m,rfl⟩
    wp_walk using wpAny_loadPart' ha
    refine wpAny_stack_any fun stk=>wpAny_pure ?_
    split
    · rename_i cc _ _ _ _ _
      cases (cc == Value.type "enumerate") <;>
        (wp_walk using wpAny_loadPart' ha,wpAny_pyIter_tuple hT
         exact⟨_,rfl,hR⟩)
    · wp_walk using wpAny_loadPart' ha,wpAny_pyIter_tuple hT
      exact⟨_,rfl,hR⟩
section
variable {prog:Program} {w:World} {A:Around} {E:Value→Shared→Prop} {s:Shared}
theorem ZhW {a:Addr} {vs:Array Value} {Q:Value→Shared→Prop} (hT:s.heap.IsTuple a vs)
  (q:∀h',IsEnum h' (s.heap.objs.size+1) s.heap.objs.size 0 .none→h'.IsTupleIter s.heap.objs.size a 0→(∀b o,s.heap.get? b=some o→h'.get? b=some o)→Q (.ref (s.heap.objs.size+1)) { s with heap:=h' }) :
  wpAny (model prog w) A (call (.type "enumerate") [.ref a]) Q E s:=by
 obtain⟨⟨c,dc,dt,sc⟩,ha,hc,m,hd⟩:=hT
 replace hc:c=.type "tuple":=hc
 replace hd:dt=.seq vs m:=hd
 subst hc hd;refine callType_new F.called_enumerate (by decide) (F.typeCall_enumerate_1 _) (F.newCall_enumerate_1 _) (fun z=>F.args_object_init_2 z _) F.entry_enumerate_new (Zi8 a vs m dc sc) ⟨ha,?_⟩;have hz:(s.heap.push { cls:=.type "tuple_iterator",data:=.fields #[.ref a,.int 0 0] }).objs.size=s.heap.objs.size+1:=Heap.size_push ..;show _∧_;rw[hz]
 have he:IsEnum ((s.heap.push { cls:=.type "tuple_iterator",data:=.fields #[.ref a,.int 0 0] }).push { cls:=.type "enumerate",data:=.fields #[.none,.bool false,.ref s.heap.objs.size,rawInt 0,.none,.none] }) (s.heap.objs.size+1) s.heap.objs.size 0 .none:=by
  have e:=Heap.get?_push_size (s.heap.push { cls:=.type "tuple_iterator",data:=.fields #[.ref a,.int 0 0] }) (o:={ cls:=.type "enumerate",data:=.fields #[.none,.bool false,.ref s.heap.objs.size,rawInt 0,.none,.none] }) rfl;rw[hz]at e;exact e
 exact⟨⟨_,he,rfl⟩,q _ he ⟨_,Heap.get?_push_of_some _ (Heap.get?_push_size _ rfl),rfl,rfl⟩ fun b o e=>Heap.get?_push_of_some _ (Heap.get?_push_of_some _ e)⟩
theorem ZgG {it t:Addr} {i:Nat} {vs} {x:Value} {Q:Value→Shared→Prop} (hi:s.heap.IsTupleIter it t i) (ht:s.heap.IsTuple t vs) (hx:vs[i]?=some x)
  (q:∀h',h'.IsTupleIter it t (i+1)→Heap.SameBut it s.heap h'→Q x { s with heap:=h' }):wpAny (model prog w) A (Builtin.SmallTypes.nextOf (.ref it)) Q E s:=by
 obtain⟨o,ho,hc,hd⟩:=id hi;obtain⟨ot,hot,_,nt,hdt⟩:=ht;unfold Builtin.SmallTypes.nextOf;refine wpAny_bind (wpAny_callSpecial?_slot (name:=Str.ofString "__next__") hi.typeIs F.slot_tuple_iterator_next (wpAny_call_entry F.slot_tuple_iterator_next hi.typeIs F.entry_tuple_iterator_next ?_ (F.args_tuple_iterator_next_1 _)));show wpAny _ _ (field (.ref it) 0 >>= _) _ _ s;refine wpAny_bind (wpAny_field ho hd (x:=.ref t) rfl ?_);show wpAny _ _ (if (Value.ref t == Value.none)=true then _ else _) _ _ s;rw[if_neg (show ¬((Value.ref t == Value.none)=true) from Bool.false_ne_true)];show wpAny _ _ (field (.ref it) 1 >>= _) _ _ s;refine wpAny_bind (wpAny_field ho hd (x:=.int i 0) rfl ?_);show wpAny _ _ (seqItems? (.ref t) >>= _) _ _ s;refine wpAny_bind (wpAny_seqItems hot hdt ?_);simp only [Int.toNat_natCast,hx];refine wpAny_bind (wpAny_setField ho hd (by simp) (wpAny_pure ⟨x,rfl,wpAny_pure (q _ ?_ (Heap.SameBut.update ..))⟩));exact⟨_,Heap.get?_update_self _ ho (Obj.isFreed_of_fields (Obj.data_mapFields hd _)),(Obj.cls_mapFields ..).trans hc,by rw[Obj.data_mapFields hd]; simp[rawInt]⟩
theorem Zhf {it t:Addr} {i:Nat} {vs} {Q:Value→Shared→Prop} (hh:A.handled=none) (hi:s.heap.IsTupleIter it t i) (ht:s.heap.IsTuple t vs) (hx:vs[i]?=none)
  (q:∀h' e,Heap.ExtBut it s.heap h'→(∃o,h'.get? e=some o∧o.cls=.type "StopIteration")→E (.ref e) { s with heap:=h' }):wpAny (model prog w) A (Builtin.SmallTypes.nextOf (.ref it)) Q E s:=by
 obtain⟨o,ho,hc,hd⟩:=id hi;obtain⟨ot,hot,_,nt,hdt⟩:=ht;unfold Builtin.SmallTypes.nextOf;refine wpAny_bind (wpAny_callSpecial?_slot (name:=Str.ofString "__next__") hi.typeIs F.slot_tuple_iterator_next (wpAny_call_entry F.slot_tuple_iterator_next hi.typeIs F.entry_tuple_iterator_next ?_ (F.args_tuple_iterator_next_1 _)));show wpAny _ _ (field (.ref it) 0 >>= _) _ _ s;refine wpAny_bind (wpAny_field ho hd (x:=.ref t) rfl ?_);show wpAny _ _ (if (Value.ref t == Value.none)=true then _ else _) _ _ s;rw[if_neg (show ¬((Value.ref t == Value.none)=true) from Bool.false_ne_true)];show wpAny _ _ (field (.ref it) 1 >>= _) _ _ s;refine wpAny_bind (wpAny_field ho hd (x:=.int i 0) rfl ?_);show wpAny _ _ (seqItems? (.ref t) >>= _) _ _ s;refine wpAny_bind (wpAny_seqItems hot hdt ?_);simp only [Int.toNat_natCast,hx];refine wpAny_bind (wpAny_rule (wpAny_bind (wpAny_setField ho hd (by simp) ?_)));show wpAny _ _ (newExc (.type "StopIteration") [] >>= _) _ _ _;refine wpAny_bind ?_;simp only [newExc,newTuple];refine wpAny_bind (wpAny_newObj_type ?_ (by size_fits));refine wpAny_bind (m:=firstArgMember _ _) (wpAny_of_eq (a:=Value.none) (by first | rfl | (simp only [firstArgMember]; rfl)) ?_);refine wpAny_newObj_type ?_ (by size_fits);simp only [raiseNew];refine wpAny_bind (wpAny_handled ?_)
 first | rw[show A.in1.handled=none from hh] | rw[hh]
 refine wpAny_bind (wpAny_pure (wpAny_throw ?_));exact q _ _ (((Heap.SameBut.update ..).extBut.push _).push _) ⟨_,Heap.get?_push_size _ rfl,rfl⟩
end
theorem Draws.tup {prog:Program} {w:World} {A:Around} (hh:A.handled=none) (it t:Addr) (hne:t≠it) (vs:Array Value):Draws prog w A it [it,t] vs.size (fun i v=>vs[i]?=some v) (fun i h=>h.IsTupleIter it t i∧h.IsTuple t vs) where
 live:=fun _ _ z=>let ⟨o,ho,_⟩:=z.1; ⟨o,ho⟩
 frame:=fun _ _ _ z hk=>⟨(let ⟨o,ho,r⟩:=z.1; ⟨o,hk it (by simp) o ho,r⟩),(let ⟨o,ho,r⟩:=z.2; ⟨o,hk t (by simp) o ho,r⟩)⟩
 item:=fun i s Q E hi z q=>ZgG z.1 z.2 (x:=vs[i]) (by simp[hi]) fun h' hi' hs'=>q _ h' s.toks (by simp[hi]) ⟨hi',z.2.extBut hs'.extBut hne⟩ hs'
 done:=fun s Q E z q=>Zhf hh z.1 z.2 (by simp) q
theorem Zo5 {h:Heap} {o o':Obj} {b:Addr} (e:(h.push o).get? b=some o'):b=h.objs.size∧o'=o∨h.get? b=some o':=by
 obtain⟨e1,e2⟩:=Heap.get?_some_iff.mp e
 have e1:(h.objs.push o)[b]?=some o':=by simpa [Heap.push] using e1
 rw[Array.getElem?_push]at e1
 split at e1
 ·rename_i z
  exact .inl ⟨z,(Option.some.inj e1).symm⟩
 ·exact .inr (Heap.get?_some_iff.mpr ⟨e1,e2⟩)
end PySem
namespace L2
open PySem PySem.Spec PyProof.Rows
section
variable {X:Cx} {pins:List (Addr×Obj)} {σ:List (Option V)} {H:Hp} {s:Shared} {h':Heap}
theorem Inv.turnedL {t':Nat} {ch:List Addr} (I:Inv X pins σ H s) (k:∀b o,b∉ch→s.heap.get? b=some o→h'.get? b=some o) (hf:∀b∈ch,FpOk X pins H b):Inv X pins σ H { s with heap:=h',toks:=t' }:=by
 have nit:∀b u,H b=some u→b∉ch:=fun b u e z=>by rw[(hf b z).1]at e; cases e
 have hL:X.env.locals∉ch:=fun z=>(hf _ z).2.1 rfl;refine I.step (g':=s.gens) (d':=s.drawn) (ch:=ch) (fun b hb=>?_) (fun b o _ _ hc e _=>k b o hc e) (fun b o _ _ hc e _=>⟨o.slots,k b o hc e⟩) (fun _ _ _ _ n=>n) (fun b o hc e=>⟨o,k b o hc e⟩) (fun _ _ e=>e) (fun _ _ _ e=>e) (fun b ps e=>⟨#[],by rw[e]; simp⟩) (fun m hm=>?_) (fun b u e=>?_) I.bare
 ·obtain⟨f0,f1,f2,f3,f4,f5⟩:=hf b hb
  exact⟨f3,f1,f4,f5⟩
 ·obtain⟨o,es,ep,ho,r⟩:=hm
  exact⟨o,es,ep,k _ o hL ho,r⟩
 ·refine(I.hok b u e).stay (fun c v hc q=>k c v ?_ q) (fun _ q=>q) fun _ _ q=>q
  rcases hc with z | z
  ·rw[z]; exact nit b u e
  ·exact nit c _ z
theorem Inv.pairTurn {t':Nat} {ch:List Addr} {x y:V} {u v:Value} (I:Inv X pins σ H s) (rx:RelV x u) (ry:RelV y v) (hf:∀b∈ch,FpOk X pins H b) (hch:∀b∈ch,b≠s.heap.objs.size)
  (k:∀b o,b∉ch→s.heap.get? b=some o→h'.get? b=some o) (hT:h'.get? s.heap.objs.size=some { cls:=.type "tuple",data:=.seq #[u,v] }) :
  Inv X pins σ (upd H s.heap.objs.size (.tup [x,y])) { s with heap:=h',toks:=t' }:=by
 have I1:Inv X pins σ (upd H s.heap.objs.size (.tup [x,y])) { s with heap:=s.heap.push { cls:=.type "tuple",data:=.seq #[u,v] } }:=
  I.laid (t':=s.toks) (fun b o e=>Heap.get?_push_of_some _ e) (Nat.le_refl _) (show Zb8 X.prog X.w _ _ _ (.tup [x,y]) from⟨Nat.le_of_ble_eq_true rfl,[u,v],.cons rx (.cons ry .nil),IsTup.new _ _⟩)
 refine Inv.turnedL (s:={ s with heap:=s.heap.push { cls:=.type "tuple",data:=.seq #[u,v] } }) (ch:=ch) I1 (fun b o hb e=>?_) fun b hb=>?_
 ·rcases Zo5 e with⟨e1,e2⟩ | e
  ·rw[e1,e2]; exact hT
  ·exact k b o hb e
 ·obtain⟨f0,f1,f2,f3,f4,f5⟩:=hf b hb
  exact⟨by rw[ZaL (hch b hb)]; exact f0,f1,f2,f3,f4,f5⟩
end
def Ite (sq:Hp→Prop) (xs:List V):It:=⟨fun i H=>i < xs.length∧sq H,fun i H x H'=>∃T v,xs[i]?=some v∧H T=none∧x=.ref T∧H'=upd H T (.tup [.int (i:Int),v]),fun i H=>i=xs.length∧sq H⟩
theorem Zjo {P:Program} {w:World} {K:PySem.W.Frag} {elts:List Expr} {kk:Nat} {ps:Pos} {sq:Hp→Prop} {xs:List V} {e it:Addr} {stI:Nat→Heap→Prop} (hei:e≠it)
  (hobj:∀i h,stI i h→∃o,h.get? it=some o∧∀v,o.data≠.cell v) (hkeep:∀i h h',stI i h→(∀o,h.get? it=some o→h'.get? it=some o)→stI i h')
  (hD:∀(X:Cx),X.prog=P→X.w=w→X.K=K→X.calm=true→∀(pins:List (Addr×Obj)) (σ:St) (H:Hp) (s:Shared) (i:Nat),Inv X pins σ H s→sq H→(∃old,IsEnum s.heap e it i old)→stI i s.heap→
   ∃(its:List Value) (fp:List Addr) (S:Nat→Heap→Prop),Vals xs its∧Draws P w X.A.in1 it fp its.length (fun j v=>its[j]?=some v) S∧S i s.heap∧(∀j h,S j h→stI j h)∧e∉fp) :
  Turn P w K (.Tuple elts kk ps) (Ite sq xs) [e,it] e (fun i h=>(∃old,IsEnum h e it i old)∧stI i h) where
 mem:=by simp
 obj:=fun i h st b hb=>by
  obtain⟨⟨old,he⟩,hs⟩:=st
  rcases List.mem_cons.mp hb with rfl | hb
  ·exact⟨_,he,fun v z=>by cases z⟩
  ·rw[List.mem_singleton.mp hb]; exact hobj i h hs
 keep:=fun i h h' st k=>by
  obtain⟨⟨old,he⟩,hs⟩:=st;exact⟨⟨old,k e (by simp) _ he⟩,hkeep i h h' hs fun o z=>k it (by simp) o z⟩
 item:=by
  intro X hP hw hK hc i pins s σ H E I hf st hg;obtain⟨⟨old,he⟩,hs⟩:=st;obtain⟨its,fp,S,rv,D,hS,hst,hef⟩:=hD X hP hw hK hc pins σ H s i I hg.2 ⟨old,he⟩ hs;subst hP hw hK
  have hi:i < its.length:=by rw[←rv.length]; exact hg.1
  refine wpAny_pyNext_enum_itemD D he hS hi hei hef fun u h1 tk hu ho hs1 hT hsz hk=>?_;have hel:e < s.heap.objs.size:=Heap.lt_size he
  have hil:it < s.heap.objs.size:=by obtain⟨o,q,_⟩:=hobj i _ hs; exact Heap.lt_size q
  refine⟨_,rfl,wpAny_letOwnedTupleGo_enum ho fun h2 he2 hs2=>?_⟩;obtain⟨v,hv⟩ : ∃v,xs[i]?=some v:=⟨xs[i]'hg.1,List.getElem?_eq_getElem hg.1⟩;obtain⟨u',hu',ru⟩:=rv.get hv;have eu:u'=u:=Option.some.inj (hu'.symm.trans hu);subst eu
  have I2:Inv X pins σ (upd H s.heap.objs.size (.tup [.int (i:Int),v])) { s with heap:=h2,toks:=tk+1 }:=
   I.pairTurn (ch:=[e,it]) (u:=.int i tk) ⟨tk,rfl⟩ ru hf (fun b hb=>by
    rcases List.mem_cons.mp hb with rfl | hb
    ·exact Nat.ne_of_lt hel
    ·rw[List.mem_singleton.mp hb]; exact Nat.ne_of_lt hil) (fun b o hb z=>by
    have hb1:b≠e:=fun q=>hb (by simp[q]);have hb2:b≠it:=fun q=>hb (by simp[q])
    exact(hs2.2 b hb1).trans (hk b o hb1 hb2 z)) ((hs2.2 _ (Nat.ne_of_gt hel)).trans hT)
  refine⟨.ref s.heap.objs.size,_,I2,rfl,⟨_,v,hv,I.hok.fresh (Nat.le_refl _),rfl,rfl⟩,⟨⟨_,by simpa using he2⟩,hst _ _ (D.frame _ _ _ hs1 fun b hb o z=>(hs2.2 b fun q=>hef (q ▸ hb)).trans z)⟩,fun b hb=>?_⟩
  have hne:b≠s.heap.objs.size:=by
   rcases List.mem_cons.mp hb with rfl | hb
   ·exact Nat.ne_of_lt hel
   ·rw[List.mem_singleton.mp hb]; exact Nat.ne_of_lt hil
  rw[ZaL hne];exact(hf b hb).1
 done:=by
  intro X hP hw hK hc i pins s σ H E I hf st hg;obtain⟨⟨old,he⟩,hs⟩:=st;obtain⟨its,fp,S,rv,D,hS,hst,hef⟩:=hD X hP hw hK hc pins σ H s i I hg.2 ⟨old,he⟩ hs;subst hP hw hK
  have hi:i=its.length:=by rw[←rv.length]; exact hg.1
  rw[hi]at hS;obtain⟨f0,f1,f2,f3,f4,f5⟩:=hf it (by simp);exact wpAny_pyNext_enum_endD D he hS fun h1 eb=>⟨rfl,I.turned (t':=s.toks) (fun b o hb z=>eb b o hb z) f0 f1 f3 f4 f5⟩
 self:=fun _ _ _ _ _ st h=>by
  obtain⟨⟨old,he⟩,_⟩:=st;exact wpAny_pyIter_enum he h
section
variable {X:Cx}
def ZrT (K:PySem.W.Frag) (tl:TE):TI:=fun σ H R=>tl σ H fun x H1=>(∃a xs,x=.ref a∧SqL K H1 a xs∧R (Ite (fun H=>SqL K H a xs) xs) H1)∨(∃a xs,x=.ref a∧SqT K H1 a xs∧R (Ite (fun H=>SqT K H a xs) xs) H1)
theorem Znt {elts:List Expr} {kk:Nat} {ps:Pos} {l:Expr} {tl:TE} {p pos:Pos} (hg:Gl X "enumerate") (hm:X.mg "enumerate" = none) (ha:PE X l tl) (he:starEach [l] X.env=(false,eval l X.env)::starEach [] X.env:=by rfl) :
  PI X (.Tuple elts kk ps) (.Call (.Name "enumerate" p) [l] [] pos) (ZrT X.K tl):=by
 intro pins s σ H R I h;refine wpAny_Call_Name_kw (ZeV I hg hm ZiE ?_)
 let R':List V→Hp→Prop:=fun vs H1=>match vs with | [x]=>((∃a xs,x=V.ref a∧SqL X.K H1 a xs∧R (Ite (fun H=>SqL X.K H a xs) xs) H1)∨(∃a xs,x=V.ref a∧SqT X.K H1 a xs∧R (Ite (fun H=>SqT X.K H a xs) xs) H1)) | _=>False
 have h':ZnU tl tNil σ H R':=h;refine PyProof.Rows.callWith_type1 (thn (Zaa ha Zae he pos pins s σ H R' I h') fun us s1 ⟨vs,H1,I1,r1,q1⟩=>?_) he rfl
 have fpk:∀b∈[s1.heap.objs.size+1,s1.heap.objs.size],FpOk X pins H1 b:=fun b hb=>by
  rcases List.mem_cons.mp hb with rfl | hb
  ·exact I1.fpOk (Nat.le_succ _) (I1.hok.fresh (Nat.le_succ _))
  ·rw[List.mem_singleton.mp hb]; exact I1.fpOk (Nat.le_refl _) (I1.hok.fresh (Nat.le_refl _))
 match vs,r1,q1 with
 | [x],r1,q1=>
  obtain⟨u,rfl,rx⟩:=Zko r1
  rcases q1 with⟨a,xs,rfl,hq,q⟩ | ⟨a,xs,rfl,hq,q⟩
  ·cases rx
   obtain⟨its,rv,pl,hz⟩:=I1.list hq;refine call_enumerate_list pl.isList fun h2 he2 hi2 hsz hk=>?_;refine wpAny_pyIter_enum he2 ⟨s1.heap.objs.size+1,_,_,_,H1,rfl,I1.kept (t':=s1.toks) hk,Zjo (e:=s1.heap.objs.size+1) (it:=s1.heap.objs.size) (stI:=fun i h=>h.IsListIter s1.heap.objs.size a i) (Nat.succ_ne_self _) ?_ ?_ ?_,⟨⟨_,he2⟩,hi2⟩,fpk,q⟩
   ·rintro i h ⟨o,e,c,d⟩
    exact⟨o,e,fun v z=>by rw[d]at z; cases z⟩
   ·exact fun i h h' z k=>z.at k
   ·intro Y hP hw hK hc pins' σ' H' s' i I' hs ⟨old,hen⟩ hit
    have hs:SqL Y.K H' a xs:=by rw[hK]; exact hs
    obtain⟨its',rv',pl',hz'⟩:=I'.list hs
    have na:a≠s1.heap.objs.size:=fun z=>by
     obtain⟨o,e,c,d⟩:=hit;obtain⟨o',e',c',d'⟩:=pl'.isList;rw[z,e]at e'
     cases e'
     rw[c]at c';exact absurd c' (by decide)
    have nb:s1.heap.objs.size+1∉[s1.heap.objs.size,a]:=fun z=>by
     rcases List.mem_cons.mp z with z | z
     ·exact Nat.succ_ne_self _ z
     ·obtain⟨o',e',c',d'⟩:=pl'.isList
      rw[←List.mem_singleton.mp z,hen]at e'
      cases e'
      have c2:Value.type "enumerate" = Value.type "list":=c';exact absurd c2 (by decide)
    have D:=Draws.list (prog:=Y.prog) (w:=Y.w) (A:=Y.A.in1) (I'.ok.hd hc) s1.heap.objs.size a na its'.toArray;rw[hP,hw]at D;exact⟨its',[s1.heap.objs.size,a],fun i h=>h.IsListIter s1.heap.objs.size a i∧h.IsList a its'.toArray,rv',by simpa using D,⟨hit,pl'.isList⟩,fun j h z=>z.1,nb⟩
  ·cases rx
   obtain⟨its,rv,pl,hz⟩:=I1.tuple hq;refine ZhW (show s1.heap.IsTuple a its.toArray from pl) fun h2 he2 hi2 hk=>?_;refine wpAny_pyIter_enum he2 ⟨s1.heap.objs.size+1,_,_,_,H1,rfl,I1.kept (t':=s1.toks) hk,Zjo (e:=s1.heap.objs.size+1) (it:=s1.heap.objs.size) (stI:=fun i h=>h.IsTupleIter s1.heap.objs.size a i) (Nat.succ_ne_self _) ?_ ?_ ?_,⟨⟨_,he2⟩,hi2⟩,fpk,q⟩
   ·rintro i h ⟨o,e,c,d⟩
    exact⟨o,e,fun v z=>by rw[d]at z; cases z⟩
   ·exact fun i h h' z k=>let ⟨o,e,r⟩:=z; ⟨o,k o e,r⟩
   ·intro Y hP hw hK hc pins' σ' H' s' i I' hs ⟨old,hen⟩ hit
    have hs:SqT Y.K H' a xs:=by rw[hK]; exact hs
    obtain⟨its',rv',pl',hz'⟩:=I'.tuple hs
    have na:a≠s1.heap.objs.size:=fun z=>by
     obtain⟨o,e,c,d⟩:=hit;obtain⟨o',e',c',d'⟩:=pl';rw[z,e]at e'
     cases e'
     rw[c]at c';exact absurd c' (by decide)
    have nb:s1.heap.objs.size+1∉[s1.heap.objs.size,a]:=fun z=>by
     rcases List.mem_cons.mp z with z | z
     ·exact Nat.succ_ne_self _ z
     ·obtain⟨o',e',c',d'⟩:=pl'
      rw[←List.mem_singleton.mp z,hen]at e'
      cases e'
      have c2:Value.type "enumerate" = Value.type "tuple":=c';exact absurd c2 (by decide)
    have D:=Draws.tup (prog:=Y.prog) (w:=Y.w) (A:=Y.A.in1) (I'.ok.hd hc) s1.heap.objs.size a na its'.toArray;rw[hP,hw]at D;exact⟨its',[s1.heap.objs.size,a],fun i h=>h.IsTupleIter s1.heap.objs.size a i∧h.IsTuple a its'.toArray,rv',by simpa using D,⟨hit,pl'⟩,fun j h z=>z.1,nb⟩
def ZsK:V→List V→Hp→VK→Prop:=fun x vs H Q=>∃i:Int,x=.int i∧vs=[]∧Q (.int ((Builtin.Int.intBits i:Nat):Int)) H
theorem ZeZ:MtR X "int.bit_length" ZsK:=by
 intro pins s σ H x xs v us Q I r rs h;obtain⟨i,rfl,rfl,q⟩:=h;obtain⟨t,rfl⟩:=r
 cases rs
 exact call_int_bit_length ⟨.int _,H,I.tok _,⟨_,rfl⟩,q⟩
def rAll (K:PySem.W.Frag):List V→Hp→VK→Prop:=fun xs H Q=>∃(p:Addr) (bs:List Bool),xs=[.ref p]∧SqL K H p (bs.map V.bl)∧Q (.bl (bs.all id)) H
theorem Zhv:∀{bs:List Bool} {us:List Value},Vals (bs.map V.bl) us→us=bs.map Value.bool
 | [],_,r=>by cases r; rfl
 | b::bs,_,r=>by
  cases r with
  | cons r rr=>
   cases r
   rw[Zhv rr];rfl
theorem Zny (bs:List Bool):(List.range bs.length).all (fun i=>bs.getD i false)=bs.all id:=by
 apply Bool.eq_iff_iff.mpr;rw[List.all_eq_true,List.all_eq_true]
 constructor
 ·intro h x hx
  obtain⟨i,hi,rfl⟩:=List.mem_iff_getElem.mp hx;have:=h i (List.mem_range.mpr hi);rw[List.getD_eq_getElem?_getD,List.getElem?_eq_getElem hi]at this;exact this
 ·intro h i hi
  have hi:=List.mem_range.mp hi;rw[List.getD_eq_getElem?_getD,List.getElem?_eq_getElem hi];exact h _ (List.getElem_mem hi)
theorem Zkm {prog:Program} {w:World} {A:Around} (bs:List Bool):TruthOf prog w A (fun i v=>(bs.map Value.bool).toArray[i]?=some v) (fun i=>bs.getD i false):=by
 intro i v s Q E hP hQ;rw[List.getElem?_toArray,List.getElem?_map]at hP
 cases e:bs[i]? with
 | none=>rw[e]at hP; cases hP
 | some b=>
  rw[e]at hP
  cases hP
  simp only [List.getD_eq_getElem?_getD,e]at hQ;exact wpAny_truthy_bool hQ
theorem Zmp (hc:X.calm=true):Zgf X (.builtin "all") (rAll X.K):=by
 intro pins s σ H xs us Q I r h;obtain⟨p,bs,rfl,hq,q⟩:=h;obtain⟨u,rfl,rx⟩:=Zko r
 cases rx
 obtain⟨its,rv,pl,hz⟩:=I.list hq;have e:=Zhv rv;subst e
 have hpl:p < s.heap.objs.size:=by obtain⟨o,ho,_⟩:=pl.isList; exact Heap.lt_size ho
 have W:=Walks.list (prog:=X.prog) (w:=X.w) (A:=X.A.in1) (I.ok.hd hc) s.heap.objs.size p (Nat.ne_of_lt hpl) (bs.map Value.bool).toArray;refine call_all_walk (wpAny_pyIter_list pl.isList ⟨s.heap.objs.size,_,_,_,_,_,_,rfl,W,⟨⟨_,Heap.get?_push_size _ rfl,rfl,rfl⟩,pl.isList.push _⟩,Zkm bs,fun h' tk k=>?_⟩);rw[List.size_toArray,List.length_map,Zny];refine⟨.bl (bs.all id),H,I.kept (t':=tk) (fun b o z=>k b o ?_ (Heap.get?_push_of_some _ z)),rfl,q⟩;exact fun hm=>absurd (Heap.lt_size z) (by rw[List.mem_singleton.mp hm]; exact Nat.lt_irrefl _)
end
section
variable {σ:St} {H:Hp} {Q:VK} {D:Ends} {K:PySem.W.Frag} {g:TG} {tb:TS}
def Zqi (sq:Hp→Prop) (xs:List V) (g:TG) (tb:TS) (D:Ends) (σ:St) (H:Hp):Prop:=
 ∃W:Nat→Nat→St→Hp→Prop,(∃m,W 0 m σ H)∧∀i m σ H,W i m σ H→
   ((Ite sq xs).stop i H∧D.nx σ H)∨((Ite sq xs).go i H∧∃N:St→Hp→Prop,(∀σ' H',N σ' H'→∃m',m' < m∧W (i+1) m' σ' H')∧∀x H',(Ite sq xs).yld i H x H'→g x σ H' fun σ2 H2=>tb { D with nx:=N,ct:=N,bk:=D.nx } σ2 H2)
def SeqE (K:PySem.W.Frag) (x:V) (g:TG) (tb:TS) (D:Ends) (σ:St) (H1:Hp):Prop:=(∃a xs,x=.ref a∧SqL K H1 a xs∧Zqi (fun H=>SqL K H a xs) xs g tb D σ H1)∨(∃a xs,x=.ref a∧SqT K H1 a xs∧Zqi (fun H=>SqT K H a xs) xs g tb D σ H1)
theorem ZpH {tl:TE} (h:tl σ H fun x H1=>SeqE K x g tb D σ H1):tFor (ZrT K tl) g tb D σ H:=h
theorem Zti {sq:Hp→Prop} {xs:List V} (Pv:Nat→St→Hp→Prop) (h0:Pv 0 σ H) (hl:∀i σ H,i≤xs.length→Pv i σ H→sq H)
  (hs:∀(i:Nat) (v:V) (T:Addr) σ H H',xs[i]?=some v→Pv i σ H→Same H H'→H T=none→H' T=some (.tup [.int (i:Int),v])→g (.ref T) σ H' fun σ2 H2=>tb { D with nx:=Pv (i+1),ct:=Pv (i+1),bk:=D.nx } σ2 H2) (hd:∀σ H,Pv xs.length σ H→D.nx σ H):Zqi sq xs g tb D σ H:=by
 refine⟨fun i m σ H=>m=xs.length - i∧i≤xs.length∧Pv i σ H,⟨xs.length,by simp,Nat.zero_le _,h0⟩,?_⟩;rintro i m σ H ⟨rfl,hi,p⟩
 by_cases hlt:i < xs.length
 ·refine .inr ⟨⟨hlt,hl i σ H hi p⟩,Pv (i+1),fun σ' H' p'=>⟨xs.length - (i+1),by omega,rfl,hlt,p'⟩,fun x H' y=>?_⟩
  obtain⟨T,v,hv,hT,rfl,rfl⟩:=y;exact hs i v T σ H _ hv p (ZbZ hT _) hT Zas
 ·have e:i=xs.length:=by omega
  subst e;exact .inl ⟨⟨rfl,hl _ σ H hi p⟩,hd σ H p⟩
theorem ZsP {a:Addr} {xs:List V} (Pv:Nat→St→Hp→Prop) (h0:Pv 0 σ H) (hl:∀i σ H,i≤xs.length→Pv i σ H→SqT K H a xs)
  (hs:∀(i:Nat) (v:V) (T:Addr) σ H H',xs[i]?=some v→Pv i σ H→Same H H'→H T=none→H' T=some (.tup [.int (i:Int),v])→g (.ref T) σ H' fun σ2 H2=>tb { D with nx:=Pv (i+1),ct:=Pv (i+1),bk:=D.nx } σ2 H2) (hd:∀σ H,Pv xs.length σ H→D.nx σ H):SeqE K (.ref a) g tb D σ H:=.inr ⟨a,xs,rfl,hl 0 σ H (Nat.zero_le _) h0,Zti Pv h0 hl hs hd⟩
theorem Zr2 {T:Addr} {x y:V} {i j:Nat} {R:St→Hp→Prop} (e:H T=some (.tup [x,y])) (h:R ((σ.set i (some x)).set j (some y)) H):gTup K 2 (Zqy (Zg6 i) (Zqy (Zg6 j) gNil)) (.ref T) σ H R:=
 ⟨T,[x,y],rfl,SqT.of e,rfl,x,[y],rfl,y,[],rfl,rfl,h⟩
theorem ZkC {i:Int} (h:Q (.int ((Builtin.Int.intBits i:Nat):Int)) H):tyV K "int" (.int i) H∧ZsK (.int i) [] H Q:=⟨rfl,i,rfl,rfl,h⟩
theorem ZpX {i:Int} {R:Bool→Prop} (h:R (!decide (i=0))):∃k,TruV K (.int i) H k∧R k:=⟨_,rfl,h⟩
theorem ZmQ {r r':R2} {ta tb tc:TE} (h:ta σ H fun x H1=>tb σ H1 fun y H2=>r x y H2 fun z H3=>∃k,z=.bl k∧(if k=true then tc σ H3 fun w' H4=>r' y w' H4 Q else Q (.bl false) H3)):Zqd r r' ta tb tc σ H Q:=h
theorem Zte {p:Addr} {bs:List Bool} (h:SqL K H p (bs.map V.bl)) (q:Q (.bl (bs.all id)) H):rAll K [.ref p] H Q:=⟨p,bs,rfl,h,q⟩
end
end L2
namespace L2
open PySem PySem.Spec PyProof.Rows
section
variable {X:Cx}
end
section
open PySem.SeqAt
open PySem.AutoSeq1 (wpAny_loadPart')
open PySem.MeetsSeq PySem.MeetsSeq2 PySem.MeetsSeq3
theorem Zo9 (A:Around) (z:Shared) (a:Int) (t:Tok) (c:Int) (u:Tok) (pr:Program) (wo:World) (E:Value→Shared→Prop) (Q:Value→Shared→Prop) (q:Q (.bool (!decide (a < c))) z):wpAny (model pr wo) A (richCompare .GtE (.int a t) (.int c u)) Q E z:=by
 have e:decide (c≤a) = !decide (a < c):=by
  by_cases h:a < c
  ·rw[decide_eq_true h,decide_eq_false (by omega)]; rfl
  ·rw[decide_eq_false h,decide_eq_true (by omega)]; rfl
 exact(PyProof.Rows.ge_int (by rw[e]; exact q):wpAny (model pr wo) A (compareOp .GtE (.int a t) (.int c u)) Q E z)
theorem Zkn (l b:Addr) (vs ws:Array Value) (n n2:Nat) (dd dd2:Option Addr) (sl sl2:Array (Option Value)) (ns ms:List Int) (hi:IntsAre vs.toList ns) (hj:IntsAre ws.toList ms):Meets (Builtin.«tuple.__ge__» ⟨[.ref l,.ref b],[]⟩)
  (fun _ R z=>z.heap.get? l=some { cls:=.type "tuple",dict:=dd,data:=.seq vs n,slots:=sl }∧z.heap.get? b=some { cls:=.type "tuple",dict:=dd2,data:=.seq ws n2,slots:=sl2 }∧R (.ok (.ret (.bool (!HT.lexLt ns ms)))) z):=
 .of_wp fun pr wo A R z h=>by
  obtain⟨hp,g,d,tk,os⟩:=z;obtain⟨hl,hb,h⟩:=h;have ft:=AutoSeq1.sub_tuple_tuple
  have z1:vs.size=ns.length:=by rw[←hi.length]; simp
  have z2:ws.size=ms.length:=by rw[←hj.length]; simp
  wp_walk using wpAny_loadPart' hl,wpAny_loadPart' hb,wpAny_forIn_list _ (fun rest b z'=>b.1=none∧z'=⟨hp,g,d,tk,os⟩ ∧∃(xs ys:List Value) (ns' ms':List Int),rest=xs.zip ys∧IntsAre xs ns'∧IntsAre ys ms'∧ns'.length+ws.size=ms'.length+vs.size∧R (.ok (.ret (.bool (!HT.lexLt ns' ms')))) ⟨hp,g,d,tk,os⟩) _
  case turn=>
   rintro⟨y,x⟩ rest b z' ⟨hb',rfl,xs,ys,ns',ms',hz,hvi,hwi,hlen,hR⟩
   cases hvi with
   | nil=>rw[List.zip_nil_left]at hz; cases hz
   | cons a t hvi'=>
    cases hwi with
    | nil=>rw[List.zip_nil_right]at hz; cases hz
    | cons c u hwi'=>
     rw[List.zip_cons_cons]at hz
     injection hz with hyx hrest
     injection hyx with hy hx
     subst hy hx;rw[HT.lexLt_cons]at hR;simp only [List.length_cons]at hlen;obtain⟨e,he,hiff⟩:=HT.eqAt_int A.in1 ⟨hp,g,d,tk,os⟩ a t c u;refine wpAny_bind (he pr wo _ _ ?_)
     cases e with
     | true=>
      rw[if_pos (hiff.mp rfl)]at hR
      wp_walk
      exact⟨rfl,rfl,_,_,_,_,hrest,hvi',hwi',by omega,hR⟩
     | false=>
      rw[if_neg (fun q=>absurd (hiff.mpr q) Bool.false_ne_true)]at hR;have hri:=Zo9 A.in1 ⟨hp,g,d,tk,os⟩ a t c u pr wo
      wp_walk using hri
      exact⟨_,rfl,by simpa using hR⟩
  case fin=>
   rintro⟨b1,b2⟩ z' ⟨hb',rfl,xs,ys,ns',ms',hz,hvi,hwi,hlen,hR⟩;simp only at hb';subst hb'
   have hv:(!HT.lexLt ns' ms')=decide (vs.size ≥ ws.size):=by
    cases hvi with
    | nil=>
     cases hwi with
     | nil=>
      simp only [List.length_nil]at hlen;rw[HT.lexLt_nil_nil];exact(decide_eq_true (by omega)).symm
     | cons c u hw=>
      simp only [List.length_nil,List.length_cons]at hlen;rw[HT.lexLt_nil_cons];exact(decide_eq_false (by omega)).symm
    | cons a t hv=>
     cases hwi with
     | nil=>
      simp only [List.length_nil,List.length_cons]at hlen;rw[HT.lexLt_cons_nil];exact(decide_eq_true (by omega)).symm
     | cons c u hw=>
      rw[List.zip_cons_cons]at hz
      cases hz
   rw[hv]at hR
   wp_walk
   exact⟨_,rfl,by simpa [Builtin.Tuple.tupleCompareSizes] using hR⟩
  case h=>
   exact⟨rfl,rfl,vs.toList,ws.toList,ns,ms,rfl,hi,hj,by omega,h⟩
end
def rGeT (K:PySem.W.Frag):R2:=fun x y H Q=>∃a b ns ms,x=.ref a∧y=.ref b∧SqT K H a (ns.map V.int)∧SqT K H b (ms.map V.int)∧Q (.bl (!HT.lexLt ns ms)) H
theorem Zsy {X:Cx} (hu:X.A.units+64 < cLine):OpR X (compareOp .GtE) (rGeT X.K):=by
 intro pins s σ H x y v u Q I rx ry h;obtain⟨a,b,ns,ms,rfl,rfl,ha,hb,q⟩:=h
 cases rx
 cases ry
 obtain⟨its,r1,p1,_⟩:=I.tuple ha;obtain⟨its2,r2,p2,_⟩:=I.tuple hb;have i1:IntsAre its.toArray.toList ns:=Zhz r1;have i2:IntsAre its2.toArray.toList ms:=Zhz r2;obtain⟨⟨c1,dd,da,sl⟩,ho,hc,n,hd⟩:=id p1;obtain⟨⟨c2,dd2,da2,sl2⟩,ho2,hc2,n2,hd2⟩:=id p2;simp only at hc hd hc2 hd2;subst hc hd hc2 hd2
 exact richCompare_meets_room (op:=.GtE) ⟨_,ho,rfl⟩ ⟨_,ho2,rfl⟩ PySem.F.slot_tuple_ge PySem.F.entry_tuple_ge (PySem.F.args_tuple_ge_2 _ _) (Zkn a b _ _ n n2 dd dd2 sl sl2 ns ms i1 i2)
  ⟨ho,ho2,show Value.bool (!HT.lexLt ns ms)≠Value.notImplemented∧EP X pins σ Q (.bool (!HT.lexLt ns ms)) s from⟨(fun x=>nomatch x),⟨.bl (!HT.lexLt ns ms),H,I,rfl,q⟩⟩⟩ (by omega)
def Zta (i j:Int):Prop:=0 < j∧j≤18446744073709551616
theorem Zbw {X:Cx}:OpR X (binaryOp .FloorDiv) (rI Zta fun i j=>.int (i / j)):=opI fun i j _ _ _ _ _ hc q=>by
 have h1:(0:Int) < j:=hc.1;have h2:j≤18446744073709551616:=hc.2;refine floordiv_int (by omega) (by rw[Int.fdiv_eq_ediv_of_nonneg i (by omega)]; exact q) (.inl (PyProof.noPylong_of_log2 ?_));have h3:j.natAbs.log2 < 65:=(Nat.log2_lt (by omega)).mpr (by omega);omega
section
variable {σ:St} {H:Hp} {Q:VK} {D:Ends} {K:PySem.W.Frag} {g:TG} {tb:TS}
theorem Zoj {ix:List Nat} {tc:TT} {te:TE} {J:It} {xs:List V} (Pv:Nat→List V→Hp→Prop) (hw:Wk J xs H) (hz:xs.length≤1000000) (h0:∀H',Same H H'→Pv 0 [] H')
  (hm:∀i ys H1 H2,Ext H1 H2→Pv i ys H1→Pv i ys H2)
  (hs:∀(i:Nat) (x:V) (ys:List V) (acc:Addr) (H':Hp),xs[i]?=some x→Same H H'→H acc=none→H' acc=some (.lst ys)→Pv i ys H'→ys.length≤i→
   ∀R:Bool→Hp→Prop,(∀b H2,Same H' H2→(b=false→Pv (i+1) ys H2)→(b=true→∀R2:V→Hp→Prop,(∀y H3,Same H2 H3→Pv (i+1) (ys++[y]) H3→R2 y H3)→te (some x::subS σ ix) H2 R2)→R b H2)→tc (some x::subS σ ix) H' R)
  (hd:∀(acc:Addr) (ys:List V) (H':Hp),H acc=none→Same H H'→H' acc=some (.lst ys)→Pv xs.length ys H'→Q (.ref acc) H'):ZhS J ix tc te σ Q H:=by
 intro acc hacc
 have sU:∀{H2:Hp} (o:HO),Same H H2→Same H (upd H2 acc o):=fun o s b u e=>by rw[ZaL (ZaF e hacc)]; exact s b u e
 refine⟨fun i m ys H'=>m=xs.length - i∧i≤xs.length∧Same H H'∧H' acc=some (.lst ys)∧Pv i ys H'∧ys.length≤i,⟨xs.length,by simp,Nat.zero_le _,ZbZ hacc _,Zas,h0 _ (ZbZ hacc _),Nat.le_refl _⟩,?_⟩;rintro i m ys H' ⟨rfl,hi,sm,ea,pv,hy⟩
 by_cases hlt:i < xs.length
 ·obtain⟨go,yl⟩:=(hw H' sm).1 i hlt
  refine .inr ⟨go,fun x H2 y=>?_⟩;obtain⟨rfl,hx⟩:=yl x H2 y;refine hs i x ys acc _ hx sm hacc ea pv hy _ fun b H3 s3 pf pt=>?_
  cases b with
  | false=>
   rw[if_neg Bool.false_ne_true];exact⟨xs.length - (i+1),by omega,rfl,hlt,sm.trans s3,s3 _ _ ea,pf rfl,Nat.le_succ_of_le hy⟩
  | true=>
   rw[if_pos rfl];refine pt rfl _ fun y H4 s4 py=>⟨s4 _ _ (s3 _ _ ea),ZnI (by omega),xs.length - (i+1),by omega,rfl,hlt,sU _ (sm.trans (s3.trans s4)),Zas,hm _ _ _ _ (But.ext (l:=acc) (s4 _ _ (s3 _ _ ea)) ZjI) py,?_⟩;rw[List.length_append,List.length_singleton];omega
 ·have e:i=xs.length:=by omega
  subst e;exact .inl ⟨(hw H' sm).2,hd acc ys H' hacc sm ea pv⟩
end
end L2
namespace PySem
open Sem (wp)
theorem Obj.dict_mapFields (o:Obj) (f:Array Value→Array Value):(Obj.mapFields f o).dict=o.dict:=by unfold Obj.mapFields; split <;> rfl
def Zoo (l:List Env):List Addr:=l.filterMap (·.frame)
def Heap.Tr (h:Heap) (e:Addr) (cls:Value) (T:Addr):Prop:=∃oe vs oT ts,h.get? e=some oe∧oe.cls=cls∧oe.dict=none∧oe.data=.fields vs∧vs[1]?=some (.ref T)∧T≠e∧h.get? T=some oT∧oT.data=.fields ts∧ts[3]?=some .none
structure Heap.Gone (fs own:List Addr) (h h':Heap):Prop where
 kept:∀b o,b∉fs→b∉own→h.get? b=some o→h'.get? b=some o
 slot:∀b o,b∈fs→b∉own→h.get? b=some o→∃sl,h'.get? b=some { o with slots:=sl }
section
variable {M:Model} {A:Around} {E:Value→Shared→Prop} {s:Shared}
theorem Zgu {base:Heap} {env:Env} {outer:List Env} {L e:Addr} {oe:Obj} {vs:Array Value} {head:Value} {nx:Bool} {Q:Unit→Shared→Prop} (hfr:A.frames=some (env::outer)) (hl:s.heap.FunFrames base (env::outer)) (hf:env.frame=some L)
  (he:s.heap.get? e=some oe) (hdi:oe.dict=none) (hd:oe.data=.fields vs) (hsz:1 < vs.size)
  (q:∀h' T,Heap.Gone (Zoo (env::outer)) [e] s.heap h'→s.heap.get? T=none→s.heap.objs.size≤T→h'.Tr e oe.cls T→Q () { s with heap:=h' }) :
  wpAny M A (do let a ←frameOf env; let pl ←entryPlaceOf L nx; let b ←EntryCells.newEntry head a .none (rawInt L) .none pl; setField (.ref e) 1 b) (fun _ s'=>wpAny M A (setFlight (.ref e) none) Q E s') E s:=by
 have hene:e∉Zoo (env::outer):=fun hm=>by
  obtain⟨_,o,ho,hnf⟩:=hl.mem hm
  rw[he]at ho; injection ho with ho; subst ho; exact hnf vs hd
 refine wpAny_bind (wpAny_frameOf_fun hfr hl hf fun h₁ hs₁=>?_);refine wpAny_bind (wpAny_entryPlaceOf fun pl hpl=>?_);unfold EntryCells.newEntry newFields;refine wpAny_bind (wpAny_newObj_type ?_ (hpl.sizeOk5 _ _ _ _ _));have he₁:h₁.get? e=some oe:=(hs₁.2.1 e hene).trans he;generalize hrec:({ cls:=.type "traceback",dict:=none,data:=.fields ([head,.ref L,.none,rawInt L,.none]++(if pl.isEmpty then List.replicate 6 Value.none else pl)).toArray }:Obj)=rec
 have hfree:rec.isFreed=false:=by subst hrec; rfl
 have hrd:rec.data=.fields ([head,.ref L,.none,rawInt L,.none]++(if pl.isEmpty then List.replicate 6 Value.none else pl)).toArray:=by subst hrec; rfl
 have he₂:=Heap.get?_push_of_some (h:=h₁) rec he₁;refine wpAny_setField he₂ hd hsz ?_;have hTe:h₁.objs.size≠e:=Nat.ne_of_gt (Heap.lt_size he₁);have hd₃:=Obj.data_mapFields hd (·.setIfInBounds 1 (Value.ref h₁.objs.size));have he₃:=Heap.get?_update_self (Obj.mapFields (·.setIfInBounds 1 (Value.ref h₁.objs.size))) he₂ (Obj.isFreed_of_fields hd₃);have hT₃:=(Heap.get?_update_other (h₁.push rec) (Obj.mapFields (·.setIfInBounds 1 (Value.ref h₁.objs.size))) (Ne.symm hTe)).trans (Heap.get?_push_size h₁ hfree);unfold setFlight;refine wpAny_bind (wpAny_field he₃ hd₃ (x:=.ref h₁.objs.size) (by simp[hsz]) ?_);rw[if_pos (show(Value.ref h₁.objs.size != Value.none)=true from by simp)];refine wpAny_setField hT₃ hrd (by simp only [List.size_toArray,List.length_append,List.length_cons,List.length_nil] <;> omega) ?_
 have keep:∀b o,b≠e→h₁.get? b=some o→(((h₁.push rec).update e (Obj.mapFields (·.setIfInBounds 1 (Value.ref h₁.objs.size)))).update h₁.objs.size (Obj.mapFields (·.setIfInBounds 3 ((none:Option Addr).elim Value.none fun f=>rawInt f)))).get? b=some o:=fun b o hbe hb=>by
  have hbT:h₁.objs.size≠b:=Nat.ne_of_gt (Heap.lt_size hb);rw[Heap.get?_update_other _ _ hbT,Heap.get?_update_other _ _ (Ne.symm hbe)];exact Heap.get?_push_of_some _ hb
 refine q _ h₁.objs.size ⟨fun b o hb ho e'=>?_,fun b o hb ho e'=>?_⟩ (Heap.get?_none_of_le (by rw[hs₁.1]; exact Nat.le_refl _)) (by rw[hs₁.1]; exact Nat.le_refl _) ?_
 ·exact keep b o (fun z=>ho (by rw[z]; exact List.mem_singleton.mpr rfl)) ((hs₁.2.1 b hb).trans e')
 ·obtain⟨sl,e2⟩:=hs₁.2.2 b o e'
  exact⟨sl,keep b _ (fun z=>ho (by rw[z]; exact List.mem_singleton.mpr rfl)) e2⟩
 ·refine⟨_,_,_,_,?_,Obj.cls_mapFields _ _,(Obj.dict_mapFields _ _).trans hdi,hd₃,by simp[hsz],hTe,Heap.get?_update_self _ hT₃ (Obj.isFreed_of_fields (Obj.data_mapFields hrd _)),Obj.data_mapFields hrd _,by first | (simp; done) | (rcases hpl with rfl | ⟨_,_,_,_,_,_,_,rfl⟩ <;> simp)⟩
  rw[Heap.get?_update_other _ _ hTe]; exact he₃
theorem ZjW {base:Heap} {env:Env} {outer:List Env} {L e:Addr} {oe:Obj} {vs:Array Value} {Q:Unit→Shared→Prop} (hfr:A.frames=some (env::outer)) (hl:s.heap.FunFrames base (env::outer)) (hf:env.frame=some L)
  (he:s.heap.get? e=some oe) (hdi:oe.dict=none) (hd:oe.data=.fields vs) (h1:vs[1]?=some .none)
  (q:∀h' T,Heap.Gone (Zoo (env::outer)) [e] s.heap h'→s.heap.get? T=none→s.heap.objs.size≤T→h'.Tr e oe.cls T→Q () { s with heap:=h' }):wpAny M A (leaving env (.ref e)) Q E s:=by
 unfold leaving noteFrame;simp only [hf];refine wpAny_bind (wpAny_bind (wpAny_field he hd h1 ?_));rw[if_neg (by decide)];exact Zgu hfr hl hf he hdi hd (Array.getElem?_eq_some_iff.mp h1).1 q
theorem Znl {base:Heap} {env:Env} {outer:List Env} {L e T:Addr} {cls:Value} {Q:Unit→Shared→Prop} (hfr:A.frames=some (env::outer)) (hl:s.heap.FunFrames base (env::outer)) (hf:env.frame=some L) (ht:s.heap.Tr e cls T)
  (q:∀h' T',Heap.Gone (Zoo (env::outer)) [e,T] s.heap h'→s.heap.get? T'=none→s.heap.objs.size≤T'→h'.Tr e cls T'→Q () { s with heap:=h' }):wpAny M A (noteFrame (.ref e) env) (fun _ s'=>wpAny M A (setFlight (.ref e) none) Q E s') E s:=by
 obtain⟨oe,vs,oT,ts,he,hcls,hdi,hd,h1,hTe,hT,hdT,h3⟩:=ht;subst hcls;unfold noteFrame;simp only [hf];refine wpAny_bind (wpAny_field he hd h1 ?_);rw[if_pos (show(Value.ref T != Value.none)=true from by simp)];refine wpAny_bind (wpAny_field hT hdT h3 ?_);rw[if_neg (show ¬((Value.none == rawInt L)=true) from by simp[rawInt])];refine wpAny_bind (wpAny_setField hT hdT (Array.getElem?_eq_some_iff.mp h3).1 ?_);have other:∀b,b≠T→(s.heap.update T (Obj.mapFields (·.setIfInBounds 3 Value.none))).get? b=s.heap.get? b:=fun b hb=>Heap.get?_update_other _ _ (Ne.symm hb)
 have noRec:∀b o,s.heap.get? b=some o→(∀vs,o.data≠.fields vs)→b≠T:=fun b o hb hnf z=>by
  rw[z,hT]at hb; injection hb with hb; subst hb; exact hnf ts hdT
 have hsz:(s.heap.update T (Obj.mapFields (·.setIfInBounds 3 Value.none))).objs.size=s.heap.objs.size:=Heap.size_after_update ..;refine Zgu (s:={ s with heap:=s.heap.update T (Obj.mapFields (·.setIfInBounds 3 Value.none)) }) hfr (hl.of_keeps fun b o hb hnf=>⟨o,(other b (noRec b o hb hnf)).trans hb,rfl⟩) hf ((other e (Ne.symm hTe)).trans he) hdi hd (Array.getElem?_eq_some_iff.mp h1).1 fun h' T' g n le tr=>?_
 have le':s.heap.objs.size≤T':=by rw[←hsz]; exact le
 refine q h' T' ⟨fun b o hb ho e'=>?_,fun b o hb ho e'=>?_⟩ (Heap.get?_none_of_le le') le' tr
 ·have hbT:b≠T:=fun z=>ho (by simp[z])
  exact g.kept b o hb (fun z=>ho (by simp[List.mem_singleton.mp z])) ((other b hbT).trans e')
 ·have hbT:b≠T:=fun z=>ho (by simp[z])
  exact g.slot b o hb (fun z=>ho (by simp[List.mem_singleton.mp z])) ((other b hbT).trans e')
end
end PySem
namespace L2
open PySem PySem.Spec PyProof.Rows
section
variable {P:Program} {w:World} {H H':Hp} {h h' h1 h2:Heap} {a:Addr} {o:HO} {fs own:List Addr}
theorem Zb8.at (x:Zb8 P w H h a o):∃u,h.get? a=some u:=by
 cases o with
 | lst xs=>obtain⟨_,_,_,_,e⟩:=x; exact⟨_,e⟩
 | tup xs=>obtain⟨_,_,_,⟨_,e,_⟩⟩:=x; exact⟨_,e⟩
 | dK kvs=>obtain⟨_,_,_,_,o,_,_,e,_⟩:=x; exact⟨_,e⟩
 | dT kvs=>obtain⟨_,_,_,_,o,_,_,e,_⟩:=x; exact⟨_,e⟩
 | set S n=>obtain⟨o,_,_,_,e,_⟩:=x; exact⟨_,e⟩
 | ins C dx fs=>obtain⟨_,_,_,e,_⟩:=x; exact⟨_,e⟩
 | own y=>obtain⟨_,e⟩:=x; exact⟨_,e⟩
 | xd fs=>obtain⟨_,⟨_,_,_,e,_⟩,_⟩:=x; exact⟨_,e⟩
 | rng lo hi=>obtain⟨_,_,_,e⟩:=x; exact⟨_,e⟩
 | frz ob u=>obtain⟨e,_⟩:=x; exact⟨_,e⟩
 | tbl ps=>exact⟨_,(show h.get? a=some _ from x)⟩
 | met f y=>exact⟨_,(show h.get? a=some _ from x)⟩
 | ext φ=>obtain⟨_,⟨_,e⟩,_⟩:=x; exact⟨_,e⟩
theorem HOk.out (x:HOk P w H h) (e:h.get? a=none):H a=none:=by
 cases q:H a with
 | none=>rfl
 | some u=>obtain⟨v,z⟩:=Zb8.at (x a u q); rw[e]at z; cases z
theorem ZmM (u:Un fs [] H H' h h1) (g:Heap.Gone fs own h1 h2) (hn:∀b∈own,h.get? b=none):Un fs [] H H' h h2:=by
 have no:∀b o,h.get? b=some o→b∉own:=fun b o e z=>by rw[hn b z]at e; cases e
 refine⟨fun b o e n hf hx=>g.kept b o hf (no b o e) (u.keep b o e n hf hx),fun b o e n hf hx=>?_,u.free,fun b o e hx=>?_,u.tups,u.frzs,u.tbls⟩
 ·obtain⟨sl,q⟩:=u.slot b o e n hf hx
  obtain⟨sl',q'⟩:=g.slot b _ hf (no b o e) q;exact⟨sl',q'⟩
 ·obtain⟨o',q⟩:=u.there b o e hx
  by_cases hf:b∈fs
  ·obtain⟨sl',q'⟩:=g.slot b _ hf (no b o e) q
   exact⟨_,q'⟩
  ·exact⟨_,g.kept b _ hf (no b o e) q⟩
theorem Zkz (x:HOk P w H h) (g:Heap.Gone fs own h h2) (hf:∀b∈fs,H b=none) (ho:∀b∈own,H b=none):HOk P w H h2:=fun b u e=>by
 refine(x b u e).stay (fun c v hc q=>?_) (fun _ q=>q) fun _ _ q=>q
 have hs:∃z,H c=some z:=by
  rcases hc with z | z
  ·rw[z]; exact⟨_,e⟩
  ·exact⟨_,z⟩
 obtain⟨z,hz⟩:=hs;exact g.kept c v (fun m=>by rw[hf c m]at hz; cases hz) (fun m=>by rw[ho c m]at hz; cases hz) q
end
def CX1 (P:Program) (w:World):CXT:=fun outer H s E e s'=>∃ea T C H',e=.ref ea∧s'.os=s.os∧AllBare s'.gens∧Un (frs outer) [] H H' s.heap s'.heap∧HOk P w H' s'.heap∧H' ea=none∧H' T=none∧
 s.heap.get? ea=none∧s.heap.get? T=none∧s'.heap.Tr ea (.ref C) T∧E (.ref C) none H'
def Lets (X:Cx) (E:XK):Prop:=∀(pins:List (Addr×Obj)) (σ:St) (H:Hp) (s:Shared) (h':Heap) (e C:Addr) (args:List Value),Inv X pins σ H s→Heap.MadeExcOf s.heap h' e (.ref C) args→E (.ref C) none H→X.xe (.ref e) { s with heap:=h' }
section
variable {P:Program} {w:World} {K:PySem.W.Frag} {mg:Str→Option Value} {base:Heap} {N:List Str} {qual:Str} {scope:Scope} {f:Addr} {cd:Value} {A:Around} {outer:List Env} {s:Shared} {H:Hp} {E:XK}
theorem Zth:Lets (cxOf (CX1 P w) P w K mg base N qual scope f cd A outer s H E) E:=by
 intro pins σ H1 s1 h' e C args I hm hE;obtain⟨t,ho,_,_⟩:=hm.there;have I1:Inv (cxOf (CX1 P w) P w K mg base N qual scope f cd A outer s H E) pins σ H1 { s1 with heap:=h' }:=I.kept (t':=s1.toks) hm.keeps;show wpAny _ _ (leaving _ _) _ _ _;refine ZjW (s:={ s1 with heap:=h' }) I.ok.frames I1.stack rfl ho rfl rfl (by simp) fun h2 T g nT _ tr=>?_;have He:H1 e=none:=I.hok.out hm.new;have HT:H1 T=none:=I1.hok.out nT;have un:Un (frs (cxOf (CX1 P w) P w K mg base N qual scope f cd A outer s H E).stack) [] H1 H1 s1.heap h2:=ZmM (Un.kept hm.keeps) g (fun b hb=>by rw[List.mem_singleton.mp hb]; exact hm.new);have hk:HOk P w H1 h2:=Zkz I1.hok g I1.stkFree (fun b hb=>by rw[List.mem_singleton.mp hb]; exact He);have I2:Inv (cxOf (CX1 P w) P w K mg base N qual scope f cd A outer s H E) pins σ H1 { s1 with heap:=h2 }:=I.call (g':=s1.gens) (t':=s1.toks) (d':=s1.drawn) (ch:=[]) un hk I.bare (fun b z=>absurd z (by simp))
 have back:∀b,s1.heap.get? b=none→s.heap.get? b=none:=fun b hb=>by
  cases q:s.heap.get? b with
  | none=>rfl
  | some o=>
   obtain⟨o',z⟩:=I.base.there b o q (by show b∉[]; simp);rw[hb]at z; cases z
 have nT1:s1.heap.get? T=none:=by
  cases q:s1.heap.get? T with
  | none=>rfl
  | some o=>have z:=hm.keeps T o q; rw[show h'.get? T=none from nT]at z; cases z
 exact⟨e,T,C,H1,rfl,I.os,I.bare,I2.base,hk,He,HT,back e hm.new,back T nT1,tr,hE⟩
end
theorem Fun.ok1 {P:Program} {w:World} {K:PySem.W.Frag} {mg:Str→Option Value} {base:Heap} {x qual:Str} {st:Stmt} {f:Addr} {fd:FuncData} {N ps:List Str} {k:Nat} {sp:Sp} (F:Fun K x qual st f fd) (S:FnScope N ps (Zag st)) (len:∀vs H Q E,sp vs H Q E→vs.length=ps.length)
  (hbody:∀(cdv:Value) (A:Around) (outer:List Env) (s:Shared) (H:Hp) (vs:List V) (Q:VK) (E:XK),Room k (A.deeper (envOfC qual (Zag st) s.heap.objs.size f cdv))→sp vs H Q E→
   ∃t,PSs (cxOf (CX1 P w) P w K mg base N qual (Zag st) f cdv A outer s H E) (ZdG st) t∧t { nx:=fun _ H'=>Q .non H',rt:=Q } (start N vs) H):FnOk P w K mg base (CX1 P w) (k+1) f fd ps sp:=by
 obtain⟨oc,od,kV,doc,pm,an,cdv,ct,osl,rfl,lk,hcd⟩:=F.ex;exact ZrR lk hcd S len fun A outer s H vs Q E hr hsp=>hbody cdv A outer s H vs Q E hr hsp
end L2
namespace L2
open PySem PySem.Spec PyProof.Rows
abbrev vErr:List Value:=[.type "ValueError",.type "Exception",.type "BaseException",.type "object"]
abbrev Zkq (K:PySem.W.Frag) (C:Addr):Prop:=PySem.W.excIn K C vErr "ValueError.__new__" = true
theorem ZrN {K:PySem.W.Frag} {h:Heap} {C:Addr} (X:K.In h) (q:Zkq K C):∃bm N nm qn bs hdct sn sub ab col dd k0 k1 k2 k3 k5 mN,
  h.get? C=some (excClassObj nm qn C N bs bm hdct sn sub ab col dd k0 k1 k2 k3 k5 "ValueError.__new__")∧h.Ns N mN∧mN "__init__" = none∧OwnTail h vErr bm:=by
 unfold Zkq PySem.W.excIn at q
 split at q
 ·rename_i dd cd sl ho
  split at q
  ·rename_i C' bm k0 k1 k2 k3 n k5 hm hs
   simp only [Bool.and_eq_true,beq_iff_eq,Bool.not_eq_true']at q;obtain⟨⟨⟨⟨⟨rfl,rfl⟩,hdel⟩,ht⟩,hok⟩,hni⟩:=q;obtain⟨nm,bs,mro,ns,qn,hd,sn,sub,ab,col,del⟩:=cd
   dsimp only at hm hdel hok hni
   subst hm hdel
   have hsl:sl = #[k0,k1,k2,k3,some (.builtin "ValueError.__new__"),k5]:=by
    obtain⟨l⟩:=sl;simp only at hs;rw[hs]
   subst hsl;exact⟨bm,ns,nm,qn,bs,hd,sn,sub,ab,col,dd,k0,k1,k2,k3,k5,_,X _ _ ho,.of_isNs (PySem.W.isNs_of_in X hok),PySem.W.nsMap_none_of_in X hok hni,PySem.W.tail_of_in X ht⟩
  ·cases q
 ·cases q
section
variable {X:Cx} {E:XK} {C:Addr} {x:Str} {np cpos pos:Pos} {e:Expr} {es:List Expr} {t:TA}
def Zqe (C:Addr) (E:XK) (t:TA):TS:=fun _ σ H=>t σ H fun vs H1=>vs.length≤9∧E (.ref C) none H1
theorem Zo3 (hc:X.calm=true) (hl:Lets X E) (q:Zkq X.K C) (hg:Gl X x) (hm:X.mg x=some (.ref C)) (ha:PA X (e::es) t) (hdb:(x == ("__debug__" : Str))=false:=by decide)
  (he:starEach (e::es) X.env=(false,eval e X.env)::starEach es X.env:=by rfl) (hpl:(backTo cpos (starEach es X.env)).any (·.1)=false:=by rfl) :
  PS X (.Raise (some (.Call (.Name x np) (e::es) [] cpos)) none pos) (Zqe C E t):=by
 intro pins s σ H D I h;obtain⟨tl,N,nm,qn,bs,hdct,sn,sub,ab,col,dd,k0,k1,k2,k3,k5,mN,hC,hN,hni,T⟩:=ZrN I.mod.kin q;have F:=PySem.F.excBase_ValueError
 refine wpAny_Raise_call_subU (C:=C) (nm:=nm) (q:=qn) (N:=N) (bs:=bs) (bm:=tl) (hdct:=hdct) (sn:=sn) (sub:=sub) (ab:=ab) (col:=col) (dd:=dd) (k0:=k0) (k1:=k1) (k2:=k2) (k3:=k3) (k5:=k5)
  F F.hasB F (mN:=mN) (T.hasType F.hasBase) (I.ok.hd hc) (by rw[he]; show(false || (backTo cpos (starEach es X.env)).any (·.1))=false; rw[hpl]; rfl) hni (ZeG I hg hm ⟨rfl,?_⟩ hdb)
 have h2:=ha cpos pins s σ H _ I h;rw[he]at h2 ⊢;refine Calls.evalArgs_plain (wpAny_mono h2 (fun vs s2 h3=>?_) fun _ _ y=>y);obtain⟨us,H2,I2,r,hlen,hE⟩:=h3;refine⟨rfl,?_,I2.bk _ _ hC,hN.keeps I2.bk,T.keeps I2.bk,fun h' e hm=>hl pins σ H2 s2 h' e C vs I2 hm hE⟩;show vs.length≤sizeLine;rw[←r.length]; exact Nat.le_trans hlen (by decide)
end
def XP (X:Cx) (pins:List (Addr×Obj)) (σ:St) (E:XK) (e:Value) (s':Shared):Prop:=∃s1 H1,Inv X pins σ H1 s1∧CX1 X.prog X.w X.stack H1 s1 E e s'
abbrev TEx:=St→Hp→VK→XK→Prop
def PEx (X:Cx) (e:Expr) (t:TEx):Prop:=∀(pins:List (Addr×Obj)) (s:Shared) (σ:St) (H:Hp) (Q:VK) (E:XK),Inv X pins σ H s→t σ H Q E→wpAny (model X.prog X.w) X.A (eval e X.env) (EP X pins σ Q) (XP X pins σ E) s
section
variable {X:Cx} {k:Nat} {f C:Addr} {fd:FuncData} {ps:List Str} {sp:Sp} {dvs:List V} {ds:List Value} {x m:Str} {p pos apos:Pos} {e o:Expr} {es:List Expr} {ta:TE} {t:TA}
theorem Zrh {pins:List (Addr×Obj)} {σ:St} {H:Hp} {s:Shared} {Q:VK} {E:XK} {us:List Value} {vs:List V} (F:FnOk X.prog X.w X.K X.mg X.base (CX1 X.prog X.w) k f fd ps sp) (hr:Room k X.A) (hb:ZaX X.K fd ps ds) (hd:Vals dvs ds)
  (I:Inv X pins σ H s) (r:Vals vs us) (h:sp (vs++dvs) H Q E):wpAny (model X.prog X.w) X.A (call (.ref f) us) (EP X pins σ Q) (XP X pins σ E) s:=by
 have r2:Vals (vs++dvs) (us++ds):=r.append hd
 have hl:(us++ds).length=ps.length:=by rw[←r2.length]; exact F.len _ _ _ _ h
 refine wpAny_call (codeAny_mono (F.run X.A X.stack s H ⟨us,[]⟩ (us++ds) (vs++dvs) Q E hr I.env0 (hb s us I.kIn hl) r2 h) fun r s' hq=>?_)
 cases r with
 | error e=>exact⟨s,H,I,hq⟩
 | ok fl=>
  cases fl with
  | ret u=>exact I.after hq
  | next=>exact False.elim hq
  | brk=>exact False.elim hq
  | cont=>exact False.elim hq
def ZnS (sp:Sp) (dvs:List V) (t:TA):TEx:=fun σ H Q E=>t σ H fun vs H1=>sp (vs++dvs) H1 Q E
theorem ZoV (F:FnOk X.prog X.w X.K X.mg X.base (CX1 X.prog X.w) k f fd ps sp) (hr:Room k X.A) (hg:Gl X x) (hm:X.mg x=some (.ref f)) (hk:PySem.W.keepIn X.K (.ref f)=true) (hb:ZaX X.K fd ps ds) (hd:Vals dvs ds)
  (ha:PA X.nox (e::es) t) (hdb:(x == ("__debug__" : Str))=false:=by decide) (he:starEach (e::es) X.env=(false,eval e X.env)::starEach es X.env:=by rfl) (hpl:(backTo pos (starEach es X.env)).any (·.1)=false:=by rfl) :
  PEx X (.Call (.Name x p) (e::es) [] pos) (ZnS sp dvs t):=by
 intro pins s σ H Q E I h;refine wpAny_Call_Name_kw (ZeG I hg hm ?_ hdb);refine PySem.W.callWith_K (h₀:=X.base) I.ok.mod.kin hk (wpAny_mono (ha pos pins s σ H _ (I.wish _) h) (fun us s1 ⟨vs,H1,I1,r,q⟩=>⟨I1.unwish.kIn,?_⟩) fun _ _ z=>False.elim z) he hpl;exact Zrh F hr hb hd I1.unwish r q
end
structure Caught (X:Cx) (pins:List (Addr×Obj)) (σ:St) (H:Hp) (s:Shared) (ea T C:Addr):Prop where
 inv:Inv X pins σ H s
 from_:∃s1 H1,Inv X pins σ H1 s1∧s.os=s1.os∧Un (frs X.stack) [] H1 H s1.heap s.heap∧s1.heap.get? ea=none∧s1.heap.get? T=none
 he:H ea=none
 hT:H T=none
 tr:s.heap.Tr ea (.ref C) T
section
variable {X:Cx} {pins:List (Addr×Obj)} {σ:St} {H:Hp} {s:Shared} {ea T T' C:Addr} {h':Heap}
theorem Inv.new (I:Inv X pins σ H s) {b:Addr} (n:s.heap.get? b=none):b≠X.env.locals∧b∉X.fs∧∀p∈X.pn++pins,p.1≠b:=by
 refine⟨fun z=>?_,fun z=>?_,fun p hp z=>?_⟩
 ·obtain⟨m,⟨o,es,ep,ho,_⟩,_⟩:=I.loc
  rw[z,ho]at n; cases n
 ·obtain⟨_,o,ho,_⟩:=I.funs.mem z
  rw[n]at ho; cases ho
 ·have q:=(I.pin p hp).1
  rw[z,n]at q; cases q
theorem Caught.gone (c:Caught X pins σ H s ea T C) (g:Heap.Gone (frs X.stack) [ea,T] s.heap h') (hn:T'=T∨s.heap.get? T'=none) (tr:h'.Tr ea (.ref C) T'):Caught X pins σ H { s with heap:=h' } ea T' C:=by
 obtain⟨s1,H1,I1,os,un,ne,nT⟩:=c.from_
 have un2:=ZmM un g (fun b hb=>by
  rcases List.mem_cons.mp hb with z | z
  ·rw[z]; exact ne
  ·rw[List.mem_singleton.mp z]; exact nT)
 have hk:HOk X.prog X.w H h':=Zkz c.inv.hok g c.inv.stkFree (fun b hb=>by
  rcases List.mem_cons.mp hb with z | z
  ·rw[z]; exact c.he
  ·rw[List.mem_singleton.mp z]; exact c.hT)
 have nT':s1.heap.get? T'=none:=by
  rcases hn with z | z
  ·rw[z]; exact nT
  ·cases q:s1.heap.get? T' with
   | none=>rfl
   | some o=>
    obtain⟨o',q'⟩:=un.there T' o q (by simp);rw[z]at q'; cases q'
 refine⟨I1.call' (s':={ s with heap:=h' }) (ch:=[]) os un2 hk c.inv.bare (fun b z=>absurd z (by simp)),⟨s1,H1,I1,os,un2,ne,nT'⟩,c.he,?_,tr⟩
 rcases hn with z | z
 ·rw[z]; exact c.hT
 ·exact c.inv.hok.out z
theorem ZeR {M:Model} {A:Around} {E:Value→Shared→Prop} {Q:Unit→Shared→Prop} (c:Caught X pins σ H s ea T C) (q:∀h',Caught X pins σ H { s with heap:=h' } ea T C→Q () { s with heap:=h' }):wpAny M A (setFlight (.ref ea) none) Q E s:=by
 obtain⟨oe,vs,oT,ts,he,hcls,hdi,hd,h1,hTe,hT,hdT,h3⟩:=id c.tr;refine wpAny_setFlight_none he hd h1 hT hdT (Array.getElem?_eq_some_iff.mp h3).1 (q _ ?_);have other:∀b,b≠T→(s.heap.update T (Obj.mapFields (·.setIfInBounds 3 Value.none))).get? b=s.heap.get? b:=fun b hb=>Heap.get?_update_other _ _ (Ne.symm hb);have hd':=Obj.data_mapFields hdT (·.setIfInBounds 3 Value.none)
 refine c.gone ⟨fun b o hf ho e=>(other b fun z=>ho (by simp[z])).trans e,fun b o hf ho e=>⟨o.slots,(other b fun z=>ho (by simp[z])).trans e⟩⟩ (.inl rfl)
  ⟨oe,vs,_,_,(other ea (Ne.symm hTe)).trans he,hcls,hdi,hd,h1,hTe,Heap.get?_update_self _ hT (Obj.isFreed_of_fields hd'),hd',?_⟩
 simp[(Array.getElem?_eq_some_iff.mp h3).1]
theorem ZjK {M:Model} {E:Value→Shared→Prop} {Q:Unit→Shared→Prop} {EX:XK} {e:Value} (hst:X.stack=X.env::X.outer) (hf:X.env.frame=some X.env.locals) (h:XP X pins σ EX e s)
  (q:∀ea T C H' h',e=.ref ea→EX (.ref C) none H'→Caught X pins σ H' { s with heap:=h' } ea T C→Q () { s with heap:=h' }) :
  wpAny M X.A (noteFrame e X.env) (fun _ s'=>wpAny M X.A (setFlight e none) Q E s') E s:=by
 obtain⟨s1,H1,I1,ea,T,C,H2,rfl,os,bare,un,hok,He,HT,ne,nT,tr,hE⟩:=h;have I2:Inv X pins σ H2 s:=I1.call' (ch:=[]) os un hok bare (fun b z=>absurd z (by simp));have c:Caught X pins σ H2 s ea T C:=⟨I2,⟨s1,H1,I1,os,un,ne,nT⟩,He,HT,tr⟩;refine Znl (base:=X.base) (env:=X.env) (outer:=X.outer) (by rw[I2.ok.frames,hst]) (by have:=I2.stack; rwa [hst]at this) hf tr fun h3 T' g nT' _ tr'=>q ea T' C H2 h3 rfl hE (c.gone (T':=T') ?_ (.inr nT') tr');rw[hst]; exact g
end
abbrev TSx:=Ends→(St→XK)→St→Hp→Prop
def PSx (X:Cx) (b:List Stmt) (t:TSx):Prop:=∀(pins:List (Addr×Obj)) (s:Shared) (σ:St) (H:Hp) (D:Ends) (E:St→XK),Inv X pins σ H s→t D E σ H→wpAny (model X.prog X.w) X.A (execs b X.env) (SP X pins D) (fun e s'=>∃σ',XP X pins σ' (E σ') e s') s
def PH (X:Cx) (hs:List ExceptHandler) (t:Addr→TS):Prop:=∀(pins:List (Addr×Obj)) (s:Shared) (σ:St) (H:Hp) (D:Ends) (ea T C:Addr),Caught X pins σ H s ea T C→t C D σ H→wpAny (model X.prog X.w) X.A (handleBy (.ref ea) X.env hs) (SP X pins D) X.xe s
def tTry (tb:TSx) (th:Addr→TS):TS:=fun D σ H=>tb D (fun σ' v _ H'=>∃C,v=.ref C∧th C D σ' H') σ H
section
variable {X:Cx} {b:List Stmt} {h₀:ExceptHandler} {hs:List ExceptHandler} {tb:TSx} {th:Addr→TS} {pos:Pos} {e:Expr} {te:TEx}
theorem Zqa (hb:PSx X b tb) (hh:PH X (h₀::hs) th) (hst:X.stack=X.env::X.outer:=by rfl) (hf:X.env.frame=some X.env.locals:=by rfl):PS X (.Try b (h₀::hs) [] [] pos) (tTry tb th):=by
 intro pins s σ H D I h;refine wpAny_Try_except (wpAny_mono (hb pins s σ H D _ I h) (fun fl s1 h1=>?_) fun e s1 h1=>?_)
 ·cases fl with
  | next=>exact wpAny_execs_nil h1
  | brk=>exact h1
  | cont=>exact h1
  | ret u=>exact h1
 ·obtain⟨σ',hx⟩:=h1
  refine ZjK hst hf hx fun ea T C H' h' e1 hE c=>?_;subst e1;obtain⟨C',hC,ht⟩:=hE
  cases hC
  exact hh pins _ σ' H' D ea T C c ht
theorem Zo4 {pos:Pos} (he:PEx X e te) (hs:swapsWith e none pos.line X.env=pure false:=by rfl):PSx X [.Expr e pos] (fun D E σ H=>te σ H (fun _ H'=>D.nx σ H') (E σ)):=by
 intro pins s σ H D E I h;refine wpAny_execs_cons (wpAny_Expr_any (wpAny_mono (he pins s σ H _ _ I h) (fun u s1 h1=>?_) fun e s1 h1=>⟨σ,h1⟩) I.quiet hs);obtain⟨v,H',I',r,q⟩:=h1;exact wpAny_execs_nil ⟨σ,H',I',q⟩
end
end L2
namespace L2
open PySem PySem.Spec PyProof.Rows
structure ExcK (K:PySem.W.Frag) (C:Addr):Prop where
 own:Zkq K C
 cl:(PySem.W.clsIn K C).isSome=true
 ga:PySem.W.findIn K (.ref C) "__getattribute__" = some (some (.builtin "BaseException.__getattribute__"))
 gb:PySem.W.findIn K (.ref C) "__getattr__" = some none
 cc:PySem.W.findIn K (.ref C) "__class__" = some (some (.builtin "object.__class__"))
 mb:PySem.W.mroIn K C (.type "BaseException")=some true
 mo:PySem.W.mroIn K C (.type "object")=some true
section
variable {prog:Program} {w:World} {A:Around} {E:Value→Shared→Prop} {h:Heap} {g:Array GenState} {d:Drawn} {t:Nat} {os:OsState} {a C:Addr} {o:Obj} {K:PySem.W.Frag}
theorem Zmz {M:Model} {nameV:Value} {Q:Unit→Shared→Prop} (X:K.In h) (c:ExcK K C) (I:PySem.W.InstAt h a o C none) (hq:Q () ⟨h,g,d,t,os⟩):wpAny M A (checkBuiltinCall "BaseException.__getattribute__" ⟨[.ref a,nameV],[]⟩) Q E ⟨h,g,d,t,os⟩:=by
 have hk:builtinKind "BaseException.__getattribute__" = some .slot:=by decide +kernel
 have hsplit:splitId "BaseException.__getattribute__" = some ("BaseException","__getattribute__"):=by decide +kernel
 have ha:=F.args_bexc_ga (.ref a) nameV;have L0:=I.type (M:=M);have L1:=PySem.W.looks_mroIn (M:=M) X c.mb;simp only [checkBuiltinCall,hk,hsplit];refine wpAny_bind ?_
 ·unfold isInstance
  repeat (first | with_reducible refine L0.at ?_ | with_reducible refine L1.at ?_ | wp_step)
  exact hq
theorem ZmB {tk:Tok} {Q:Fin→Shared→Prop} (X:K.In h) (c:ExcK K C) (I:PySem.W.InstAt h a o C none) (hq:Q (.done (.ret (.ref C))) ⟨h,g,d,t,os⟩) :
  wpAny (model prog w) A (Builtin.«object.__getattribute__» ⟨[.ref a,.str "__class__" tk],[]⟩) Q E ⟨h,g,d,t,os⟩:=by
 have hT5:(⟨h,g,d,t,os⟩ : Shared).TypeIs (.builtin "object.__class__") "getset_descriptor":=F.typeOf_object_class;have f5:=F.typeOf_object_class;have f6:=F.slot_gs_get.lookup;have f7:=F.slot_gs_set.lookup;have L0:=I.type (M:=model prog w);have L1:=PySem.W.looks_findIn (M:=model prog w) X c.cc
 repeat (any_goals (first | assumption | with_reducible refine L0.at ?_ | with_reducible refine L1.at ?_ | wp_step))
 refine PySem.W.class_get (s:=⟨h,g,d,t,os⟩) X I c.mo ?_
 repeat (any_goals (first | assumption | wp_step))
theorem ZrO {tk:Tok} {Q:Value→Shared→Prop} (X:K.In h) (c:ExcK K C) (I:PySem.W.InstAt h a o C none) (hq:Q (.ref C) ⟨h,g,d,t,os⟩):wpAny (model prog w) A (getAttrBy (.ref a) (.str "__class__" tk) false) Q E ⟨h,g,d,t,os⟩:=by
 have f3:=PySem.F.attr_ValueError.ga.bind (.ref a)
 have hx2:(Value.builtin "BaseException.__getattribute__" == Value.builtin "object.__getattribute__")=false:=by decide +kernel
 have hx1:(onTheHeap (Value.ref C) && Value.builtin "BaseException.__getattribute__" == Value.builtin "object.__getattribute__")=false:=by rw[hx2]; rfl
 have L0:=I.type (M:=model prog w);have L1:=PySem.W.looks_findIn (M:=model prog w) X c.ga;have L2:=PySem.W.looks_findIn (M:=model prog w) X c.gb
 repeat (any_goals (first | assumption | with_reducible refine L0.at ?_ | with_reducible refine L1.at ?_ | with_reducible refine L2.at ?_ | wp_step))
 refine codeAny_call_builtin PySem.F.attr_ValueError.ga.plain F.entry_bexc_ga (Zmz X c I (ZmB X c I ?_))
 repeat (any_goals (first | assumption | wp_step))
theorem ZmA {Q:Option Value→Shared→Prop} (X:K.In h) (c:ExcK K C) (I:PySem.W.InstAt h a o C none) (hq:Q (some (.ref C)) ⟨h,g,d,t+1,os⟩):wpAny (model prog w) A (getAttr? (.ref a) "__class__") Q E ⟨h,g,d,t,os⟩:=by
 unfold getAttr? getAttrBy?
 repeat (any_goals (first | assumption | with_reducible apply ZrO X c I | wp_step))
theorem Zh7 (c:ExcK K C):PySem.W.KitX K (.ref a) (.ref C) (fun h=>∃o,PySem.W.InstAt h a o C none) where
 ty:=fun _ _ _ ⟨_,I⟩=>I.type
 it:=fun _ _ X _=>by
  have hcD:=c.cl;unfold PySem.W.clsIn at hcD
  split at hcD
  ·rename_i c' d' cd' sl' ho
   intro A' Q' E' s' k q;unfold isType loadHead;exact wpAny_bind (wpAny_loadPart (k _ _ (X _ _ ho)) (wpAny_pure q))
  ·cases hcD
 ne:=fun h tp dd its n sl X htp=>by
  have hcD:=c.cl;refine Bool.eq_false_iff.mpr fun q=>?_;have e:C=tp:=Value.ref.inj (beq_iff_eq.mp q);subst e;unfold PySem.W.clsIn at hcD
  split at hcD
  ·rename_i c' d' cd' sl' ho
   have z:=(X _ _ ho).symm.trans htp
   cases z
  ·cases hcD
 ca:=fun {_ _ _ _ _ s} X ⟨_,I⟩ k=>by obtain⟨h,g,d,t,os⟩:=s; exact ZmA X c I k
theorem Zgp {M:Model} {C':Addr} {b:Bool} {Q:Bool→Shared→Prop} (X:K.In h) (I:PySem.W.InstAt h a o C none) (ty:PySem.W.typeIn K (.ref C')=some (.type "type")) (cl:(PySem.W.clsIn K C').isSome=true) (mb:PySem.W.mroIn K C' (.type "BaseException")=some true) (e:PySem.W.mroIn K C (.ref C')=some b)
  (hq:Q b ⟨h,g,d,t,os⟩):wpAny M A (excMatches (.ref a) (.ref C')) Q E ⟨h,g,d,t,os⟩:=by
 have f:=tc_notTuple;have L0:=I.type (M:=M);have L1:=PySem.W.looks_typeIn (M:=M) X ty;have L2:=PySem.W.looks_mroIn (M:=M) X mb;have L3:=PySem.W.looks_mroIn (M:=M) X e
 have L4:PySem.W.Looks M h (isType (.ref C')) true:=by
  unfold PySem.W.clsIn at cl
  split at cl
  ·rename_i c' d' cd' sl' ho
   intro A' Q' E' s' k q;unfold isType loadHead;exact wpAny_bind (wpAny_loadPart (k _ _ (X _ _ ho)) (wpAny_pure q))
  ·cases cl
 unfold excMatches isInstance isExcClass
 repeat (first | with_reducible refine L0.at ?_ | with_reducible refine L1.at ?_ | with_reducible refine L2.at ?_ | with_reducible refine L3.at ?_ | with_reducible refine L4.at ?_ | wp_step)
 cases b <;> first | exact hq | (wp_walk; exact hq) | skip
end
abbrev Cx.hand (X:Cx) (ea:Addr) (pn':List (Addr×Obj)):Cx:={ X with A:=X.A.mark (some (.ref ea)),calm:=false,pn:=pn',xe:=fun _ _=>False }
section
variable {X:Cx} {pins l:List (Addr×Obj)} {σ:St} {H:Hp} {s:Shared} {ea T C:Addr} {h':Heap} {oe:Obj}
theorem Caught.inst (c:Caught X pins σ H s ea T C):∃oe,PySem.W.InstAt s.heap ea oe C none∧∀v,oe.data≠.cell v:=by
 obtain⟨oe,vs,oT,ts,he,hcls,hdi,hd,_⟩:=c.tr;refine⟨oe,⟨he,hcls,?_,?_⟩,fun v z=>?_⟩
 ·unfold PySem.W.notCls; rw[hd]
 ·rw[hdi]; trivial
 ·rw[hd]at z; cases z
theorem Cx.Ok.hand (ok:X.Ok) (pn':List (Addr×Obj)):(X.hand ea pn').Ok:=
 ⟨ok.mod,ok.kind,ok.glob,ok.blt,ok.above,ok.inj,ok.has,ok.cab,fun z=>Bool.noConfusion z,ok.frames,ok.stk,ok.exf,ok.bs,ok.bsz,ok.noex,ok.exfs,ok.funs,ok.frf⟩
theorem Caught.hand (c:Caught X pins σ H s ea T C) (I:PySem.W.InstAt s.heap ea oe C none) (nc:∀v,oe.data≠.cell v):Inv (X.hand ea (X.pn++pins++[(ea,oe)])) [] σ H s:=by
 have J:=c.inv;refine⟨J.ok.hand _,J.os,J.bare,J.base,J.loc,J.cell,J.free,J.freeC,fun p hp=>?_,J.hok,J.len⟩
 have hp':p∈X.pn++pins∨p=(ea,oe):=by
  rcases List.mem_append.mp hp with z | z
  ·rcases List.mem_append.mp z with z | z
   ·exact .inl z
   ·exact .inr (List.mem_singleton.mp z)
  ·cases z
 rcases hp' with z | z
 ·exact J.pin p z
 ·subst z
  obtain⟨s1,H1,I1,_,_,ne,_⟩:=c.from_;obtain⟨n1,n2,_⟩:=I1.new ne;exact⟨I.at_,c.he,n1,n2,nc⟩
theorem Inv.unhand (ok:X.Ok) (J:Inv (X.hand ea (X.pn++pins++l)) [] σ H s):Inv X pins σ H s:=
 ⟨ok,J.os,J.bare,J.base,J.loc,J.cell,J.free,J.freeC,fun p hp=>J.pin p (List.mem_append_left _ (List.mem_append_left _ hp)),J.hok,J.len⟩
theorem SP.unhand {D:Ends} {f:Flow} {s':Shared} (ok:X.Ok) (h:SP (X.hand ea (X.pn++pins++l)) [] D f s'):SP X pins D f s':=by
 cases f with
 | next=>obtain⟨σ',H',I,q⟩:=h; exact⟨σ',H',I.unhand ok,q⟩
 | brk=>obtain⟨σ',H',I,q⟩:=h; exact⟨σ',H',I.unhand ok,q⟩
 | cont=>obtain⟨σ',H',I,q⟩:=h; exact⟨σ',H',I.unhand ok,q⟩
 | ret u=>obtain⟨v,σ',H',I,r,q⟩:=h; exact⟨v,σ',H',I.unhand ok,r,q⟩
theorem Inv.forgot {t':Nat} {m':Str→Option Value} (I:Inv X pins σ H s) (hn':h'.Ns X.env.locals m') (hs:Heap.SameBut X.env.locals s.heap h'):Inv X pins (List.replicate X.N.length none) H { s with heap:=h',toks:=t' }:=by
 obtain⟨m,hn,hl⟩:=id I.loc;obtain⟨oL,_,_,hoL,_⟩:=id hn
 have hok:HOk X.prog X.w H h':=fun b ob e=>by
  refine(I.hok b ob e).stay (fun c w' hc q=>(hs.2 c ?_).trans q) (fun _ q=>q) fun _ _ q=>q;rintro rfl;have hfree:=I.free
  rcases hc with z | hc
  ·rw[←z,hfree]at e; cases e
  ·rw[hfree]at hc; cases hc
 refine⟨I.ok,I.os,I.bare,⟨fun b o e n hb hx=>?_,fun b o e n hb hx=>?_,I.base.free,fun b o e hx=>?_,I.base.tups,I.base.frzs,I.base.tbls⟩,⟨m',hn',fun j y v' e1 e2 e3=>?_⟩,fun y c e=>?_,I.free,I.freeC,fun p hp=>?_,hok,by simp⟩
 ·exact(hs.2 b (Nat.ne_of_lt (Nat.lt_of_lt_of_le (Heap.lt_size e) I.ok.above))).trans (I.base.keep b o e n hb hx)
 ·obtain⟨sl,e1⟩:=I.base.slot b o e n hb hx
  exact⟨sl,(hs.2 b (Nat.ne_of_lt (Nat.lt_of_lt_of_le (Heap.lt_size e) I.ok.above))).trans e1⟩
 ·obtain⟨o',e1⟩:=I.base.there b o e hx
  exact⟨o',(hs.2 b (Nat.ne_of_lt (Nat.lt_of_lt_of_le (Heap.lt_size e) I.ok.above))).trans e1⟩
 ·rw[List.getElem?_replicate]at e2
  split at e2 <;> cases e2
 ·obtain⟨w',o,ho,hd⟩:=I.cell y c e
  exact⟨w',o,(hs.2 c (I.cne y c e)).trans ho,hd⟩
 ·obtain⟨e,n,ne,nf,d⟩:=I.pin p hp
  exact⟨(hs.2 p.1 ne).trans e,n,ne,nf,d⟩
end
structure Clause (X:Cx) (N:Str) (C':Addr):Prop where
 gl:Gl X N
 mg:X.mg N=some (.ref C')
 ty:PySem.W.typeIn X.K (.ref C')=some (.type "type")
 cl:(PySem.W.clsIn X.K C').isSome=true
 mb:PySem.W.mroIn X.K C' (.type "BaseException")=some true
 db:(N == ("__debug__" : Str))=false
def Zry (K:PySem.W.Frag) (C':Addr) (ts tr:Addr→TS):Addr→TS:=fun C D σ H=>∃b,PySem.W.mroIn K C (.ref C')=some b∧(b=true→ts C D σ H)∧(b=false→tr C D σ H)
def tAs (K:PySem.W.Frag) (i:Nat) (ts:Addr→Addr→TS):Addr→TS:=fun C D σ H=>ExcK K C∧∀ea,ts ea C { nx:=fun _ _=>False,rt:=D.rt } (σ.set i (some (.ref ea))) H
section
variable {X:Cx} {N:Str} {C':Addr} {np pos:Pos} {b₀:Stmt} {suite:List Stmt} {rest:List ExceptHandler} {ts tr:Addr→TS}
theorem Zp8:PH X [] (fun _ _ _ _=>False):=fun _ _ _ _ _ _ _ _ _ z=>False.elim z
theorem ZsG (cn:Clause X N C') (hs:∀ea oe C pn',(ea,oe)∈pn'→oe.cls=.ref C→PSs (X.hand ea pn') (b₀::suite) (ts C)) (hr:PH X rest tr) :
  PH X (.ExceptHandler (some (.Name N np)) none (b₀::suite) pos::rest) (Zry X.K C' ts tr):=by
 intro pins s σ H D ea T C c h;obtain⟨b,eb,h1,h2⟩:=h;obtain⟨oe,IA,nc⟩:=c.inst;have J:=c.hand IA nc;refine wpAny_handleBy_cons (codeAny_handlers_test (ZeG (X:=X.hand ea (X.pn++pins++[(ea,oe)])) J cn.gl cn.mg ?_ cn.db)) (by intro q; cases q);obtain⟨hp,g,d,t,os⟩:=s;refine Zgp c.inv.kIn IA cn.ty cn.cl cn.mb eb ?_
 cases b with
 | false=>exact hr pins _ σ H D ea T C c (h2 rfl)
 | true=>
  refine codeAny_handlers_suite (ZeR c fun h' c'=>?_);obtain⟨oe',IA',nc'⟩:=c'.inst;refine wpAny_mono (hs ea oe' C _ (List.mem_append_right _ (List.mem_singleton.mpr rfl)) IA'.cls [] _ σ H D (c'.hand IA' nc') (h1 rfl)) (fun f s2 q=>q.unhand c.inv.ok) fun _ _ z=>False.elim z
theorem ZoX {i:Nat} {n:Str} {ts:Addr→Addr→TS} (cn:Clause X N C') (hN:X.N.Nodup) (hi:X.N[i]?=some n) (hx:X.env.scope.names.lookup n=some .local)
  (hs:∀ea oe C pn',(ea,oe)∈pn'→oe.cls=.ref C→oe.dict=none→PySem.W.notCls oe=true→ExcK X.K C→PSs (X.hand ea pn') (b₀::suite) (ts ea C)) (hr:PH X rest tr) :
  PH X (.ExceptHandler (some (.Name N np)) (some n) (b₀::suite) pos::rest) (Zry X.K C' (tAs X.K i ts) tr):=by
 intro pins s σ H D ea T C c h;obtain⟨b,eb,h1,h2⟩:=h;obtain⟨oe,IA,nc⟩:=c.inst;have J:=c.hand IA nc;refine wpAny_handleBy_cons (codeAny_handlers_test (ZeG (X:=X.hand ea (X.pn++pins++[(ea,oe)])) J cn.gl cn.mg ?_ cn.db)) (by intro q; cases q);obtain⟨hp,g,d,t,os⟩:=s;refine Zgp c.inv.kIn IA cn.ty cn.cl cn.mb eb ?_
 cases b with
 | false=>exact hr pins _ σ H D ea T C c (h2 rfl)
 | true=>
  refine codeAny_handlers_suite_as (ZeR c fun h' c'=>?_);obtain⟨oe',IA',nc'⟩:=c'.inst;have J':=c'.hand IA' nc';refine Zge (X:=X.hand ea (X.pn++pins++[(ea,oe')])) (v:=.ref ea) J' hN hi (.inl hx) rfl (fun s1 I1=>?_) (.inr hx)
  have hd:oe'.dict=none:=by
   have z:=IA'.dict
   cases q:oe'.dict with
   | none=>rfl
   | some y=>rw[q]at z; exact z.elim
  refine wpAny_mono (hs ea oe' C _ (List.mem_append_right _ (List.mem_singleton.mpr rfl)) IA'.cls hd IA'.no (h1 rfl).1 [] _ _ H _ I1 ((h1 rfl).2 ea)) (fun f s2 q=>?_) fun _ _ z=>False.elim z;have q':=SP.unhand c.inv.ok q
  cases f with
  | next=>obtain⟨_,_,_,z⟩:=q'; exact False.elim z
  | brk=>obtain⟨_,_,_,z⟩:=q'; exact False.elim z
  | cont=>obtain⟨_,_,_,z⟩:=q'; exact False.elim z
  | ret u=>
   obtain⟨v,σ',H',I2,r,z⟩:=q';obtain⟨m,hn,_⟩:=id I2.loc;refine wpAny_nameGoes hx hn (by rw[I2.ok.kind]; rfl) fun h3 m3 hn3 hs3=>?_;exact⟨v,_,H',I2.forgot (t':=s2.toks+1) hn3 hs3,r,z⟩
end
def Zo7 (K:PySem.W.Frag) (ea C:Addr):List V→Hp→VK→Prop:=fun xs H Q=>∃b,((∃n,xs=[.ref ea,.ty n]∧PySem.W.kitOne K (.ref C) (.type n)=some b)∨(∃c,xs=[.ref ea,.ref c]∧PySem.W.kitOne K (.ref C) (.ref c)=some b)∨
 (∃c vs,xs=[.ref ea,.ref c]∧H c=some (.tup vs)∧∀us,Vals vs us→PySem.W.kitAny K (.ref C) us=some b))∧Q (.bl b) H
theorem ZeQ {X:Cx} {ea C:Addr} {oe:Obj} {pn':List (Addr×Obj)} (k:ExcK X.K C) (hm:(ea,oe)∈pn') (hc:oe.cls=.ref C) (hd:oe.dict=none) (hn:PySem.W.notCls oe=true):Zgf (X.hand ea pn') (.builtin "isinstance") (Zo7 X.K ea C):=by
 intro pins s σ H xs us Q I r h;obtain⟨b,h,q⟩:=h;have at_:=(I.pin _ (List.mem_append_left _ hm)).1;have IA:∃o,PySem.W.InstAt s.heap ea o C none:=⟨oe,at_,hc,hn,by rw[hd]; trivial⟩
 rcases h with⟨n,rfl,e⟩ | ⟨c,rfl,e⟩ | ⟨c,vs,rfl,et,e⟩
 ·obtain⟨u,v,rfl,ru,rv⟩:=Zn7 r
  obtain rfl:v=Value.type n:=rv;obtain rfl:u=Value.ref ea:=ru;exact PySem.W.kia_one (Zh7 k) I.kIn IA e (fun z=>nomatch z) fun tk=>⟨.bl b,H,I.tok tk,rfl,q⟩
 ·obtain⟨u,v,rfl,ru,rv⟩:=Zn7 r
  obtain rfl:v=Value.ref c:=rv;obtain rfl:u=Value.ref ea:=ru;exact PySem.W.kia_one (Zh7 k) I.kIn IA e (fun z=>nomatch z) fun tk=>⟨.bl b,H,I.tok tk,rfl,q⟩
 ·obtain⟨u,v,rfl,ru,rv⟩:=Zn7 r
  obtain rfl:v=Value.ref c:=rv;obtain rfl:u=Value.ref ea:=ru;obtain⟨_,its,rv,⟨o,h1,h2,n,h3⟩⟩:=(show Zb8 X.prog X.w H s.heap c (.tup vs) from I.hok c _ et);obtain⟨oc,od,oda,osl⟩:=o
  dsimp only at h2 h3
  subst h2 h3;exact PySem.W.kia_tup (Zh7 k) I.kIn IA h1 (e its rv) (fun z=>nomatch z) fun tk=>⟨.bl b,H,I.tok tk,rfl,q⟩
theorem PA.nox {X:Cx} {es:List Expr} {t:TA} (h:PA X.nox es t):PA X es t:=fun pos pins s σ H Q I hw=>
 wpAny_mono (h pos pins s σ H Q (I.wish _) hw) (fun _ _ ⟨v,H',I',r,q⟩=>⟨v,H',I'.unwish,r,q⟩) fun _ _ z=>False.elim z
theorem ZqM {K:PySem.W.Frag} {C:Addr} (h:PySem.W.subIn K (.ref C) (.type "ValueError")=some true):PySem.W.kitOne K (.ref C) (.type "ValueError")=some true:=by
 unfold PySem.W.kitOne PySem.W.kitCls
 dsimp only
 rw[if_neg (by simp),if_pos (show PySem.W.kitMeta "ValueError" = true by decide +kernel)];exact h
def FnS1 (P:Program) (w:World) (K:PySem.W.Frag) (mg:Str→Option Value) (base:Heap) (k:Nat) (x:Str) (ps:List Str) (sp:Sp):Prop:=∃f fd,FnOk P w K mg base (CX1 P w) k f fd ps sp∧ZaX K fd ps []∧PySem.W.keepIn K (.ref f)=true∧mg x=some (.ref f)
def tFnX (sp:Sp) (t:TA):TEx:=fun σ H Q E=>t σ H fun vs H1=>sp vs H1 Q E
theorem ZlS (sp:Sp) (t:TA):ZnS sp [] t=tFnX sp t:=by
 funext σ H Q E
 unfold ZnS tFnX
 have e:(fun(vs:List V) (H1:Hp)=>sp (vs++[]) H1 Q E)=fun vs H1=>sp vs H1 Q E:=by
  funext vs H1; rw[List.append_nil]
 rw[e]
section
variable {X:Cx} {k k':Nat} {x:Str} {ps:List Str} {sp:Sp} {e:Expr} {es:List Expr} {t:TA} {p pos:Pos}
theorem Zp6 (G:FnS1 X.prog X.w X.K X.mg X.base k x ps sp) (hr:Room k' X.A) (ha:PA X.nox (e::es) t) (hk:k≤k':=by omega) (hg:Gl X x:=by rfl) (hdb:(x == ("__debug__" : Str))=false:=by decide)
  (he:starEach (e::es) X.env=(false,eval e X.env)::starEach es X.env:=by rfl) (hpl:(backTo pos (starEach es X.env)).any (·.1)=false:=by rfl):PEx X (.Call (.Name x p) (e::es) [] pos) (tFnX sp t):=by
 obtain⟨f,fd,F,hb,kp,hm⟩:=G;rw[←ZlS];exact ZoV F (hr.mono hk) hg hm kp hb .nil ha hdb he hpl
end
section
variable {K:PySem.W.Frag} {D:Ends} {σ:St} {H:Hp} {Q:VK} {C C':Addr}
theorem ZqG {E:XK} {t:TA} (h:t σ H fun vs H1=>vs.length≤9∧E (.ref C) none H1):Zqe C E t D σ H:=h
theorem Zsa {te:TEx} {th:Addr→TS} (h:te σ H (fun _ H'=>D.nx σ H') (fun v _ H'=>∃C,v=.ref C∧th C D σ H')):tTry (fun D E σ H=>te σ H (fun _ H'=>D.nx σ H') (E σ)) th D σ H:=h
theorem Zr1 {sp:Sp} {t:TA} {E:XK} (h:t σ H fun vs H1=>sp vs H1 Q E):tFnX sp t σ H Q E:=h
theorem ZmU {ts tr:Addr→TS} (e:PySem.W.mroIn K C (.ref C')=some true) (h:ts C D σ H):Zry K C' ts tr C D σ H:=⟨true,e,fun _=>h,fun z=>Bool.noConfusion z⟩
theorem i_as {i:Nat} {ts:Addr→Addr→TS} (e:ExcK K C) (h:∀ea,ts ea C { nx:=fun _ _=>False,rt:=D.rt } (σ.set i (some (.ref ea))) H):tAs K i ts C D σ H:=⟨e,h⟩
theorem ZqD {ea c:Addr} {b:Bool} (e:PySem.W.kitOne K (.ref C) (.ref c)=some b) (h:Q (.bl b) H):Zo7 K ea C [.ref ea,.ref c] H Q:=⟨b,.inr (.inl ⟨c,rfl,e⟩),h⟩
theorem ZqE {ea:Addr} {n:String} {b:Bool} (e:PySem.W.kitOne K (.ref C) (.type n)=some b) (h:Q (.bl b) H):Zo7 K ea C [.ref ea,.ty n] H Q:=⟨b,.inl ⟨n,rfl,e⟩,h⟩
theorem ZmV {ea c:Addr} {cs:List Addr} (hc:H c=some (.tup (cs.map V.ref))) (e:∀d∈cs,PySem.W.kitOne K (.ref C) (.ref d)=some false) (h:Q (.bl false) H):Zo7 K ea C [.ref ea,.ref c] H Q:=by
 refine⟨false,.inr (.inr ⟨c,_,rfl,hc,fun us r=>?_⟩),h⟩
 have:∀(cs:List Addr) (us:List Value),(∀d∈cs,PySem.W.kitOne K (.ref C) (.ref d)=some false)→Vals (cs.map V.ref) us→PySem.W.kitAny K (.ref C) us=some false:=by
  intro cs
  induction cs with
  | nil=>intro us _ r; cases r; rfl
  | cons d cs ih=>
   intro us e r;rw[List.map_cons]at r
   cases r with
   | cons r1 r2=>
    rename_i u us'
    obtain rfl:u=Value.ref d:=r1;unfold PySem.W.kitAny;rw[e d List.mem_cons_self];exact ih us' (fun x hx=>e x (List.mem_cons_of_mem _ hx)) r2
 exact this cs us e r
end
end L2
namespace L2
open PySem PySem.Spec PyProof.Rows
section
variable {X:Cx} {a:Expr} {ta:TE} {pos:Pos}
theorem Zre {i:Nat} {x:Str} {e:Expr} {te:TEx} {pos':Pos} (hN:X.N.Nodup) (hi:X.N[i]?=some x) (hx:Loc X.env.scope x) (he:PEx X e te) (hs:swapsWith e (some (.Name x pos')) pos.line X.env=pure false:=by rfl) (hf:X.fn x=true∨X.env.scope.names.lookup x=some .local:=by first | exact .inl rfl | exact .inr rfl | assumption) :
  PSx X [.Assign [.Name x pos'] e pos] (fun D E σ H=>te σ H (fun v H'=>D.nx (σ.set i (some v)) H') (E σ)):=by
 intro pins s σ H D E I h;refine wpAny_execs_cons (wpAny_Assign_Name (wpAny_mono (he pins s σ H _ _ I h) (fun v s1 h1=>?_) fun e s1 h1=>⟨σ,h1⟩) hs);obtain⟨y,H1,I1,r1,q1⟩:=h1;exact Zge I1 hN hi hx r1 (fun s2 I2=>wpAny_execs_nil ⟨_,H1,I2,q1⟩) hf
end
section
variable {σ:St} {H:Hp} {Q:VK} {D:Ends} {K:PySem.W.Frag} {g:TG} {tb:TS} {ta:TE}
theorem Zox {te:TEx} {th:Addr→TS} {i:Nat} (h:te σ H (fun v H'=>D.nx (σ.set i (some v)) H') (fun v _ H'=>∃C,v=.ref C∧th C D σ H')):tTry (fun D E σ H=>te σ H (fun v H'=>D.nx (σ.set i (some v)) H') (E σ)) th D σ H:=h
end
end L2
namespace L2
open PySem PySem.Spec PyProof.Rows
section
variable {prog:Program} {w:World}
variable {A:Around} {E:Value→Shared→Prop} {s:Shared}
end
section
variable {prog:Program} {w:World} {A:Around} {R:Result→Shared→Prop} {I:Addr} {fp wr:List Addr} {G:Array GenState→Array GenState→Prop} {n:Nat} {P:Nat→Value→Prop} {St:Nat→Shared→Prop}
end
section
variable {prog:Program} {w:World} {A:Around} {E:Value→Shared→Prop} {s:Shared}
def newS (w:World):Obj:={ cls:=.type "set",dict:=none,data:=.set #[] 0 (.fresh 0 0 (!w.params.followText "set-order")) }
theorem ZoL (x:Value) {Q1:Value→Shared→Prop} (h:Q1 (.ref s.heap.objs.size) { s with heap:=s.heap.push (newS w) }) :
  codeAny (model prog w) A (.call (.builtin "set.__new__") ⟨[.type "set",x],[]⟩) (wants Q1 E) s:=by
 have sub:=sub_set_self
 refine codeAny_of_tree (by
  show wpAny _ A.in1 (do checkBuiltinCall "set.__new__" ⟨[.type "set",x],[]⟩; again (.builtin "set.__new__" ⟨[.type "set",x],[]⟩)) _ _ s
  refine wpAny_bind (wpAny_of_eq (PySem.F.newCall_set_1 x) (wpAny_pure ⟨plainId_quiet PySem.F.plain_set_new _,codeAny_builtin PySem.F.entry_set_new (by
   rw[Around.under_plainId PySem.F.plain_set_new _];unfold Builtin.«set.__new__» Builtin.Frozenset.newClass;obtain⟨hp,g,d,tk,os⟩:=s
   dsimp only
   wp_walk
   refine wpAny_askSetting (wpAny_pure ?_)
   dsimp only
   simp only [newObj]
   exact wpAny_bind (wpAny_alloc (wpAny_pure (wpAny_pure h))))⟩)))
end
end L2
namespace L2
open PySem PySem.Spec PyProof.Rows
theorem ZfC:Slot "set_iterator" "__next__" "set_iterator.__next__":=
 .of (owner:="set_iterator") (n:="__next__") (by rw[typeLookup_type,builtinLookup_eq_fast]; kernel_rfl) (by decide +kernel) (by decide +kernel) (by decide +kernel) (by first | exact .inl (by decide +kernel) | exact .inr (by decide +kernel)) (by rw[isSubtype_type]; kernel_rfl)
theorem Zkx:entryFor table "set_iterator.__next__" = some Builtin.«set_iterator.__next__»:=entryFor_of_tree (by kernel_rfl)
theorem Zmg (a:Value):argsOk "set_iterator.__next__" ⟨[a],[]⟩:=by unfold argsOk; kernel_rfl
theorem Zmy:entryFor table "set.__iter__" = some Builtin.«frozenset.__iter__»:=entryFor_alias (id':="frozenset.__iter__") (by kernel_rfl) rfl (by decide +kernel) (by kernel_rfl)
theorem Zje {α:Type} (next:Nat→Nat):∀(fuel k:Nat) (left:List α) (out:Array α),left.length=fuel→(pickOrder.go next fuel k left out).toList.Perm (out.toList++left)
 | 0,k,left,out,h=>by
  obtain rfl:=List.length_eq_zero_iff.mp h;unfold pickOrder.go;rw[List.append_nil]
 | fuel+1,k,left,out,h=>by
  have hi:next k % left.length < left.length:=Nat.mod_lt _ (by omega);unfold pickOrder.go;rw[List.getElem?_eq_getElem hi]
  dsimp only
  refine(Zje next fuel (k+1) (left.eraseIdx (next k % left.length)) (out.push left[next k % left.length]) (by rw[List.length_eraseIdx]; simp[hi]; omega)).trans ?_;rw[Array.toList_push,List.append_assoc];refine List.Perm.append_left _ ?_;rw[List.eraseIdx_eq_take_drop_succ]
  have e:left=left.take (next k % left.length)++left[next k % left.length]::left.drop (next k % left.length+1):=by
   rw[←List.drop_eq_getElem_cons hi,List.take_append_drop]
  conv=>rhs; rw[e]
  rw[List.singleton_append];exact List.perm_middle.symm
theorem ZoY {α:Type} (next:Nat→Nat) (xs:Array α):(pickOrder next xs).toList.Perm xs.toList:=by
 unfold pickOrder;have:=Zje next xs.size 0 xs.toList #[] (by simp)
 simpa using this
section
variable {prog:Program} {w:World} {A:Around} {E:Value→Shared→Prop} {s:Shared}
def ordS (w:World) (a ep:Nat) (es:Array (Int×Value)):Array (Int×Value):=if w.params.followText "set-order" = true then pickOrder (w.params.setOrder a ep) es else es
theorem Zga (a ep:Nat) (es:Array (Int×Value)):(ordS w a ep es).toList.Perm es.toList:=by
 unfold ordS
 split
 ·exact ZoY _ _
 ·exact List.Perm.refl _
end
end L2
namespace L2
open PySem PySem.Spec PyProof.Rows
section
variable {prog:Program} {w:World} {A:Around} {E:Value→Shared→Prop} {s:Shared}
theorem Zmx:entryFor table "set_iterator.__iter__" = some Builtin.«dict_keyiterator.__iter__»:=entryFor_alias (id':="dict_keyiterator.__iter__") (by kernel_rfl) rfl (by decide +kernel) (by kernel_rfl)
theorem Zk6:Slot "set_iterator" "__iter__" "set_iterator.__iter__":=
 .of (owner:="set_iterator") (n:="__iter__") (by rw[typeLookup_type,builtinLookup_eq_fast]; kernel_rfl) (by decide +kernel) (by decide +kernel) (by decide +kernel) (by first | exact .inl (by decide +kernel) | exact .inr (by decide +kernel)) (by rw[isSubtype_type]; kernel_rfl)
theorem Zog (a:Value):argsOk "set_iterator.__iter__" ⟨[a],[]⟩:=by unfold argsOk; kernel_rfl
theorem ZqR:typeLookup (.type "set") "__len__" = pure (some (.builtin "set.__len__")):=by rw[typeLookup_type,builtinLookup_eq_fast]; kernel_rfl
end
end L2
namespace L2
open PySem PySem.Spec PyProof.Rows
def lcgN:Nat→Nat→Nat
 | 0,i=>i
 | n+1,i=>lcgN n (5 * i+1)
theorem ZkK:∀n i,4 * lcgN n i+1=5 ^ n * (4 * i+1)
 | 0,i=>by show 4 * i+1=1 * (4 * i+1); omega
 | n+1,i=>by
  show 4 * lcgN n (5 * i+1)+1=_;rw[ZkK n (5 * i+1),Nat.pow_succ,show 4 * (5 * i+1)+1=5 * (4 * i+1) by omega,Nat.mul_assoc]
theorem ZjV:∀a b i,lcgN (a+b) i=lcgN b (lcgN a i)
 | 0,b,i=>by rw[Nat.zero_add]; rfl
 | a+1,b,i=>by
  rw[show a+1+b=(a+b)+1 by omega];show lcgN (a+b) (5 * i+1)=lcgN b (lcgN a (5 * i+1));exact ZjV a b _
theorem pow5:∀k,∃q,5 ^ 2 ^ k=1+2 ^ (k+2) * (2 * q+1)
 | 0=>⟨0,rfl⟩
 | k+1=>by
  obtain⟨q,hq⟩:=pow5 k;refine⟨q+2 ^ k * ((2 * q+1) * (2 * q+1)),?_⟩;rw[Nat.pow_succ 2 k,Nat.pow_mul,hq,show(1+2 ^ (k+2) * (2 * q+1)) ^ 2=(1+2 ^ (k+2) * (2 * q+1)) * (1+2 ^ (k+2) * (2 * q+1)) from Nat.pow_two _];rw[show 2 ^ (k+2)=4 * 2 ^ k by rw[Nat.pow_add]; omega,show 2 ^ (k+1+2)=8 * 2 ^ k by rw[show k+1+2=k+3 by omega,Nat.pow_add]; omega];generalize 2 ^ k=z;obtain⟨o,ho⟩ : ∃o,o=2 * q+1:=⟨_,rfl⟩;rw[←ho]
  have e1:(1+4 * z * o) * (1+4 * z * o)=1+8 * (z * o)+16 * ((z * o) * (z * o)):=by
   rw[Nat.mul_assoc 4 z o];generalize z * o=u;rw[Nat.add_mul,Nat.mul_add,Nat.mul_add];rw[show 4 * u * (4 * u)=16 * (u * u) by rw[Nat.mul_mul_mul_comm]];omega
  have e2:8 * z * (2 * (q+z * (o * o))+1)=8 * (z * (2 * q+1))+16 * ((z * o) * (z * o)):=by
   rw[show 2 * (q+z * (o * o))+1=(2 * q+1)+2 * (z * (o * o)) by omega,Nat.mul_add,Nat.mul_assoc 8 z (2 * q+1)];rw[show 8 * z * (2 * (z * (o * o)))=16 * (z * (z * (o * o))) by rw[Nat.mul_mul_mul_comm],show z * o * (z * o)=z * (z * (o * o)) by rw[Nat.mul_mul_mul_comm,Nat.mul_assoc]]
  rw[e1,e2,←ho];omega
theorem ZkL:∀k i j,∃n,n < 2 ^ k∧lcgN n i % 2 ^ k=j % 2 ^ k
 | 0,i,j=>⟨0,by decide,by rw[Nat.pow_zero,Nat.mod_one,Nat.mod_one]⟩
 | k+1,i,j=>by
  obtain⟨n,h1,h2⟩:=ZkL k i j;have hp:0 < 2 ^ k:=Nat.two_pow_pos k
  have hs:2 ^ (k+1)=2 * 2 ^ k:=by rw[Nat.pow_succ]; omega
  by_cases e:lcgN n i % 2 ^ (k+1)=j % 2 ^ (k+1)
  ·exact⟨n,by omega,e⟩
  ·refine⟨n+2 ^ k,by omega,?_⟩
   rw[ZjV];generalize lcgN n i=y at *;obtain⟨q,hq⟩:=pow5 k;have f:=ZkK (2 ^ k) y;rw[hq]at f
   have f2:lcgN (2 ^ k) y=y+2 ^ k * ((2 * q+1) * (4 * y+1)):=by
    have g:(1+2 ^ (k+2) * (2 * q+1)) * (4 * y+1)=(4 * y+1)+4 * (2 ^ k * ((2 * q+1) * (4 * y+1))):=by
     rw[Nat.add_mul,Nat.one_mul,show 2 ^ (k+2)=4 * 2 ^ k by rw[Nat.pow_add]; omega,Nat.mul_assoc,Nat.mul_assoc]
    omega
   rw[f2];obtain⟨r,hr⟩ : ∃r,(2 * q+1) * (4 * y+1)=2 * r+1:=⟨q * (4 * y+1)+2 * y,by rw[Nat.add_mul,Nat.mul_assoc]; omega⟩;rw[hr,Nat.mul_add,Nat.mul_one,show 2 ^ k * (2 * r)=2 ^ (k+1) * r by rw[hs,←Nat.mul_assoc,Nat.mul_comm (2 ^ k) 2]];rw[show y+(2 ^ (k+1) * r+2 ^ k)=(y+2 ^ k)+2 ^ (k+1) * r by omega,Nat.add_mul_mod_self_left];rw[hs]at e ⊢;have m1:=Nat.mod_add_div y (2 ^ k);have m2:=Nat.mod_add_div j (2 ^ k)
   have ay:y % (2 * 2 ^ k)=y % 2 ^ k∨y % (2 * 2 ^ k)=y % 2 ^ k+2 ^ k:=by
    rw[show 2 * 2 ^ k=2 ^ k * 2 by omega,Nat.mod_mul]
    rcases Nat.mod_two_eq_zero_or_one (y / 2 ^ k) with z | z <;> rw[z] <;> omega
   have aj:j % (2 * 2 ^ k)=j % 2 ^ k∨j % (2 * 2 ^ k)=j % 2 ^ k+2 ^ k:=by
    rw[show 2 * 2 ^ k=2 ^ k * 2 by omega,Nat.mod_mul]
    rcases Nat.mod_two_eq_zero_or_one (j / 2 ^ k) with z | z <;> rw[z] <;> omega
   have ly:=Nat.mod_lt y hp;have lj:=Nat.mod_lt j hp;rw[Nat.add_mod,Nat.mod_eq_of_lt (show 2 ^ k < 2 * 2 ^ k by omega)]
   rcases ay with ay | ay <;> rcases aj with aj | aj
   ·omega
   ·rw[ay,Nat.mod_eq_of_lt (by omega)]; omega
   ·rw[ay,show y % 2 ^ k+2 ^ k+2 ^ k=y % 2 ^ k+2 * 2 ^ k by omega,Nat.add_mod_right,Nat.mod_eq_of_lt (by omega)]; omega
   ·omega
def lpN (mask:Nat) (h:Int):Nat→Nat×Nat
 | 0=>(SetTable.bits h % (mask+1),SetTable.bits h)
 | n+1=>SetTable.leap mask (lpN mask h n).1 (lpN mask h n).2
theorem ZdB (h:Int):SetTable.bits h < 2 ^ 64:=by
 unfold SetTable.bits;have h1:=Int.emod_nonneg h (show(2 ^ 64:Int)≠0 by decide);have h2:=Int.emod_lt_of_pos h (show(0:Int) < 2 ^ 64 by decide);omega
theorem Znd (mask:Nat) (h:Int):∀n,(lpN mask h n).2=SetTable.bits h / 32 ^ n
 | 0=>by show SetTable.bits h=_; rw[Nat.pow_zero,Nat.div_one]
 | n+1=>by
  show(lpN mask h n).2 / 32=_;rw[Znd mask h n,Nat.div_div_eq_div_mul,Nat.pow_succ]
theorem Znc (mask:Nat) (h:Int):∀n,(lpN mask h (13+n)).1 % (mask+1)=lcgN n (lpN mask h 13).1 % (mask+1)
 | 0=>rfl
 | n+1=>by
  have ih:=Znc mask h n
  have pz:(lpN mask h (13+n)).2 / 32=0:=by
   rw[Znd,Nat.div_div_eq_div_mul];apply Nat.div_eq_of_lt;have:=ZdB h;have p1:1≤32 ^ n:=Nat.one_le_pow _ _ (by decide)
   have p2:32 ^ (13+n) * 32=2 ^ 70 * 32 ^ n:=by rw[Nat.pow_add]; rw[show(32:Nat) ^ 13=2 ^ 65 by decide]; rw[Nat.mul_right_comm]
   rw[p2];have:2 ^ 70 * 1≤2 ^ 70 * 32 ^ n:=Nat.mul_le_mul_left _ p1;omega
  have e:(lpN mask h (13+(n+1))).1=((lpN mask h (13+n)).1 * 5+1) % (mask+1):=by
   show((lpN mask h (13+n)).1 * 5+1+(lpN mask h (13+n)).2 / 32) % (mask+1)=_;rw[pz,Nat.add_zero]
  have f:∀a i,lcgN (a+1) i=5 * lcgN a i+1:=fun a i=>by rw[ZjV]; rfl
  rw[e,f,Nat.mod_mod,Nat.add_mod,Nat.mul_mod,ih,←Nat.mul_mod,←Nat.add_mod,Nat.mul_comm]
theorem Zsn (mask:Nat) (h:Int):∀n,(lpN mask h n).1 < mask+1
 | 0=>Nat.mod_lt _ (by omega)
 | n+1=>Nat.mod_lt _ (by omega)
theorem Zp3 {mask k:Nat} (hk:mask+1=2 ^ k) (h:Int) {j:Nat} (hj:j≤mask):∃n,n≤mask+13∧(lpN mask h n).1=j:=by
 obtain⟨n,h1,h2⟩:=ZkL k (lpN mask h 13).1 j;refine⟨13+n,by omega,?_⟩;have l1:=Znc mask h n;rw[hk,h2,Nat.mod_eq_of_lt (show j < 2 ^ k by omega)]at l1;rw[Nat.mod_eq_of_lt (by have:=Zsn mask h (13+n); omega)]at l1;exact l1
def advM (mask:Nat) (p:SetTable.Probe):SetTable.Probe:=
 if p.more > 0 then { p with j:=p.j+1,more:=p.more - 1 } else { p with j:=(SetTable.leap mask p.i p.perturb).1,more:=SetTable.runEnd mask (SetTable.leap mask p.i p.perturb).1 - (SetTable.leap mask p.i p.perturb).1,i:=(SetTable.leap mask p.i p.perturb).1,perturb:=(SetTable.leap mask p.i p.perturb).2 }
theorem Zpt (t:SetTable) (p:SetTable.Probe):t.advance p=advM t.mask p:=rfl
def chS (mask i p:Nat):SetTable.Probe:={ j:=i,more:=SetTable.runEnd mask i - i,i:=i,perturb:=p,dummy:=none }
def wkP (mask:Nat) (h:Int):Nat→SetTable.Probe
 | 0=>chS mask (SetTable.bits h % (mask+1)) (SetTable.bits h)
 | n+1=>advM mask (wkP mask h n)
theorem Zob {mask:Nat} {h:Int} {n i p:Nat} (e:wkP mask h n=chS mask i p):∀c,c≤SetTable.runEnd mask i - i→wkP mask h (n+c) = { chS mask i p with j:=i+c,more:=SetTable.runEnd mask i - i - c }
 | 0,_=>by rw[Nat.add_zero,e]; rfl
 | c+1,hc=>by
  show advM mask (wkP mask h (n+c))=_;rw[Zob e c (by omega)];unfold advM;rw[if_pos (by show SetTable.runEnd mask i - i - c > 0; omega)];rfl
theorem ZsN (mask i:Nat):SetTable.runEnd mask i - i≤9:=by
 unfold SetTable.runEnd
 split <;> omega
theorem ZnA {mask i:Nat} (h:i≤mask):SetTable.runEnd mask i≤mask∧i≤SetTable.runEnd mask i:=by
 unfold SetTable.runEnd
 split <;> omega
theorem Zoa {mask:Nat} {h:Int} {n i p:Nat} (e:wkP mask h n=chS mask i p):wkP mask h (n+(SetTable.runEnd mask i - i)+1)=chS mask (SetTable.leap mask i p).1 (SetTable.leap mask i p).2:=by
 show advM mask (wkP mask h (n+(SetTable.runEnd mask i - i)))=_;rw[Zob e _ (Nat.le_refl _)];unfold advM;rw[if_neg (by show ¬SetTable.runEnd mask i - i - (SetTable.runEnd mask i - i) > 0; omega)];rfl
theorem Zlb (mask:Nat) (h:Int):∀n,∃x,x≤10 * n∧wkP mask h x=chS mask (lpN mask h n).1 (lpN mask h n).2
 | 0=>⟨0,Nat.le_refl _,rfl⟩
 | n+1=>by
  obtain⟨x,h1,h2⟩:=Zlb mask h n;have:=ZsN mask (lpN mask h n).1;exact⟨_,by omega,Zoa h2⟩
theorem ZrD (mask:Nat) (h:Int):∀n,(wkP mask h n).j+(wkP mask h n).more≤mask∧(wkP mask h n).dummy=none
 | 0=>by
  have h1:SetTable.bits h % (mask+1)≤mask:=by have:=Nat.mod_lt (SetTable.bits h) (show 0 < mask+1 by omega); omega
  have:=ZnA h1;exact⟨by show SetTable.bits h % (mask+1)+(SetTable.runEnd mask (SetTable.bits h % (mask+1)) - SetTable.bits h % (mask+1))≤mask; omega,rfl⟩
 | n+1=>by
  obtain⟨h1,h2⟩:=ZrD mask h n;show(advM mask (wkP mask h n)).j+(advM mask (wkP mask h n)).more≤mask∧(advM mask (wkP mask h n)).dummy=none;generalize wkP mask h n=p at h1 h2;unfold advM
  split
  ·exact⟨by show p.j+1+(p.more - 1)≤mask; omega,h2⟩
  ·have h3:(SetTable.leap mask p.i p.perturb).1≤mask:=by
    have:=Nat.mod_lt (p.i * 5+1+p.perturb / 32) (show 0 < mask+1 by omega);show(p.i * 5+1+p.perturb / 32) % (mask+1)≤mask;omega
   have:=ZnA h3;exact⟨by show(SetTable.leap mask p.i p.perturb).1+(SetTable.runEnd mask (SetTable.leap mask p.i p.perturb).1 - (SetTable.leap mask p.i p.perturb).1)≤mask; omega,h2⟩
theorem Zs8 {mask k:Nat} (hk:mask+1=2 ^ k) (h:Int) {j:Nat} (hj:j≤mask):∃x,x < 10 * SetTable.turns mask∧(wkP mask h x).j=j:=by
 obtain⟨n,h1,h2⟩:=Zp3 hk h hj;obtain⟨x,h3,h4⟩:=Zlb mask h n;exact⟨x,by unfold SetTable.turns; omega,by rw[h4]; exact h2⟩
end L2
namespace L2
open PySem PySem.Spec PyProof.Rows
def Up (xs:Array Nat):Prop:=∀i j x y:Nat,i < j→xs[i]?=some x→xs[j]?=some y→x < y
theorem ZhV {xs:Array Nat} (u:Up xs) (j:Nat):∀(fuel lo hi:Nat),hi - lo≤fuel→lo≤hi→hi≤xs.size→(∀i x:Nat,i < lo→xs[i]?=some x→x < j)→(∀i x:Nat,hi≤i→xs[i]?=some x→j≤x)→
  ∃r,SetTable.below.go xs j fuel lo hi=r∧r≤xs.size∧(∀i x:Nat,i < r→xs[i]?=some x→x < j)∧(∀i x:Nat,r≤i→xs[i]?=some x→j≤x)
 | 0,lo,hi,hf,h1,h2,h3,h4=>by
  have e:lo=hi:=by omega
  subst e;exact⟨lo,rfl,h2,h3,h4⟩
 | fuel+1,lo,hi,hf,h1,h2,h3,h4=>by
  unfold SetTable.below.go
  by_cases hlt:lo < hi
  ·rw[if_pos hlt]
   dsimp only
   have hm:(lo+hi) / 2 < hi:=by omega
   have hx:xs[(lo+hi) / 2]?=some xs[(lo+hi) / 2]:=Array.getElem?_eq_getElem (by omega)
   have hg:xs.getD ((lo+hi) / 2) j=xs[(lo+hi) / 2]:=by simp[Array.getD,show(lo+hi) / 2 < xs.size by omega]
   rw[hg]
   split
   ·rename_i hc
    refine ZhV u j fuel _ hi (by omega) (by omega) h2 (fun i x hi' hxi=>?_) h4
    by_cases e:i=(lo+hi) / 2
    ·subst e; rw[hx]at hxi; cases hxi; exact hc
    ·exact Nat.lt_trans (u i _ x _ (by omega) hxi hx) hc
   ·rename_i hc
    refine ZhV u j fuel lo _ (by omega) (by omega) (by omega) h3 (fun i x hi' hxi=>?_)
    by_cases e:i=(lo+hi) / 2
    ·subst e; rw[hx]at hxi; cases hxi; omega
    ·have:=u _ i _ x (by omega) hx hxi; omega
  ·rw[if_neg hlt]
   have e:lo=hi:=by omega
   subst e;exact⟨lo,rfl,h2,h3,h4⟩
theorem ZcK {xs:Array Nat} (u:Up xs) (j:Nat):SetTable.below xs j≤xs.size∧(∀i x:Nat,i < SetTable.below xs j→xs[i]?=some x→x < j)∧(∀i x:Nat,SetTable.below xs j≤i→xs[i]?=some x→j≤x):=by
 obtain⟨r,e,h⟩:=ZhV u j xs.size 0 xs.size (by omega) (Nat.zero_le _) (Nat.le_refl _) (fun i x hi=>by omega) (fun i x hi hx=>by rw[Array.getElem?_eq_none hi]at hx; cases hx);rw[show SetTable.below xs j=r from e];exact h
theorem ZeO {xs:Array Nat} (u:Up xs) {i j:Nat} (h:xs[i]?=some j):SetTable.below xs j=i:=by
 obtain⟨h1,h2,h3⟩:=ZcK u j
 rcases Nat.lt_trichotomy (SetTable.below xs j) i with z | z | z
 ·have hi:i < xs.size:=(Array.getElem?_eq_some_iff.mp h).1
  have hx:xs[SetTable.below xs j]?=some xs[SetTable.below xs j]:=Array.getElem?_eq_getElem (by omega);have a:=h3 _ _ (Nat.le_refl _) hx;have b:=u _ _ _ _ z hx h;omega
 ·exact z
 ·have:=h2 i j z h
  omega
theorem ZmO (j:Nat):SetTable.has #[] j=false:=by
 unfold SetTable.has SetTable.below;simp[SetTable.below.go]
theorem Zkj {t:SetTable} (u:Up t.place) {i j:Nat} (h:t.place[i]?=some j):t.slot j=.live i:=by
 unfold SetTable.slot
 dsimp only
 rw[ZeO u h,h];simp
theorem Zrl {t:SetTable} (u:Up t.place) (hd:t.dummies = #[]) {j:Nat} (h:∀i:Nat,t.place[i]?≠some j):t.slot j=.empty:=by
 unfold SetTable.slot
 dsimp only
 rw[hd,ZmO];have:=h (SetTable.below t.place j);simp[this]
def Occ (t:SetTable) (j:Nat):Prop:=∃i:Nat,t.place[i]?=some j
structure Tb (t:SetTable) (hs:List Int):Prop where
 msk:t.mask=7∨t.mask=31∨t.mask=127∨t.mask=511∨t.mask=2047∨t.mask=8191
 dm:t.dummies = #[]
 pl:t.plain=true
 up:Up t.place
 le:∀i j:Nat,t.place[i]?=some j→j≤t.mask
 ln:t.place.size=hs.length
 lm:t.place.size≤t.mask
 re:∀(i j:Nat) (h:Int),t.place[i]?=some j→hs[i]?=some h→∃n,(wkP t.mask h n).j=j∧∀n',n' < n→Occ t (wkP t.mask h n').j
theorem Tb.pow {t:SetTable} {hs:List Int} (T:Tb t hs):∃k,t.mask+1=2 ^ k:=by
 rcases T.msk with h | h | h | h | h | h <;> rw[h]
 ·exact⟨3,rfl⟩
 ·exact⟨5,rfl⟩
 ·exact⟨7,rfl⟩
 ·exact⟨9,rfl⟩
 ·exact⟨11,rfl⟩
 ·exact⟨13,rfl⟩
theorem Tb.m8 {t:SetTable} {hs:List Int} (T:Tb t hs):t.mask≤8191:=by
 rcases T.msk with h | h | h | h | h | h <;> omega
theorem Zqx:∀(n:Nat) (xs:Array Nat),Up xs→xs.size≤n→∃j,j≤n∧∀i:Nat,xs[i]?≠some j:=fun n xs u hz=>by
 refine Classical.byContradiction fun hc=>?_;have all:∀j,j≤n→∃i:Nat,xs[i]?=some j:=fun j hj=>Classical.byContradiction fun z=>hc ⟨j,hj,fun i e=>z ⟨i,e⟩⟩
 have key:∀j,j≤n→∃i:Nat,xs[i]?=some j∧j≤i:=by
  intro j
  induction j with
  | zero=>intro hj; obtain⟨i,e⟩:=all 0 hj; exact⟨i,e,Nat.zero_le _⟩
  | succ j ih=>
   intro hj;obtain⟨i,e,hi⟩:=ih (by omega);obtain⟨i',e'⟩:=all (j+1) hj
   rcases Nat.lt_trichotomy i i' with z | z | z
   ·exact⟨i',e',by omega⟩
   ·subst z; rw[e]at e'; have:=Option.some.inj e'; omega
   ·have:=u _ _ _ _ z e' e; omega
 obtain⟨i,e,hi⟩:=key n (Nat.le_refl _);have:=(Array.getElem?_eq_some_iff.mp e).1;omega
theorem ZoI {p:Nat→Prop}:∀n,p n→∃m,m≤n∧p m∧∀k,k < m→¬p k:=fun n=>by
 induction n using Nat.strongRecOn with
 | _ n ih=>
  intro hp
  by_cases h:∃k,k < n∧p k
  ·obtain⟨k,hk,pk⟩:=h
   obtain⟨m,h1,h2,h3⟩:=ih k hk pk;exact⟨m,by omega,h2,h3⟩
  ·exact⟨n,Nat.le_refl _,hp,fun k hk pk=>h ⟨k,hk,pk⟩⟩
theorem Tb.first {t:SetTable} {hs:List Int} (T:Tb t hs) (h:Int):∃n,n < 10 * SetTable.turns t.mask∧¬Occ t (wkP t.mask h n).j∧∀n',n' < n→Occ t (wkP t.mask h n').j:=by
 obtain⟨k,hk⟩:=T.pow;obtain⟨j,hj,hn⟩:=Zqx t.mask t.place T.up T.lm;obtain⟨x,h1,h2⟩:=Zs8 hk h hj;obtain⟨m,h3,h4,h5⟩:=ZoI (p:=fun n=>¬Occ t (wkP t.mask h n).j) x (by rw[h2]; rintro⟨i,e⟩; exact hn i e);exact⟨m,by omega,h4,fun n' hn'=>Classical.byContradiction fun z=>h5 n' hn' z⟩
theorem Zie {t:SetTable} {hs:List Int} (T:Tb t hs) {f:Nat→Int} {h:Int} {e:Nat} (he : ¬Occ t (wkP t.mask h e).j) (hb:∀n',n' < e→Occ t (wkP t.mask h n').j) :
  ∀(fuel n:Nat),e - n < fuel→n≤e→
   (SetTable.probe.go t f h fuel (wkP t.mask h n)=some (.empty (wkP t.mask h e).j none)∧∀n' i:Nat,n≤n'→n' < e→t.place[i]?=some (wkP t.mask h n').j→f i≠h)∨
   ∃m i:Nat,n≤m∧m < e∧t.place[i]?=some (wkP t.mask h m).j∧f i=h∧SetTable.probe.go t f h fuel (wkP t.mask h n)=some (.candidate (wkP t.mask h m).j i (wkP t.mask h (m+1)))∧∀n' i':Nat,n≤n'→n' < m→t.place[i']?=some (wkP t.mask h n').j→f i'≠h
 | 0,n,hf,hn=>by omega
 | fuel+1,n,hf,hn=>by
  unfold SetTable.probe.go
  by_cases en:n=e
  ·subst en
   refine .inl ⟨?_,fun n' i h1 h2=>by omega⟩;rw[Zrl T.up T.dm fun i z=>he ⟨i,z⟩]
   dsimp only
   rw[(ZrD t.mask h n).2]
  ·obtain⟨i,hi⟩:=hb n (by omega)
   rw[Zkj T.up hi]
   dsimp only
   by_cases hc:f i=h
   ·refine .inr ⟨n,i,Nat.le_refl _,by omega,hi,hc,?_,fun n' i' h1 h2=>by omega⟩
    rw[if_pos (by rw[hc]; simp),Zpt];rfl
   ·rw[if_neg (by simpa using hc),Zpt]
    show(SetTable.probe.go t f h fuel (wkP t.mask h (n+1))=_∧_)∨_
    have uniq:∀i':Nat,t.place[i']?=some (wkP t.mask h n).j→i'=i:=fun i' hi'=>by
     rw[←ZeO T.up hi',←ZeO T.up hi]
    rcases Zie T he hb fuel (n+1) (by omega) (by omega) with⟨a,b⟩ | ⟨m,i2,a1,a2,a3,a4,a5,a6⟩
    ·refine .inl ⟨a,fun n' i' h1 h2 hp=>?_⟩
     by_cases z:n'=n
     ·subst z; rw[uniq i' hp]; exact hc
     ·exact b n' i' (by omega) h2 hp
    ·refine .inr ⟨m,i2,by omega,a2,a3,a4,a5,fun n' i' h1 h2 hp=>?_⟩
     by_cases z:n'=n
     ·subst z; rw[uniq i' hp]; exact hc
     ·exact a6 n' i' (by omega) h2 hp
def insL {α:Type} (xs:List α) (p:Nat) (x:α):List α:=xs.take p++x::xs.drop p
theorem ZkH {α:Type} {xs:List α} {p:Nat} {x:α} (hp:p≤xs.length) (i:Nat):(insL xs p x)[i]?=if i < p then xs[i]? else if i=p then some x else xs[i - 1]?:=by
 unfold insL
 have lt:(xs.take p).length=p:=by rw[List.length_take]; omega
 by_cases h1:i < p
 ·rw[if_pos h1,List.getElem?_append_left (by omega),List.getElem?_take,if_pos h1]
 ·rw[if_neg h1,List.getElem?_append_right (by omega),lt]
  by_cases h2:i=p
  ·subst h2; rw[if_pos rfl,Nat.sub_self]; rfl
  ·rw[if_neg h2,show i - p=(i - p - 1)+1 by omega,List.getElem?_cons_succ,List.getElem?_drop,show p+(i - p - 1)=i - 1 by omega]
theorem Zej {xs:Array Nat} {p x:Nat} (hp:p≤xs.size) (i:Nat):(SetTable.insertAt xs p x)[i]?=if i < p then xs[i]? else if i=p then some x else xs[i - 1]?:=by
 rw[←Array.getElem?_toList,SetTable.toList_insertAt];have:=ZkH (xs:=xs.toList) (x:=x) (by rw[Array.length_toList]; exact hp) i;unfold insL at this;rw[this];simp[Array.getElem?_toList]
theorem Zgr {α:Type} (xs:Array α) (p:Nat) (x:α):(SetTable.insertAt xs p x).size=xs.size+1:=by
 have:=(SetTable.insertAt_perm xs p x).length_eq;rw[Array.length_toList,Array.length_toList,Array.size_push]at this;exact this
def putT (t:SetTable) (j:Nat):SetTable:={ t with place:=SetTable.insertAt t.place (SetTable.below t.place j) j }
theorem Zrg {t:SetTable} (hd:t.dummies = #[]) (j:Nat):t.put j=(putT t j,SetTable.below t.place j):=by
 unfold SetTable.put putT;rw[hd,ZmO];simp[hd]
theorem ZqI {xs:Array Nat} (u:Up xs) {j:Nat} (h:∀i:Nat,xs[i]?≠some j):Up (SetTable.insertAt xs (SetTable.below xs j) j):=by
 obtain⟨b1,b2,b3⟩:=ZcK u j;intro a b x y hab ha hb;rw[Zej b1]at ha hb
 have gt:∀i z:Nat,SetTable.below xs j≤i→xs[i]?=some z→j < z:=fun i z hi hz=>by
  have h1:=b3 i z hi hz
  rcases Nat.lt_or_eq_of_le h1 with h2 | h2
  ·exact h2
  ·subst h2; exact absurd hz (h i)
 split at ha
 ·rename_i h1
  split at hb
  ·exact u a b x y hab ha hb
  ·split at hb
   ·cases hb; exact b2 a x h1 ha
   ·exact Nat.lt_trans (b2 a x h1 ha) (gt _ _ (by omega) hb)
 ·split at ha
  ·cases ha
   rw[if_neg (by omega),if_neg (by omega)]at hb;exact gt _ _ (by omega) hb
  ·rw[if_neg (by omega),if_neg (by omega)]at hb
   exact u (a - 1) (b - 1) x y (by omega) ha hb
theorem Zj1 {t:SetTable} (u:Up t.place) {j k:Nat}:Occ (putT t j) k ↔ k=j∨Occ t k:=by
 obtain⟨b1,_,_⟩:=ZcK u j
 constructor
 ·rintro⟨i,hi⟩
  have hi:(SetTable.insertAt t.place (SetTable.below t.place j) j)[i]?=some k:=hi;rw[Zej b1]at hi
  split at hi
  ·exact .inr ⟨_,hi⟩
  ·split at hi
   ·exact .inl (Option.some.inj hi).symm
   ·exact .inr ⟨_,hi⟩
 ·rintro(rfl | ⟨i,hi⟩)
  ·refine⟨SetTable.below t.place k,?_⟩
   show(SetTable.insertAt t.place (SetTable.below t.place k) k)[_]?=_;rw[Zej b1,if_neg (Nat.lt_irrefl _),if_pos rfl]
  ·by_cases h:i < SetTable.below t.place j
   ·refine⟨i,?_⟩
    show(SetTable.insertAt t.place (SetTable.below t.place j) j)[_]?=_;rw[Zej b1,if_pos h];exact hi
   ·refine⟨i+1,?_⟩
    show(SetTable.insertAt t.place (SetTable.below t.place j) j)[_]?=_;rw[Zej b1,if_neg (by omega),if_neg (by omega)];exact hi
theorem Tb.put {t:SetTable} {hs:List Int} (T:Tb t hs) {h:Int} {e:Nat} (he : ¬Occ t (wkP t.mask h e).j) (hb:∀n',n' < e→Occ t (wkP t.mask h n').j) (hl:t.place.size+1≤t.mask) :
  Tb (putT t (wkP t.mask h e).j) (insL hs (SetTable.below t.place (wkP t.mask h e).j) h):=by
 have hno:∀i:Nat,t.place[i]?≠some (wkP t.mask h e).j:=fun i z=>he ⟨i,z⟩
 have hjm:(wkP t.mask h e).j≤t.mask:=by have:=(ZrD t.mask h e).1; omega
 generalize hj:(wkP t.mask h e).j=j at *;obtain⟨b1,_,_⟩:=ZcK T.up j
 have bh:SetTable.below t.place j≤hs.length:=by rw[←T.ln]; exact b1
 refine⟨T.msk,T.dm,T.pl,ZqI T.up hno,fun i k hk=>?_,?_,?_,fun i k h' hk hh=>?_⟩
 ·have:Occ (putT t j) k:=⟨i,hk⟩
  rcases(Zj1 T.up).mp this with rfl | ⟨i',z⟩
  ·exact hjm
  ·exact T.le i' k z
 ·show(SetTable.insertAt _ _ _).size=_
  rw[Zgr];unfold insL;rw[List.length_append,List.length_cons,List.length_take,List.length_drop,T.ln];omega
 ·show(SetTable.insertAt _ _ _).size≤_
  rw[Zgr];exact hl
 ·have hk:(SetTable.insertAt t.place (SetTable.below t.place j) j)[i]?=some k:=hk
  rw[Zej b1]at hk;rw[ZkH bh]at hh
  have old:∀i:Nat,t.place[i]?=some k→hs[i]?=some h'→∃n,(wkP t.mask h' n).j=k∧∀n',n' < n→Occ (putT t j) (wkP t.mask h' n').j:=fun i h1 h2=>by
   obtain⟨n,a,b⟩:=T.re i k h' h1 h2;exact⟨n,a,fun n' hn'=>(Zj1 T.up).mpr (.inr (b n' hn'))⟩
  split at hk
  ·rename_i z
   rw[if_pos z]at hh;exact old _ hk hh
  ·rename_i z
   rw[if_neg z]at hh
   split at hk
   ·rename_i z2
    rw[if_pos z2]at hh
    cases hk
    cases hh
    exact⟨e,hj,fun n' hn'=>(Zj1 T.up).mpr (.inr (hb n' hn'))⟩
   ·rename_i z2
    rw[if_neg z2]at hh;exact old _ hk hh
end L2
namespace L2
open PySem PySem.Spec PyProof.Rows
structure Ow (mask:Nat) (hs:List Int) (ow:Array (Option Nat)) (k:Nat):Prop where
 sz:ow.size=mask+1
 has:∀i,i < k→∃j:Nat,ow[j]?=some (some i)
 val:∀j v:Nat,ow[j]?=some (some v)→v < k
 inj:∀j j' v:Nat,ow[j]?=some (some v)→ow[j']?=some (some v)→j=j'
 re:∀(j v:Nat) (h:Int),ow[j]?=some (some v)→hs[v]?=some h→∃n,(wkP mask h n).j=j∧∀n',n' < n→∃u,ow[(wkP mask h n').j]?=some (some u)
theorem ZgH:∀(n:Nat) (l:List Nat),l.Nodup→(∀x∈l,x < n)→l.length≤n
 | 0,l,_,h=>by
  cases l with
  | nil=>exact Nat.le_refl _
  | cons x r=>exact absurd (h x (by simp)) (Nat.not_lt_zero _)
 | n+1,l,nd,h=>by
  by_cases e:n∈l
  ·have:=ZgH n (l.erase n) (nd.erase n) fun x hx=>by
    have hx2:=(List.Nodup.mem_erase_iff nd).mp hx;have:=h x hx2.2;have:=hx2.1;omega
   rw[List.length_erase_of_mem e]at this;omega
  ·have:=ZgH n l nd fun x hx=>by
    have h1:=h x hx;have h2:x≠n:=fun z=>e (z ▸ hx);omega
   omega
theorem Ow.free {mask:Nat} {hs:List Int} {ow:Array (Option Nat)} {k:Nat} (O:Ow mask hs ow k) (hk:k≤mask):∃j,j≤mask∧ow[j]?=some none:=by
 refine Classical.byContradiction fun hc=>?_
 have all:∀j,j≤mask→∃v,ow[j]?=some (some v):=fun j hj=>by
  have hlt:j < ow.size:=by rw[O.sz]; omega
  have hx:ow[j]?=some (ow[j]'hlt):=Array.getElem?_eq_getElem hlt
  cases e:(ow[j]'hlt) with
  | none=>rw[e]at hx; exact absurd ⟨j,hj,hx⟩ hc
  | some v=>rw[e]at hx; exact⟨v,hx⟩
 let f:Nat→Nat:=fun j=>((ow[j]?).getD none).getD 0
 have fv:∀j,j≤mask→ow[j]?=some (some (f j)):=fun j hj=>by
  obtain⟨v,hv⟩:=all j hj;show _=some (some (((ow[j]?).getD none).getD 0));rw[hv]; rfl
 have nd:((List.range (mask+1)).map f).Nodup:=by
  refine List.pairwise_map.mpr (List.Pairwise.imp_of_mem (fun {a b} ha hb hab e=>?_) (List.nodup_range (n:=mask+1)));rw[List.mem_range]at ha hb;exact hab (O.inj a b (f a) (fv a (by omega)) (by rw[e]; exact fv b (by omega)))
 have:=ZgH k _ nd fun x hx=>by
  obtain⟨j,hj,rfl⟩:=List.mem_map.mp hx;rw[List.mem_range]at hj;exact O.val j _ (fv j (by omega))
 rw[List.length_map,List.length_range]at this;omega
theorem ZmG {mask:Nat} {h:Int} {ow:Array (Option Nat)} (sz:ow.size=mask+1):∀(fuel x m:Nat),wkP mask h x=chS mask (lpN mask h m).1 (lpN mask h m).2→(∃n,m≤n∧n < m+fuel∧ow[(lpN mask h n).1]?=some none)→
  ∃j n,SetTable.layClean.free mask ow fuel (lpN mask h m).1 (lpN mask h m).2=some j∧x≤n∧(wkP mask h n).j=j∧ow[j]?=some none∧∀n',x≤n'→n' < n→∃u,ow[(wkP mask h n').j]?=some (some u)
 | 0,x,m,e,⟨n,h1,h2,_⟩=>by omega
 | fuel+1,x,m,e,⟨n,h1,h2,h3⟩=>by
  have hi:(lpN mask h m).1≤mask:=by have:=Zsn mask h m; omega
  have nx:lpN mask h (m+1)=SetTable.leap mask (lpN mask h m).1 (lpN mask h m).2:=rfl;have e0:ow[(lpN mask h m).1]?=some none→n=m∨True:=fun _=>.inr trivial;unfold SetTable.layClean.free;have hn:=Zoa e;rw[←nx]at hn;generalize hq:lpN mask h m=q at *;obtain⟨i,p⟩:=q
  dsimp only at *
  have rin:=ZnA hi
  have slot:∀c,c≤SetTable.runEnd mask i - i→(wkP mask h (x+c)).j=i+c:=fun c hc=>by rw[Zob e c hc]
  have gd:∀c,c≤SetTable.runEnd mask i - i→∃o,ow[i+c]?=some o∧ow.getD (i+c) (some 0)=o:=fun c hc=>by
   have hlt:i+c < ow.size:=by omega
   exact⟨ow[i+c],Array.getElem?_eq_getElem hlt,by simp[Array.getD,hlt]⟩
  cases hf:(List.range (SetTable.runEnd mask i+1 - i)).find? fun k=>(ow.getD (i+k) (some 0)).isNone with
  | some c=>
   rw[List.find?_range_eq_some]at hf;obtain⟨f1,f2,f3⟩:=hf;rw[List.mem_range]at f2
   dsimp only
   obtain⟨o,g1,g2⟩:=gd c (by omega);rw[g2]at f1;have:o=none:=Option.isNone_iff_eq_none.mp f1;rw[this]at g1;refine⟨i+c,x+c,rfl,by omega,slot c (by omega),g1,fun n' a b=>?_⟩;obtain⟨o',g1',g2'⟩:=gd (n' - x) (by omega);have:=f3 (n' - x) (by omega);rw[g2']at this;rw[show n'=x+(n' - x) by omega,slot _ (by omega)]
   cases o' with
   | none=>simp at this
   | some u=>exact⟨u,g1'⟩
  | none=>
   rw[List.find?_range_eq_none]at hf
   dsimp only
   have occ:∀c,c≤SetTable.runEnd mask i - i→∃u,ow[i+c]?=some (some u):=fun c hc=>by
    obtain⟨o',g1',g2'⟩:=gd c hc;have:=hf c (by omega);rw[g2']at this
    cases o' with
    | none=>simp at this
    | some u=>exact⟨u,g1'⟩
   have nm:n≠m:=fun z=>by
    obtain⟨u,hu⟩:=occ 0 (Nat.zero_le _);rw[z,hq]at h3;rw[Nat.add_zero]at hu;have h3:ow[i]?=some none:=h3;rw[hu]at h3
    cases h3
   obtain⟨j,n2,a1,a2,a3,a4,a5⟩:=ZmG sz fuel _ (m+1) hn ⟨n,by omega,by omega,h3⟩;rw[nx]at a1;refine⟨j,n2,a1,by omega,a3,a4,fun n' b1 b2=>?_⟩
   by_cases z:n' < x+(SetTable.runEnd mask i - i)+1
   ·rw[show n'=x+(n' - x) by omega,slot _ (by omega)]
    exact occ _ (by omega)
   ·exact a5 n' (by omega) b2
theorem ZnD {ow:Array (Option Nat)} {j:Nat} {v:Option Nat} (hj:j < ow.size) (i:Nat):(ow.setIfInBounds j v)[i]?=if i=j then some v else ow[i]?:=by
 rw[Array.getElem?_setIfInBounds]
 by_cases e:j=i
 ·subst e; simp[hj]
 ·rw[if_neg e,if_neg (fun z=>e z.symm)]
theorem Ow.lay {mask:Nat} {hs:List Int} {ow:Array (Option Nat)} {k j n:Nat} {h:Int} (O:Ow mask hs ow k) (hk:hs[k]?=some h) (h1:(wkP mask h n).j=j) (h2:ow[j]?=some none) (h3:∀n',n' < n→∃u,ow[(wkP mask h n').j]?=some (some u)):Ow mask hs (ow.setIfInBounds j (some k)) (k+1):=by
 have hj:j < ow.size:=(Array.getElem?_eq_some_iff.mp h2).1
 have old:∀{i v:Nat},ow[i]?=some (some v)→(ow.setIfInBounds j (some k))[i]?=some (some v):=fun {i v} e=>by
  rw[ZnD hj,if_neg (fun z=>by rw[z,h2]at e; cases e)];exact e
 have inv:∀{i v:Nat},(ow.setIfInBounds j (some k))[i]?=some (some v)→(i=j∧v=k)∨ow[i]?=some (some v):=fun {i v} e=>by
  rw[ZnD hj]at e
  split at e
  ·rename_i z; exact .inl ⟨z,(Option.some.inj (Option.some.inj e)).symm⟩
  ·exact .inr e
 refine⟨by rw[Array.size_setIfInBounds]; exact O.sz,fun i hi=>?_,fun i v e=>?_,fun a b v ea eb=>?_,fun i v h' e hv=>?_⟩
 ·by_cases z:i=k
  ·subst z; exact⟨j,by rw[ZnD hj,if_pos rfl]⟩
  ·obtain⟨a,ea⟩:=O.has i (by omega)
   exact⟨a,old ea⟩
 ·rcases inv e with⟨_,z⟩ | z
  ·omega
  ·have:=O.val i v z; omega
 ·rcases inv ea with⟨z1,z2⟩ | z1 <;> rcases inv eb with⟨y1,y2⟩ | y1
  ·omega
  ·have:=O.val b v y1; omega
  ·have:=O.val a v z1; omega
  ·exact O.inj a b v z1 y1
 ·rcases inv e with⟨z1,z2⟩ | z
  ·subst z2
   rw[hk]at hv
   cases hv
   refine⟨n,by rw[h1,z1],fun n' hn'=>?_⟩;obtain⟨u,hu⟩:=h3 n' hn';exact⟨u,old hu⟩
  ·obtain⟨n1,a,b⟩:=O.re i v h' z hv
   refine⟨n1,a,fun n' hn'=>?_⟩;obtain⟨u,hu⟩:=b n' hn';exact⟨u,old hu⟩
def stL (mask:Nat) (acc:Option (Array (Option Nat)×Nat)) (h:Int):Option (Array (Option Nat)×Nat):=do
 let (owner,k) ←acc
 let j ←SetTable.layClean.free mask owner (SetTable.turns mask) (SetTable.bits h % (mask+1)) (SetTable.bits h)
 pure (owner.setIfInBounds j (some k),k+1)
theorem Zky {mask kk:Nat} (hm:mask+1=2 ^ kk) {hs:List Int} (hl:hs.length≤mask):∀(l pre:List Int) (ow:Array (Option Nat)),hs=pre++l→Ow mask hs ow pre.length→∃ow',l.foldl (stL mask) (some (ow,pre.length))=some (ow',hs.length)∧Ow mask hs ow' hs.length
 | [],pre,ow,e,O=>⟨ow,by rw[e,List.append_nil]; rfl,by rw[e,List.append_nil]at *; exact O⟩
 | h::l,pre,ow,e,O=>by
  have hk:hs[pre.length]?=some h:=by rw[e,List.getElem?_append_right (Nat.le_refl _),Nat.sub_self]; rfl
  have hpl:pre.length < hs.length:=(List.getElem?_eq_some_iff.mp hk).1;obtain⟨j0,a1,a2⟩:=O.free (by omega);obtain⟨n0,b1,b2⟩:=Zp3 hm h a1;obtain⟨j,n,c1,c2,c3,c4,c5⟩:=ZmG (h:=h) O.sz (SetTable.turns mask) 0 0 rfl ⟨n0,Nat.zero_le _,by unfold SetTable.turns; omega,by rw[b2]; exact a2⟩;have c1:SetTable.layClean.free mask ow (SetTable.turns mask) (SetTable.bits h % (mask+1)) (SetTable.bits h)=some j:=c1;have O2:=O.lay hk c3 c4 fun n' hn'=>c5 n' (Nat.zero_le _) hn'
  have st:stL mask (some (ow,pre.length)) h=some (ow.setIfInBounds j (some pre.length),(pre++[h]).length):=by
   unfold stL;rw[List.length_append];simp only [Option.bind_eq_bind,Option.bind_some,c1];rfl
  rw[List.foldl_cons,st];exact Zky hm hl l (pre++[h]) _ (by rw[e,List.append_assoc]; rfl) (by rw[List.length_append]; exact O2)
theorem Zsl {mask kk:Nat} (hm:mask+1=2 ^ kk) {hs:List Int} (hl:hs.length≤mask):∃ow,SetTable.layClean mask hs.toArray=some ow∧Ow mask hs ow hs.length:=by
 have O0:Ow mask hs (Array.replicate (mask+1) none) ([]:List Int).length:=by
  have nn:∀(j v:Nat),(Array.replicate (mask+1) (none:Option Nat))[j]?≠some (some v):=fun j v e=>by
   rw[Array.getElem?_replicate]at e
   split at e <;> cases e
  exact⟨Array.size_replicate ..,fun i hi=>by exact absurd hi (Nat.not_lt_zero _),fun j v e=>absurd e (nn j v),fun j j' v e=>absurd e (nn j v),fun j v h e=>absurd e (nn j v)⟩
 obtain⟨ow,h1,h2⟩:=Zky hm hl hs [] _ rfl O0;refine⟨ow,?_,h2⟩;unfold SetTable.layClean;rw[List.foldl_toArray];have h1:hs.foldl (stL mask) (some (Array.replicate (mask+1) none,0))=some (ow,hs.length):=h1;show Option.map _ (hs.foldl (stL mask) _)=_;rw[h1];rfl
def ZjX (mask:Nat) (ow:Array (Option Nat)):List (Nat×Nat):=(List.range (mask+1)).filterMap fun j=>(ow.getD j none).map (j,·)
theorem ZoJ {mask:Nat} {ow:Array (Option Nat)} (sz:ow.size=mask+1) {j v:Nat}:(j,v)∈ZjX mask ow ↔ ow[j]?=some (some v):=by
 unfold ZjX;rw[List.mem_filterMap]
 constructor
 ·rintro⟨a,ha,e⟩
  rw[List.mem_range]at ha
  have hlt:a < ow.size:=by omega
  have hg:ow.getD a none=ow[a]:=by simp[Array.getD,hlt]
  rw[hg]at e;obtain⟨v',hv,e⟩:=Option.map_eq_some_iff.mp e
  cases e
  rw[Array.getElem?_eq_getElem hlt,hv]
 ·intro e
  have hlt:=(Array.getElem?_eq_some_iff.mp e).1;refine⟨j,List.mem_range.mpr (by omega),?_⟩
  have hg:ow.getD j none=ow[j]:=by simp[Array.getD,hlt]
  rw[Array.getElem?_eq_getElem hlt]at e;rw[hg,Option.some.inj e];rfl
theorem ZqV {mask:Nat} {ow:Array (Option Nat)}:(ZjX mask ow).Pairwise fun a b=>a.1 < b.1:=by
 unfold ZjX;rw[List.pairwise_filterMap];refine List.Pairwise.imp (fun {a b} hab x hx y hy=>?_) (List.pairwise_lt_range (n:=mask+1));obtain⟨v,_,e1⟩:=Option.map_eq_some_iff.mp hx;obtain⟨v',_,e2⟩:=Option.map_eq_some_iff.mp hy;rw[←e1,←e2];exact hab
theorem ZqQ {mask kk:Nat} (hm:mask+1=2 ^ kk) (hmk:mask=7∨mask=31∨mask=127∨mask=511∨mask=2047∨mask=8191) {hs:List Int} (hl:hs.length≤mask) (fi mv:Nat) (ld:Bool):∃t order,SetTable.laid mask fi mv ld true hs.toArray=some (t,order)∧t.mask=mask∧t.led=ld∧order.toList.Perm (List.range hs.length)∧Tb t (order.toList.map fun i=>hs.getD i 0):=by
 obtain⟨ow,h1,O⟩:=Zsl hm hl;have mem:=fun {j v:Nat}=>ZoJ (j:=j) (v:=v) O.sz;have up:=ZqV (mask:=mask) (ow:=ow)
 have e:SetTable.laid mask fi mv ld true hs.toArray=some ({ mask:=mask,place:=((ZjX mask ow).map (·.1)).toArray,dummies:=#[],finger:=fi,led:=ld,moves:=mv,plain:=true },((ZjX mask ow).map (·.2)).toArray):=by
  unfold SetTable.laid;rw[h1];rfl
 generalize ZjX mask ow=LV at e mem up
 have nd:(LV.map (·.2)).Nodup:=by
  refine List.pairwise_map.mpr (List.Pairwise.imp_of_mem (fun {a b} ha hb hab e=>?_) up);have:=O.inj a.1 b.1 a.2 (mem.mp ha) (by rw[e]; exact mem.mp hb);omega
 have pm:(LV.map (·.2)).Perm (List.range hs.length):=by
  refine(List.perm_ext_iff_of_nodup nd List.nodup_range).mpr fun v=>?_;rw[List.mem_range,List.mem_map]
  constructor
  ·rintro⟨q,hq,rfl⟩
   exact O.val q.1 q.2 (mem.mp hq)
  ·intro hv
   obtain⟨j,hj⟩:=O.has v hv;exact⟨(j,v),mem.mpr hj,rfl⟩
 have ln:LV.length=hs.length:=by
  have:=pm.length_eq
  rwa [List.length_map,List.length_range]at this
 have gp:∀i j:Nat,((LV.map (·.1)).toArray)[i]?=some j→∃v,LV[i]?=some (j,v):=fun i j hj=>by
  rw[List.getElem?_toArray,List.getElem?_map]at hj;obtain⟨q,hq,rfl⟩:=Option.map_eq_some_iff.mp hj;exact⟨q.2,hq⟩
 have pg:∀{j v:Nat},ow[j]?=some (some v)→∃i:Nat,((LV.map (·.1)).toArray)[i]?=some j:=fun {j v} hv=>by
  obtain⟨i,hi⟩:=List.mem_iff_getElem?.mp (mem.mpr hv);exact⟨i,by rw[List.getElem?_toArray,List.getElem?_map,hi]; rfl⟩
 refine⟨_,_,e,rfl,rfl,by rw[List.toList_toArray]; exact pm,?_⟩;refine⟨hmk,rfl,rfl,fun a b x y hab ha hb=>?_,fun i j hj=>?_,?_,?_,fun i j h hj hh=>?_⟩
 ·obtain⟨v,hv⟩:=gp a x ha
  obtain⟨u,hu⟩:=gp b y hb;have l1:=(List.getElem?_eq_some_iff.mp hv).1;have l2:=(List.getElem?_eq_some_iff.mp hu).1;have:=List.pairwise_iff_getElem.mp up a b l1 l2 hab;rw[(List.getElem?_eq_some_iff.mp hv).2,(List.getElem?_eq_some_iff.mp hu).2]at this;exact this
 ·obtain⟨v,hv⟩:=gp i j hj
  have:=(Array.getElem?_eq_some_iff.mp (mem.mp (List.mem_of_getElem? hv))).1;show j≤mask;have:=O.sz;omega
 ·show((LV.map (·.1)).toArray).size=_
  rw[List.size_toArray,List.length_map,List.toList_toArray,List.length_map,List.length_map]
 ·show((LV.map (·.1)).toArray).size≤mask
  rw[List.size_toArray,List.length_map,ln];exact hl
 ·obtain⟨v,hv⟩:=gp i j hj
  have hm':=mem.mp (List.mem_of_getElem? hv);rw[List.toList_toArray,List.getElem?_map,List.getElem?_map,hv]at hh;have hvk:=O.val j v hm';have hh:hs.getD v 0=h:=Option.some.inj hh;obtain⟨n,a,b⟩:=O.re j v h hm' (by rw[←hh,List.getD_eq_getElem?_getD,List.getElem?_eq_getElem hvk]; rfl);refine⟨n,a,fun n' hn'=>?_⟩;obtain⟨u,hu⟩:=b n' hn';exact pg hu
theorem ZjO {n:Nat} (h:n≤50000):SetTable.grown n=n * 4:=by
 unfold SetTable.grown;rw[if_neg (by omega)]
theorem Tb.relay {t:SetTable} {hs:List Int} (T:Tb t hs) (hn:t.place.size≤4900) (hf:t.tooFull=true) (hp:(t.place.size - 1) * 5 < t.mask * 3) (h0:0 < t.place.size) :
  ∃t' order,t.relaid hs.toArray (SetTable.grown hs.length)=some (t',order)∧SetTable.sizeAbove (SetTable.grown hs.length)≤8192∧t'.led=t.led∧order.toList.Perm (List.range hs.length)∧Tb t' (order.toList.map fun i=>hs.getD i 0)∧t'.tooFull=false:=by
 have ff:t.place.size * 5 ≥ t.mask * 3:=by
  have:decide (t.fill * 5 ≥ t.mask * 3)=true:=hf;have:=of_decide_eq_true this;unfold SetTable.fill at this;rw[T.dm]at this
  simpa using this
 have ln:=T.ln
 have go:∀m n:Nat,SetTable.sizeAbove (n * 4)=m+1→(m=31∨m=127∨m=511∨m=2047∨m=8191)→hs.length=n→n * 5 < m * 3→n≤m→∃t' order,t.relaid hs.toArray (SetTable.grown hs.length)=some (t',order)∧SetTable.sizeAbove (SetTable.grown hs.length)≤8192∧t'.led=t.led∧order.toList.Perm (List.range hs.length)∧Tb t' (order.toList.map fun i=>hs.getD i 0)∧t'.tooFull=false:=by
  intro m n e hm el h5 hle
  have gs:SetTable.grown hs.length=n * 4:=by rw[ZjO (by omega),el]
  have pw:∃k,m+1=2 ^ k:=by
   rcases hm with h | h | h | h | h <;> rw[h]
   ·exact⟨5,rfl⟩
   ·exact⟨7,rfl⟩
   ·exact⟨9,rfl⟩
   ·exact⟨11,rfl⟩
   ·exact⟨13,rfl⟩
  obtain⟨k,hk⟩:=pw;obtain⟨t',order,a1,a2,a3,a4,a5⟩:=ZqQ hk (.inr hm) (hs:=hs) (by omega) t.finger (t.movedTo m) t.led;refine⟨t',order,?_,by rw[gs,e]; omega,a3,a4,a5,?_⟩
  ·unfold SetTable.relaid
   rw[gs,e,Nat.add_sub_cancel,T.pl];exact a1
  ·show decide (t'.fill * 5 ≥ t'.mask * 3)=false
   have z:t'.place.size=n:=by
    rw[a5.ln,List.length_map,a4.length_eq,List.length_range,el]
   refine decide_eq_false ?_;unfold SetTable.fill;rw[a5.dm,a2,z];simp;omega
 rcases T.msk with h | h | h | h | h | h
 ·refine go 31 5 (by decide +kernel) (.inl rfl) (by omega) (by omega) (by omega)
 ·refine go 127 19 (by decide +kernel) (.inr (.inl rfl)) (by omega) (by omega) (by omega)
 ·refine go 511 77 (by decide +kernel) (.inr (.inr (.inl rfl))) (by omega) (by omega) (by omega)
 ·refine go 2047 307 (by decide +kernel) (.inr (.inr (.inr (.inl rfl)))) (by omega) (by omega) (by omega)
 ·refine go 8191 1229 (by decide +kernel) (.inr (.inr (.inr (.inr rfl)))) (by omega) (by omega) (by omega)
 ·omega
end L2
namespace L2
open PySem PySem.Spec PyProof.Rows
def Tup2 (hp:Heap) (b:Addr) (k:Int×Int):Prop:=∃o n t u,hp.get? b=some o∧o.cls=.type "tuple"∧o.data=.seq #[.int k.1 t,.int k.2 u] n
section
variable {prog:Program} {w:World} {A:Around} {E:Value→Shared→Prop} {s:Shared}
theorem Tup2.key {hp:Heap} {b:Addr} {k:Int×Int} (h:Tup2 hp b k):IsTupleKey (intKind prog w) hp [k.1,k.2] b:=by
 obtain⟨o,n,t,u,h1,h2,h3⟩:=h;exact⟨o,_,n,h1,h2,h3,.cons (intKind_is _ _ _ _) (.cons (intKind_is _ _ _ _) .nil)⟩
theorem Tup2.ty {b:Addr} {k:Int×Int} (h:Tup2 s.heap b k):s.TypeIs (.ref b) "tuple":=by
 obtain⟨o,n,t,u,h1,h2,h3⟩:=h;exact⟨o,h1,h2⟩
theorem Tup2.keep {hp hp':Heap} {b:Addr} {k:Int×Int} (h:Tup2 hp b k) (e:∀o,hp.get? b=some o→hp'.get? b=some o):Tup2 hp' b k:=by
 obtain⟨o,n,t,u,h1,h2,h3⟩:=h;exact⟨o,n,t,u,e o h1,h2,h3⟩
theorem ZrA {b:Addr} {k:Int×Int} {Q:Bool→Shared→Prop} (h:Tup2 s.heap b k) (q:Q true s):wpAny (model prog w) A (hashByValue 8 (.ref b)) Q E s:=by
 have hT:=h.ty;obtain⟨o,n,t,u,h1,h2,h3⟩:=h;unfold hashByValue;refine wpAny_bind (wpAny_specialOf hT F.slot_tuple_hash.lookup ?_);refine wpAny_bind (wpAny_seqItems h1 h3 ?_);refine wpAny_bind ?_;show wpAny _ _ (forIn (#[Value.int k.1 t,Value.int k.2 u]:Array Value) _ _) _ _ s;rw[←Array.forIn_toList]
 refine wpAny_forIn_list _ (fun rest r s'=>r.1=none∧s'=s∧∀v∈rest,∃x y,v=Value.int x y) _ ?_ ?_ _ _ ⟨rfl,rfl,fun v hv=>by
  rcases List.mem_cons.mp hv with rfl | hv
  ·exact⟨_,_,rfl⟩
  ·rw[List.mem_singleton.mp hv]; exact⟨_,_,rfl⟩⟩
 ·rintro v rest r s' ⟨hr,rfl,hall⟩
  obtain⟨x,y,rfl⟩:=hall v List.mem_cons_self;refine wpAny_bind ?_;unfold hashByValue;refine wpAny_pure ?_;simp only [Bool.not_true,Bool.false_eq_true,if_false];exact wpAny_pure ⟨rfl,rfl,fun u hu'=>hall u (List.mem_cons_of_mem _ hu')⟩
 ·rintro⟨r1,r2⟩ s' ⟨hr,rfl,_⟩
  simp only at hr;subst hr;exact wpAny_pure q
theorem Zla {b:Addr} {k:Int×Int} {Q:Bool→Shared→Prop} (h:Tup2 s.heap b k) (q:Q false s):wpAny (model prog w) A (ofAClassStatement 8 (.ref b)) Q E s:=by
 have hT:=h.ty;obtain⟨o,n,t,u,h1,h2,h3⟩:=h;unfold ofAClassStatement;refine wpAny_bind (wpAny_typeOf hT ?_)
 dsimp only
 refine wpAny_bind (wpAny_pure ?_);simp only [Bool.not_true,Bool.false_eq_true,if_false];refine wpAny_bind (wpAny_seqItems h1 h3 ?_);refine wpAny_bind ?_;show wpAny _ _ (forIn (#[Value.int k.1 t,Value.int k.2 u]:Array Value) _ _) _ _ s;rw[←Array.forIn_toList]
 refine wpAny_forIn_list _ (fun rest r s'=>r.1=none∧s'=s∧∀v∈rest,∃x y,v=Value.int x y) _ ?_ ?_ _ _ ⟨rfl,rfl,fun v hv=>by
  rcases List.mem_cons.mp hv with rfl | hv
  ·exact⟨_,_,rfl⟩
  ·rw[List.mem_singleton.mp hv]; exact⟨_,_,rfl⟩⟩
 ·rintro v rest r s' ⟨hr,rfl,hall⟩
  obtain⟨x,y,rfl⟩:=hall v List.mem_cons_self;refine wpAny_bind ?_;unfold ofAClassStatement;refine wpAny_pure ?_;simp only [Bool.false_eq_true,if_false];exact wpAny_pure ⟨rfl,rfl,fun u hu'=>hall u (List.mem_cons_of_mem _ hu')⟩
 ·rintro⟨r1,r2⟩ s' ⟨hr,rfl,_⟩
  simp only at hr;subst hr;exact wpAny_pure q
theorem ZnZ {b:Addr} {k:Int×Int} {ys:List Value} {Q:Bool→Shared→Prop} (h:Tup2 s.heap b k) (hy:∀y∈ys,∃c j,y=.ref c∧Tup2 s.heap c j) (q:Q false s):wpAny (model prog w) A (searchCouldBeSeen (.ref b) ys) Q E s:=by
 unfold searchCouldBeSeen;refine wpAny_bind ?_;refine wpAny_forIn_list _ (fun rest r s'=>r.1=none∧s'=s∧∀v∈rest,∃c j,v=Value.ref c∧Tup2 s.heap c j) _ ?_ ?_ _ _ ⟨rfl,rfl,hy⟩
 ·rintro v rest r s' ⟨hr,rfl,hall⟩
  obtain⟨c,j,rfl,hc⟩:=hall v List.mem_cons_self;have nx:∀u∈rest,∃c j,u=Value.ref c∧Tup2 s'.heap c j:=fun u hu'=>hall u (List.mem_cons_of_mem _ hu')
  dsimp only
  split
  ·exact wpAny_pure ⟨rfl,rfl,nx⟩
  ·refine wpAny_bind (wpAny_eqIsQuiet_tuple (h.key (prog:=prog) (w:=w)) ?_)
   simp only [Bool.not_true,Bool.false_eq_true,if_false];refine wpAny_bind (wpAny_eqIsQuiet_tuple (hc.key (prog:=prog) (w:=w)) ?_);simp only [Bool.not_true,Bool.false_eq_true,if_false];refine wpAny_bind (Zla h ?_);simp only [Bool.false_eq_true,if_false];refine wpAny_bind (Zla hc ?_);simp only [Bool.false_eq_true,if_false];exact wpAny_pure ⟨rfl,rfl,nx⟩
 ·rintro⟨r1,r2⟩ s' ⟨hr,rfl,_⟩
  simp only at hr;subst hr;exact wpAny_pure q
variable {hf:Int×Int→Int}
def en2 (hf:Int×Int→Int) (x:(Int×Int)×Addr):Int×Value:=(hf x.1,.ref x.2)
theorem ZoO {t:SetTable} {hs:List Int} (T:Tb t hs):t.gaveWay=false:=by
 unfold SetTable.gaveWay
 rcases T.msk with h | h | h | h | h | h <;> rw[h] <;> rfl
theorem Zh4 {t:SetTable} {es:Array (Int×Value)} (T:Tb t (es.toList.map (·.1))):t.fits es.size=true:=by
 unfold SetTable.fits SetTable.fill;have h1:=T.ln;have h2:=T.lm;rw[List.length_map,Array.length_toList]at h1;rw[T.dm];simp[h1];omega
theorem Zpz {es:Array (Int×Value)} {xs:List ((Int×Int)×Addr)} (hes:es.toList=xs.map (en2 hf)) {i:Nat} {x:(Int×Int)×Addr} (h:xs[i]?=some x):es[i]?=some (hf x.1,.ref x.2):=by
 rw[←Array.getElem?_toList,hes,List.getElem?_map,h];rfl
theorem ZlP {t:SetTable} {hs:List Int} (T:Tb t hs) {h:Int} {e n:Nat} (he : ¬Occ t (wkP t.mask h e).j) (hb:∀n',n' < e→Occ t (wkP t.mask h n').j) (h10:e < 10 * SetTable.turns t.mask) (hn:n≤e) (f:Nat→Int):∃met,t.probe f h (wkP t.mask h n)=some met:=by
 unfold SetTable.probe
 rcases Zie T (f:=f) he hb (10 * SetTable.turns t.mask) n (by omega) hn with⟨k1,_⟩ | ⟨m,i,_,_,_,_,m5,_⟩
 ·exact⟨_,k1⟩
 ·exact⟨_,m5⟩
theorem Zj8 {t:SetTable} {hs:List Int} (T:Tb t hs) {h:Int} {e n:Nat} (he : ¬Occ t (wkP t.mask h e).j) (hb:∀n',n' < e→Occ t (wkP t.mask h n').j) (h10:e < 10 * SetTable.turns t.mask) (hn:n≤e) {f:Nat→Int} {met:SetTable.Met} (hm:t.probe f h (wkP t.mask h n)=some met) :
  (met=.empty (wkP t.mask h e).j none∧∀n' i:Nat,n≤n'→n' < e→t.place[i]?=some (wkP t.mask h n').j→f i≠h)∨
   ∃m i:Nat,n≤m∧m < e∧t.place[i]?=some (wkP t.mask h m).j∧f i=h∧met=.candidate (wkP t.mask h m).j i (wkP t.mask h (m+1))∧∀n' i':Nat,n≤n'→n' < m→t.place[i']?=some (wkP t.mask h n').j→f i'≠h:=by
 unfold SetTable.probe at hm
 rcases Zie T (f:=f) he hb (10 * SetTable.turns t.mask) n (by omega) hn with⟨k1,k2⟩ | ⟨m,i,a1,a2,a3,a4,a5,a6⟩
 ·rw[k1]at hm
  exact .inl ⟨(Option.some.inj hm).symm,k2⟩
 ·rw[a5]at hm
  exact .inr ⟨m,i,a1,a2,a3,a4,(Option.some.inj hm).symm,a6⟩
theorem ZhQ {a b:Addr} {o:Obj} {es:Array (Int×Value)} {ep e:Nat} {t:SetTable} {xs:List ((Int×Int)×Addr)} {k:Int×Int} {Q:SetFound→Shared→Prop} (hu:A.units < cLine) (ho:s.heap.get? a=some o) (hd:o.data=.set es ep t)
  (T:Tb t (es.toList.map (·.1))) (hes:es.toList=xs.map (en2 hf)) (his:∀x∈xs,Tup2 s.heap x.2 x.1) (hk:Tup2 s.heap b k) (he : ¬Occ t (wkP t.mask (hf k) e).j) (hb:∀n',n' < e→Occ t (wkP t.mask (hf k) n').j) (h10:e < 10 * SetTable.turns t.mask)
  (q1:(∃x∈xs,x.1=k)→Q (.there none) s) :
  ∀(fuel n:Nat) (st:Option SetTable.Probe),e - n < fuel→n≤e→st.getD (t.probeStart (hf k))=wkP t.mask (hf k) n→
   ((∀(n' i:Nat) x,n≤n'→n' < e→t.place[i]?=some (wkP t.mask (hf k) n').j→xs[i]?=some x→x.1≠k)→Q (.free (wkP t.mask (hf k) e).j false) s)→
   wpAny (model prog w) A (setSearchFrom a (.ref b) (hf k) true fuel st) Q E s
 | 0,n,st,hfl,hn,hst,q2=>by omega
 | fuel+1,n,st,hfl,hn,hst,q2=>by
  have fit:=Zh4 T;unfold setSearchFrom;refine wpAny_bind (wpAny_setState_of ho hd fit ?_)
  dsimp only
  rw[ZoO T];simp only [Bool.false_eq_true,if_false];rw[hst]
  have un:∀(i:Nat) (x:(Int×Int)×Addr),xs[i]?=some x→((es[i]?).map (·.1)).getD 0=hf x.1:=fun i x h=>by rw[Zpz hes h]; rfl
  have at_:∀{i:Nat} {j:Nat},t.place[i]?=some j→∃x,xs[i]?=some x:=fun {i j} h=>by
   have h1:=(Array.getElem?_eq_some_iff.mp h).1;have h2:=T.ln;rw[hes,List.length_map,List.length_map]at h2;exact⟨xs[i]'(by omega),List.getElem?_eq_getElem (by omega)⟩
  split
  ·rename_i met hmet
   rcases Zj8 T he hb h10 hn hmet with⟨rfl,k2⟩ | ⟨m,i,m1,m2,m3,m4,rfl,m6⟩
   ·dsimp only
    refine wpAny_pure (q2 fun n' i x h1 h2 h3 h4 z=>k2 n' i h1 h2 h3 ?_);show((es[i]?).map (·.1)).getD 0=hf k;rw[un i x h4,z]
   ·obtain⟨x,hx⟩:=at_ m3
    have hxm:=List.mem_of_getElem? hx;have hxs:=his x hxm
    dsimp only
    have ei:=Zpz hes hx
    have hys:∀y∈((es.filter (fun x=>x.1 == hf k)).toList.map (·.2)),∃c j,y=Value.ref c∧Tup2 s.heap c j:=fun y hy=>by
     obtain⟨q,hq,rfl⟩:=List.mem_map.mp hy;rw[Array.toList_filter]at hq;have hq:=(List.mem_filter.mp hq).1;rw[hes]at hq;obtain⟨z,hz,rfl⟩:=List.mem_map.mp hq;exact⟨z.2,z.1,rfl,his z hz⟩
    have nx : ¬x.1=k→wpAny (model prog w) A (setSearchFrom a (.ref b) (hf k) true fuel (some (wkP t.mask (hf k) (m+1)))) Q E s:=fun hkk=>by
     refine ZhQ hu ho hd T hes his hk he hb h10 q1 fuel (m+1) _ (by omega) (by omega) rfl fun hq=>q2 fun n' i' x' h1 h2 h3 h4=>?_
     rcases Nat.lt_trichotomy n' m with z | z | z
     ·intro e'
      refine m6 n' i' h1 z h3 ?_;show((es[i']?).map (·.1)).getD 0=hf k;rw[un i' x' h4,e']
     ·subst z
      have:i'=i:=by rw[←ZeO T.up h3,←ZeO T.up m3]
      subst this;rw[hx]at h4
      cases h4
      exact hkk
     ·exact hq n' i' x' (by omega) h2 h3 h4
    by_cases hld:t.led=true
    ·rw[hld]
     simp only [Bool.not_true,Bool.false_eq_true,if_false]
     ·skip
      rw[ei]
      dsimp only
      refine wpAny_bind (wpAny_holding (wpAny_eqBool_tuple (knd:=intKind prog w) hu hxs.key hk.key ?_));refine wpAny_bind (wpAny_setState_of ho hd fit ?_)
      dsimp only
      by_cases hkk:x.1=k
      ·rw[hkk,decide_eq_true rfl]
       exact wpAny_pure (q1 ⟨x,hxm,hkk⟩)
      ·rw[decide_eq_false (show ¬ [x.1.1,x.1.2]=[k.1,k.2] from fun z=>hkk (by
        have z1:=(List.cons.inj z).1;have z2:=(List.cons.inj (List.cons.inj z).2).1
        exact Prod.ext z1 z2))]
       simp only [Bool.and_false,Bool.false_eq_true,if_false]
       have sm:t.sameMemory t.moves t.mask=some true:=by unfold SetTable.sameMemory; simp
       rw[sm];simp only [if_true];rw[Zkj T.up m3]
       dsimp only
       rw[ei]
       dsimp only
       refine wpAny_bind (wpAny_isSame_ref_self (wpAny_bind (wpAny_pure ?_)));simp only [if_true];exact nx hkk
    ·have hld:t.led=false:=by simpa using hld
     rw[hld];simp only [Bool.not_false,if_true];refine wpAny_bind (ZnZ hk hys ?_);simp only [Bool.false_eq_true,if_false]
     ·skip
      rw[ei]
      dsimp only
      refine wpAny_bind (wpAny_holding (wpAny_eqBool_tuple (knd:=intKind prog w) hu hxs.key hk.key ?_));refine wpAny_bind (wpAny_setState_of ho hd fit ?_)
      dsimp only
      by_cases hkk:x.1=k
      ·rw[hkk,decide_eq_true rfl]
       exact wpAny_pure (q1 ⟨x,hxm,hkk⟩)
      ·rw[decide_eq_false (show ¬ [x.1.1,x.1.2]=[k.1,k.2] from fun z=>hkk (by
        have z1:=(List.cons.inj z).1;have z2:=(List.cons.inj (List.cons.inj z).2).1
        exact Prod.ext z1 z2))]
       simp only [Bool.and_false,Bool.false_eq_true,if_false]
       have sm:t.sameMemory t.moves t.mask=some true:=by unfold SetTable.sameMemory; simp
       rw[sm];simp only [if_true];rw[Zkj T.up m3]
       dsimp only
       rw[ei]
       dsimp only
       refine wpAny_bind (wpAny_isSame_ref_self (wpAny_bind (wpAny_pure ?_)));simp only [if_true];exact nx hkk
  ·rename_i hno
   exact(hno _ (Classical.choose_spec (ZlP T he hb h10 hn _))).elim
def SetT (w:World) (hf:Int×Int→Int) (hp:Heap) (a:Addr) (xs:List ((Int×Int)×Addr)):Prop:=∃o es ep t,hp.get? a=some o∧o.ExactSet∧o.data=.set es ep t∧t.led = !(w.params.followText "set-order")∧Tb t (es.toList.map (·.1))∧t.tooFull=false∧es.toList=xs.map (en2 hf)∧(xs.map (·.1)).Nodup
theorem SetT.same {hp hp':Heap} {a:Addr} {xs:List ((Int×Int)×Addr)} (h:SetT w hf hp a xs) (k:∀o,hp.get? a=some o→hp'.get? a=some o):SetT w hf hp' a xs:=by
 obtain⟨o,es,ep,t,e,r⟩:=h;exact⟨o,es,ep,t,k _ e,r⟩
theorem Znz {α:Type} (xs:List α):(List.range xs.length).filterMap (fun i=>xs[i]?)=xs:=by
 have:=filterMap_getElem?_range xs.toArray
 simpa using this
theorem ZgO {es:Array (Int×Value)} {xs:List ((Int×Int)×Addr)} (hes:es.toList=xs.map (en2 hf)):∀l:List Nat,l.filterMap (fun i=>es[i]?)=(l.filterMap fun i=>xs[i]?).map (en2 hf)
 | []=>rfl
 | i::l=>by
  have e:es[i]?=(xs[i]?).map (en2 hf):=by rw[←Array.getElem?_toList,hes,List.getElem?_map]
  rw[List.filterMap_cons,List.filterMap_cons,e]
  cases xs[i]? with
  | none=>exact ZgO hes l
  | some x=>rw[Option.map_some]; dsimp only; rw[List.map_cons,ZgO hes l]
theorem ZhM {xs:List ((Int×Int)×Addr)}:∀l:List Nat,(∀i∈l,i < xs.length)→((l.filterMap fun i=>xs[i]?).map (en2 hf)).map (·.1)=l.map fun i=>((xs.map (en2 hf)).map (·.1)).getD i 0
 | [],_=>rfl
 | i::l,h=>by
  have hi:=h i List.mem_cons_self;rw[List.filterMap_cons,List.getElem?_eq_getElem hi]
  dsimp only
  rw[List.map_cons,List.map_cons,List.map_cons,ZhM l fun j hj=>h j (List.mem_cons_of_mem _ hj)]
  congr 1
  rw[List.getD_eq_getElem?_getD,List.getElem?_map,List.getElem?_map,List.getElem?_eq_getElem hi];rfl
theorem Zpg {a b:Addr} {xs:List ((Int×Int)×Addr)} {k:Int×Int} {Q:Bool→Shared→Prop} (hu:A.units < cLine) (hS:SetT w hf s.heap a xs) (his:∀x∈xs,Tup2 s.heap x.2 x.1) (hk:Tup2 s.heap b k) (hz:xs.length < 4900)
  (q:∀r hp' xs',Heap.SameBut a s.heap hp'→SetT w hf hp' a xs'→(∀x∈xs',x∈xs∨x=(k,b))→(∀j,j∈xs'.map (·.1) ↔ (j=k∨j∈xs.map (·.1)))→xs'.length≤xs.length+1→Q r { s with heap:=hp' }) :
  wpAny (model prog w) A (setAddHashed a (.ref b) (hf k)) Q E s:=by
 obtain⟨o,es,ep,t,ho,hx,hd,hld,T,hnf,hes,hnd⟩:=hS;have fit:=Zh4 T
 obtain⟨e,h10,he,hb⟩:=T.first (hf k)
 have m8:=T.m8
 have lnx:es.size=xs.length:=by rw[←Array.length_toList,hes,List.length_map]
 unfold setAddHashed setAddHashedIn;refine wpAny_holding (wpAny_bind (wpAny_setState_of ho hd fit ?_))
 dsimp only
 have bs:byScan (.ref b) es=false:=rfl;rw[bs];simp only [Bool.false_eq_true,if_false];unfold setSearch;refine wpAny_bind (ZhQ hu ho hd T hes his hk he hb h10 ?_ 100000 0 none (by unfold SetTable.turns at h10; omega) (Nat.zero_le _) rfl ?_)
 ·rintro⟨x,hxm,hxk⟩
  dsimp only
  refine wpAny_pure (q false s.heap xs (Heap.SameBut.refl a s.heap) ⟨o,es,ep,t,ho,hx,hd,hld,T,hnf,hes,hnd⟩ (fun x h=>.inl h) (fun j=>⟨.inr,fun h=>h.elim (fun z=>?_) id⟩) (Nat.le_succ _));rw[z,←hxk];exact List.mem_map_of_mem hxm
 ·intro hno
  dsimp only
  have hkn:k∉xs.map (·.1):=fun hm=>by
   obtain⟨x,hxm,hxk⟩:=List.mem_map.mp hm;obtain⟨i,hi⟩:=List.mem_iff_getElem?.mp hxm;have hil:=(List.getElem?_eq_some_iff.mp hi).1;have lp:=T.ln;rw[List.length_map,Array.length_toList]at lp;have hpl:t.place[i]?=some (t.place[i]'(by omega)):=Array.getElem?_eq_getElem (by omega)
   have hh:(es.toList.map (·.1))[i]?=some (hf k):=by rw[hes,List.getElem?_map,List.getElem?_map,hi,←hxk]; rfl
   obtain⟨n,a1,a2⟩:=T.re i _ _ hpl hh
   rcases Nat.lt_or_ge n e with z | z
   ·exact hno n i x (Nat.zero_le _) z (by rw[a1]; exact hpl) hi hxk
   ·rcases Nat.lt_or_eq_of_le z with y | y
    ·exact he (a2 e y)
    ·rw[y,a1]at he
     exact he ⟨i,hpl⟩
  refine wpAny_bind (wpAny_setState_of ho hd fit ?_)
  dsimp only
  rw[Zrg T.dm]
  dsimp only
  generalize hj:(wkP t.mask (hf k) e).j=j;have pl:(putT t j).plain=true:=T.pl;rw[pl];simp only [if_true];refine wpAny_bind (ZrA hk ?_);simp only [if_true]
  have lsz:t.place.size=es.size:=by have:=T.ln; rw[List.length_map,Array.length_toList]at this; exact this
  have nf5:t.place.size * 5 < t.mask * 3:=by
   have:decide (t.fill * 5 ≥ t.mask * 3)=false:=hnf;have:=of_decide_eq_false this;unfold SetTable.fill at this;rw[T.dm]at this;simp at this;omega
  have T2:Tb (putT t j) (insL (es.toList.map (·.1)) (SetTable.below t.place j) (hf k)):=by
   rw[←hj];exact T.put he hb (by omega)
  obtain⟨bb,_,_⟩:=ZcK T.up j;generalize SetTable.below t.place j=p at T2 bb
  have hes2:(SetTable.insertAt es p (hf k,Value.ref b)).toList=(insL xs p (k,b)).map (en2 hf):=by
   rw[SetTable.toList_insertAt,hes];unfold insL;rw[List.map_append,List.map_cons,List.map_take,List.map_drop];rfl
  have hh2:insL (es.toList.map (·.1)) p (hf k)=(SetTable.insertAt es p (hf k,Value.ref b)).toList.map (·.1):=by
   rw[SetTable.toList_insertAt];unfold insL;rw[List.map_append,List.map_cons,List.map_take,List.map_drop]
  rw[hh2]at T2;have z1:(SetTable.insertAt es p (hf k,Value.ref b)).size=es.size+1:=Zgr _ _ _
  have pmi:(insL xs p (k,b)).Perm ((k,b)::xs):=by
   unfold insL;refine List.perm_middle.trans ?_;rw[List.take_append_drop]
  have li:(insL xs p (k,b)).length=xs.length+1:=pmi.length_eq;have fit2:=Zh4 T2;generalize SetTable.insertAt es p (hf k,Value.ref b)=es2 at hes2 T2 z1 fit2;generalize insL xs p (k,b)=xs2 at hes2 pmi li;have nd2:(xs2.map (·.1)).Nodup:=(pmi.map (·.1)).nodup_iff.mpr (List.nodup_cons.mpr ⟨hkn,hnd⟩);have me2:∀x∈xs2,x∈xs∨x=(k,b):=fun x hx=>(List.mem_cons.mp (pmi.mem_iff.mp hx)).symm
  have ke2:∀j,j∈xs2.map (·.1) ↔ (j=k∨j∈xs.map (·.1)):=fun j=>by
   rw[(pmi.map (·.1)).mem_iff,List.map_cons,List.mem_cons]
  refine wpAny_bind (wpAny_storeSet_of ho hd ?_ (by rw[z1]; exact Zhj (by omega)));have at1:=Heap.get?_update_self (Obj.putSet es2 (putT t j)) ho (by rw[putSet_of _ _ hd]; rfl);rw[putSet_of _ _ hd]at at1;have sb1:=Heap.SameBut.update s.heap a (Obj.putSet es2 (putT t j))
  cases hfu:(putT t j).tooFull with
  | false=>
   simp only [Bool.not_false,Bool.and_false,Bool.false_eq_true,if_false];exact wpAny_pure (q true _ xs2 sb1 ⟨_,es2,ep+1,_,at1,hx,rfl,hld,T2,hfu,hes2,nd2⟩ me2 ke2 (by omega))
  | true=>
   simp only [Bool.not_false,Bool.and_self,if_true]
   have psz:(putT t j).place.size=es.size+1:=by
    have:=T2.ln;rw[List.length_map,Array.length_toList,z1]at this;exact this
   have hl2:(es2.toList.map (·.1)).length=es.size+1:=by rw[List.length_map,Array.length_toList,z1]
   obtain⟨t',order,r1,r2,r3,r4,r5,r6⟩:=T2.relay (by rw[psz,lnx]; omega) hfu (by rw[psz]; show(es.size+1 - 1) * 5 < t.mask * 3; omega) (by rw[psz]; omega);unfold setRelay;refine wpAny_bind (wpAny_bind (wpAny_setState_of (s:={ s with heap:=s.heap.update a (Obj.putSet es2 (putT t j)) }) at1 rfl fit2 ?_))
   dsimp only
   rw[hl2]at r1 r2
   have sl : ¬SetTable.sizeAbove (SetTable.grown (es.size+1)) > sizeLine:=by
    have:=Zhj (n:=8192) (by omega);omega
   rw[if_neg sl]
   have em:es2.map (·.1)=(es2.toList.map (·.1)).toArray:=by
    apply Array.toList_inj.mp;rw[Array.toList_map]
   rw[em,r1]
   have om:∀i∈order.toList,i < xs2.length:=fun i hi=>by
    have:=r4.mem_iff.mp hi;rw[List.mem_range,hl2]at this;omega
   have hes3:(order.filterMap (fun i=>es2[i]?)).toList=(order.toList.filterMap fun i=>xs2[i]?).map (en2 hf):=by
    rw[Array.toList_filterMap];exact ZgO hes2 _
   have pm3:(order.toList.filterMap fun i=>xs2[i]?).Perm xs2:=by
    have:=r4.filterMap (fun i=>xs2[i]?);rw[show(es2.toList.map (·.1)).length=xs2.length by rw[hl2]; omega,Znz]at this;exact this
   have sz3:(order.filterMap (fun i=>es2[i]?)).size=es2.size:=by
    rw[←Array.length_toList,hes3,List.length_map,pm3.length_eq];omega
   refine wpAny_bind ?_;show wpAny _ _ (if ((order.filterMap (fun i=>es2[i]?)).size != es2.size)=true then _ else pure (order.filterMap (fun i=>es2[i]?),t')) _ _ _;rw[if_neg (by rw[sz3]; simp)];refine wpAny_pure ?_
   have T3:Tb t' ((order.filterMap (fun i=>es2[i]?)).toList.map (·.1)):=by
    rw[hes3,ZhM _ om,←hes2];exact r5
   generalize order.filterMap (fun i=>es2[i]?)=es3 at hes3 sz3 T3;generalize (order.toList.filterMap fun i=>xs2[i]?)=xs3 at hes3 pm3;refine wpAny_storeSet_of at1 rfl ?_ (by show es3.size≤_; rw[sz3,z1]; exact Zhj (by omega));have at2:=Heap.get?_update_self (Obj.putSet es3 t') at1 rfl;refine wpAny_pure (q true _ xs3 (sb1.trans (Heap.SameBut.update _ a _)) ⟨_,es3,_,t',at2,hx,rfl,by rw[r3]; exact hld,T3,r6,hes3,(pm3.map (·.1)).nodup_iff.mpr nd2⟩ (fun x h=>me2 x (pm3.mem_iff.mp h)) (fun j=>((pm3.map (·.1)).mem_iff).trans (ke2 j)) (by rw[pm3.length_eq]; omega))
end
end L2
namespace L2
open PySem PySem.Spec PyProof.Rows
section
variable {prog:Program} {w:World} {A:Around} {R:Result→Shared→Prop} {I:Addr} {fp wr:List Addr} {G:Array GenState→Array GenState→Prop} {n:Nat} {P:Nat→Value→Prop} {St:Nat→Shared→Prop} {hf:Int×Int→Int}
theorem ZnF (W:WalksS prog w A.in1 I fp wr G n P St) (S:Addr) (hSf:S∉fp) (hu:A.in1.units < cLine) (hfe:∀k:Int×Int,tupleKeyHash (intKind prog w) [k.1,k.2]=hf k) (val:Nat→(Int×Int)×Addr) (hv:∀i v,P i v→v=.ref (val i).2) (hn:n≤4900) (hw:∀i,i < n→(val i).2∉S::wr) :
  ∀(k i:Nat) (s:Shared) (xs:List ((Int×Int)×Addr)),n - i=k→i≤n→St i s→SetT w hf s.heap S xs→(∀j,j < n→Tup2 s.heap (val j).2 (val j).1)→(∀x∈xs,∃j,j < n∧x=val j)→(∀j,j∈xs.map (·.1) ↔ ∃i',i' < i∧(val i').1=j)→xs.length≤i→
   (∀s' xs',Moved (S::wr) G s s'→SetT w hf s'.heap S xs'→(∀j,j < n→Tup2 s'.heap (val j).2 (val j).1)→(∀x∈xs',∃j,j < n∧x=val j)→(∀j,j∈xs'.map (·.1) ↔ ∃i',i' < n∧(val i').1=j)→xs'.length≤n→R (.ok (.ret .none)) s')→
   codeAny (model prog w) A (.builtin "set.update.loop" ⟨[.ref S,.ref I],[]⟩) R s:=by
 have nw:S∉wr:=fun h=>hSf (W.sub _ h);have up:∀b∈wr,b∈S::wr:=fun b hb=>List.mem_cons_of_mem _ hb;intro k
 induction k with
 | zero=>
  intro i s xs hk hi hst hS hT hx hm hl hR
  obtain rfl:i=n:=by omega
  refine codeAny_builtin PyProof.Rows.F.entry_set_update_loop (by
   rw[Around.under_plainId PyProof.Rows.F.plain_set_update_loop _];show wpAny _ A.in1 (pyNext (.ref I) >>= _) _ _ s;refine wpAny_bind (W.done s _ _ hst fun s' mv=>?_);show wpAny _ A.in1 (ret Value.none) _ _ s'
   exact wpAny_pure (hR s' xs (mv.mono up) (hS.same fun o e=>mv.heap S _ nw e) (fun j hj=>(hT j hj).keep fun o e=>mv.heap _ _ (fun z=>hw j hj (up _ z)) e) hx hm hl))
 | succ k ih=>
  intro i s xs hk hi hst hS hT hx hm hl hR
  have lt:i < n:=by omega
  refine codeAny_builtin PyProof.Rows.F.entry_set_update_loop (by
   rw[Around.under_plainId PyProof.Rows.F.plain_set_update_loop _];show wpAny _ A.in1 (pyNext (.ref I) >>= _) _ _ s;refine wpAny_bind (W.item i s _ _ lt hst fun v s' pv st' mv=>?_);obtain rfl:=hv i v pv;have S':SetT w hf s'.heap S xs:=hS.same fun o e=>mv.heap S _ nw e;have T':∀j,j < n→Tup2 s'.heap (val j).2 (val j).1:=fun j hj=>(hT j hj).keep fun o e=>mv.heap _ _ (fun z=>hw j hj (up _ z)) e;show wpAny _ A.in1 (holding [Value.ref (val i).2] (setAdd S (.ref (val i).2)) >>= _) _ _ s';refine wpAny_bind (wpAny_holding ?_);unfold setAdd;refine wpAny_holding (wpAny_bind (wpAny_pyHash_tuple (knd:=intKind prog w) hu (T' i lt).key ?_));rw[hfe];have T2:∀(tk:Nat) (j:Nat),j < n→Tup2 (Shared.heap { s' with toks:=tk }) (val j).2 (val j).1:=fun tk j hj=>T' j hj;refine Zpg (s:={ s' with toks:=s'.toks+([(val i).1.1,(val i).1.2].length+1) }) hu S' (fun x hxm=>?_) (T' i lt) (by omega) fun r hp' xs' sb S2 hmem hkey hlen=>?_
   ·obtain⟨j,hj,e⟩:=hx x hxm
    rw[e];exact T' j hj
   have ne:∀j,j < n→(val j).2≠S:=fun j hj z=>hw j hj (by rw[z]; exact List.mem_cons_self);refine wpAny_pure ⟨plainId_quiet PyProof.Rows.F.plain_set_update_loop _,ih (i+1) _ xs' (by omega) lt (W.frame _ s' _ _ st' (Nat.le_add_right _ _) fun b hb o e=>?_) S2 (fun j hj=>(T' j hj).keep fun o e=>?_) (fun x hx'=>?_) (fun j=>?_) (by omega) fun s2 xs2 m2 S3 T3 h3 k3 l3=>?_⟩
   ·rw[sb.2 b (fun z:b=S=>hSf (by rw[←z]; exact hb))]
    exact e
   ·rw[sb.2 _ (ne j hj)]
    exact e
   ·rcases hmem x hx' with z | z
    ·exact hx x z
    ·exact⟨i,lt,z⟩
   ·rw[hkey,hm]
    constructor
    ·rintro(z | ⟨i',h1,h2⟩)
     ·exact⟨i,by omega,z.symm⟩
     ·exact⟨i',by omega,h2⟩
    ·rintro⟨i',h1,h2⟩
     rcases(show i' < i∨i'=i by omega) with z | rfl
     ·exact .inr ⟨i',z,h2⟩
     ·exact .inl h2.symm
   ·refine hR s2 xs2 (Moved.trans W.gtrans ((mv.mono up).then_heap (Nat.le_add_right _ _) fun b o hb e=>?_) m2) S3 T3 h3 k3 l3
    rw[sb.2 b (fun z:b=S=>hb (by rw[z]; exact List.mem_cons_self))]
    exact e)
end
section
variable {prog:Program} {w:World} {A:Around} {E:Value→Shared→Prop} {s:Shared} {hf:Int×Int→Int}
theorem Zq2 {hp:Heap} {a:Addr} (h:hp.get? a=some (newS w)):SetT w hf hp a []:=by
 refine⟨_,#[],0,_,h,⟨rfl,rfl,rfl⟩,rfl,rfl,?_,rfl,rfl,List.nodup_nil⟩
 have nn:∀(i j:Nat),(#[]:Array Nat)[i]?≠some j:=fun i j e=>by simp at e
 exact⟨.inl rfl,rfl,rfl,fun i j x y _ e=>absurd e (nn i x),fun i j e=>absurd e (nn i j),rfl,Nat.zero_le _,fun i j h e=>absurd e (nn i j)⟩
theorem Zmq {l:Addr} {items:Array Value} {val:Nat→(Int×Int)×Addr} {Q:Value→Shared→Prop} (hh:A.handled=none) (hu:A.units+20 < cLine) (hfe:∀k:Int×Int,tupleKeyHash (intKind prog w) [k.1,k.2]=hf k) (hl:s.heap.IsList l items) (hi:∀(i:Nat) (v:Value),items[i]?=some v→v=.ref (val i).2) (hn:items.size≤4900) (hT0:∀j,j < items.size→Tup2 s.heap (val j).2 (val j).1)
  (h:∀(hp':Heap) (tk:Nat) (xs:List ((Int×Int)×Addr)),(SetT w hf hp' s.heap.objs.size xs∧(∀j,j < items.size→Tup2 hp' (val j).2 (val j).1)∧(∀x∈xs,∃j,j < items.size∧x=val j)∧(∀j,j∈xs.map (·.1) ↔ ∃i',i' < items.size∧(val i').1=j)∧xs.length≤items.size)→(∀b o,b < s.heap.objs.size→s.heap.get? b=some o→hp'.get? b=some o)→Q (.ref s.heap.objs.size) { s with heap:=hp',toks:=tk }) :
  wpAny (model prog w) A (call (.type "set") [.ref l]) Q E s:=by
 obtain⟨c,tl,hmro⟩:=PySem.F.called_set.mro;have m1:=PySem.F.called_set.made;have m2:=PySem.F.called_set.sub;have m3:=PySem.F.called_set.notType;have m4:=PySem.F.called_set.canCreate;have m5:=PySem.F.typeCall_set_1 (.ref l)
 refine wpAny_call (codeAny_of_tree (by
  show wpAny _ _ (callAny (.type "set") _) _ _ _;refine wpAny_pure ⟨Code.quiet_builtin _ (by decide +kernel),codeAny_builtin PySem.F.entry_type_call ?_⟩;rw[Around.under_plain (weight_type_call_type "set" [.ref l] []) rfl]
  repeat (any_goals (first | assumption | wp_step))
  refine codeAny_mono (ZoL (.ref l) (E:=E) (Q1:=fun obj s1=>obj=.ref s.heap.objs.size∧s1 = { s with heap:=s.heap.push (newS w) }) ⟨rfl,rfl⟩) fun r s1 hr=>?_
  cases r with
  | error e=>exact hr
  | ok fl=>
   cases fl with
   | ret obj=>
    obtain⟨rfl,rfl⟩:=hr;have hS:(s.heap.push (newS w)).get? s.heap.objs.size=some (newS w):=Heap.get?_push_size _ rfl;have hT:Shared.TypeIs { s with heap:=s.heap.push (newS w) } (.ref s.heap.objs.size) "set":=⟨_,hS,rfl⟩;have i1:=PySem.F.called_set.init.lookup;have i2:=PySem.F.called_set.init.bind (.ref s.heap.objs.size)
    repeat (any_goals (first | assumption | wp_step))
    refine codeAny_mono (codeAny_call_builtin (R:=wants (fun r s2=>r=.none∧∃hp' tk xs,s2 = { s with heap:=hp',toks:=tk }∧(SetT w hf hp' s.heap.objs.size xs∧(∀j,j < items.size→Tup2 hp' (val j).2 (val j).1)∧(∀x∈xs,∃j,j < items.size∧x=val j)∧(∀j,j∈xs.map (·.1) ↔ ∃i',i' < items.size∧(val i').1=j)∧xs.length≤items.size)∧(∀b o,b < s.heap.objs.size→s.heap.get? b=some o→hp'.get? b=some o)) E) PySem.F.called_set.init.plain PySem.F.entry_set_init (check_set_init_1 hT ?_)) fun r2 s2 hr2=>?_
    ·obtain⟨ol,e0,c0,n0,d0⟩:=hl
     obtain⟨oc,od,oda,osl⟩:=ol
     dsimp only at c0 d0
     subst c0 d0;have e1:(s.heap.push (newS w)).get? l=some { cls:=.type "list",dict:=od,data:=.seq items n0,slots:=osl }:=Heap.get?_push_of_some _ e0;have q1:=PySem.F.sub_list_set;have q2:=PySem.F.sub_list_frozenset
     have q3:(Value.type "list" == Value.type "dict")=false:=by decide
     have hl1:(s.heap.push (newS w)).IsList l items:=⟨_,e1,rfl,n0,rfl⟩;unfold Builtin.«set.__init__» noKeywords Builtin.Frozenset.updateFrom;generalize ePI:pyIter=PI
     wp_walk
     subst ePI;have lS:l < s.heap.objs.size:=Heap.lt_size e0;have sz1:(s.heap.push (newS w)).objs.size=s.heap.objs.size+1:=Heap.size_push _ _;refine wpAny_pyIter_list hl1 (wpAny_bind (wpAny_runValue ?_));refine ZnF (hf:=hf) ((Walks.list (by simp[hh]) _ l (by rw[sz1]; exact Nat.ne_of_lt (Nat.lt_succ_of_lt lS)) items).toS) s.heap.objs.size (by rw[sz1]; simp only [List.mem_cons,List.not_mem_nil,or_false,not_or]; exact⟨Nat.ne_of_lt (Nat.lt_succ_self _),Nat.ne_of_gt lS⟩) (by simp; omega) hfe val hi hn (fun i hi'=>?_) (items.size - 0) 0 _ [] (by omega) (Nat.zero_le _) ⟨⟨_,Heap.get?_push_size _ rfl,rfl,rfl⟩,hl1.push _⟩ ?_ (fun j hj=>(hT0 j hj).keep fun o e=>Heap.get?_push_of_some _ (Heap.get?_push_of_some _ e)) (fun x hx=>by cases hx) (fun j=>⟨fun z=>(by cases z),fun⟨i',z,_⟩=>(by omega)⟩) (Nat.zero_le _) ?_
     ·obtain⟨o',_,_,_,eo,_⟩:=hT0 i hi'
      have bl:=Heap.lt_size eo;rw[sz1];simp only [List.mem_cons,List.not_mem_nil,or_false,not_or];exact⟨Nat.ne_of_lt bl,Nat.ne_of_lt (Nat.lt_succ_of_lt bl)⟩
     ·exact(Zq2 (Heap.get?_push_of_some _ hS))
     ·intro s' xs mv S' T3 h3 k3 l3
      obtain⟨hp',g',d',tk',os'⟩:=s';obtain rfl:g'=s.gens:=mv.gens;obtain rfl:d'=s.drawn:=mv.drawn;obtain rfl:os'=s.os:=mv.os;show wpAny _ _ _ _ _ _;refine wpAny_pure ?_;show wpAny _ _ (ret Value.none) _ _ _;refine wpAny_pure ⟨rfl,hp',tk',xs,rfl,⟨S',T3,h3,k3,l3⟩,fun b o hb e=>?_⟩;refine mv.heap b o ?_ (Heap.get?_push_of_some _ (Heap.get?_push_of_some _ e));rw[sz1];simp only [List.mem_cons,List.not_mem_nil,or_false,not_or];exact⟨Nat.ne_of_lt hb,Nat.ne_of_lt (Nat.lt_succ_of_lt hb)⟩
    ·cases r2 with
     | error e=>exact hr2
     | ok fl2=>
      cases fl2 with
      | ret r=>
       obtain⟨rfl,hp',tk,xs,rfl,S',kp⟩:=hr2
       repeat (any_goals (first | assumption | wp_step))
       exact h _ _ xs S' kp
      | _=>exact hr2.elim
   | _=>exact hr.elim))
end
end L2
namespace L2
open PySem PySem.Spec PyProof.Rows
section
variable {prog:Program} {w:World} {A:Around} {E:Value→Shared→Prop} {s:Shared}
def Zf7 (t:SetTable) (i:Nat):Nat:=if i=0 then 0 else t.place.getD (i - 1) 0+1
theorem ZjF {t:SetTable} (u:Up t.place) {i:Nat} (hi:i≤t.place.size):SetTable.below t.place (Zf7 t i)=i:=by
 obtain⟨b1,b2,b3⟩:=ZcK u (Zf7 t i);have hx:∀j,(hj:j < t.place.size)→t.place[j]?=some t.place[j]:=fun j hj=>Array.getElem?_eq_getElem hj
 rcases Nat.lt_trichotomy (SetTable.below t.place (Zf7 t i)) i with z | z | z
 ·have hs:Zf7 t i=t.place[i - 1]'(by omega)+1:=by
   unfold Zf7;rw[if_neg (by omega)]
   have:i - 1 < t.place.size:=by omega
   simp[Array.getD,this]
  have a:=b3 (i - 1) _ (by omega) (hx (i - 1) (by omega));rw[hs]at a;omega
 ·exact z
 ·have a:=b2 i _ z (hx i (by omega))
  unfold Zf7 at a
  by_cases h0:i=0
  ·rw[if_pos h0]at a; omega
  ·rw[if_neg h0]at a
   have hp:i - 1 < t.place.size:=by omega
   have hg:t.place.getD (i - 1) 0=t.place[i - 1]:=by simp[Array.getD,hp]
   rw[hg]at a;have:=u (i - 1) i _ _ (by omega) (hx (i - 1) hp) (hx i (by omega));omega
def itG (w:World) (t:SetTable) (a i ep:Nat) (n:Nat):Obj:={ cls:=.type "set_iterator",data:=.fields #[.int ((if w.params.followText "set-order" = true then 0 else Zf7 t i:Nat):Int) 0,.int (i:Int) 0,.ref a,.int (n:Int) 0,.int (ep:Int) 0] }
structure WkT (w:World) (t:SetTable) (es:Array (Int×Value)):Prop where
 up:Up t.place
 sz:t.place.size=es.size
 fit:t.fits es.size=true
 pl:t.plain=true
 ld:t.led = !(w.params.followText "set-order")
theorem ZnE {a ep:Nat} {t:SetTable} {o:Obj} {es:Array (Int×Value)} {Q:Value→Shared→Prop} (ho:s.heap.get? a=some o) (hx:o.ExactSet) (hd:o.data=.set es ep t) (hT:WkT w t es)
  (h:Q (.ref s.heap.objs.size) { s with heap:=s.heap.push (itG w t a 0 ep es.size) }):wpAny (model prog w) A (pyIter (.ref a)) Q E s:=by
 have ty:s.TypeIs (.ref a) "set":=⟨o,ho,hx.1⟩;have fit:=hT.fit;have pl:=hT.pl;refine wpAny_pyIter_slot ty PySem.F.slot_set_iter (wpAny_call_entry PySem.F.slot_set_iter ty Zmy ?_ (PySem.F.args_set_iter_1 _));unfold Builtin.«frozenset.__iter__» Builtin.Frozenset.slot0 slotArgs;simp only [List.isEmpty_nil,Bool.not_true,Bool.false_eq_true,↓reduceIte,bind_assoc,List.length_nil,bne_self_eq_false];unfold Builtin.Frozenset.addrOf Builtin.Frozenset.sizeOf;refine wpAny_bind (wpAny_pure ?_)
 try dsimp only
 refine wpAny_bind (wpAny_pure (wpAny_bind (wpAny_bind (wpAny_setEntries_of ho hd fit (wpAny_pure ?_)))));unfold setDrawn setsByText;refine wpAny_bind (wpAny_bind (wpAny_setState_of ho hd fit ?_));refine wpAny_bind (wpAny_bind (wpAny_askSetting (wpAny_pure (wpAny_pure ?_))));show wpAny _ _ (if (!w.params.followText "set-order" && (!t.plain && decide (es.size > 1)))=true then _ else _) _ _ _;rw[pl];simp only [Bool.not_true,Bool.false_and,Bool.and_false,Bool.false_eq_true,↓reduceIte];refine wpAny_bind (wpAny_pure (wpAny_bind (wpAny_setEpoch_of ho hd fit ?_)));refine wpAny_bind (wpAny_newObj_type (wpAny_pure ⟨_,rfl,"set_iterator",_,⟨_,Heap.get?_push_size _ rfl,rfl⟩,ZfC.lookup,?_⟩) (by simp[sizeOk]; exact Zhj (by decide)))
 have e:itG w t a 0 ep es.size = { cls:=.type "set_iterator",data:=.fields #[.int 0 0,.int 0 0,.ref a,.int (es.size:Int) 0,.int (ep:Int) 0] }:=by
  unfold itG Zf7;simp
 rw[e]at h;exact h
theorem Zjj {a i ep:Nat} {t:SetTable} {o:Obj} {es:Array (Int×Value)} {R:Option (Value×Nat)→Shared→Prop} (ho:s.heap.get? a=some o) (hd:o.data=.set es ep t) (hT:WkT w t es) (hi:i≤es.size)
  (h:R ((ordS w a ep es)[i]?.map fun e=>(e.2,if w.params.followText "set-order" = true then 0 else Zf7 t (i+1))) s):wpAny (model prog w) A (setNext a (if w.params.followText "set-order" = true then 0 else Zf7 t i) i ep) R E s:=by
 have fit:=hT.fit;have pl:=hT.pl;have ld:=hT.ld;have pc:=hT.sz;unfold setNext setsByText;refine wpAny_bind (wpAny_setState_of ho hd fit (wpAny_bind (wpAny_bind (wpAny_askSetting (wpAny_pure ?_)))));show wpAny _ _ (if w.params.followText "set-order" = true then _ else _) _ _ _;unfold ordS at h
 cases eb:w.params.followText "set-order" with
 | true=>
  rw[eb]at h;simp only [↓reduceIte,bne_self_eq_false,Bool.false_eq_true]at h ⊢;unfold setWalk setsByText;refine wpAny_bind (wpAny_bind (wpAny_setState_of ho hd fit (wpAny_bind (wpAny_bind (wpAny_askSetting (wpAny_pure ?_))))));show wpAny _ _ (if w.params.followText "set-order" = true then _ else _) _ _ _;rw[eb];simp only [↓reduceIte];refine wpAny_bind (wpAny_askSetting (wpAny_pure (wpAny_pure ?_)));exact h
 | false=>
  rw[eb]at h;simp only [↓reduceIte,Bool.false_eq_true]at h ⊢;rw[eb]at ld;show wpAny _ _ (if (!t.plain && decide (es.size > 1))=true then _ else _) _ _ _;rw[pl];simp only [Bool.not_true,Bool.false_and,Bool.false_eq_true,↓reduceIte];show wpAny _ _ ((if (!t.led && !es.isEmpty)=true then _ else _) >>= _) _ _ _;rw[ld];simp only [Bool.not_false,Bool.not_true,Bool.false_and,Bool.false_eq_true,↓reduceIte];refine wpAny_bind (wpAny_pure (wpAny_pure ?_));rw[ZjF hT.up (by rw[pc]; exact hi)]
  by_cases hl:i < es.size
  ·have e1:es[i]?=some es[i]:=Array.getElem?_eq_getElem (by omega)
   have hip:i < t.place.size:=by omega
   have e2:t.place[i]?=some t.place[i]:=Array.getElem?_eq_getElem hip;rw[e1]at h ⊢;rw[e2]
   have e3:Zf7 t (i+1)=t.place[i]+1:=by
    unfold Zf7;rw[if_neg (by omega),Nat.add_sub_cancel];simp[Array.getD,hip]
   rw[e3]at h;exact h
  ·have e1:es[i]?=none:=Array.getElem?_eq_none (by omega)
   rw[e1]at h ⊢;exact h
theorem ZnG {a i ep it:Nat} {t:SetTable} {o:Obj} {es:Array (Int×Value)} {Q:Option Value→Shared→Prop} (hit:s.heap.get? it=some (itG w t a i ep es.size)) (ho:s.heap.get? a=some o) (hd:o.data=.set es ep t) (hT:WkT w t es) (hi:i < es.size)
  (h:∀e hp',(ordS w a ep es)[i]?=some e→hp'.get? it=some (itG w t a (i+1) ep es.size)→Heap.SameBut it s.heap hp'→Q (some e.2) { s with heap:=hp' }):wpAny (model prog w) A (pyNext (.ref it)) Q E s:=by
 have ty:s.TypeIs (.ref it) "set_iterator":=⟨_,hit,rfl⟩;have fit:=hT.fit;have pl:=hT.pl;have ld:=hT.ld;have pc:=hT.sz
 have zo:(ordS w a ep es).size=es.size:=by
  have:=(Zga (w:=w) a ep es).length_eq
  simpa using this
 obtain⟨e,ee⟩ : ∃e,(ordS w a ep es)[i]?=some e:=⟨_,Array.getElem?_eq_getElem (by omega)⟩;unfold pyNext;refine wpAny_bind (wpAny_attempt (wpAny_callSpecial?_slot (name:=Str.ofString "__next__") ty ZfC (wpAny_call_entry ZfC ty Zkx ?_ (Zmg _))));unfold Builtin.«set_iterator.__next__» slotArgs;simp only [List.isEmpty_nil,Bool.not_true,Bool.false_eq_true,↓reduceIte,bind_assoc,List.length_nil,bne_self_eq_false];refine wpAny_bind (wpAny_pure ?_)
 try dsimp only
 refine wpAny_bind (wpAny_fieldsOf hit rfl ?_)
 dsimp only [List.toList_toArray]
 refine wpAny_bind (wpAny_setEntries_of ho hd fit ?_);simp only [bne_self_eq_false,Bool.false_eq_true,↓reduceIte];have cs:∀x:Nat,((x:Int)).toNat=x:=fun x=>Int.toNat_natCast x;rw[cs,cs,cs];refine wpAny_bind (Zjj ho hd hT (Nat.le_of_lt hi) ?_);rw[ee]
 dsimp only [Option.map]
 refine wpAny_bind (wpAny_setField_rec hit (by simp) fun a1 e1 s1=>?_);refine wpAny_bind (wpAny_setField_rec e1 (by simp) fun a2 e2 s2=>?_);refine wpAny_pure ⟨_,rfl,wpAny_pure (h e a2 ee ?_ (Heap.SameBut.trans s1 s2))⟩;rw[e2];unfold itG;simp[rawInt]
theorem Zph {a ep it:Nat} {t:SetTable} {o:Obj} {es:Array (Int×Value)} {Q:Option Value→Shared→Prop} (hh:A.handled=none) (hit:s.heap.get? it=some (itG w t a es.size ep es.size)) (ho:s.heap.get? a=some o) (hd:o.data=.set es ep t) (hT:WkT w t es)
  (h:∀hp',Heap.ExtBut it s.heap hp'→Q none { s with heap:=hp' }):wpAny (model prog w) A (pyNext (.ref it)) Q E s:=by
 have ty:s.TypeIs (.ref it) "set_iterator":=⟨_,hit,rfl⟩;have fit:=hT.fit
 have zo:(ordS w a ep es).size=es.size:=by
  have:=(Zga (w:=w) a ep es).length_eq
  simpa using this
 have ee:(ordS w a ep es)[es.size]?=none:=Array.getElem?_eq_none (by omega);unfold pyNext;refine wpAny_bind (wpAny_attempt (wpAny_callSpecial?_slot (name:=Str.ofString "__next__") ty ZfC (wpAny_call_entry ZfC ty Zkx ?_ (Zmg _))));unfold Builtin.«set_iterator.__next__» slotArgs;simp only [List.isEmpty_nil,Bool.not_true,Bool.false_eq_true,↓reduceIte,bind_assoc,List.length_nil,bne_self_eq_false];refine wpAny_bind (wpAny_pure ?_)
 try dsimp only
 refine wpAny_bind (wpAny_fieldsOf hit rfl ?_)
 dsimp only [List.toList_toArray]
 refine wpAny_bind (wpAny_setEntries_of ho hd fit ?_);simp only [bne_self_eq_false,Bool.false_eq_true,↓reduceIte];have cs:∀x:Nat,((x:Int)).toNat=x:=fun x=>Int.toNat_natCast x;rw[cs,cs,cs];refine wpAny_bind (Zjj ho hd hT (Nat.le_refl _) ?_);rw[ee]
 dsimp only [Option.map]
 refine wpAny_bind (wpAny_setField hit rfl (by simp) ?_);refine wpAny_bind ?_;simp only [newExc,newTuple];refine wpAny_bind (wpAny_newObj_type ?_ (by size_fits));refine wpAny_bind (m:=firstArgMember _ _) (wpAny_of_eq (a:=Value.none) (by first | rfl | (simp only [firstArgMember]; rfl)) (wpAny_newObj_type ?_ (by size_fits)));simp only [raiseNew];refine wpAny_bind (wpAny_handled ?_);rw[show A.in1.handled=none from hh];refine wpAny_bind (wpAny_pure (wpAny_throw ?_));refine wpAny_bind (wpAny_isInstance (T:="StopIteration") (b:=true) ⟨_,Heap.get?_push_size _ rfl,rfl⟩ isSubtype_stop (wpAny_pure (h _ ?_)));exact((Heap.SameBut.update ..).extBut.push _).push _
theorem Zpf {a i ep it nn:Nat} {t:SetTable} {Q:Value→Shared→Prop} (hit:s.heap.get? it=some (itG w t a i ep nn)) (q:Q (.ref it) s):wpAny (model prog w) A (pyIter (.ref it)) Q E s:=by
 have ty:s.TypeIs (.ref it) "set_iterator":=⟨_,hit,rfl⟩;refine wpAny_pyIter_slot ty Zk6 (wpAny_call_entry Zk6 ty Zmx ?_ (Zog _));show wpAny _ _ (ret (.ref it)) _ _ s;exact wpAny_pure ⟨_,rfl,"set_iterator",_,ty,ZfC.lookup,q⟩
theorem Zn9 (hh:A.handled=none) {a ep it:Nat} {t:SetTable} {o:Obj} {es:Array (Int×Value)} (ne:a≠it) (hd:o.data=.set es ep t) (hT:WkT w t es) :
  Walks prog w A it [it,a] [it] es.size (fun i v=>∃e,(ordS w a ep es)[i]?=some e∧v=e.2) (fun i h=>h.get? it=some (itG w t a i ep es.size)∧h.get? a=some o) where
 sub:=fun b hb=>by rw[List.mem_singleton.mp hb]; exact List.mem_cons_self
 frame:=fun _ _ _ st k=>⟨k it List.mem_cons_self _ st.1,k a (by simp) _ st.2⟩
 item:=fun i s Q E hi st k=>ZnG st.1 st.2 hd hT hi fun e hp' ee h1 sb=>k e.2 hp' s.toks ⟨e,ee,rfl⟩ ⟨h1,sb.extBut _ _ ne st.2⟩ fun b o hb z=>sb.extBut b o (fun y=>hb (by rw[y]; exact List.mem_cons_self)) z
 done:=fun s Q E st k=>Zph hh st.1 st.2 hd hT fun hp' eb=>k hp' s.toks fun b o hb z=>eb b o (fun y=>hb (by rw[y]; exact List.mem_cons_self)) z
 self:=fun _ _ _ _ st k=>Zpf st.1 k
theorem ZiG (hh:A.handled=none) {a ep:Nat} {o:Obj} {es:Array (Int×Value)} {t:SetTable} {Q:List Value→Shared→Prop} (ho:s.heap.get? a=some o) (hx:o.ExactSet) (hd:o.data=.set es ep t) (hT:WkT w t es) (hz:es.size≤1000000)
  (h:∀(hp':Heap) (tk:Nat),s.heap.objs.size < hp'.objs.size→(∀b o,s.heap.get? b=some o→hp'.get? b=some o)→Q ((ordS w a ep es).toList.map (·.2)) { s with heap:=hp',toks:=tk }):wpAny (model prog w) A (collect (.ref a)) Q E s:=by
 have al:a < s.heap.objs.size:=Heap.lt_size ho;unfold collect;refine wpAny_bind (wpAny_runValue (codeAny_builtin PySem.F.entry_proto_collect ?_));rw[Around.under_plainId PySem.F.plain_proto_collect _];show wpAny _ A.in1 (newList [] >>= fun l=>again (.builtin "list.__iadd__" ⟨[l,.ref a],[]⟩)) _ _ s;refine wpAny_bind (wpAny_newObj_type (wpAny_pure ⟨plainId_quiet PySem.F.plain_list_iadd _,codeAny_builtin PySem.F.entry_list_iadd ?_⟩));rw[Around.under_plainId PySem.F.plain_list_iadd _];have g1:(s.heap.push { cls:=.type "list",data:=.seq ([]:List Value).toArray }).get? s.heap.objs.size=some { cls:=.type "list",data:=.seq ([]:List Value).toArray }:=Heap.get?_push_size _ rfl;have ho1:(s.heap.push { cls:=.type "list",data:=.seq ([]:List Value).toArray }).get? a=some o:=Heap.get?_push_of_some _ ho;have z1:(s.heap.push { cls:=.type "list",data:=.seq ([]:List Value).toArray }).objs.size=s.heap.objs.size+1:=Heap.size_push _ _;show wpAny _ A.in1 (Builtin.List.listExtendWith (.ref s.heap.objs.size) (.ref a) (.ref s.heap.objs.size)) _ _ _;have k1:∀b o,s.heap.get? b=some o→(s.heap.push { cls:=.type "list",data:=.seq ([]:List Value).toArray }).get? b=some o:=fun b o e=>Heap.get?_push_of_some _ e;generalize s.heap.push { cls:=.type "list",data:=.seq ([]:List Value).toArray } = h1 at g1 ho1 z1 k1;have ty:Shared.TypeIs { s with heap:=h1 } (.ref a) "set":=⟨o,ho1,hx.1⟩;unfold Builtin.List.listExtendWith;refine wpAny_bind (wpAny_typeOf ty ?_)
 have q1:Builtin.List.listSameRef (.ref s.heap.objs.size) (.ref a)=false:=by simp[Builtin.List.listSameRef]; exact Nat.ne_of_gt al
 have q2:(Value.type "set" == Value.type "list")=false:=by decide
 have q3:(Value.type "set" == Value.type "tuple")=false:=by decide
 simp only [q1,q2,q3,Bool.or_false,Bool.false_eq_true,if_false];refine wpAny_bind (ZnE (s:={ s with heap:=h1 }) ho1 hx hd hT ?_);have it1:(h1.push (itG w t a 0 ep es.size)).get? h1.objs.size=some (itG w t a 0 ep es.size):=Heap.get?_push_size _ rfl;have g2:(h1.push (itG w t a 0 ep es.size)).get? s.heap.objs.size=some { cls:=.type "list",data:=.seq ([]:List Value).toArray }:=Heap.get?_push_of_some _ g1;have ho2:(h1.push (itG w t a 0 ep es.size)).get? a=some o:=Heap.get?_push_of_some _ ho1;have k2:∀b o,s.heap.get? b=some o→(h1.push (itG w t a 0 ep es.size)).get? b=some o:=fun b o e=>Heap.get?_push_of_some _ (k1 b o e)
 dsimp only
 generalize h1.push (itG w t a 0 ep es.size)=h2 at it1 g2 ho2 k2;have ty2:Shared.TypeIs { s with heap:=h2 } (.ref a) "set":=⟨o,ho2,hx.1⟩;refine wpAny_bind (wpAny_holding ?_);unfold Builtin.List.listLengthHint;refine wpAny_bind (wpAny_specialOf ty2 ZqR ?_)
 have sp:splitId "set.__len__" = some ("set","__len__"):=by kernel_rfl
 dsimp only
 rw[sp]
 dsimp only
 refine wpAny_bind (wpAny_isInstance ty2 sub_set_self ?_);simp only [Bool.not_true,Bool.false_eq_true,↓reduceIte];rw[if_pos (by decide +kernel)];refine wpAny_bind (wpAny_typeOf ty2 (wpAny_pure ?_));rw[if_pos (by decide +kernel)];refine wpAny_bind (wpAny_rule (wpAny_bind ?_));show wpAny _ A.in1 (updateSeq s.heap.objs.size (·.push .none) >>= fun _=>updateSeq s.heap.objs.size (·.pop)) _ _ _;refine wpAny_bind (wpAny_updateSeq g2 rfl ?_);have g3:=Heap.get?_update_self (Obj.mapSeq (·.push Value.none)) g2 rfl;refine wpAny_updateSeq g3 rfl ?_;have g4:=Heap.get?_update_self (Obj.mapSeq (·.pop)) g3 rfl
 have k4:∀b o,b≠s.heap.objs.size→h2.get? b=some o→((h2.update s.heap.objs.size (Obj.mapSeq (·.push Value.none))).update s.heap.objs.size (Obj.mapSeq (·.pop))).get? b=some o:=
  fun b o hb e=>(Heap.get?_update_other _ _ (Ne.symm hb)).trans ((Heap.get?_update_other _ _ (Ne.symm hb)).trans e)
 have W:=(Zn9 (prog:=prog) (A:=A.in1) (it:=h1.objs.size) (o:=o) (by simpa using hh) (show a≠h1.objs.size by rw[z1]; exact Nat.ne_of_lt (Nat.lt_succ_of_lt al)) hd hT).toS
 have nS:s.heap.objs.size∉[h1.objs.size,a]:=by
  rw[z1];simp only [List.mem_cons,List.not_mem_nil,or_false,not_or];exact⟨Nat.ne_of_lt (Nat.lt_succ_self _),Nat.ne_of_gt al⟩
 have ni:h1.objs.size≠s.heap.objs.size:=by rw[z1]; exact Nat.succ_ne_self _
 refine wpAny_pure ⟨plainId_quiet PySem.F.plain_extend_loop _,codeAny_extend_loopS W (Zhj (by omega)) _ nS _ es.size 0 _ _ _ rfl (Nat.zero_le _) ⟨k4 _ _ ni it1,k4 _ _ (Nat.ne_of_lt al) ho2⟩ g4 (ItemsOf.nil _) fun s' acc c mv gS ha=>?_⟩;obtain⟨hp',g',d',tk',os'⟩:=s';obtain rfl:g'=s.gens:=mv.gens;obtain rfl:d'=s.drawn:=mv.drawn;obtain rfl:os'=s.os:=mv.os;show wpAny _ A (load s.heap.objs.size >>= _) _ _ _;refine wpAny_bind (wpAny_load gS (wpAny_pure ?_))
 have zo:(ordS w a ep es).size=es.size:=by
  have:=(Zga (w:=w) a ep es).length_eq
  simpa using this
 have ea:acc.toList=(ordS w a ep es).toList.map (·.2):=by
  obtain⟨a1,a2⟩:=ha;apply List.ext_getElem?;intro i;rw[Array.getElem?_toList,List.getElem?_map,Array.getElem?_toList]
  by_cases hi:i < acc.size
  ·obtain⟨e,e1,e2⟩:=a2 i _ (Array.getElem?_eq_getElem hi)
   rw[Array.getElem?_eq_getElem hi,e1,e2];rfl
  ·rw[Array.getElem?_eq_none (by omega),Array.getElem?_eq_none (by omega)]
   rfl
 show Q acc.toList _;rw[ea];refine h hp' tk' (Heap.lt_size gS) (fun b o e=>?_);have bl:=Heap.lt_size e;refine mv.heap b o ?_ (k4 b o (Nat.ne_of_lt bl) (k2 b o e));rw[z1];simp only [List.mem_cons,List.not_mem_nil,or_false,not_or];exact⟨Nat.ne_of_lt bl,Nat.ne_of_lt (Nat.lt_succ_of_lt bl)⟩
end
end L2
namespace L2
open PySem PySem.Spec PyProof.Rows
theorem Znq {α β:Type} (f:α→β):∀{l m:List β},l.Perm m→∀xs:List α,m=xs.map f→∃xs1:List α,xs1.Perm xs∧l=xs1.map f:=by
 intro l m h
 induction h with
 | nil=>
  intro xs e;have:xs=[]:=List.map_eq_nil_iff.mp e.symm;exact⟨[],by rw[this],rfl⟩
 | cons x h ih=>
  intro xs e
  cases xs with
  | nil=>cases e
  | cons y ys=>
   obtain⟨e1,e2⟩:=List.cons.inj e;obtain⟨z,h1,h2⟩:=ih ys e2;exact⟨y::z,h1.cons y,by rw[List.map_cons,←h2,e1]⟩
 | swap x y r=>
  intro xs e
  match xs,e with
  | [],e=>cases e
  | [_],e=>cases e
  | a::b::c,e=>
   obtain⟨e1,e2⟩:=List.cons.inj e;obtain⟨e3,e4⟩:=List.cons.inj e2;exact⟨b::a::c,List.Perm.swap a b c,by rw[e1,e3,e4]; rfl⟩
 | trans h1 h2 ih1 ih2=>
  intro xs e;obtain⟨z,a1,a2⟩:=ih2 xs e;obtain⟨y,b1,b2⟩:=ih1 z a2;exact⟨y,b1.trans a1,b2⟩
section
variable {prog:Program} {w:World} {A:Around} {E:Value→Shared→Prop} {s:Shared} {hf:Int×Int→Int}
theorem Zkk (hh:A.handled=none) {a:Addr} {xs:List ((Int×Int)×Addr)} {Q:Value→Shared→Prop} (hS:SetT w hf s.heap a xs) (hT:∀x∈xs,Tup2 s.heap x.2 x.1) (hz:xs.length≤4900)
  (h:∀(hp':Heap) (tk l c:Nat) (xs':List ((Int×Int)×Addr)),(∀b o,s.heap.get? b=some o→hp'.get? b=some o)→s.heap.objs.size≤l→hp'.get? l=some (seqObj "list" (xs'.map fun x=>Value.ref x.2).toArray c)→xs'.Perm xs→(xs'.map (·.1)).Pairwise ple→Q (.ref l) { s with heap:=hp',toks:=tk }) :
  wpAny (model prog w) A (call (.builtin "sorted") [.ref a]) Q E s:=by
 obtain⟨o,es,ep,t,ho,hx,hd,hld,T,hnf,hes,hnd⟩:=hS
 have lnx:es.size=xs.length:=by rw[←Array.length_toList,hes,List.length_map]
 have wk:WkT w t es:=⟨T.up,by have:=T.ln; rw[List.length_map,Array.length_toList]at this; exact this,Zh4 T,T.pl,hld⟩;refine Calls.call_function_entry kind_sorted plain_sorted entry_sorted (args_sorted1 _) ?_;unfold Builtin.«sorted»;refine wpAny_bind (m:=checkCount "sorted" 1 1 _) (wpAny_pure (wpAny_bind (ZiG (A:=A.in1) (by simpa using hh) ho hx hd wk (by omega) fun hp' tk zz kp=>?_)));obtain⟨x1,pm1,e1⟩:=Znq (en2 hf) (Zga (w:=w) a ep es) xs hes
 have ev:(ordS w a ep es).toList.map (·.2)=x1.map fun x=>Value.ref x.2:=by rw[e1,List.map_map]; rfl
 rw[ev];have l1:x1.length=xs.length:=pm1.length_eq;have T1:∀x∈x1,Tup2 hp' x.2 x.1:=fun x hx=>(hT x (pm1.mem_iff.mp hx)).keep fun o e=>kp _ o e;generalize hvs:(x1.map fun x=>Value.ref x.2)=vs
 have hvl:vs.length=x1.length:=by rw[←hvs,List.length_map]
 have fz:vs.length≤sizeLine:=Zhj (by omega);have sz:s.heap.objs.size≤hp'.objs.size:=Nat.le_of_lt zz;refine wpAny_bind (wpAny_newList ?_ fz);have g1:(hp'.push (seqObj "list" vs.toArray 0)).get? hp'.objs.size=some (seqObj "list" vs.toArray 0):=Heap.get?_push_size _ rfl;show wpAny _ _ _ _ _ { s with heap:=hp'.push (seqObj "list" vs.toArray 0),toks:=tk }
 have fin:∀(hp2:Heap) (c:Nat) (x2:List ((Int×Int)×Addr)),hp2.get? hp'.objs.size=some (seqObj "list" (x2.map fun x=>Value.ref x.2).toArray c)→(∀b o,b≠hp'.objs.size→(hp'.push (seqObj "list" vs.toArray 0)).get? b=some o→hp2.get? b=some o)→x2.Perm x1→(x2.map (·.1)).Pairwise ple→Q (.ref hp'.objs.size) { s with heap:=hp2,toks:=tk }:=fun hp2 c x2 g k pm pw=>
  h hp2 tk hp'.objs.size c x2 (fun b o e=>k b o (Nat.ne_of_lt (Heap.lt_size (kp b o e))) (Heap.get?_push_of_some _ (kp b o e))) sz g (pm.trans pm1) pw
 have old:∀(out:Array Value) (b:Addr) (o:Obj),b≠hp'.objs.size→(hp'.push (seqObj "list" vs.toArray 0)).get? b=some o→(sortedHeap (hp'.push (seqObj "list" vs.toArray 0)) hp'.objs.size vs out).get? b=some o:=fun out b o hb e=>by
  rw[sortedHeap_old hb (Heap.lt_size e)];exact e
 by_cases few:vs.length < 2
 ·refine wpAny_bind (wpAny_holding (wpAny_call_entry slot_list_sort ⟨_,g1,rfl⟩ entry_list_sort (Zpk g1 few ⟨_,rfl,?_⟩) (args_list_sort _)))
  refine wpAny_pure ⟨_,rfl,?_⟩;obtain⟨c,ec⟩:=sortedHeap_at (out:=vs.toArray) g1;refine fin _ c x1 (by rw[hvs]; exact ec) (old _) (List.Perm.refl _) ?_
  match x1,hvl with
  | [],_=>exact .nil
  | [x],_=>exact List.pairwise_singleton _ _
  | x::y::r,e=>rw[e]at few; simp at few; omega
 ·have hxl:x1.length=vs.length:=hvl.symm
  have tup1:∀x∈x1,Tup2 (Zcc (hp'.push (seqObj "list" vs.toArray 0)) hp'.objs.size vs) x.2 x.1:=fun x hx=>(T1 x hx).keep fun o e=>Zq0 (Nat.ne_of_lt (Heap.lt_size e)) (Heap.get?_push_of_some _ e)
  have tups:∀(x0:List ((Int×Int)×Addr)),(∀x∈x0,Tup2 (Zcc (hp'.push (seqObj "list" vs.toArray 0)) hp'.objs.size vs) x.2 x.1)→∃fs,PySem.W.KatTups (Zcc (hp'.push (seqObj "list" vs.toArray 0)) hp'.objs.size vs) (x0.map fun x=>Value.ref x.2) fs∧fs.length=x0.length∧∀v∈fs,∃i t,v=Value.int i t:=by
   intro x0
   induction x0 with
   | nil=>intro _; exact⟨[],.nil,rfl,fun v z=>nomatch z⟩
   | cons x r ih=>
    intro hx;obtain⟨fs,a1,a2,a3⟩:=ih fun y hy=>hx y (List.mem_cons_of_mem _ hy);obtain⟨o,c,t,u,e,hc,hd⟩:=hx x List.mem_cons_self;refine⟨_::fs,.cons e hc hd rfl a1,by simp[a2],fun v hv=>?_⟩
    rcases List.mem_cons.mp hv with rfl | hv
    ·exact⟨_,_,rfl⟩
    ·exact a3 v hv
  obtain⟨fs,ft,fl,fi⟩:=tups x1 tup1;rw[hvs]at ft
  have at_:∀i,(hi:i < x1.length)→vs.getD i Value.none=Value.ref (x1[i]).2:=fun i hi=>by
   rw[←hvs];simp[List.getD_eq_getElem?_getD,hi]
  let kk:Nat→Int×Int:=fun i=>(x1.getD i ((0,0),0)).1
  have kka:∀i,(hi:i < x1.length)→kk i=(x1[i]).1:=fun i hi=>by
   show(x1.getD i ((0,0),0)).1=_;rw[List.getD_eq_getElem?_getD,List.getElem?_eq_getElem hi];rfl
  have M:EM.CmN prog w A.in1.in1 (tuples' (Value.type "int" != Value.type "tuple")) (vs.toArray.zip vs.toArray) (fun s'=>s' = { s with heap:=Zcc (hp'.push (seqObj "list" vs.toArray 0)) hp'.objs.size vs,toks:=tk }) vs.length (fun i j=>pltB (kk i) (kk j)) (fun i j=>ple (kk i) (kk j)):={
   ask:=fun i j hi hj C s' hs hC=>by
    subst hs;have hC:=hC _ rfl;rw[hvl]at hi hj;rw[←PySem.W.kat_ask_eq rfl];unfold PySem.W.kas_ask;rw[at_ i hi,at_ j hj];obtain⟨o1,c1,t1,u1,g1,_,d1⟩:=tup1 _ (List.getElem_mem hi);obtain⟨o2,c2,t2,u2,g2,_,d2⟩:=tup1 _ (List.getElem_mem hj);rw[kka i hi,kka j hj]at hC;refine PySem.W.kat_lt g1 d1 g2 d2 ?_;refine PySem.W.kat_cons (wpAny_eqBool_int ?_);unfold pltB at hC;refine PySem.W.kat_go (fun e=>PySem.W.kat_yes ?_) (fun e=>PySem.W.kat_no ?_)
    ·have e:=eq_of_beq e
     rw[if_pos e]at hC;refine PySem.W.kat_cons (wpAny_eqBool_int (PySem.W.kat_go (fun e'=>PySem.W.kat_yes (PySem.W.kat_nil ?_)) (fun e'=>PySem.W.kat_no ?_)))
     ·have e':=eq_of_beq e'
      rw[e',decide_eq_false (Int.lt_irrefl _)]at hC;exact hC
     ·exact PySem.W.kat_one _ _ (lt_int hC)
    ·rw[if_neg (fun z=>by rw[z,beq_self_eq_true]at e; cases e)]at hC
     exact oneLt_int hC
   yes:=fun i j h=>Zo0 h
   no:=fun i j h=>Zrd h
   tr:=fun i j k a b=>ZsH a b }
  refine wpAny_bind (wpAny_holding (wpAny_call_entry slot_list_sort ⟨_,g1,rfl⟩ entry_list_sort (ZnJ (s:={ s with heap:=hp'.push (seqObj "list" vs.toArray 0),toks:=tk }) g1 (by omega) (by omega) (fun Q hQ=>?_) M fun ix pm pw=>⟨_,rfl,?_⟩) (args_list_sort _)))
  ·refine PySem.W.kat_kind (T:=.type "int") (s:={ s with heap:=Zcc (hp'.push (seqObj "list" vs.toArray 0)) hp'.objs.size vs,toks:=tk }) ft (by omega) (fun v hv=>?_) (by decide) hQ
   obtain⟨i,t,rfl⟩:=fi v hv;exact PySem.W.Looks.of_pure rfl
  ·refine wpAny_pure ⟨_,rfl,?_⟩
   rw[hvl]at pm
   have hix:∀i∈ix,i < x1.length:=fun i hi=>by simpa using pm.mem_iff.mp hi
   have eo:(ix.map fun i=>vs.getD i Value.none)=(ix.map fun i=>x1.getD i ((0,0),0)).map fun x=>Value.ref x.2:=by
    rw[List.map_map];refine List.map_congr_left fun i hi=>?_;rw[at_ i (hix i hi)];show _=Value.ref (x1.getD i ((0,0),0)).2;rw[List.getD_eq_getElem?_getD,List.getElem?_eq_getElem (hix i hi)];rfl
   obtain⟨c,ec⟩:=sortedHeap_at (out:=(ix.map fun i=>vs.getD i Value.none).toArray) g1;refine fin _ c (ix.map fun i=>x1.getD i ((0,0),0)) (by rw[←eo]; exact ec) (old _) (Zhh _ x1 pm) ?_;rw[List.map_map,List.pairwise_map];exact pw
end
section
variable {X:Cx}
def Zl7 (K:PySem.W.Frag) (x:V) (H:Hp) (Q:VK):Prop:=∃(p:Addr) (ps:List Addr) (ks:List (Int×Int)),x=.ref p∧SqL K H p (ps.map V.ref)∧Paired (Zct H) ps ks∧ps.length≤4900∧
 ∀(l':Addr) (ps':List Addr) (ks':List (Int×Int)),H l'=none→Paired (Zct H) ps' ks'→(∀j,j∈ks' ↔ j∈ks)→ks'.Nodup→ks'.Pairwise ple→ps'.length≤ps.length→Q (.ref l') (upd H l' (.lst (ps'.map V.ref)))
def ZnX (K:PySem.W.Frag) (te:TE):TE:=fun σ H Q=>te σ H fun x H1=>Zl7 K x H1 Q
theorem Zjc {α β γ:Type} {F:α→β→Prop} {f:γ→α} {g:γ→β}:∀xs:List γ,(∀x∈xs,F (f x) (g x))→Paired F (xs.map f) (xs.map g)
 | [],_=>.nil
 | x::xs,h=>.cons (h x List.mem_cons_self) (Zjc xs fun y hy=>h y (List.mem_cons_of_mem _ hy))
theorem ZgR {e:Expr} {te:TE} {p p2 pos pos2:Pos} (hu:X.A.units+64 < cLine) (hc:X.calm=true) (hg:Gl X "sorted") (hm:X.mg "sorted" = none) (hg2:Gl X "set") (hm2:X.mg "set" = none) (ha:PE X e te)
  (he:starEach [e] X.env=(false,eval e X.env)::starEach [] X.env:=by rfl) :
  PE X (.Call (.Name "sorted" p) [.Call (.Name "set" p2) [e] [] pos2] [] pos) (ZnX X.K te):=by
 intro pins s σ H Q I h;refine wpAny_Call_Name_kw (ZeV I hg hm Zmn (PyProof.Rows.callWith_builtin1 ?_ rfl rfl));show wpAny _ _ (spliced ((false,eval (.Call (.Name "set" p2) [e] [] pos2) X.env)::backTo pos (starEach [] X.env))) _ _ s;refine Calls.spliced_cons (wpAny_Call_Name_kw (ZeV I hg2 hm2 ZrI ?_))
 let R:List V→Hp→Prop:=fun vs H1=>match vs with | [x]=>Zl7 X.K x H1 Q | _=>False
 have h':ZnU te tNil σ H R:=h;refine PyProof.Rows.callWith_type1 (thn (Zaa ha Zae he pos2 pins s σ H R I h') fun us s1 ⟨vs,H1,I1,r1,q1⟩=>?_) he rfl
 match vs,r1,q1 with
 | [x],r1,q1=>
  obtain⟨l,ps,ks,rfl,hq,hp,hz0,q⟩:=q1;obtain⟨u,rfl,rx⟩:=Zko r1
  cases rx
  obtain⟨its,rv,pl,hz⟩:=I1.list hq;obtain rfl:=Zjt rv;have hkl:ps.length=ks.length:=Paired.length hp
  have isz:(ps.map Value.ref).toArray.size=ps.length:=by rw[List.size_toArray,List.length_map]
  have pa:∀j,j < ps.length→Zct H1 (ps.getD j 0) (ks.getD j (0,0)):=fun j hj=>Zj5 hp 0 (0,0) hj
  have vi:∀(i:Nat) (v:Value),(ps.map Value.ref).toArray[i]?=some v→v=.ref ((fun i=>((ks.getD i (0,0),ps.getD i 0):(Int×Int)×Addr)) i).2:=fun i v z=>by
   rw[List.getElem?_toArray,List.getElem?_map]at z;obtain⟨b,hb,rfl⟩:=Option.map_eq_some_iff.mp z;show _=Value.ref (ps.getD i 0);rw[List.getD_eq_getElem?_getD,hb];rfl
  have tT:∀j,j < (ps.map Value.ref).toArray.size→Tup2 s1.heap ((fun i=>((ks.getD i (0,0),ps.getD i 0):(Int×Int)×Addr)) j).2 ((fun i=>((ks.getD i (0,0),ps.getD i 0):(Int×Int)×Addr)) j).1:=fun j hj=>by
   rw[isz]at hj;obtain⟨o,t,u,c,e,hc,hd⟩:=I1.tup_at (pa j hj);exact⟨o,c,t,u,e,hc,hd⟩
  refine Zmq (hf:=fun k=>tupleKeyHash (intKind X.prog X.w) [k.1,k.2]) (val:=fun i=>(ks.getD i (0,0),ps.getD i 0)) (I.ok.hd hc) (by omega) (fun k=>rfl) pl.isList vi (by rw[isz]; exact hz0) tT fun hp' tk xs S' kp=>?_;obtain⟨S1,T1,x1,k1,l1⟩:=S';refine Calls.spliced_nil ?_;rw[isz]at T1 x1 k1 l1;refine Zkk (s:={ s1 with heap:=hp',toks:=tk }) (I.ok.hd hc) S1 (fun x hx=>by obtain⟨j,hj,e⟩:=x1 x hx; rw[e]; exact T1 j hj) (by omega) fun hp2 tk2 l2 c x2 kp2 z2 ec pm pw=>?_
  have nd:(xs.map (·.1)).Nodup:=by obtain⟨_,_,_,_,_,_,_,_,_,_,_,nd⟩:=S1; exact nd
  have ol:s1.heap.objs.size≤l2:=by
   obtain⟨o,_,_,_,ho,_⟩:=S1;exact Nat.le_trans (Nat.le_of_lt (Heap.lt_size ho)) z2
  have hf:H1 l2=none:=I1.hok.fresh ol
  have zl:((x2.map (·.2)).map V.ref).length≤sizeLine:=by
   rw[List.length_map,List.length_map,pm.length_eq];exact Zhj (by omega)
  have ev:(x2.map fun x=>Value.ref x.2)=(x2.map (·.2)).map Value.ref:=by rw[List.map_map]; rfl
  rw[ev]at ec;refine⟨.ref l2,upd H1 l2 (.lst ((x2.map (·.2)).map V.ref)),I1.laid (t':=tk2) (fun b o z=>kp2 b o (kp b o (Heap.lt_size z) z)) ol (show Zb8 X.prog X.w _ hp2 l2 (.lst _) from⟨zl,_,c,Zjh _,ec⟩),rfl,q l2 (x2.map (·.2)) (x2.map (·.1)) hf (Zjc x2 fun x hx=>?_) (fun j=>?_) ((pm.map (·.1)).nodup_iff.mpr nd) pw (by rw[List.length_map,pm.length_eq]; omega)⟩
  ·obtain⟨j,hj,e⟩:=x1 x (pm.mem_iff.mp hx)
   rw[e];exact pa j hj
  ·rw[(pm.map (·.1)).mem_iff,k1]
   constructor
   ·rintro⟨i,hi,e⟩
    rw[←e];show ks.getD i (0,0)∈ks;rw[List.getD_eq_getElem?_getD,List.getElem?_eq_getElem (by omega)];exact List.getElem_mem _
   ·intro hj
    obtain⟨i,hi,e⟩:=List.getElem_of_mem hj;exact⟨i,by omega,by show ks.getD i (0,0)=j; rw[List.getD_eq_getElem?_getD,List.getElem?_eq_getElem hi]; exact e⟩
theorem ZkG {te:TE} {σ:St} {H:Hp} {Q:VK} {K:PySem.W.Frag} (h:te σ H fun x H1=>Zl7 K x H1 Q):ZnX K te σ H Q:=h
theorem ZoD {K:PySem.W.Frag} {H:Hp} {Q:VK} {p:Addr} {ps:List Addr} {ks:List (Int×Int)} (e:H p=some (.lst (ps.map V.ref))) (hp:Paired (Zct H) ps ks) (hz:ps.length≤4900) (k:∀(l:Addr) (ps':List Addr) (ks':List (Int×Int)) (H':Hp),Same H H'→H l=none→H' l=some (.lst (ps'.map V.ref))→Paired (Zct H) ps' ks'→(∀j,j∈ks' ↔ j∈ks)→ks'.Nodup→ks'.Pairwise ple→ps'.length≤ps.length→Q (.ref l) H'):Zl7 K (.ref p) H Q:=
 ⟨p,ps,ks,rfl,SqL.of e,hp,hz,fun l' ps' ks' hl hp' hm nd pw ln=>k l' ps' ks' _ (ZbZ hl _) hl Zas hp' hm nd pw ln⟩
end
end L2
open PySem L2
local macro_rules | `(tactic| walk_at "side") => `(tactic| first | omega | (show (_ : Int) < _; omega) | exact ⟨by omega, by omega⟩ | exact ⟨by omega, by omega, by decide⟩)
local macro_rules | `(tactic| walk_at "rd1") => `(tactic| first
 | (with_reducible first | refine ZiM ?_ | refine ZrW ?_ | refine i_op ?_ | refine i_c ?_ | refine ZpE ?_ | refine Zr6 ?_ | refine Zr3 ?_ | refine Zr9 ?_ | refine i_fn ?_ | refine i_cb ?_ | refine ZpV ?_ | refine ZrY ?_ | refine ZrZ ?_ | refine ZpW ?_ | refine i_dy ?_ | refine i_mk ?_ | refine Zr0 ?_ | refine ZpU ?_ | refine ZpF ?_ | refine ZpQ ?_ | refine i_retN ?_ | refine i_brk ?_ | refine i_cont ?_ | refine i_un ?_ | refine ZrV ?_ | refine i_or ?_ | refine Zr7 ?_ | refine ZpD ?_ | refine i_orV ?_ | refine ZpS ?_ | refine i_if ?_ | refine Zsb ?_ | refine Zr4 ?_ | refine i_bm ?_ | refine ZrX ?_ | refine i_sl ?_ | refine ZpT ?_ | refine ZkF ?_ | refine ZmT ?_ | refine i_forR2 ?_ | refine i_forR3 ?_ | refine i_compR3 ?_ | refine ZiL ?_ | refine i_sortset ?_ | refine ZpI ?_ | refine ZpH ?_ | refine i_forEX ?_ | refine i_forRep ?_ | refine i_forD ?_ | refine i_compD ?_ | refine i_compS2 ?_ | refine i_frzE ?_ | refine i_thawF ?_ | refine i_forK ?_ | refine i_compK ?_ | refine i_dpopT ?_ | refine i_dget ?_ | refine i_thawR ?_ | refine i_fmtI ?_ | refine i_dyP ?_ | refine i_fnP ?_ | refine i_repE ?_ | refine i_listrng ?_ | refine i_frz ?_ | refine i_addF ?_ | refine i_forZ ?_ | refine i_forV ?_ | refine ZkC ?_ | refine ZmQ ?_ | refine ZpX ?_ | refine ZkD ?_ | refine i_compR2 ?_ | refine ZmR ?_ | refine ZpR ?_ | refine Zr8 ?_ | refine ZpC ?_ | refine i_rU ?_ | refine ZpG ?_ | refine i_eqAS ?_ | refine i_eqAB ?_ | refine ZpP ?_ | refine i_neAS ?_ | refine i_neAB ?_ | refine i_fs ?_ | refine ZpJ ?_ | refine i_jc ?_ | refine i_fmt ?_ | refine i_fmtR ?_ | refine ZqC ?_ | refine i_eqS ?_ | refine i_eqB ?_ | refine ZqF ?_ | refine i_neS ?_ | refine i_neB ?_ | refine i_intI ?_ | refine i_intB ?_ | refine i_max ?_ | refine i_min ?_)
 | ((with_reducible refine ZpO ?_); (try dsimp only [List.set_cons_succ,List.set_cons_zero]))
 | ((with_reducible refine' Zsd ?hv ?_); (case hv=>exact rfl))
 | ((with_reducible refine i_rI ?hc ?_); (case hc=>walk_at "side"))
 | ((with_reducible refine' ZpM ?hc ?_); (case hc=>assumption))
 | ((with_reducible refine' ZpL ?hc ?_); (case hc=>assumption))
 | ((with_reducible refine' ZpN ?hc ?_); (case hc=>assumption))
 | ((with_reducible refine' ZpK ?ht ?he ?_); (case ht=>first | exact TyOf.bl _ | exact TyOf.int _ | exact TyOf.str _ | exact TyOf.non | exact TyOf.lst (by assumption) | exact TyOf.tup (by assumption)); (case he=>first | exact ZkJ _ _ | exact ZfP _ | exact kit_bool_int _ | exact kit_str_bool _ | exact kit_str_int _ | exact kit_list_int _ | exact kit_list_bool _ | exact kit_none_int _ | exact kit_none_list _ | exact kit_none_str _ | exact kit_none_tuple _ | exact kit_list_tuple _ | exact kit_tuple_list _ | exact kit_str_list _ | exact kit_int_str _ | exact kit_int_list _ | exact kit_bool_str _ | exact kit_bool_list _ | exact kit_int_tuple _ | exact kit_str_tuple _ | exact kit_bool_tuple _ | exact kit_tuple_int _ | exact kit_tuple_bool _ | exact kit_tuple_str _ | exact kit_list_str _ | exact kit_none_bool _)))
local macro_rules | `(tactic| walk_at "rs1") => `(tactic| first
 | (with_reducible first | refine ZrW ?_ | refine i_op ?_ | refine i_c ?_ | refine ZpE ?_ | refine Zr6 ?_ | refine Zr3 ?_ | refine Zr9 ?_ | refine i_fn ?_ | refine i_cb ?_ | refine ZpV ?_ | refine ZrY ?_ | refine ZrZ ?_ | refine ZpW ?_ | refine i_dy ?_ | refine i_mk ?_ | refine Zr0 ?_ | refine ZpU ?_ | refine ZpF ?_ | refine ZpQ ?_ | refine i_retN ?_ | refine i_brk ?_ | refine i_cont ?_ | refine i_un ?_ | refine ZrV ?_ | refine i_or ?_ | refine Zr7 ?_ | refine ZpD ?_ | refine i_orV ?_ | refine ZpS ?_ | refine i_if ?_ | refine Zsb ?_ | refine Zr4 ?_ | refine i_bm ?_ | refine ZrX ?_ | refine i_sl ?_ | refine ZpT ?_ | refine ZkF ?_ | refine ZmT ?_ | refine i_forR2 ?_ | refine i_forR3 ?_ | refine i_compR3 ?_ | refine ZiL ?_ | refine i_sortset ?_ | refine ZpI ?_ | refine ZpH ?_ | refine i_forEX ?_ | refine i_forRep ?_ | refine i_forD ?_ | refine i_compD ?_ | refine i_compS2 ?_ | refine i_frzE ?_ | refine i_thawR ?_ | refine i_fmtI ?_ | refine i_dyP ?_ | refine i_listrng ?_ | refine i_frz ?_ | refine i_addF ?_ | refine i_forZ ?_ | refine i_forV ?_ | refine ZkC ?_ | refine ZmQ ?_ | refine ZpX ?_ | refine ZkD ?_ | refine i_compR2 ?_ | refine ZmR ?_ | refine ZpR ?_ | refine Zr8 ?_ | refine ZpC ?_ | refine i_rU ?_ | refine ZpG ?_ | refine i_eqAS ?_ | refine i_eqAB ?_ | refine ZpP ?_ | refine i_neAS ?_ | refine i_neAB ?_ | refine i_fs ?_ | refine ZpJ ?_ | refine i_jc ?_ | refine i_fmt ?_ | refine i_fmtR ?_ | refine ZqC ?_ | refine i_eqS ?_ | refine i_eqB ?_ | refine ZqF ?_ | refine i_neS ?_ | refine i_neB ?_ | refine i_intI ?_ | refine i_intB ?_ | refine i_max ?_ | refine i_min ?_)
 | ((with_reducible refine ZpO ?_); (try dsimp only [List.set_cons_succ,List.set_cons_zero]))
 | ((with_reducible refine' Zsd ?hv ?_); (case hv=>exact rfl))
 | ((with_reducible refine i_rI ?hc ?_); (case hc=>walk_at "side"))
 | ((with_reducible refine' ZpM ?hc ?_); (case hc=>assumption))
 | ((with_reducible refine' ZpL ?hc ?_); (case hc=>assumption))
 | ((with_reducible refine' ZpN ?hc ?_); (case hc=>assumption))
 | ((with_reducible refine' ZpK ?ht ?he ?_); (case ht=>first | exact TyOf.bl _ | exact TyOf.int _ | exact TyOf.str _ | exact TyOf.non | exact TyOf.lst (by assumption) | exact TyOf.tup (by assumption)); (case he=>first | exact ZkJ _ _ | exact ZfP _ | exact kit_bool_int _ | exact kit_str_bool _ | exact kit_str_int _ | exact kit_list_int _ | exact kit_list_bool _ | exact kit_none_int _ | exact kit_none_list _ | exact kit_none_str _ | exact kit_none_tuple _ | exact kit_list_tuple _ | exact kit_tuple_list _ | exact kit_str_list _ | exact kit_int_str _ | exact kit_int_list _ | exact kit_bool_str _ | exact kit_bool_list _ | exact kit_int_tuple _ | exact kit_str_tuple _ | exact kit_bool_tuple _ | exact kit_tuple_int _ | exact kit_tuple_bool _ | exact kit_tuple_str _ | exact kit_list_str _ | exact kit_none_bool _)))
local macro_rules | `(tactic| walk_at "rs") => `(tactic| repeat walk_at "rs1")
local macro_rules | `(tactic| walk_at "hp") => `(tactic| first | assumption | solve_by_elim (maxDepth := 16) only [*, ZaF])
local macro_rules | `(tactic| walk_at "rd0") => `(tactic| ((try dsimp only [cxOf]); (try simp only [L2.start, List.map_cons, List.map_nil, List.length_cons, List.length_nil, Nat.reduceAdd, Nat.reduceSub, List.replicate_zero, List.append_nil, List.cons_append, List.nil_append, List.replicate_succ]); (repeat walk_at "rd1")))
local macro_rules | `(tactic| walk_at "rs0") => `(tactic| ((try dsimp only [cxOf]); (try simp only [L2.start, List.map_cons, List.map_nil, List.length_cons, List.length_nil, Nat.reduceAdd, Nat.reduceSub, List.replicate_zero, List.append_nil, List.cons_append, List.nil_append, List.replicate_succ]); (repeat walk_at "rs1")))
local macro_rules | `(tactic| walk_at "rd") => `(tactic| repeat walk_at "rd1")
local macro_rules | `(tactic| walk_at "tst") => `(tactic| repeat first | walk_at "rd1" | refine ZcA (decide_eq_true (by omega)) ?_ | refine ZaQ (decide_eq_false (by omega)) ?_ | refine ZaQ rfl ?_ | refine ZcA rfl ?_ | refine ⟨_, rfl, ?_⟩)
open PySem L2
local macro_rules | `(tactic| walk_at "") => `(tactic| walk_at "rd")
theorem lnZ1 {A:Type} {P:List A→Prop} (h:∀a,P [a]):∀u:List A,u.length=1→P u|[_],_=>h _
theorem lnZ2 {A:Type} {P:List A→Prop} (h:∀a b,P [a,b]):∀u:List A,u.length=2→P u|[_,_],_=>h _ _
theorem lnZ3 {A:Type} {P:List A→Prop} (h:∀a b c,P [a,b,c]):∀u:List A,u.length=3→P u|[_,_,_],_=>h _ _ _
theorem lnZ4 {A:Type} {P:List A→Prop} (h:∀a b c d,P [a,b,c,d]):∀u:List A,u.length=4→P u|[_,_,_,_],_=>h _ _ _ _
theorem lnZ5 {A:Type} {P:List A→Prop} (h:∀a b c d e,P [a,b,c,d,e]):∀u:List A,u.length=5→P u|[_,_,_,_,_],_=>h _ _ _ _ _
theorem lnZ6 {A:Type} {P:List A→Prop} (h:∀a b c d e f,P [a,b,c,d,e,f]):∀u:List A,u.length=6→P u|[_,_,_,_,_,_],_=>h _ _ _ _ _ _
theorem lnZ7 {A:Type} {P:List A→Prop} (h:∀a b c d e f g,P [a,b,c,d,e,f,g]):∀u:List A,u.length=7→P u|[_,_,_,_,_,_,_],_=>h _ _ _ _ _ _ _
local macro_rules | `(tactic| walk_at "b") => `(tactic| (intro _ _ _ _ _ _; first | exact lnZ1 (fun _=>rfl) | exact lnZ2 (fun _ _=>rfl) | exact lnZ3 (fun _ _ _=>rfl) | exact lnZ4 (fun _ _ _ _=>rfl) | exact lnZ5 (fun _ _ _ _ _=>rfl) | exact lnZ6 (fun _ _ _ _ _ _=>rfl) | exact lnZ7 (fun _ _ _ _ _ _ _=>rfl)))
local macro_rules | `(tactic| walk_at "sc") => `(tactic| exact ⟨rfl, rfl, rfl, by decide +kernel, rfl, by decide +kernel, by decide +kernel⟩)
namespace LW
open PySem L2 EM
open List (all_eq_true any_eq_true any_nil getD_eq_getElem?_getD getElem?_map length_append length_map length_range length_singleton length_take map_append map_cons map_nil map_set mem_append mem_cons mem_filter mem_iff_getElem? mem_map mem_of_getElem? mem_range mem_singleton take_length take_nil take_zero)
def top (i:Nat):Stmt:=PySem.Challenge.pw_evernever_k40_tight.main.body.getD i (.Pass ⟨0,0,0,0⟩)
abbrev Zd9:Stmt:=top 1
abbrev Zkc:Stmt:=top 2
abbrev Zfw:Stmt:=top 4
abbrev Zem:Stmt:=top 5
abbrev ZgX:Stmt:=top 6
abbrev ZfA:Stmt:=top 7
abbrev Zcs:Stmt:=top 23
abbrev Zcr:Stmt:=top 24
abbrev Zkb:Stmt:=top 25
abbrev Zfy:Stmt:=top 26
abbrev ZeK:Stmt:=top 27
abbrev ZbY:Stmt:=top 28
abbrev Zbz:Stmt:=top 29
abbrev Zkd:Stmt:=top 30
abbrev Zfz:Stmt:=top 32
abbrev Zfx:Stmt:=top 33
abbrev Zen:Stmt:=top 34
abbrev Zdm:Stmt:=top 37
abbrev Zda:Stmt:=top 38
abbrev ZdM:Stmt:=top 39
abbrev Zfv:Stmt:=top 40
abbrev Zd8:Stmt:=top 41
abbrev ZdL:Stmt:=top 42
abbrev Zc9:Stmt:=top 43
abbrev Zdb:Stmt:=top 44
abbrev ZbC:Stmt:=top 45
abbrev ZeJ:Stmt:=top 46
abbrev Zig:Stmt:=top 47
abbrev Zd7:Stmt:=ZjR (top 35) 0
abbrev ZdK:Stmt:=ZjR (top 35) 1
abbrev Zdl:Stmt:=ZjR (top 35) 2
theorem Zii:FnScope ["many"] ["many"] (Zag Zd9):=by walk_at "sc"
theorem Zpe:FnScope ["crowd"] ["crowd"] (Zag Zkc):=by walk_at "sc"
theorem Zcd:FnScope ["many","bar","crowd","lamp","lit"] ["many","bar"] (Zag Zfw):=by walk_at "sc"
theorem Zke:FnScope ["bar"] ["bar"] (Zag Zem):=by walk_at "sc"
theorem ZhP:FnScope ["bar","lamp","others"] ["bar","lamp"] (Zag ZgX):=by walk_at "sc"
theorem ZdO:FnScope ["many","bars","crowd","bar"] ["many","bars"] (Zag ZfA):=by walk_at "sc"
theorem Zcf:FnScope ["chart","inside","sources","stand"] ["chart","inside"] (Zag Zcs):=by walk_at "sc"
theorem Zce:FnScope ["chart","inside","step","missed"] ["chart","inside"] (Zag Zcr):=by walk_at "sc"
theorem Zpd:FnScope ["chart","bars"] ["chart","bars"] (Zag Zkb):=by walk_at "sc"
theorem Zkh:FnScope ["chart","bars"] ["chart","bars"] (Zag Zfy):=by walk_at "sc"
theorem Zco:FnScope ["chart","inside","bar","found","lamp","fewer"] ["chart","inside","bar"] (Zag ZeK):=by walk_at "sc"
theorem ZaB:FnScope ["chart","bars","inside","found","bar","fewer"] ["chart","bars"] (Zag ZbY):=by walk_at "sc"
theorem ZaW:FnScope ["chart","bars","found","bar","others"] ["chart","bars"] (Zag Zbz):=by walk_at "sc"
theorem ZcB:FnScope ["chart","bars","found","fewer"] ["chart","bars"] (Zag Zkd):=by walk_at "sc"
theorem Zki:FnScope ["thing"] ["thing"] (Zag Zfz):=by walk_at "sc"
theorem Zkg:FnScope ["thing","many"] ["thing","many"] (Zag Zfx):=by walk_at "sc"
theorem Zkf:FnScope ["many","starts","bads","after"] ["many","starts","bads","after"] (Zag Zen):=by walk_at "sc"
theorem ZgY:FnScope ["_law_script","_law_k"] ["_law_script","_law_k"] (Zag Zdm):=by walk_at "sc"
theorem Zb1:FnScope ["_law_cells","_law_size","_law_shut","_law_after","_law_cell","_law_here","_law_there"] ["_law_cells","_law_size","_law_shut"] (Zag Zda):=by walk_at "sc"
theorem Zci:FnScope ["_law_size","_law_bar","_law_inside_here","_law_s"] ["_law_size","_law_bar"] (Zag ZdM):=by walk_at "sc"
theorem ZdN:FnScope ["_law_size","_law_bars_here","_law_out_here","_law_bar"] ["_law_size","_law_bars_here"] (Zag Zfv):=by walk_at "sc"
theorem Ze4:FnScope ["_law_starts","_law_bads","_law_after","_law_out_here","_law_s"] ["_law_starts","_law_bads","_law_after","_law_out_here"] (Zag Zd8):=by walk_at "sc"
theorem ZaK:FnScope ["_law_script","_law_size","_law_shut","_law_bars_here","_law_cell","_law_asked","_law_bar","_law_at"] ["_law_script","_law_size","_law_shut"] (Zag ZdL):=by walk_at "sc"
theorem Zb0:FnScope ["_law_found","_law_bars_here","_law_k","_law_bar","_law_number","_law_old"] ["_law_found","_law_bars_here"] (Zag Zc9):=by walk_at "sc"
theorem Zao:FnScope ["_law_found","_law_starts","_law_bads","_law_after","_law_size","_law_insides","_law_k","_law_others","_law_j","_law_asked","_law_lamp","_law_rest","_law_wider","_law_out_here"] ["_law_found","_law_starts","_law_bads","_law_after"] (Zag Zdb):=by walk_at "sc"
theorem Zcn:FnScope ["_law_chart","_law_bars_here","e"] ["_law_chart","_law_bars_here"] (Zag ZbC):=by walk_at "sc"
theorem ZbS:FnScope ["_law_chart","_law_bars_here","_law_starts","_law_bads","_law_after","_law_good","_law_handed","_law_found"] ["_law_chart","_law_bars_here","_law_starts","_law_bads","_law_after"] (Zag ZeJ):=by walk_at "sc"
theorem Zdc:FnScope ["_law_script","_law_first","_law_many","_law_size","_law_shut","_law_starts","_law_bads","_law_after","_law_s","_law_cell","_law_chart","_law_bars_here"] ["_law_script"] (Zag Zig):=by walk_at "sc"
theorem Zih:FnScope ["self","many","starts","bads","after"] ["self","many","starts","bads","after"] (Zag Zd7):=by walk_at "sc"
theorem ZbF:FnScope ["self","crowd","found","stand","onto"] ["self","crowd"] (Zag ZdK):=by walk_at "sc"
theorem Zbo:FnScope ["self","crowd","found","stand","onto"] ["self","crowd"] (Zag Zdl):=by walk_at "sc"
def DF (K:W.Frag) (st:Stmt) (nm q:Str) (f:Addr):Prop:=∃d,Fun K nm q st f d
theorem dmk {K:W.Frag} {st:Stmt} {nm q:Str} {f:Addr} {od an:Option Addr} {sl:Array (Option Value)} {oc kV dc pm cd ct:Value} (l:K.lookup f=some ⟨oc,od,.func (W.fnOf nm q (ZeD st) (ZdG st) (Zag st) .none kV dc pm an cd ct),sl⟩) (c:W.codeIn K cd q=true) (k:W.keepIn K (.ref f)=true):DF K st nm q f:=⟨_,ZpB l c k⟩
set_option genInjectivity false in
structure Ad where
 ZbR:Addr
 Zc6:FuncData
 Zfn:Addr
 Zh1:FuncData
 ZcN:Addr
 Zed:FuncData
 ZcM:Addr
 Zec:FuncData
 Zdr:Addr
 ZeS:FuncData
 ZcS:Addr
 Zei:FuncData
 ZaV:Addr
 ZbH:FuncData
 ZaU:Addr
 ZbG:FuncData
 Zfm:Addr
 Zh0:FuncData
 ZcQ:Addr
 Zeg:FuncData
 Zcb:Addr
 ZdF:FuncData
 ZaE:Addr
 Zbf:FuncData
 ZaN:Addr
 Zbt:FuncData
 Zfo:Addr
 Zh2:FuncData
 ZcR:Addr
 Zeh:FuncData
 ZcP:Addr
 Zef:FuncData
 ZcO:Addr
 Zee:FuncData
 Zba:Addr
 Zch:FuncData
 ZbP:Addr
 Zc4:FuncData
 Zbu:Addr
 Zcz:FuncData
 ZcL:Addr
 Zeb:FuncData
 ZbN:Addr
 Zc2:FuncData
 Zb9:Addr
 ZdD:FuncData
 ZbO:Addr
 Zc3:FuncData
 ZbQ:Addr
 Zc5:FuncData
 Zay:Addr
 Za0:FuncData
 Zca:Addr
 ZdE:FuncData
 f_law:Addr
 d_law:FuncData
 Zbm:Addr
 Zc1:FuncData
 Za3:Addr
 Zcy:FuncData
 ZaY:Addr
 Zcg:FuncData
 Zak:Addr
 Zaf:Addr
 Zaz:Addr
 ZaO:Addr
 Zbi:Addr
 ZbV:Addr
 ZbT:Addr
 ZbU:Addr
 ZcT:Addr
 Zbk:Addr
 Zbj:Addr
 ZaP:Addr
 Zau:Addr
 Zbl:Addr
structure Txt (K:W.Frag) (mg:Str→Option Value) (t:Ad):Prop where
 ZbM:Fun K "all_stands" "all_stands" Zd9 t.ZbR t.Zc6
 ZfM:ZaX K t.Zc6 ["many"] []
 ZfV:mg "all_stands" = some (.ref t.ZbR)
 Zfb:Fun K "least" "least" Zkc t.Zfn t.Zh1
 Zmj:ZaX K t.Zh1 ["crowd"] []
 Zni:mg "least" = some (.ref t.Zfn)
 ZcE:Fun K "crowd_of" "crowd_of" Zfw t.ZcN t.Zed
 Zhp:ZaX K t.Zed ["many","bar"] []
 ZhE:mg "crowd_of" = some (.ref t.ZcN)
 ZcD:Fun K "asked_by" "asked_by" Zem t.ZcM t.Zec
 Zho:ZaX K t.Zec ["bar"] []
 ZhD:mg "asked_by" = some (.ref t.ZcM)
 Zdn:Fun K "without" "without" ZgX t.Zdr t.ZeS
 Ziy:ZaX K t.ZeS ["bar","lamp"] []
 Zi7:mg "without" = some (.ref t.Zdr)
 ZcJ:Fun K "shut_out" "shut_out" ZfA t.ZcS t.Zei
 Zhu:ZaX K t.Zei ["many","bars"] []
 ZhJ:mg "shut_out" = some (.ref t.ZcS)
 ZaT:Fun K "first_crossing" "first_crossing" Zcs t.ZaV t.ZbH
 ZdR:ZaX K t.ZbH ["chart","inside"] []
 ZdU:mg "first_crossing" = some (.ref t.ZaV)
 ZaS:Fun K "fault_of_crowd" "fault_of_crowd" Zcr t.ZaU t.ZbG
 ZdQ:ZaX K t.ZbG ["chart","inside"] []
 ZdT:mg "fault_of_crowd" = some (.ref t.ZaU)
 Zfa:Fun K "fault" "fault" Zkb t.Zfm t.Zh0
 Zmi:ZaX K t.Zh0 ["chart","bars"] []
 Znh:mg "fault" = some (.ref t.Zfm)
 ZcH:Fun K "is_fence" "is_fence" Zfy t.ZcQ t.Zeg
 Zhs:ZaX K t.Zeg ["chart","bars"] []
 ZhH:mg "is_fence" = some (.ref t.ZcQ)
 Zb7:Fun K "wider_bar" "wider_bar" ZeK t.Zcb t.ZdF
 Zgn:ZaX K t.ZdF ["chart","inside","bar"] []
 ZgC:mg "wider_bar" = some (.ref t.Zcb)
 ZaC:Fun K "with_fewer_lamps" "with_fewer_lamps" ZbY t.ZaE t.Zbf
 Zc0:ZaX K t.Zbf ["chart","bars"] []
 Zc7:mg "with_fewer_lamps" = some (.ref t.ZaE)
 ZaM:Fun K "with_fewer_bars" "with_fewer_bars" Zbz t.ZaN t.Zbt
 Zdq:ZaX K t.Zbt ["chart","bars"] []
 Zdt:mg "with_fewer_bars" = some (.ref t.ZaN)
 Zfc:Fun K "tight" "tight" Zkd t.Zfo t.Zh2
 Zmk:ZaX K t.Zh2 ["chart","bars"] []
 Znj:mg "tight" = some (.ref t.Zfo)
 ZcI:Fun K "is_whole" "is_whole" Zfz t.ZcR t.Zeh
 Zht:ZaX K t.Zeh ["thing"] []
 ZhI:mg "is_whole" = some (.ref t.ZcR)
 ZcG:Fun K "is_crowd" "is_crowd" Zfx t.ZcP t.Zef
 Zhr:ZaX K t.Zef ["thing","many"] []
 ZhG:mg "is_crowd" = some (.ref t.ZcP)
 ZcF:Fun K "is_chart" "is_chart" Zen t.ZcO t.Zee
 Zhq:ZaX K t.Zee ["many","starts","bads","after"] []
 ZhF:mg "is_chart" = some (.ref t.ZcO)
 Za8:Fun K "_law_cell_at" "_law_cell_at" Zdm t.Zba t.Zch
 Zex:ZaX K t.Zch ["_law_script","_law_k"] []
 ZeA:mg "_law_cell_at" = some (.ref t.Zba)
 ZbK:Fun K "_law_steps" "_law_steps" Zda t.ZbP t.Zc4
 ZfK:ZaX K t.Zc4 ["_law_cells","_law_size","_law_shut"] []
 ZfT:mg "_law_steps" = some (.ref t.ZbP)
 Zbr:Fun K "_law_inside" "_law_inside" ZdM t.Zbu t.Zcz
 ZeN:ZaX K t.Zcz ["_law_size","_law_bar"] []
 ZeY:mg "_law_inside" = some (.ref t.Zbu)
 ZcC:Fun K "_law_out" "_law_out" Zfv t.ZcL t.Zeb
 Zhn:ZaX K t.Zeb ["_law_size","_law_bars_here"] []
 ZhC:mg "_law_out" = some (.ref t.ZcL)
 ZbI:Fun K "_law_fence" "_law_fence" Zd8 t.ZbN t.Zc2
 ZfI:ZaX K t.Zc2 ["_law_starts","_law_bads","_law_after","_law_out_here"] []
 ZfR:mg "_law_fence" = some (.ref t.ZbN)
 Zb5:Fun K "_law_bars" "_law_bars" ZdL t.Zb9 t.ZdD
 Zgl:ZaX K t.ZdD ["_law_script","_law_size","_law_shut"] []
 ZgA:mg "_law_bars" = some (.ref t.Zb9)
 ZbJ:Fun K "_law_kinds" "_law_kinds" Zc9 t.ZbO t.Zc3
 ZfJ:ZaX K t.Zc3 ["_law_found","_law_bars_here"] []
 ZfS:mg "_law_kinds" = some (.ref t.ZbO)
 ZbL:Fun K "_law_tight" "_law_tight" Zdb t.ZbQ t.Zc5
 ZfL:ZaX K t.Zc5 ["_law_found","_law_starts","_law_bads","_law_after"] []
 ZfU:mg "_law_tight" = some (.ref t.ZbQ)
 Zax:Fun K "_law_refused_alone" "_law_refused_alone" ZbC t.Zay t.Za0
 Zcu:ZaX K t.Za0 ["_law_chart","_law_bars_here"] []
 Zcv:mg "_law_refused_alone" = some (.ref t.Zay)
 Zb6:Fun K "_law_told" "_law_told" ZeJ t.Zca t.ZdE
 Zgm:ZaX K t.ZdE ["_law_chart","_law_bars_here","_law_starts","_law_bads","_law_after"] []
 ZgB:mg "_law_told" = some (.ref t.Zca)
 F_law:Fun K "law" "law" Zig t.f_law t.d_law
 m_law:mg "law" = some (.ref t.f_law)
 Zcj:Fun K "__init__" "Chart.__init__" Zd7 t.Zbm t.Zc1
 ZfH:ZaX K t.Zc1 ["self","many","starts","bads","after"] []
 Zbq:Fun K "ahead" "Chart.ahead" ZdK t.Za3 t.Zcy
 ZeM:ZaX K t.Zcy ["self","crowd"] []
 Za7:Fun K "behind" "Chart.behind" Zdl t.ZaY t.Zcg
 Zew:ZaX K t.Zcg ["self","crowd"] []
 Znf:mg "Chart" = some (.ref t.Zak)
 ZbB:Cls K t.Zak
 Zm5:Mk K t.Zak t.Zbm
 Za2:ZdP K t.Zak "many"
 Zbb:ZdP K t.Zak "starts"
 Zcl:ZdP K t.Zak "bads"
 Zbv:ZdP K t.Zak "after"
 ZeT:Meth K t.Zak "ahead" t.Za3
 Zey:Meth K t.Zak "behind" t.ZaY
 b_ValueError:mg "ValueError" = none
 ZeW:mg "NoFence" = some (.ref t.Zaf)
 Zep:W.typeIn K (.ref t.Zaf)=some (.type "type")
 Zhw:(W.clsIn K t.Zaf).isSome=true
 Zdu:W.mroIn K t.Zaf (.type "BaseException")=some true
 Zgx:mg "EverError" = some (.ref t.Zaz)
 Zdd:W.typeIn K (.ref t.Zaz)=some (.type "type")
 ZfN:(W.clsIn K t.Zaz).isSome=true
 Zc8:W.mroIn K t.Zaz (.type "BaseException")=some true
 Zgy:mg "NoFormula" = some (.ref t.ZaO)
 Zi3:mg "NoChart" = some (.ref t.Zbi)
 ZkP:mg "NoStep" = some (.ref t.ZbV)
 ZkN:mg "NoLine" = some (.ref t.ZbT)
 ZkO:mg "NoName" = some (.ref t.ZbU)
 Zng:mg "NoBar" = some (.ref t.ZcT)
 Zi5:mg "NotShut" = some (.ref t.Zbk)
 Zi4:mg "NoFrame" = some (.ref t.Zbj)
 Zgz:mg "NoMachine" = some (.ref t.ZaP)
 ZeX:mg "NothingLeft" = some (.ref t.Zau)
 Zi6:mg "TooMany" = some (.ref t.Zbl)
 ZgV:ExcK K t.Zaf
 Zjr:W.kitOne K (.ref t.Zaf) (.type "ValueError")=some true
 Zbh:W.mroIn K t.Zaf (.ref t.Zaf)=some true
 Zdf:W.kitOne K (.ref t.Zaf) (.ref t.Zaf)=some true
 Za1:W.mroIn K t.Zaf (.ref t.Zaz)=some true
 Zcw:W.kitOne K (.ref t.Zaf) (.ref t.ZaO)=some false
 Zde:W.kitOne K (.ref t.Zaf) (.ref t.Zbi)=some false
 Zdz:W.kitOne K (.ref t.Zaf) (.ref t.ZbV)=some false
 Zdx:W.kitOne K (.ref t.Zaf) (.ref t.ZbT)=some false
 Zdy:W.kitOne K (.ref t.Zaf) (.ref t.ZbU)=some false
 ZdW:W.kitOne K (.ref t.Zaf) (.ref t.ZcT)=some false
 Zdh:W.kitOne K (.ref t.Zaf) (.ref t.Zbk)=some false
 Zdg:W.kitOne K (.ref t.Zaf) (.ref t.Zbj)=some false
 Zcx:W.kitOne K (.ref t.Zaf) (.ref t.ZaP)=some false
 Zb4:W.kitOne K (.ref t.Zaf) (.ref t.Zau)=some false
 Zdi:W.kitOne K (.ref t.Zaf) (.ref t.Zbl)=some false
 bl:∀(s:Shared) (u:Value),BindsTo s t.d_law ⟨[u],[]⟩ [("_law_script",u)]
 B:Bt mg
theorem txt_mk {K:W.Frag} {h:Heap} {mg:Str→Option Value} (X:K.In h) (G:h.Ns mainGlobals mg)
 {ZbR Zfn ZcN ZcM Zdr ZcS ZaV ZaU Zfm ZcQ Zcb ZaE ZaN Zfo ZcR ZcP ZcO Zba ZbP Zbu ZcL ZbN Zb9 ZbO ZbQ Zay Zca:Addr}
  {f_law:Addr} {Zst Zpu:Option Addr} {ZsR:Array (Option Value)} {Zss ZpZ Zpx Zp9 Zmr Zpw:Value}
 {Zbm Za3 ZaY Zak Zaf Zaz ZaO Zbi ZbV ZbT ZbU ZcT Zbk Zbj ZaP Zau Zbl:Addr}
  (Zix:W.nsIn K mainGlobals "all_stands" = some (some (.ref ZbR)))
  (Zqo:W.nsIn K mainGlobals "least" = some (some (.ref Zfn)))
  (Zlh:W.nsIn K mainGlobals "crowd_of" = some (some (.ref ZcN)))
  (Zlg:W.nsIn K mainGlobals "asked_by" = some (some (.ref ZcM)))
  (Zmd:W.nsIn K mainGlobals "without" = some (some (.ref Zdr)))
  (Zlm:W.nsIn K mainGlobals "shut_out" = some (some (.ref ZcS)))
  (Zf2:W.nsIn K mainGlobals "first_crossing" = some (some (.ref ZaV)))
  (Zf1:W.nsIn K mainGlobals "fault_of_crowd" = some (some (.ref ZaU)))
  (Zqn:W.nsIn K mainGlobals "fault" = some (some (.ref Zfm)))
  (Zlk:W.nsIn K mainGlobals "is_fence" = some (some (.ref ZcQ)))
  (ZjD:W.nsIn K mainGlobals "wider_bar" = some (some (.ref Zcb)))
  (ZeL:W.nsIn K mainGlobals "with_fewer_lamps" = some (some (.ref ZaE)))
  (Zfh:W.nsIn K mainGlobals "with_fewer_bars" = some (some (.ref ZaN)))
  (Zqp:W.nsIn K mainGlobals "tight" = some (some (.ref Zfo)))
  (Zll:W.nsIn K mainGlobals "is_whole" = some (some (.ref ZcR)))
  (Zlj:W.nsIn K mainGlobals "is_crowd" = some (some (.ref ZcP)))
  (Zli:W.nsIn K mainGlobals "is_chart" = some (some (.ref ZcO)))
  (Zg4:W.nsIn K mainGlobals "_law_cell_at" = some (some (.ref Zba)))
  (Ziv:W.nsIn K mainGlobals "_law_steps" = some (some (.ref ZbP)))
  (ZhU:W.nsIn K mainGlobals "_law_inside" = some (some (.ref Zbu)))
  (Zlf:W.nsIn K mainGlobals "_law_out" = some (some (.ref ZcL)))
  (Zit:W.nsIn K mainGlobals "_law_fence" = some (some (.ref ZbN)))
  (ZjB:W.nsIn K mainGlobals "_law_bars" = some (some (.ref Zb9)))
  (Ziu:W.nsIn K mainGlobals "_law_kinds" = some (some (.ref ZbO)))
  (Ziw:W.nsIn K mainGlobals "_law_tight" = some (some (.ref ZbQ)))
  (Zer:W.nsIn K mainGlobals "_law_refused_alone" = some (some (.ref Zay)))
  (ZjC:W.nsIn K mainGlobals "_law_told" = some (some (.ref Zca)))
  (a_law:W.nsIn K mainGlobals "law" = some (some (.ref f_law)))
  (Zql:W.nsIn K mainGlobals "Chart" = some (some (.ref Zak)))
  (Zl9:W.nsIn K mainGlobals "NoFence" = some (some (.ref Zaf)))
  (Zjy:W.nsIn K mainGlobals "EverError" = some (some (.ref Zaz)))
  (Zjz:W.nsIn K mainGlobals "NoFormula" = some (some (.ref ZaO)))
  (Zl8:W.nsIn K mainGlobals "NoChart" = some (some (.ref Zbi)))
  (Zof:W.nsIn K mainGlobals "NoStep" = some (some (.ref ZbV)))
  (Zod:W.nsIn K mainGlobals "NoLine" = some (some (.ref ZbT)))
  (Zoe:W.nsIn K mainGlobals "NoName" = some (some (.ref ZbU)))
  (Zqm:W.nsIn K mainGlobals "NoBar" = some (some (.ref ZcT)))
  (Zmb:W.nsIn K mainGlobals "NotShut" = some (some (.ref Zbk)))
  (Zma:W.nsIn K mainGlobals "NoFrame" = some (some (.ref Zbj)))
  (ZjA:W.nsIn K mainGlobals "NoMachine" = some (some (.ref ZaP)))
  (ZhT:W.nsIn K mainGlobals "NothingLeft" = some (some (.ref Zau)))
  (Zmc:W.nsIn K mainGlobals "TooMany" = some (some (.ref Zbl)))
  (Zhy:W.isClsIn K Zaf=true)
  (Zep:W.typeIn K (.ref Zaf)=some (.type "type"))
  (Zdu:W.mroIn K Zaf (.type "BaseException")=some true)
  (ZiN:W.isClsIn K Zaz=true)
  (Zdd:W.typeIn K (.ref Zaz)=some (.type "type"))
  (Zc8:W.mroIn K Zaz (.type "BaseException")=some true)
  (ZiO:W.isClsIn K ZaO=true)
  (Zjp:W.typeIn K (.ref ZaO)=some (.type "type"))
  (Zlv:W.isClsIn K Zbi=true)
  (ZlW:W.typeIn K (.ref Zbi)=some (.type "type"))
  (ZmY:W.isClsIn K ZbV=true)
  (Zn5:W.typeIn K (.ref ZbV)=some (.type "type"))
  (ZmW:W.isClsIn K ZbT=true)
  (Zn3:W.typeIn K (.ref ZbT)=some (.type "type"))
  (ZmX:W.isClsIn K ZbU=true)
  (Zn4:W.typeIn K (.ref ZbU)=some (.type "type"))
  (Zoy:W.isClsIn K ZcT=true)
  (Zpr:W.typeIn K (.ref ZcT)=some (.type "type"))
  (Zlx:W.isClsIn K Zbk=true)
  (ZlY:W.typeIn K (.ref Zbk)=some (.type "type"))
  (Zlw:W.isClsIn K Zbj=true)
  (ZlX:W.typeIn K (.ref Zbj)=some (.type "type"))
  (ZiP:W.isClsIn K ZaP=true)
  (Zjq:W.typeIn K (.ref ZaP)=some (.type "type"))
  (Zha:W.isClsIn K Zau=true)
  (Zhk:W.typeIn K (.ref Zau)=some (.type "type"))
  (Zly:W.isClsIn K Zbl=true)
  (ZlZ:W.typeIn K (.ref Zbl)=some (.type "type"))
  (ZfD:W.excIn K Zaf [.type "ValueError",.type "Exception",.type "BaseException",.type "object"] "ValueError.__new__" = true)
  (Zl2:W.findIn K (.ref Zaf) "__getattribute__" = some (some (.builtin "BaseException.__getattribute__")))
  (Zl3:W.findIn K (.ref Zaf) "__getattr__" = some none)
  (Zl1:W.findIn K (.ref Zaf) "__class__" = some (some (.builtin "object.__class__")))
  (Zl4:W.mroIn K Zaf (.type "object")=some true)
  (Zl5:W.subIn K (.ref Zaf) (.type "ValueError")=some true)
  (Zbh:W.mroIn K Zaf (.ref Zaf)=some true)
  (Za1:W.mroIn K Zaf (.ref Zaz)=some true)
  (Zeu:W.mroIn K Zaf (.ref ZaO)=some false)
  (Ze6:W.mroIn K Zaf (.ref Zbi)=some false)
  (ZfG:W.mroIn K Zaf (.ref ZbV)=some false)
  (ZfE:W.mroIn K Zaf (.ref ZbT)=some false)
  (ZfF:W.mroIn K Zaf (.ref ZbU)=some false)
  (Zf8:W.mroIn K Zaf (.ref ZcT)=some false)
  (Ze8:W.mroIn K Zaf (.ref Zbk)=some false)
  (Ze7:W.mroIn K Zaf (.ref Zbj)=some false)
  (Zev:W.mroIn K Zaf (.ref ZaP)=some false)
  (ZdX:W.mroIn K Zaf (.ref Zau)=some false)
  (Ze9:W.mroIn K Zaf (.ref Zbl)=some false)
  (b_ValueError:W.nsIn K mainGlobals "ValueError" = some none)
  (ne_:[Zaf,Zaz,ZaO,Zbi,ZbV,ZbT,ZbU,ZcT,Zbk,Zbj,ZaP,Zau,Zbl].Nodup)
  (ZiI:W.findIn K (.ref Zak) "__init__" = some (some (.ref Zbm)))
  (Zh3:W.findIn K (.ref Zak) "ahead" = some (some (.ref Za3)))
  (Zg5:W.findIn K (.ref Zak) "behind" = some (some (.ref ZaY)))
  (ZiX:DF K Zd9 "all_stands" "all_stands" ZbR)
  (ZqO:DF K Zkc "least" "least" Zfn)
  (ZlC:DF K Zfw "crowd_of" "crowd_of" ZcN)
  (ZlB:DF K Zem "asked_by" "asked_by" ZcM)
  (Zm7:DF K ZgX "without" "without" Zdr)
  (ZlH:DF K ZfA "shut_out" "shut_out" ZcS)
  (Zf4:DF K Zcs "first_crossing" "first_crossing" ZaV)
  (Zf3:DF K Zcr "fault_of_crowd" "fault_of_crowd" ZaU)
  (ZqN:DF K Zkb "fault" "fault" Zfm)
  (ZlF:DF K Zfy "is_fence" "is_fence" ZcQ)
  (ZjU:DF K ZeK "wider_bar" "wider_bar" Zcb)
  (ZeU:DF K ZbY "with_fewer_lamps" "with_fewer_lamps" ZaE)
  (Zfq:DF K Zbz "with_fewer_bars" "with_fewer_bars" ZaN)
  (ZqP:DF K Zkd "tight" "tight" Zfo)
  (ZlG:DF K Zfz "is_whole" "is_whole" ZcR)
  (ZlE:DF K Zfx "is_crowd" "is_crowd" ZcP)
  (ZlD:DF K Zen "is_chart" "is_chart" ZcO)
  (Zhd:DF K Zdm "_law_cell_at" "_law_cell_at" Zba)
  (ZiV:DF K Zda "_law_steps" "_law_steps" ZbP)
  (Zh9:DF K ZdM "_law_inside" "_law_inside" Zbu)
  (ZlA:DF K Zfv "_law_out" "_law_out" ZcL)
  (ZiT:DF K Zd8 "_law_fence" "_law_fence" ZbN)
  (ZjS:DF K ZdL "_law_bars" "_law_bars" Zb9)
  (ZiU:DF K Zc9 "_law_kinds" "_law_kinds" ZbO)
  (ZiW:DF K Zdb "_law_tight" "_law_tight" ZbQ)
  (Zet:DF K ZbC "_law_refused_alone" "_law_refused_alone" Zay)
  (ZjT:DF K ZeJ "_law_told" "_law_told" Zca)
  (l_law:K.lookup f_law=some ⟨Zss,Zst,.func (W.fnOf "law" "law" (ZeD Zig) (ZdG Zig) (Zag Zig) .none ZpZ Zpx Zp9 Zpu Zmr Zpw),ZsR⟩)
  (c_law:W.codeIn K Zmr "law" = true)
  (k_law:W.keepIn K (.ref f_law)=true)
  (ZiS:DF K Zd7 "__init__" "Chart.__init__" Zbm)
  (ZiK:W.isFn K (.ref Zbm)=true)
  (Zh8:DF K ZdK "ahead" "Chart.ahead" Za3)
  (Zh5:W.isFn K (.ref Za3)=true)
  (Zhc:DF K Zdl "behind" "Chart.behind" ZaY)
  (Zg7:W.isFn K (.ref ZaY)=true)
  (ZoW:W.plainGet K Zak Str.empty=true)
  (Zot:W.hasDictIn K Zak=true)
  (Zo1:W.plainOver K Zak=true)
  (Zpc:W.findIn K (.ref Zak) "__setattr__" = some (some (.builtin "object.__setattr__")))
  (ZoE:W.keepIn K (.ref Zak)=true)
  (ZoN:W.makesIn K Zak=true)
  (Za2:W.findIn K (.ref Zak) "many" = some none)
  (Zbb:W.findIn K (.ref Zak) "starts" = some none)
  (Zcl:W.findIn K (.ref Zak) "bads" = some none)
  (Zbv:W.findIn K (.ref Zak) "after" = some none)
  (b_len:W.nsIn K mainGlobals "len" = some none)
  (b_range:W.nsIn K mainGlobals "range" = some none)
  (b_isinstance:W.nsIn K mainGlobals "isinstance" = some none)
  (b_int:W.nsIn K mainGlobals "int" = some none)
  (b_bool:W.nsIn K mainGlobals "bool" = some none)
  (b_str:W.nsIn K mainGlobals "str" = some none)
  (b_list:W.nsIn K mainGlobals "list" = some none)
  (b_tuple:W.nsIn K mainGlobals "tuple" = some none)
  (b_dict:W.nsIn K mainGlobals "dict" = some none)
  (b_set:W.nsIn K mainGlobals "set" = some none)
  (b_sorted:W.nsIn K mainGlobals "sorted" = some none)
  (b_max:W.nsIn K mainGlobals "max" = some none)
  (b_min:W.nsIn K mainGlobals "min" = some none)
  (b_sum:W.nsIn K mainGlobals "sum" = some none)
  (b_any:W.nsIn K mainGlobals "any" = some none)
  (b_all:W.nsIn K mainGlobals "all" = some none)
  (b_abs:W.nsIn K mainGlobals "abs" = some none)
  (b_reversed:W.nsIn K mainGlobals "reversed" = some none)
  (b_enumerate:W.nsIn K mainGlobals "enumerate" = some none)
  (b_zip:W.nsIn K mainGlobals "zip" = some none)
  : ∃t:Ad,Txt K mg t:=by
 obtain⟨Zc6,ZbM⟩:=ZiX;obtain⟨Zh1,Zfb⟩:=ZqO;obtain⟨Zed,ZcE⟩:=ZlC;obtain⟨Zec,ZcD⟩:=ZlB;obtain⟨ZeS,Zdn⟩:=Zm7;obtain⟨Zei,ZcJ⟩:=ZlH;obtain⟨ZbH,ZaT⟩:=Zf4;obtain⟨ZbG,ZaS⟩:=Zf3;obtain⟨Zh0,Zfa⟩:=ZqN;obtain⟨Zeg,ZcH⟩:=ZlF;obtain⟨ZdF,Zb7⟩:=ZjU;obtain⟨Zbf,ZaC⟩:=ZeU;obtain⟨Zbt,ZaM⟩:=Zfq;obtain⟨Zh2,Zfc⟩:=ZqP;obtain⟨Zeh,ZcI⟩:=ZlG;obtain⟨Zef,ZcG⟩:=ZlE;obtain⟨Zee,ZcF⟩:=ZlD;obtain⟨Zch,Za8⟩:=Zhd;obtain⟨Zc4,ZbK⟩:=ZiV;obtain⟨Zcz,Zbr⟩:=Zh9;obtain⟨Zeb,ZcC⟩:=ZlA;obtain⟨Zc2,ZbI⟩:=ZiT;obtain⟨ZdD,Zb5⟩:=ZjS;obtain⟨Zc3,ZbJ⟩:=ZiU;obtain⟨Zc5,ZbL⟩:=ZiW;obtain⟨Za0,Zax⟩:=Zet;obtain⟨ZdE,Zb6⟩:=ZjT;obtain⟨Zc1,Zcj⟩:=ZiS;obtain⟨Zcy,Zbq⟩:=Zh8;obtain⟨Zcg,Za7⟩:=Zhc;refine⟨⟨ZbR,Zc6,Zfn,Zh1,ZcN,Zed,ZcM,Zec,Zdr,ZeS,ZcS,Zei,ZaV,ZbH,ZaU,ZbG,Zfm,Zh0,ZcQ,Zeg,Zcb,ZdF,ZaE,Zbf,ZaN,Zbt,Zfo,Zh2,ZcR,Zeh,ZcP,Zef,ZcO,Zee,Zba,Zch,ZbP,Zc4,Zbu,Zcz,ZcL,Zeb,ZbN,Zc2,Zb9,ZdD,ZbO,Zc3,ZbQ,Zc5,Zay,Za0,Zca,ZdE,f_law,W.fnOf "law" "law" (ZeD Zig) (ZdG Zig) (Zag Zig) .none ZpZ Zpx Zp9 Zpu Zmr Zpw,Zbm,Zc1,Za3,Zcy,ZaY,Zcg,Zak,Zaf,Zaz,ZaO,Zbi,ZbV,ZbT,ZbU,ZcT,Zbk,Zbj,ZaP,Zau,Zbl⟩,?_⟩
 exact {
  ZbM:=ZbM,
  ZfM:=ZbM.binds (ps:=["many"]) (by walk_at "b"),
  ZfV:=W.mg_of X G Zix,
  Zfb:=Zfb,
  Zmj:=Zfb.binds (ps:=["crowd"]) (by walk_at "b"),
  Zni:=W.mg_of X G Zqo,
  ZcE:=ZcE,
  Zhp:=ZcE.binds (ps:=["many","bar"]) (by walk_at "b"),
  ZhE:=W.mg_of X G Zlh,
  ZcD:=ZcD,
  Zho:=ZcD.binds (ps:=["bar"]) (by walk_at "b"),
  ZhD:=W.mg_of X G Zlg,
  Zdn:=Zdn,
  Ziy:=Zdn.binds (ps:=["bar","lamp"]) (by walk_at "b"),
  Zi7:=W.mg_of X G Zmd,
  ZcJ:=ZcJ,
  Zhu:=ZcJ.binds (ps:=["many","bars"]) (by walk_at "b"),
  ZhJ:=W.mg_of X G Zlm,
  ZaT:=ZaT,
  ZdR:=ZaT.binds (ps:=["chart","inside"]) (by walk_at "b"),
  ZdU:=W.mg_of X G Zf2,
  ZaS:=ZaS,
  ZdQ:=ZaS.binds (ps:=["chart","inside"]) (by walk_at "b"),
  ZdT:=W.mg_of X G Zf1,
  Zfa:=Zfa,
  Zmi:=Zfa.binds (ps:=["chart","bars"]) (by walk_at "b"),
  Znh:=W.mg_of X G Zqn,
  ZcH:=ZcH,
  Zhs:=ZcH.binds (ps:=["chart","bars"]) (by walk_at "b"),
  ZhH:=W.mg_of X G Zlk,
  Zb7:=Zb7,
  Zgn:=Zb7.binds (ps:=["chart","inside","bar"]) (by walk_at "b"),
  ZgC:=W.mg_of X G ZjD,
  ZaC:=ZaC,
  Zc0:=ZaC.binds (ps:=["chart","bars"]) (by walk_at "b"),
  Zc7:=W.mg_of X G ZeL,
  ZaM:=ZaM,
  Zdq:=ZaM.binds (ps:=["chart","bars"]) (by walk_at "b"),
  Zdt:=W.mg_of X G Zfh,
  Zfc:=Zfc,
  Zmk:=Zfc.binds (ps:=["chart","bars"]) (by walk_at "b"),
  Znj:=W.mg_of X G Zqp,
  ZcI:=ZcI,
  Zht:=ZcI.binds (ps:=["thing"]) (by walk_at "b"),
  ZhI:=W.mg_of X G Zll,
  ZcG:=ZcG,
  Zhr:=ZcG.binds (ps:=["thing","many"]) (by walk_at "b"),
  ZhG:=W.mg_of X G Zlj,
  ZcF:=ZcF,
  Zhq:=ZcF.binds (ps:=["many","starts","bads","after"]) (by walk_at "b"),
  ZhF:=W.mg_of X G Zli,
  Za8:=Za8,
  Zex:=Za8.binds (ps:=["_law_script","_law_k"]) (by walk_at "b"),
  ZeA:=W.mg_of X G Zg4,
  ZbK:=ZbK,
  ZfK:=ZbK.binds (ps:=["_law_cells","_law_size","_law_shut"]) (by walk_at "b"),
  ZfT:=W.mg_of X G Ziv,
  Zbr:=Zbr,
  ZeN:=Zbr.binds (ps:=["_law_size","_law_bar"]) (by walk_at "b"),
  ZeY:=W.mg_of X G ZhU,
  ZcC:=ZcC,
  Zhn:=ZcC.binds (ps:=["_law_size","_law_bars_here"]) (by walk_at "b"),
  ZhC:=W.mg_of X G Zlf,
  ZbI:=ZbI,
  ZfI:=ZbI.binds (ps:=["_law_starts","_law_bads","_law_after","_law_out_here"]) (by walk_at "b"),
  ZfR:=W.mg_of X G Zit,
  Zb5:=Zb5,
  Zgl:=Zb5.binds (ps:=["_law_script","_law_size","_law_shut"]) (by walk_at "b"),
  ZgA:=W.mg_of X G ZjB,
  ZbJ:=ZbJ,
  ZfJ:=ZbJ.binds (ps:=["_law_found","_law_bars_here"]) (by walk_at "b"),
  ZfS:=W.mg_of X G Ziu,
  ZbL:=ZbL,
  ZfL:=ZbL.binds (ps:=["_law_found","_law_starts","_law_bads","_law_after"]) (by walk_at "b"),
  ZfU:=W.mg_of X G Ziw,
  Zax:=Zax,
  Zcu:=Zax.binds (ps:=["_law_chart","_law_bars_here"]) (by walk_at "b"),
  Zcv:=W.mg_of X G Zer,
  Zb6:=Zb6,
  Zgm:=Zb6.binds (ps:=["_law_chart","_law_bars_here","_law_starts","_law_bads","_law_after"]) (by walk_at "b"),
  ZgB:=W.mg_of X G ZjC,
  F_law:=ZpB (st:=Zig) l_law c_law k_law,
  m_law:=W.mg_of X G a_law,
  Zcj:=Zcj,
  ZfH:=Zcj.binds (ps:=["self","many","starts","bads","after"]) (by walk_at "b"),
  Zbq:=Zbq,
  ZeM:=Zbq.binds (ps:=["self","crowd"]) (by walk_at "b"),
  Za7:=Za7,
  Zew:=Za7.binds (ps:=["self","crowd"]) (by walk_at "b"),
  Znf:=W.mg_of X G Zql,
  ZbB:=⟨ZoW,Zot,Zo1,Zpc⟩,
  Zm5:=⟨ZoN,ZiI,ZiK,ZoE⟩,
  Za2:=Za2,
  Zbb:=Zbb,
  Zcl:=Zcl,
  Zbv:=Zbv,
  ZeT:=⟨Zh3,Zh5,Zbq.kp⟩,
  Zey:=⟨Zg5,Zg7,Za7.kp⟩,
  b_ValueError:=W.mg_none_of X G b_ValueError,
  ZeW:=W.mg_of X G Zl9,
  Zep:=Zep,
  Zhw:=Zhy,
  Zdu:=Zdu,
  Zgx:=W.mg_of X G Zjy,
  Zdd:=Zdd,
  ZfN:=ZiN,
  Zc8:=Zc8,
  Zgy:=W.mg_of X G Zjz,
  Zi3:=W.mg_of X G Zl8,
  ZkP:=W.mg_of X G Zof,
  ZkN:=W.mg_of X G Zod,
  ZkO:=W.mg_of X G Zoe,
  Zng:=W.mg_of X G Zqm,
  Zi5:=W.mg_of X G Zmb,
  Zi4:=W.mg_of X G Zma,
  Zgz:=W.mg_of X G ZjA,
  ZeX:=W.mg_of X G ZhT,
  Zi6:=W.mg_of X G Zmc,
  ZgV:=⟨ZfD,Zhy,Zl2,Zl3,Zl1,Zdu,Zl4⟩,
  Zjr:=ZqM Zl5,
  Zbh:=Zbh,
  Zdf:=Zm6 _ _,
  Za1:=Za1,
  Zcw:=ZcV (fun e=>ZgF ne_ (i:=0) (j:=2) rfl rfl (by decide) (Value.ref.inj e)) ZiO Zjp Zeu,
  Zde:=ZcV (fun e=>ZgF ne_ (i:=0) (j:=3) rfl rfl (by decide) (Value.ref.inj e)) Zlv ZlW Ze6,
  Zdz:=ZcV (fun e=>ZgF ne_ (i:=0) (j:=4) rfl rfl (by decide) (Value.ref.inj e)) ZmY Zn5 ZfG,
  Zdx:=ZcV (fun e=>ZgF ne_ (i:=0) (j:=5) rfl rfl (by decide) (Value.ref.inj e)) ZmW Zn3 ZfE,
  Zdy:=ZcV (fun e=>ZgF ne_ (i:=0) (j:=6) rfl rfl (by decide) (Value.ref.inj e)) ZmX Zn4 ZfF,
  ZdW:=ZcV (fun e=>ZgF ne_ (i:=0) (j:=7) rfl rfl (by decide) (Value.ref.inj e)) Zoy Zpr Zf8,
  Zdh:=ZcV (fun e=>ZgF ne_ (i:=0) (j:=8) rfl rfl (by decide) (Value.ref.inj e)) Zlx ZlY Ze8,
  Zdg:=ZcV (fun e=>ZgF ne_ (i:=0) (j:=9) rfl rfl (by decide) (Value.ref.inj e)) Zlw ZlX Ze7,
  Zcx:=ZcV (fun e=>ZgF ne_ (i:=0) (j:=10) rfl rfl (by decide) (Value.ref.inj e)) ZiP Zjq Zev,
  Zb4:=ZcV (fun e=>ZgF ne_ (i:=0) (j:=11) rfl rfl (by decide) (Value.ref.inj e)) Zha Zhk ZdX,
  Zdi:=ZcV (fun e=>ZgF ne_ (i:=0) (j:=12) rfl rfl (by decide) (Value.ref.inj e)) Zly ZlZ Ze9,
  bl:=fun s u=>.of_eq rfl,
  B:=⟨W.mg_none_of X G b_len,W.mg_none_of X G b_range,W.mg_none_of X G b_isinstance,W.mg_none_of X G b_int,W.mg_none_of X G b_bool,W.mg_none_of X G b_str,W.mg_none_of X G b_list,W.mg_none_of X G b_tuple,W.mg_none_of X G b_dict,W.mg_none_of X G b_set,W.mg_none_of X G b_sorted,W.mg_none_of X G b_max,W.mg_none_of X G b_min,W.mg_none_of X G b_sum,W.mg_none_of X G b_any,W.mg_none_of X G b_all,W.mg_none_of X G b_abs,W.mg_none_of X G b_reversed,W.mg_none_of X G b_enumerate,W.mg_none_of X G b_zip⟩ }
theorem ZbA (x y:Nat):Builtin.bitAnd (x:Int) (y:Int)=((x &&& y:Nat):Int):=by simp[Builtin.bitAnd]
theorem Zj0 (x:Int):Builtin.bitNot (Builtin.bitNot x)=x:=by unfold Builtin.bitNot; omega
theorem Zdw (x y:Nat):Builtin.bitOr (x:Int) (y:Int)=((x ||| y:Nat):Int):=by
 show Builtin.bitNot (Builtin.bitAnd (Builtin.bitNot x) (Builtin.bitNot y))=_;rw[PyProof.Rows.bitAnd_nn (by unfold Builtin.bitNot; omega) (by unfold Builtin.bitNot; omega),Zj0,Zj0,Zj0];simp
def cell (ns:List Int) (k:Nat):Int:=ns.getD k 0
def spLaw (K:W.Frag):Sp:=fun vs H Q _=>∃(a:Addr) (ns:List Int),vs=[.ref a]∧SqL K H a (ns.map V.int)∧ns.length≤63∧Only H∧∀H',Q (.bl true) H'
def ZsV (K:W.Frag):Sp:=fun vs H Q _=>∃(a:Addr) (ns:List Int) (k:Nat),vs=[.ref a,.int (k:Int)]∧SqL K H a (ns.map V.int)∧Q (.int (cell ns k)) H
section
variable {P:Program} {w:World} {K:W.Frag} {mg:Str→Option Value} {base:Heap} {t:Ad}
theorem ZhK (T:Txt K mg t):FnS P w K mg base 1 "_law_cell_at" ["_law_script","_law_k"] (ZsV K):=by
 refine⟨_,_,T.Za8.ok ZgY (fun vs H Q E h=>?_) (fun _ _ _ _ H vs Q E hr h=>?_),T.Zex,T.Za8.kp,T.ZeA⟩
 ·obtain⟨a,ns,k,rfl,_⟩:=h
  rfl
 ·obtain⟨a,ns,k,rfl,hS,q⟩:=h
  refine⟨_,(Zab (ZaZ (Zal ZsA (pv 1) (Zar Za5 rfl T.B.len ZdS (Zaa (pv 0) Zae)) (Zaw _))
   (Zac (Zaj (Zcm ZbD (pv 0) (pv 1) (fun _ _=>rfl))))
   Zai)
   (Zac (Zaj Zad))),?_⟩
  walk_at "rd0";refine Zg8 (fun h=>?_) (fun h=>?_)
  ·rw[length_map]at h
   have hk:k < ns.length:=by omega
   walk_at "";refine Ztf (j:=k) (v:=.int (cell ns k)) hS ?_ q;rw[getElem?_map,List.getElem?_eq_getElem hk];simp[cell,getD_eq_getElem?_getD,List.getElem?_eq_getElem hk]
  ·rw[length_map]at h
   walk_at ""
   have e:cell ns k=0:=by
    simp only [cell,getD_eq_getElem?_getD];rw[List.getElem?_eq_none (by omega)];rfl
   rw[e]at q;exact q
end
theorem ZaH {α β:Type} {F G:α→β→Prop} (h:∀a b,F a b→G a b):∀{xs:List α} {ys:List β},Paired F xs ys→Paired G xs ys
 | _,_,.nil=>.nil
 | _,_,.cons r s=>.cons (h _ _ r) (ZaH h s)
theorem Zbc {α β:Type} {F:α→β→Prop}:∀{xs:List α} {ys:List β} {i:Nat} {x:α},Paired F xs ys→xs[i]?=some x→∃y,ys[i]?=some y∧F x y
 | _,_,_,_,.nil,e=>by simp at e
 | _,_,0,_,.cons r _,e=>by simp at e; subst e; exact⟨_,rfl,r⟩
 | _,_,i+1,x,.cons _ s,e=>by
  obtain⟨u,h1,h2⟩:=Zbc (i:=i) (x:=x) s (by simpa using e);exact⟨u,by simpa using h1,h2⟩
theorem Zbx {α β:Type} {F:α→β→Prop}:∀{xs xs':List α} {ys ys':List β},Paired F xs ys→Paired F xs' ys'→Paired F (xs++xs') (ys++ys')
 | _,_,_,_,.nil,s=>s
 | _,_,_,_,.cons r q,s=>.cons r (Zbx q s)
theorem ZgQ {α β:Type} {F:α→β→Prop}:∀{xs:List α} {ys:List β} (n:Nat),Paired F xs ys→Paired F (xs.take n) (ys.take n)
 | _,_,0,_=>by rw[take_zero,take_zero]; exact .nil
 | _,_,_+1,.nil=>by rw[take_nil,take_nil]; exact .nil
 | _,_,n+1,.cons r q=>by rw[List.take_succ_cons,List.take_succ_cons]; exact .cons r (ZgQ n q)
theorem ZaI {α β:Type} {F:α→β→Prop} {xs:List α} {ys:List β} (h:Paired F xs ys):xs.length=ys.length:=Paired.length h
theorem ZeE {ps:List Addr} {i:Nat} {x:V} (h:(ps.map V.ref)[i]?=some x):∃p,x=V.ref p∧ps[i]?=some p:=by
 rw[getElem?_map]at h
 cases e:ps[i]? with
 | none=>rw[e]at h; cases h
 | some p=>rw[e]at h; exact⟨p,(Option.some.inj h).symm,rfl⟩
theorem ZcY {α:Type} {l:List α} {i:Nat} {x:α} (h:l[i]?=some x):l.take (i+1)=l.take i++[x]:=by
 rw[List.take_add_one,h]; rfl
def ZaR (H:Hp) (p:Addr) (b:Bar):Prop:=H p=some (.tup [.int (b.1:Int),.int (b.2:Int)])
def ib (b:Bar):Int×Int:=((b.1:Int),(b.2:Int))
theorem Zby {H:Hp}:∀{ps:List Addr} {bs:List Bar},Paired (ZaR H) ps bs→Paired (Zct H) ps (bs.map ib)
 | _,_,.nil=>.nil
 | _,_,.cons r q=>.cons r (Zby q)
theorem Zdj {H H':Hp} {ps:List Addr} {bs:List Bar} (s:Ext H H') (h:Paired (ZaR H) ps bs):Paired (ZaR H') ps bs:=ZaH (fun p b q=>s p (.tup [.int (b.1:Int),.int (b.2:Int)]) q (fun _ z=>nomatch z)) h
theorem Zfr (s k:Nat):Builtin.bitAnd ((s:Int) / 2 ^ ((k:Int)).toNat) 1=if s.testBit k=true then 1 else 0:=by
 have e:((s:Int) / 2 ^ ((k:Int)).toNat)=((s / 2 ^ k:Nat):Int):=by simp
 rw[e,show(1:Int)=((1:Nat):Int) from rfl,ZbA,Nat.and_one_is_mod,ZqU]
 by_cases h:s / 2 ^ k % 2=1
 ·rw[decide_eq_true h,if_pos rfl,h]
 ·rw[decide_eq_false h,if_neg Bool.false_ne_true]
  have:s / 2 ^ k % 2=0:=by omega
  rw[this]; rfl
theorem Zp0 (s k:Nat):decide (Builtin.bitAnd ((s:Int) / 2 ^ ((k:Int)).toNat) 1=1)=s.testBit k:=by
 rw[Zfr]
 cases s.testBit k <;> rfl
theorem ZiJ {n i:Nat} {lo:Int} {x:V} (h:((List.range n).map fun i:Nat=>V.int (lo+(i:Int)))[i]?=some x):i < n∧x=.int (lo+(i:Int)):=by
 rw[getElem?_map]at h
 by_cases hi:i < n
 ·rw[List.getElem?_range hi]at h
  exact⟨hi,(Option.some.inj h).symm⟩
 ·rw[List.getElem?_eq_none (by rw[length_range]; omega)]at h
  cases h
theorem Za6 {m:Nat} (h:m≤6):(2:Nat) ^ m≤64:=Nat.le_trans (Nat.pow_le_pow_right (by decide) h) (by decide)
theorem Zbe (m:Nat):(1:Int) * 2 ^ ((m:Int)).toNat=((2 ^ m:Nat):Int):=by
 simp
theorem Zp4 {f:Nat→Bool} {n:Nat} (h:f n=true):Builtin.bitOr ((bits f n:Nat):Int) (1 * 2 ^ ((n:Int)).toNat)=((bits f (n+1):Nat):Int):=by
 rw[Zbe,Zdw,ZjG f n h]
theorem Za9 (x y:Nat):Builtin.bitAnd (x:Int) (Builtin.bitNot (y:Int))=((x - (x &&& y):Nat):Int):=by
 rw[PyProof.Rows.bitAnd_not,ZbA];have:=Nat.and_le_left (n:=x) (m:=y);omega
def nums (l:List Nat):List Int:=l.map fun k:Nat=>(k:Int)
theorem Zlp {ix:List Nat} {tc:TT} {te:TE} {σ:St} {H:Hp} {Q:VK} {n:Nat} (p:Nat→Bool) (hz:n≤1000000)
  (ht:∀(i:Nat) (H':Hp),i < n→Same H H'→∀R:Bool→Hp→Prop,(∀H2,Same H' H2→R (p i) H2)→tc (some (.int (i:Int))::subS σ ix) H' R)
  (he:∀(i:Nat) (H':Hp),i < n→Same H H'→∀R2:V→Hp→Prop,(∀H3,Same H' H3→R2 (.int (i:Int)) H3)→te (some (.int (i:Int))::subS σ ix) H' R2)
  (hd:∀(acc:Addr) (H':Hp),H acc=none→Same H H'→H' acc=some (.lst ((nums ((List.range n).filter p)).map V.int))→Q (.ref acc) H'):ZhS (Itr 0 n) ix tc te σ Q H:=by
 refine Zfl (fun i ys=>ys=(nums ((List.range i).filter p)).map V.int) (Zin 0 n H) (by rw[length_map,length_range]; exact hz) rfl ?_ ?_
 ·intro i x ys acc H' hx s1 hacc ea hy _ R k
  obtain⟨hi,rfl⟩:=ZiJ hx;rw[Int.zero_add];rw[Int.zero_add]at k;refine ht i H' hi s1 R fun H2 s2=>k (p i) H2 s2 (fun z=>?_) fun z R2 k2=>?_
  ·rw[Zgq,z,if_neg Bool.false_ne_true,List.append_nil]; exact hy
  ·refine he i H2 hi (s1.trans s2) R2 fun H3 s3=>k2 _ H3 s3 ?_
   rw[Zgq,z,if_pos rfl,hy];unfold nums;rw[map_append,map_append];rfl
 ·intro acc ys H' n1 s1 e1 hy
  rw[length_map,length_range]at hy;subst hy;exact hd acc H' n1 s1 e1
def orUp (f:Nat→Nat):Nat→Nat
 | 0=>0
 | n+1=>orUp f n ||| f n
def ahN (af:List Nat) (s:Nat):Nat:=orUp (fun k=>if s.testBit k=true then af.getD k 0 else 0) af.length
def behN (af:List Nat) (s:Nat):Nat:=bits (fun k=>decide (af.getD k 0 &&& s≠0)) af.length
theorem ZgN {f:Nat→Nat} {n:Nat} (h:f n=0):orUp f (n+1)=orUp f n:=by
 show orUp f n ||| f n=orUp f n
 rw[h,Nat.or_zero]
theorem ZkU {f:Nat→Nat} {j:Nat} (h:∀k,k≠j→f k=0):∀n,j < n→orUp f n=f j
 | 0,hj=>absurd hj (by omega)
 | n+1,hj=>by
  have hz:∀m,m≤j→orUp f m=0:=fun m=>by
   induction m with
   | zero=>intro _; rfl
   | succ m ih=>intro hm; rw[ZgN (h m (by omega))]; exact ih (by omega)
  by_cases e:n=j
  ·subst e
   show orUp f n ||| f n=f n
   rw[hz n (Nat.le_refl _),Nat.zero_or]
  ·rw[ZgN (h n e)]
   exact ZkU h n (by omega)
theorem ZdH {af:List Nat} {i:Nat} (h:i < af.length):((nums af).map V.int)[i]?=some (.int ((af.getD i 0:Nat):Int)):=by
 unfold nums;rw[getElem?_map,getElem?_map,getD_eq_getElem?_getD,List.getElem?_eq_getElem h];rfl
theorem Zbg (af:List Nat):((nums af).map V.int).length=af.length:=by unfold nums; rw[length_map,length_map]
theorem Zi9 (af:List Nat) (x:Nat):(nums (af++[x])).map V.int=(nums af).map V.int++[V.int (x:Int)]:=by unfold nums; rw[map_append,map_append]; rfl
theorem Zj7 {a b:Nat} (h:a < b):2 ^ a < 2 ^ b:=Nat.pow_lt_pow_right (by decide) h
theorem Znm:∀c:Nat,0 < c→∃k q,c=2 ^ k * (2 * q+1):=fun c=>by
 induction c using Nat.strongRecOn with
 | _ c ih=>
  intro h
  by_cases e:c % 2=1
  ·exact⟨0,c / 2,by omega⟩
  ·obtain⟨k,q,hk⟩:=ih (c / 2) (by omega) (by omega)
   refine⟨k+1,q,?_⟩
   have:c=2 * (c / 2):=by omega
   rw[this,hk,Nat.pow_succ,Nat.mul_comm (2 ^ k) 2,Nat.mul_assoc]
theorem ZgZ (k q j:Nat):(2 ^ k * (2 * q+1)).testBit j=if j < k then false else(2 * q+1).testBit (j - k):=by
 have:=Nat.testBit_two_pow_mul_add (2 * q+1) (Nat.two_pow_pos k) j;rw[Nat.add_zero]at this;rw[this,Nat.zero_testBit]
theorem ZlR (k q j:Nat):(2 ^ k * (2 * q+1) - 1).testBit j=if j < k then true else(2 * q).testBit (j - k):=by
 have e:2 ^ k * (2 * q+1) - 1=2 ^ k * (2 * q)+(2 ^ k - 1):=by
  have:=Nat.two_pow_pos k;rw[Nat.mul_add,Nat.mul_one]; omega
 have h:2 ^ k - 1 < 2 ^ k:=by have:=Nat.two_pow_pos k; omega
 rw[e,Nat.testBit_two_pow_mul_add (2 * q) h j,Nat.testBit_two_pow_sub_one]
 by_cases hj:j < k
 ·rw[if_pos hj,if_pos hj,decide_eq_true hj]
 ·rw[if_neg hj,if_neg hj]
theorem Zp2 (k q:Nat):2 ^ k * (2 * q+1) - (2 ^ k * (2 * q+1) &&& (2 ^ k * (2 * q+1) - 1))=2 ^ k:=by
 apply Nat.eq_of_testBit_eq;intro j;rw[Zbp,ZgZ,ZlR,Nat.testBit_two_pow]
 by_cases hj:j < k
 ·rw[if_pos hj,if_pos hj,decide_eq_false (by omega)]; rfl
 ·rw[if_neg hj,if_neg hj]
  by_cases e:j=k
  ·subst e
   rw[Nat.sub_self,decide_eq_true rfl,Nat.testBit_zero,Nat.testBit_zero];simp
  ·rw[decide_eq_false (fun z=>e z.symm)]
   obtain⟨i,hi⟩ : ∃i,j - k=i+1:=⟨j - k - 1,by omega⟩;rw[hi,Nat.testBit_succ,Nat.testBit_succ,show(2 * q+1) / 2=q by omega,show 2 * q / 2=q by omega]
   cases q.testBit i <;> rfl
def lowN (c:Nat):Nat:=(c - (c &&& (c - 1))).log2
theorem Zi2 {c:Nat} (h:0 < c):c.testBit (lowN c)=true∧(∀j,j < lowN c→c.testBit j=false)∧c - (c &&& (c - 1))=2 ^ lowN c:=by
 obtain⟨k,q,rfl⟩:=Znm c h
 have e:lowN (2 ^ k * (2 * q+1))=k:=by unfold lowN; rw[Zp2,Nat.log2_two_pow]
 rw[e];refine⟨?_,fun j hj=>?_,Zp2 k q⟩
 ·rw[ZgZ,if_neg (Nat.lt_irrefl _),Nat.sub_self,Nat.testBit_zero]; simp
 ·rw[ZgZ,if_pos hj]
theorem ZqX {c:Nat} (h:0 < c):((Builtin.Int.intBits (Builtin.bitAnd (c:Int) (-(c:Int))):Nat):Int) - 1=((lowN c:Nat):Int):=by
 have e : -(c:Int)=Builtin.bitNot ((c - 1:Nat):Int):=by unfold Builtin.bitNot; omega
 rw[e,Za9,(Zi2 h).2.2];unfold Builtin.Int.intBits;have hp:0 < 2 ^ lowN c:=Nat.two_pow_pos _
 have hne:((((2 ^ lowN c:Nat):Int)) == 0)=false:=by rw[beq_eq_false_iff_ne]; omega
 rw[hne,if_neg Bool.false_ne_true,Int.natAbs_natCast,Nat.log2_two_pow];omega
theorem Zme {af:List Nat} {j:Nat} (h:j < af.length):ahN af (2 ^ j)=af.getD j 0:=by
 unfold ahN;rw[ZkU (j:=j) (fun k hk=>by rw[Nat.testBit_two_pow,decide_eq_false (Ne.symm hk),if_neg Bool.false_ne_true]) _ h,Nat.testBit_two_pow,decide_eq_true rfl,if_pos rfl]
section
variable {P:Program} {w:World} {K:W.Frag} {mg:Str→Option Value} {base:Heap} {t:Ad}
def Zkl:Sp:=fun vs H Q _=>∃(m:Nat),vs=[.int (m:Int)]∧m≤6∧Q (.int ((2 ^ 2 ^ m - 1:Nat):Int)) H
theorem Zid (T:Txt K mg t):FnS P w K mg base 1 "all_stands" ["many"] (Zkl):=by
 refine⟨_,_,T.ZbM.ok Zii (fun vs H Q E h=>?_) (fun _ _ _ _ H vs Q E hr h=>?_),T.ZfM,T.ZbM.kp,T.ZfV⟩
 ·obtain⟨m,rfl,hm,q⟩:=h
  rfl
 obtain⟨m,rfl,hm,q⟩:=h;have hp:=Za6 hm;have hp0:=Int.natCast_nonneg (2 ^ m);refine⟨_,(Zac (Zaj (Zah ZhL (Zah ZbX Zad (Zah ZbX Zad (pv 0))) Zad))),?_⟩;walk_at "rd0";rw[Zbe];refine i_rI ⟨by omega,by omega,by decide⟩ ?_;walk_at "";rw[Zbe];have:1≤2 ^ 2 ^ m:=Nat.one_le_two_pow
 have e:((2 ^ 2 ^ m:Nat):Int) - 1=((2 ^ 2 ^ m - 1:Nat):Int):=by omega
 rw[e];exact q
structure GoodC (m st bd:Nat) (af:List Nat):Prop where
 m1:1≤m
 m6:m≤6
 st:st < 2 ^ 2 ^ m
 bd:bd < 2 ^ 2 ^ m
 ln:af.length=2 ^ m
 af:∀x∈af,x < 2 ^ 2 ^ m
def Zru:Sp:=fun vs H Q _=>∃n:Int,vs=[.int n]∧Q (.bl true) H
theorem ZgL (T:Txt K mg t):FnS P w K mg base 1 "is_whole" ["thing"] (Zru):=by
 refine⟨_,_,T.ZcI.ok Zki (fun vs H Q E h=>?_) (fun _ _ _ _ H vs Q E hr h=>?_),T.Zht,T.ZcI.kp,T.ZhI⟩
 ·obtain⟨n,rfl,q⟩:=h
  rfl
 obtain⟨n,rfl,q⟩:=h;refine⟨_,(Zac (Zaj (ZkW (Zar ZdC rfl T.B.isinstance Zav (Zaa (pv 0) (Zaa (Zd6 (v:=.ty "int") rfl T.B.int Zpv rfl) Zae))) (ZkY (Zrc (Zar ZdC rfl T.B.isinstance Zav (Zaa (pv 0) (Zaa (Zd6 (v:=.ty "bool") rfl T.B.bool Zmm rfl) Zae)))))))),?_⟩;walk_at "rd0";refine ZcA rfl ?_;walk_at "";exact q
def ZnP:Sp:=fun vs H Q _=>∃(n m:Nat),vs=[.int (n:Int),.int (m:Int)]∧m≤6∧n < 2 ^ 2 ^ m∧Q (.bl true) H
theorem Zj4 (T:Txt K mg t):FnS P w K mg base 2 "is_crowd" ["thing","many"] (ZnP):=by
 refine⟨_,_,T.ZcG.ok Zkg (fun vs H Q E h=>?_) (fun _ _ _ _ H vs Q E hr h=>?_),T.Zhr,T.ZcG.kp,T.ZhG⟩
 ·obtain⟨n,m,rfl,hm,hn,q⟩:=h
  rfl
 obtain⟨n,m,rfl,hm,hn,q⟩:=h;have Zff:=ZgL (P:=P) (w:=w) (base:=base) T;have Zir:=Zid (P:=P) (w:=w) (base:=base) T;refine⟨_,(Zac (Zaj (ZkW (ZaA Zff hr (Zaa (pv 0) Zae)) (ZkY (ZoU Zsz Zsz Zad (pv 0) (ZaA Zir hr (Zaa (pv 1) Zae))))))),?_⟩;walk_at "rd0";refine⟨_,rfl,?_⟩;walk_at "";refine ZcA rfl ?_;walk_at "";refine ZcA (decide_eq_true (by omega)) ?_;walk_at "";refine⟨m,rfl,hm,?_⟩;walk_at "";have e:decide ((n:Int)≤((2 ^ 2 ^ m - 1:Nat):Int))=true:=decide_eq_true (by omega);rw[e];exact q
def ZnO:Sp:=fun vs H Q _=>∃(m st bd:Nat) (l:Addr) (af:List Nat),vs=[.int (m:Int),.int (st:Int),.int (bd:Int),.ref l]∧H l=some (.lst ((nums af).map V.int))∧GoodC m st bd af∧∀H',Same H H'→Q (.bl true) H'
theorem Zj3 (T:Txt K mg t):FnS P w K mg base 3 "is_chart" ["many","starts","bads","after"] (ZnO):=by
 refine⟨_,_,T.ZcF.ok Zkf (fun vs H Q E h=>?_) (fun _ _ _ _ H vs Q E hr h=>?_),T.Zhq,T.ZcF.kp,T.ZhF⟩
 ·obtain⟨m,st,bd,l,af,rfl,hl,g,q⟩:=h
  rfl
 obtain⟨m,st,bd,l,af,rfl,hl,g,q⟩:=h;have Zff:=ZgL (P:=P) (w:=w) (base:=base) T;have Zfd:=Zj4 (P:=P) (w:=w) (base:=base) T;have hp:=Za6 g.m6;have m1:=g.m1;have m6:=g.m6;have ln:=g.ln
 refine⟨_,(Zab (ZaZ (PW.pt (Zhi (ZcX (Zan (ZaA Zff hr (Zaa (pv 0) Zae)) (fun _=>rfl))) (Zhi (Zal ZsA (pv 0) Zad (Zaw _)) (ZfX (Zal Zq7 (pv 0) Zad (Zaw _))))))
   (Zac (Zaj Zdk))
   Zai)
   (Zab (ZaZ (PW.pt (Zhi (ZcX (Zan (ZaA Zfd hr (Zaa (pv 1) (Zaa (pv 0) Zae))) (fun _=>rfl))) (ZfX (ZcX (Zan (ZaA Zfd hr (Zaa (pv 2) (Zaa (pv 0) Zae))) (fun _=>rfl))))))
   (Zac (Zaj Zdk))
   Zai)
   (Zab (ZaZ (PW.pt (Zhi (ZcX (Zan (Zar ZdC rfl T.B.isinstance Zav (Zaa (pv 3) (Zaa (Zd6 (v:=.ty "list") rfl T.B.list Zfi rfl) Zae))) (fun _=>rfl))) (ZfX (Zal (ZeB hr.units) (Zar Za5 rfl T.B.len ZdS (Zaa (pv 3) Zae)) (Zah ZbX Zad (pv 0)) (Zaw _)))))
   (Zac (Zaj Zdk))
   Zai)
   (Zac (Zaj (Zar (Zmp rfl) rfl T.B.all ZrH (Zaa (Znp (sc:=Zag Zen) (N:=["many","starts","bads","after"]) (ns:=["many"]) (ix:=[0]) rfl rfl (by decide +kernel) rfl (ZdV (pv 3)) (fun _ _ _ _=>Zj9) (fun _ _ _ _=>(ZaA Zfd hr (Zaa (pv 0) (Zaa (pv 1) Zae))))) Zae))))))),?_⟩
 walk_at "rd0";refine⟨_,rfl,?_⟩;walk_at "";refine ZaQ rfl ?_;walk_at "";refine ZaQ (decide_eq_false (by omega)) ?_;walk_at "";refine ZaQ (decide_eq_false (by omega)) ?_;walk_at "";refine⟨_,_,rfl,m6,g.st,?_⟩;walk_at "";refine ZaQ rfl ?_;walk_at "";refine⟨_,_,rfl,m6,g.bd,?_⟩;walk_at "";refine ZaQ rfl ?_;walk_at "";refine ZaQ rfl ?_;walk_at "";rw[Zbg,Zbe,ln];refine ZaQ (by simp) ?_;walk_at "";refine .inl ⟨l,_,rfl,SqL.of hl,?_⟩;refine Zfl (fun i ys=>ys=(List.replicate i true).map V.bl) (Zim (SqL.of hl)) (by rw[Zbg]; omega) rfl ?_ ?_
 ·intro i x ys acc H' hx s1 hacc ea hy _ R k
  obtain⟨n,rfl,hn⟩ : ∃n:Nat,x=.int (n:Int)∧n∈af:=by
   unfold nums at hx;rw[getElem?_map,getElem?_map]at hx
   cases e:af[i]? with
   | none=>rw[e]at hx; cases hx
   | some n=>rw[e]at hx; exact⟨n,(Option.some.inj hx).symm,mem_of_getElem? e⟩
  simp only [subS,map_cons,map_nil];walk_at "";refine k _ H' (Same.refl _) (fun z=>by cases z) fun z R2 k2=>?_;walk_at "";refine⟨_,_,rfl,m6,g.af n hn,?_⟩;refine k2 _ H' (Same.refl _) ?_;rw[hy,List.replicate_succ',map_append];rfl
 ·intro acc ys H' n1 s1 e1 hy
  subst hy;walk_at "";refine Zte (SqL.of e1) ?_
  have e:(List.replicate ((nums af).map V.int).length true).all id=true:=by
   rw[all_eq_true];intro x hx;rw[(List.mem_replicate.mp hx).2]; rfl
  rw[e];exact q H' s1
def Zd0 (m st bd:Int) (tp:Addr):List (Str×V):=putF "after" (.ref tp) (putF "bads" (.int bd) (putF "starts" (.int st) (putF "many" (.int m) [])))
def Zbd (t:Ad) (H:Hp) (p:Addr) (m st bd:Int) (af:List Nat):Prop:=∃dx tp,H p=some (.ins t.Zak dx (Zd0 m st bd tp))∧H tp=some (.tup ((nums af).map V.int))
theorem Zbd.mono {H H':Hp} {p:Addr} {m st bd:Int} {af:List Nat} (h:Zbd t H p m st bd af) (s:Ext H H'):Zbd t H' p m st bd af:=by
 obtain⟨dx,tp,h1,h2⟩:=h;exact⟨dx,tp,s _ _ h1 (fun _ z=>nomatch z),s _ _ h2 (fun _ z=>nomatch z)⟩
theorem Zf9 (f:Str) (v:V):∀fs:List (Str×V),(putF f v fs).length≤fs.length+1
 | []=>Nat.le_refl _
 | (g,x)::r=>by
  unfold putF
  by_cases h:g=f
  ·rw[if_pos h]; exact Nat.le_succ _
  ·rw[if_neg h]; exact Nat.succ_le_succ (Zf9 f v r)
def ZnN (C:Addr):Sp:=fun vs H Q _=>∃(p dx l:Addr) (m st bd:Nat) (af:List Nat),vs=[.ref p,.int (m:Int),.int (st:Int),.int (bd:Int),.ref l]∧H p=some (.ins C dx [])∧H l=some (.lst ((nums af).map V.int))∧GoodC m st bd af∧∀tp H',(∀b o,b≠p→H b=some o→H' b=some o)→H' tp=some (.tup ((nums af).map V.int))→H' p=some (.ins C dx (Zd0 m st bd tp))→Q .non H'
theorem ZoP (T:Txt K mg t):MkS P w K mg base 4 "Chart" t.Zak ["self","many","starts","bads","after"] (ZnN t.Zak):=by
 refine⟨T.Znf,_,_,T.Zm5,T.Zcj.ok Zih (fun vs H Q E h=>?_) (fun _ _ _ _ H vs Q E hr h=>?_),T.ZfH⟩
 ·obtain⟨p,dx,l,m,st,bd,ys,rfl,_⟩:=h
  rfl
 obtain⟨p,dx,l,m,st,bd,af,rfl,hp0,hl0,hg,q⟩:=h;have Zle:=Zj3 (P:=P) (w:=w) (base:=base) T;have z1:=Zf9 "many" (.int (m:Int)) [];have z2:=Zf9 "starts" (.int (st:Int)) (putF "many" (.int (m:Int)) []);have z3:=Zf9 "bads" (.int (bd:Int)) (putF "starts" (.int (st:Int)) (putF "many" (.int (m:Int)) []));rw[List.length_nil]at z1
 have hlp:l≠p:=fun e=>by rw[e,hp0]at hl0; cases hl0
 refine⟨_,(Zab (ZaZ (ZcX (Zan (ZaA Zle hr (Zaa (pv 1) (Zaa (pv 2) (Zaa (pv 3) (Zaa (pv 4) Zae))))) (fun _=>rfl)))
   (Zac Zo2)
   Zai)
   (Zab (Zk2 (pv 0) (pv 1) rfl)
   (Zab (Zk2 (pv 0) (pv 2) rfl)
   (Zab (Zk2 (pv 0) (pv 3) rfl)
   (Zac (Zk2 (pv 0) (Ze1 ZjJ rfl T.B.tuple Zkr (Zaa (pv 4) Zae)) rfl)))))),?_⟩
 walk_at "rd0";refine⟨m,st,bd,l,af,rfl,hl0,hg,fun H0 s0=>?_⟩;have hp:=s0 _ _ hp0;have hl:=s0 _ _ hl0;walk_at "";refine ZaQ rfl ?_;walk_at "";refine⟨p,_,_,_,rfl,hp,T.ZbB,T.Za2,by decide,?_⟩;walk_at "";refine⟨p,_,_,_,rfl,Zas,T.ZbB,T.Zbb,by omega,?_⟩;rw[Zn6];walk_at "";refine⟨p,_,_,_,rfl,Zas,T.ZbB,T.Zcl,by omega,?_⟩;rw[Zn6];walk_at "";refine Zsc (ys:=(nums af).map V.int) (by rw[ZaL hlp]; exact hl) fun tp htp=>?_
 have hpt:tp≠p:=fun e=>by rw[e,Zas]at htp; cases htp
 walk_at "";refine⟨p,_,_,_,rfl,by rw[ZaL (Ne.symm hpt)]; exact Zas,T.ZbB,T.Zbv,by omega,?_⟩;refine q tp _ (fun b o hb e0=>?_) (by rw[ZaL hpt]; exact Zas) Zas;have e:=s0 _ _ e0
 have hb':b≠tp:=fun z=>by rw[←z,ZaL hb,e]at htp; cases htp
 rw[ZaL hb,ZaL hb',ZaL hb];exact e
theorem ZqB {l:Addr} {m st bd:Nat} {af:List Nat} {H:Hp} {Q:VK} (hl:H l=some (.lst ((nums af).map V.int))) (hg:GoodC m st bd af) (h:∀(x:Addr) (H':Hp),Same H H'→H x=none→Zbd t H' x m st bd af→Q (.ref x) H') :
  MkG t.Zak (ZnN t.Zak) [.int (m:Int),.int (st:Int),.int (bd:Int),.ref l] H Q:=by
 intro x dx hx hdx ne;have s2:=ZnB hx hdx (.ins t.Zak dx []) (.own x);refine⟨x,dx,l,m,st,bd,_,rfl,Zas,s2 _ _ hl,hg,fun tp H' s3 h1 h2=>⟨rfl,?_⟩⟩;exact h x H' (fun b o e=>s3 b o (ZaF e hx) (s2 b o e)) hx ⟨dx,tp,h2,h1⟩
def isCh (t:Ad) (C:Addr):Prop:=C=t.Zak
theorem Zbd.ins {H:Hp} {p:Addr} {m st bd:Int} {af:List Nat} (h:Zbd t H p m st bd af) (f:Str) (h1 : ¬f = "after") (h2 : ¬f = "bads") (h3 : ¬f = "starts") (h4 : ¬f = "many"):∃C dx fs,H p=some (.ins C dx fs)∧isCh t C∧fs.lookup f=none:=by
 obtain⟨dx,tp,e,_⟩:=h;refine⟨_,dx,_,e,rfl,?_⟩;unfold Zd0;rw[Zam,if_neg h1,Zam,if_neg h2,Zam,if_neg h3,Zam,if_neg h4];rfl
theorem ZkM (m st bd:Int) (tp:Addr):(Zd0 m st bd tp).lookup ("after" : Str)=some (.ref tp):=by
 unfold Zd0;rw[Zam,if_pos rfl]
theorem Zic (m st bd:Int) (tp:Addr):(Zd0 m st bd tp).lookup ("many" : Str)=some (.int m):=by
 unfold Zd0;rw[Zam,if_neg (by decide),Zam,if_neg (by decide),Zam,if_neg (by decide),Zam,if_pos rfl]
theorem Zi1 (m st bd:Int) (tp:Addr):(Zd0 m st bd tp).lookup ("starts" : Str)=some (.int st):=by
 unfold Zd0;rw[Zam,if_neg (by decide),Zam,if_neg (by decide),Zam,if_pos rfl]
theorem ZqW (m st bd:Int) (tp:Addr):(Zd0 m st bd tp).lookup ("bads" : Str)=some (.int bd):=by
 unfold Zd0;rw[Zam,if_neg (by decide),Zam,if_pos rfl]
theorem Zna (s k:Nat):(!decide (Builtin.bitAnd ((s:Int) / 2 ^ ((k:Int)).toNat) 1=0))=s.testBit k:=by
 rw[Zfr]
 cases s.testBit k <;> rfl
theorem ZmK {af:List Nat} {i:Nat} {v:V} (h:((nums af).map V.int)[i]?=some v):i < af.length∧v=.int ((af.getD i 0:Nat):Int):=by
 have hi:i < af.length:=by
  have:=(List.getElem?_eq_some_iff.mp h).1;rw[Zbg]at this;exact this
 rw[ZdH hi]at h;exact⟨hi,(Option.some.inj h).symm⟩
def ZnK (t:Ad):Sp:=fun vs H Q _=>∃(p:Addr) (m st bd:Int) (af:List Nat) (s:Nat),vs=[.ref p,.int (s:Int)]∧Zbd t H p m st bd af∧∀H',Same H H'→Q (.int ((ahN af s:Nat):Int)) H'
theorem Zhg (T:Txt K mg t):MeS P w K mg base 1 t.Zak "ahead" ["self","crowd"] (spAt (ZnK t) t.Zak):=by
 refine⟨T.ZbB,_,_,T.Zbq.ok ZbF (fun vs H Q E h=>?_) (fun _ _ _ _ H vs Q E hr h=>?_),T.ZeM,T.ZeT⟩
 ·obtain⟨⟨p,m,st,bd,af,s,rfl,_⟩,_⟩:=h
  rfl
 obtain⟨⟨p,m,st,bd,af,n,rfl,hc,q⟩,_⟩:=h;obtain⟨dx,tp,e1,e2⟩:=hc
 refine⟨_,(Zab (ss 2 ZbF.nd Zad)
   (Zab (Zb3 PassesOwn.never rfl (Znt rfl T.B.enumerate (Ze2 (pv 0) rfl)) (Zp7 rfl (Zgc (sg 3 ZbF.nd) (Zgc (sg 4 ZbF.nd) Zns)))
   (Zac (ZaZ (Zan (Zah ZaG (Zah Zd5 (pv 1) (pv 3)) Zad) (fun _=>rfl))
   (Zac (ss 2 ZbF.nd (Zah Zft (pv 2) (pv 4))))
   Zai)))
   (Zac (Zaj (pv 2))))),?_⟩
 walk_at "rd0";refine⟨p,_,_,_,_,rfl,e1,T.ZbB,T.Zbv,ZkM _ _ _ _,?_⟩;refine ZsP (xs:=(nums af).map V.int) (fun i σ H'=>Same H H'∧∃v v',σ=[some (.ref p),some (.int (n:Int)),some (.int ((orUp (fun k=>if n.testBit k=true then af.getD k 0 else 0) i:Nat):Int)),v,v']) ⟨Same.refl _,_,_,rfl⟩ (fun i σ H' _ hp=>SqT.of (hp.1 _ _ e2)) ?_ ?_
 ·rintro i x T' σ H0 H' hx ⟨s1,v,v',rfl⟩ s2 n2 eT
  obtain⟨hi,rfl⟩:=ZmK hx;refine Zr2 eT ?_;walk_at "";rw[Zna];refine ZjQ (fun h1=>?_) (fun h1=>?_)
  ·walk_at ""
   rw[Zdw];refine⟨s1.trans s2,some (.int (i:Int)),some (.int ((af.getD i 0:Nat):Int)),?_⟩
   have e:orUp (fun k=>if n.testBit k=true then af.getD k 0 else 0) (i+1)=orUp (fun k=>if n.testBit k=true then af.getD k 0 else 0) i ||| af.getD i 0:=by
    show orUp _ i ||| (if n.testBit i=true then af.getD i 0 else 0)=_
    rw[if_pos h1]
   rw[e]
   all_goals rfl
  ·walk_at ""
   refine⟨s1.trans s2,some (.int (i:Int)),some (.int ((af.getD i 0:Nat):Int)),?_⟩;rw[ZgN (n:=i) (show(if n.testBit i=true then af.getD i 0 else 0)=0 by rw[h1,if_neg Bool.false_ne_true])]
   all_goals rfl
 ·rintro σ H' ⟨s1,v,v',rfl⟩
  rw[Zbg];walk_at "";exact q H' s1
theorem Zlc (T:Txt K mg t):∀C,isCh t C→MeS P w K mg base 1 C "ahead" ["self","crowd"] (spAt (ZnK t) C):=by
 rintro C rfl;exact Zhg T
def Zk7 (t:Ad):Sp:=fun vs H Q _=>∃(p:Addr) (m st bd:Int) (af:List Nat) (s:Nat),vs=[.ref p,.int (s:Int)]∧Zbd t H p m st bd af∧af.length≤64∧∀H',Same H H'→Q (.int ((behN af s:Nat):Int)) H'
theorem ZgI (T:Txt K mg t):MeS P w K mg base 1 t.Zak "behind" ["self","crowd"] (spAt (Zk7 t) t.Zak):=by
 refine⟨T.ZbB,_,_,T.Za7.ok Zbo (fun vs H Q E h=>?_) (fun _ _ _ _ H vs Q E hr h=>?_),T.Zew,T.Zey⟩
 ·obtain⟨⟨p,m,st,bd,af,s,rfl,_⟩,_⟩:=h
  rfl
 obtain⟨⟨p,m,st,bd,af,n,rfl,hc,h64,q⟩,_⟩:=h;obtain⟨dx,tp,e1,e2⟩:=hc
 refine⟨_,(Zab (ss 2 Zbo.nd Zad)
   (Zab (Zb3 PassesOwn.never rfl (Znt rfl T.B.enumerate (Ze2 (pv 0) rfl)) (Zp7 rfl (Zgc (sg 3 Zbo.nd) (Zgc (sg 4 Zbo.nd) Zns)))
   (Zac (ZaZ (Zan (Zah ZaG (pv 4) (pv 1)) (fun _=>rfl))
   (Zac (ss 2 Zbo.nd (Zah Zft (pv 2) (Zah ZbX Zad (pv 3)))))
   Zai)))
   (Zac (Zaj (pv 2))))),?_⟩
 walk_at "rd0";refine⟨p,_,_,_,_,rfl,e1,T.ZbB,T.Zbv,ZkM _ _ _ _,?_⟩;refine ZsP (xs:=(nums af).map V.int) (fun i σ H'=>Same H H'∧∃v v',σ=[some (.ref p),some (.int (n:Int)),some (.int ((bits (fun k=>decide (af.getD k 0 &&& n≠0)) i:Nat):Int)),v,v']) ⟨Same.refl _,_,_,rfl⟩ (fun i σ H' _ hp=>SqT.of (hp.1 _ _ e2)) ?_ ?_
 ·rintro i x T' σ H0 H' hx ⟨s1,v,v',rfl⟩ s2 n2 eT
  obtain⟨hi,rfl⟩:=ZmK hx;refine Zr2 eT ?_;walk_at "";rw[ZbA];refine Zow (fun h1=>?_) (fun h1=>?_)
  ·walk_at ""
   refine⟨s1.trans s2,some (.int (i:Int)),some (.int ((af.getD i 0:Nat):Int)),?_⟩;rw[Zp4 (f:=fun k=>decide (af.getD k 0 &&& n≠0)) (decide_eq_true (by omega))]
   all_goals rfl
  ·walk_at ""
   refine⟨s1.trans s2,some (.int (i:Int)),some (.int ((af.getD i 0:Nat):Int)),?_⟩;rw[ZiD (fun k=>decide (af.getD k 0 &&& n≠0)) i (decide_eq_false (by omega))]
   all_goals rfl
 ·rintro σ H' ⟨s1,v,v',rfl⟩
  rw[Zbg];walk_at "";exact q H' s1
theorem Zju (T:Txt K mg t):∀C,isCh t C→MeS P w K mg base 1 C "behind" ["self","crowd"] (spAt (Zk7 t) C):=by
 rintro C rfl;exact ZgI T
def ZnM:Sp:=fun vs H Q _=>∃(m:Nat) (p:Addr) (b:Bar),vs=[.int (m:Int),.ref p]∧m≤6∧ZaR H p b∧b.good∧Q (.int ((ZaD (2 ^ m) b:Nat):Int)) H
def Zhe (i:Nat) (b:Bar) (s:Nat):Bool:=(List.range i).all fun k=>!(b.1.testBit k && (b.2.testBit k != s.testBit k))
theorem Zek (i:Nat) (b:Bar) (s:Nat):Zhe (i+1) b s=(Zhe i b s && !(b.1.testBit i && (b.2.testBit i != s.testBit i))):=by
 unfold Zhe;rw[List.range_succ,List.all_append,List.all_cons,List.all_nil,Bool.and_true]
theorem Zm9 (b:Bar) (i r j:Nat) (hj:j≤i):Zhe j b (2 ^ i+r)=Zhe j b r:=by
 unfold Zhe;apply Bool.eq_iff_iff.mpr;rw[all_eq_true,all_eq_true]
 constructor
 ·intro h k hk
  have:=h k hk;rw[Nat.testBit_two_pow_add_gt (by have:=mem_range.mp hk; omega)]at this;exact this
 ·intro h k hk
  have:=h k hk;rw[Nat.testBit_two_pow_add_gt (by have:=mem_range.mp hk; omega)];exact this
theorem Zlo (f:Nat→Bool) (n:Nat):∀m,bits f (n+m)=bits f n ||| (bits (fun r=>f (n+r)) m) <<< n:=fun m=>by
 apply Nat.eq_of_testBit_eq;intro k;rw[Zaq,Nat.testBit_or,Zaq,Nat.testBit_shiftLeft,Zaq]
 by_cases h:k < n
 ·rw[decide_eq_true (show k < n+m by omega),decide_eq_true h,decide_eq_false (show ¬k ≥ n by omega),Bool.false_and,Bool.or_false]
 ·rw[decide_eq_false h,Bool.false_and,Bool.false_or,decide_eq_true (show k ≥ n by omega),Bool.true_and,show n+(k - n)=k by omega]
  congr 1
  exact decide_eq_decide.mpr (by omega)
def crU (b:Bar) (i:Nat):Nat:=bits (Zhe i b) (2 ^ i)
theorem ZjY {i s:Nat} (h:s < 2 ^ i):s.testBit i=false:=Nat.testBit_lt_two_pow h
theorem ZkB {i r:Nat} (h:r < 2 ^ i):(2 ^ i+r).testBit i=true:=by
 rw[Nat.testBit_two_pow_add_eq,ZjY h]; rfl
theorem ZrL (b:Bar) (i:Nat) (f:Bool) (hf:(!(b.1.testBit i && (b.2.testBit i != false)))=f):bits (Zhe (i+1) b) (2 ^ i)=if f=true then crU b i else 0:=by
 cases f with
 | true=>exact ZdA fun s hs=>by rw[Zek,ZjY hs,hf,Bool.and_true]
 | false=>rw[if_neg Bool.false_ne_true,←Zea (2 ^ i)]; exact ZdA fun s hs=>by rw[Zek,ZjY hs,hf,Bool.and_false]
theorem ZrK (b:Bar) (i:Nat) (f:Bool) (hf:(!(b.1.testBit i && (b.2.testBit i != true)))=f):bits (fun r=>Zhe (i+1) b (2 ^ i+r)) (2 ^ i)=if f=true then crU b i else 0:=by
 cases f with
 | true=>exact ZdA fun s hs=>by rw[Zek,ZkB hs,hf,Bool.and_true,Zm9 b i s i (Nat.le_refl _)]
 | false=>rw[if_neg Bool.false_ne_true,←Zea (2 ^ i)]; exact ZdA fun s hs=>by rw[Zek,ZkB hs,hf,Bool.and_false]
theorem ZhZ (b:Bar) (i:Nat):crU b (i+1)=(if (!(b.1.testBit i && (b.2.testBit i != false)))=true then crU b i else 0) ||| (if (!(b.1.testBit i && (b.2.testBit i != true)))=true then crU b i else 0) <<< 2 ^ i:=by
 unfold crU;rw[show 2 ^ (i+1)=2 ^ i+2 ^ i by rw[Nat.pow_succ]; omega,Zlo,ZrL b i _ rfl,ZrK b i _ rfl];rfl
theorem Zol {b:Bar} {i:Nat} (h:b.1.testBit i=false):crU b (i+1)=crU b i ||| crU b i <<< 2 ^ i:=by
 rw[ZhZ,h]; rfl
theorem Zqt {b:Bar} {i:Nat} (h:b.1.testBit i=true) (h2:b.2.testBit i=true):crU b (i+1)=crU b i <<< 2 ^ i:=by
 rw[ZhZ,h,h2]
 show 0 ||| crU b i <<< 2 ^ i=_
 rw[Nat.zero_or]
theorem Zok {b:Bar} {i:Nat} (h:b.1.testBit i=true) (h2:b.2.testBit i=false):crU b (i+1)=crU b i:=by
 rw[ZhZ,h,h2]
 show crU b i ||| 0 <<< 2 ^ i=_
 rw[Nat.zero_shiftLeft,Nat.or_zero]
theorem Zqs {b:Bar} {m:Nat} (g:b.good) (hm:m≤6) (h:b.2 < 2 ^ m):crU b m=ZaD (2 ^ m) b:=by
 unfold crU ZaD;refine ZdA fun s hs=>?_;apply Bool.eq_iff_iff.mpr;rw[Zib];unfold Zhe;rw[all_eq_true]
 constructor
 ·intro q k hk hb
  by_cases e:k < m
  ·have:=q k (mem_range.mpr e)
   rw[hb]at this
   simpa using this
  ·rw[Zeo h (by omega),Zeo hs (by omega)]
 ·intro q k hk
  have hk:=mem_range.mp hk
  cases hb:b.1.testBit k with
  | false=>rfl
  | true=>simp[q k (by omega) hb]
theorem Zlq {b:Bar} {m:Nat} (g:b.good) (h : ¬b.2 < 2 ^ m):ZaD (2 ^ m) b=0:=by
 unfold ZaD;rw[←Zea (2 ^ m)];refine ZdA fun s hs=>?_
 cases z:lies s b with
 | false=>rfl
 | true=>
  rw[Zib]at z
  exfalso
  apply h;apply Nat.lt_pow_two_of_testBit;intro k hk
  cases e:b.2.testBit k with
  | false=>rfl
  | true=>
   have e1:b.1.testBit k=true:=by
    cases e2:b.1.testBit k with
    | true=>rfl
    | false=>rw[ZkA g e2]at e; cases e
   have:=z k (ZjN g e1) e1;rw[e,Zeo hs hk]at this
   cases this
theorem Zrj (n m:Nat):((n:Int) / 2 ^ ((m:Int)).toNat)=((n / 2 ^ m:Nat):Int):=by simp
theorem Zk4 (n m:Nat):(n:Int) * 2 ^ ((m:Int)).toNat=((n <<< m:Nat):Int):=by
 rw[Nat.shiftLeft_eq]; simp
theorem Zp1 (s k:Nat):decide (Builtin.bitAnd ((s:Int) / 2 ^ ((k:Int)).toNat) 1≠0)=s.testBit k:=by
 rw[Zfr]
 cases s.testBit k <;> rfl
theorem dne (i:Int):(!decide (i=0))=decide (i≠0):=by simp
theorem ZeH (T:Txt K mg t):FnS P w K mg base 1 "crowd_of" ["many","bar"] (ZnM):=by
 refine⟨_,_,T.ZcE.ok Zcd (fun vs H Q E h=>?_) (fun _ _ _ _ H vs Q E hr h=>?_),T.Zhp,T.ZcE.kp,T.ZhE⟩
 ·obtain⟨m,p,b,rfl,hm,hb,hg,q⟩:=h
  rfl
 obtain⟨m,p,b,rfl,hm,hb,hg,q⟩:=h;have hp:=Za6 hm
 refine⟨_,(Zab (ZaZ (Zan (Zah Zd5 (Zcm ZbD (pv 1) Zad (fun _ _=>rfl)) (pv 0)) (fun _=>rfl))
   (Zac (Zaj Zad))
   Zai)
   (Zab (ss 2 Zcd.nd Zad)
   (Zab (Zb3 PassesOwn.never rfl (Zbn rfl T.B.range (Zaa (pv 0) Zae)) (sg 3 Zcd.nd)
   (Zab (ss 4 Zcd.nd (Zah ZbX (pv 2) (Zah ZbX Zad (pv 3))))
   (Zac (ZaZ (ZcX (Zan (Zah ZaG (Zah Zd5 (Zcm ZbD (pv 1) Zad (fun _ _=>rfl)) (pv 3)) Zad) (fun _=>rfl)))
   (Zac (ss 2 Zcd.nd (Zah Zft (pv 2) (pv 4))))
   (Zac (ZaZ (Zan (Zah ZaG (Zah Zd5 (Zcm ZbD (pv 1) Zad (fun _ _=>rfl)) (pv 3)) Zad) (fun _=>rfl))
   (Zac (ss 2 Zcd.nd (pv 4)))
   Zai))))))
   (Zac (Zaj (pv 2)))))),?_⟩
 walk_at "rd0";refine Zes hb (v:=.int (b.2:Int)) rfl ?_;walk_at "";rw[Zrj];refine Zow (fun h1=>?_) (fun h1=>?_)
 ·walk_at ""
  rw[Zlq hg (fun z=>h1 (by rw[Nat.div_eq_of_lt z]; rfl))]at q;exact q
 have hlt:b.2 < 2 ^ m:=by
  have e:b.2 / 2 ^ m=0:=by omega
  rcases Nat.div_eq_zero_iff.mp e with z | z
  ·exact absurd z (Nat.ne_of_gt (Nat.two_pow_pos m))
  ·exact z
 walk_at "";refine⟨_,rfl,by omega,by omega,?_⟩;rw[Int.toNat_natCast];refine ZfQ (fun i σ H'=>H'=H∧∃v v',σ=[some (.int (m:Int)),some (.ref p),some (.int ((crU b i:Nat):Int)),v,v']) ⟨rfl,_,_,rfl⟩ ?_ ?_
 ·rintro i σ H' hi ⟨rfl,v,v',rfl⟩
  have hpi:=Za6 (show i≤6 by omega);walk_at "";rw[Zbe];refine i_rI ⟨Int.natCast_nonneg _,by omega,?_⟩ ?_
  ·rw[Int.natAbs_natCast]
   exact Nat.lt_of_lt_of_le (ZdB _ _) (Nat.pow_le_pow_right (by decide) hpi)
  walk_at "";refine Zes hb (v:=.int (b.1:Int)) rfl ?_;walk_at "";rw[dne,Zp1]
  cases h1:b.1.testBit i with
  | false=>
   refine ZcA rfl ?_;walk_at "";rw[Zk4,Zdw,←Zol h1];exact⟨rfl,_,_,rfl⟩
  | true=>
   refine ZaQ rfl ?_;walk_at "";refine Zes hb (v:=.int (b.2:Int)) rfl ?_;walk_at "";rw[dne,Zp1];refine ZjQ (fun h2=>?_) (fun h2=>?_)
   ·walk_at ""
    rw[Zk4,←Zqt h1 h2];exact⟨rfl,_,_,rfl⟩
   ·walk_at ""
    rw[←Zok h1 h2];exact⟨rfl,_,_,rfl⟩
 ·rintro σ H' ⟨rfl,v,v',rfl⟩
  walk_at "";rw[Zqs hg hm hlt];exact q
def Zap (n:Nat) (bs:List Bar):Nat:=bits (fun s=>bs.any (lies s)) n
theorem Ze5 (n:Nat):Zap n []=0:=by unfold Zap; simp only [any_nil]; exact Zea n
theorem ZfB (n:Nat) (bs:List Bar) (b:Bar):Zap n (bs++[b])=Zap n bs ||| ZaD n b:=by
 unfold Zap ZaD;rw[Zqr]
 exact ZdA fun s hs=>by rw[List.any_append,List.any_cons,any_nil,Bool.or_false]
theorem Zij (n:Nat) (bs:List Bar):Zap n bs < 2 ^ n:=ZdB _ _
def ZnQ:Sp:=fun vs H Q _=>∃(m:Nat) (l:Addr) (ps:List Addr) (bs:List Bar),vs=[.int (m:Int),.ref l]∧m≤6∧H l=some (.lst (ps.map V.ref))∧Paired (ZaR H) ps bs∧(∀b∈bs,b.good)∧Q (.int ((Zap (2 ^ m) bs:Nat):Int)) H
theorem ZgM (T:Txt K mg t):FnS P w K mg base 2 "shut_out" ["many","bars"] (ZnQ):=by
 refine⟨_,_,T.ZcJ.ok ZdO (fun vs H Q E h=>?_) (fun _ _ _ _ H vs Q E hr h=>?_),T.Zhu,T.ZcJ.kp,T.ZhJ⟩
 ·obtain⟨m,l,ps,bs,rfl,hm,hl,hb,hg,q⟩:=h
  rfl
 obtain⟨m,l,ps,bs,rfl,hm,hl,hb,hg,q⟩:=h;have Zdo:=ZeH (P:=P) (w:=w) (base:=base) T
 refine⟨_,(Zab (ss 2 ZdO.nd Zad)
   (Zab (Zb3 PassesOwn.never rfl (ZdV (pv 1)) (sg 3 ZdO.nd)
   (Zac (ss 2 ZdO.nd (Zah Zft (pv 2) (ZaA Zdo hr (Zaa (pv 0) (Zaa (pv 3) Zae)))))))
   (Zac (Zaj (pv 2))))),?_⟩
 walk_at "rd0";refine seqL (xs:=ps.map V.ref) (fun i σ H'=>H'=H∧∃v,σ=[some (.int (m:Int)),some (.ref l),some (.int ((Zap (2 ^ m) (bs.take i):Nat):Int)),v]) ⟨rfl,_,by rw[take_zero,Ze5]; rfl⟩ (fun i σ H' _ hp=>by obtain⟨rfl,_⟩:=hp; exact SqL.of hl) ?_ ?_
 ·rintro i x σ H' hx ⟨rfl,v,rfl⟩
  obtain⟨p,rfl,hx'⟩:=ZeE hx;obtain⟨b,hbi,hbp⟩:=Zbc hb hx';walk_at "";refine⟨m,p,b,rfl,hm,hbp,hg b (mem_of_getElem? hbi),?_⟩;walk_at "";refine⟨rfl,some (.ref p),?_⟩;rw[Zdw,ZcY hbi,ZfB]
  all_goals rfl
 ·rintro σ H' ⟨rfl,v,rfl⟩
  walk_at "";rw[length_map,ZaI hb,take_length];exact q
def Zrq:Sp:=fun vs H Q _=>∃c:Nat,vs=[.int (c:Int)]∧0 < c∧Q (.int ((lowN c:Nat):Int)) H
theorem ZkS (T:Txt K mg t):FnS P w K mg base 1 "least" ["crowd"] (Zrq):=by
 refine⟨_,_,T.Zfb.ok Zpe (fun vs H Q E h=>?_) (fun _ _ _ _ H vs Q E hr h=>?_),T.Zmj,T.Zfb.kp,T.Zni⟩
 ·obtain⟨c,rfl,hc,q⟩:=h
  rfl
 obtain⟨c,rfl,hc,q⟩:=h;refine⟨_,(Zac (Zaj (Zah ZhL (Zp5 PySem.F.plainAttrs_int PySem.F.slot_int_bit_length PySem.F.type_int_bit_length ZeZ (Zah ZaG (pv 0) (Zjd Zs7 (pv 0)))) Zad))),?_⟩;walk_at "rd0";rw[ZqX hc];exact q
inductive Flt where
 | ok
 | start (s:Nat)
 | step (s t:Nat)
 | bad (s:Nat)
def Zoc (H:Hp):Flt→V→Prop
 | .ok,x=>x=.non
 | .start s,x=>∃p,x=.ref p∧H p=some (.tup [.str "start",.int (s:Int)])
 | .step s t,x=>∃p,x=.ref p∧H p=some (.tup [.str "step",.int (s:Int),.int (t:Int)])
 | .bad s,x=>∃p,x=.ref p∧H p=some (.tup [.str "bad",.int (s:Int)])
def srcN (af:List Nat) (c:Nat):Nat:=behN af c - (behN af c &&& c)
def ZfO (af:List Nat) (st bd c:Nat):Flt:=if st &&& c≠0 then .start (lowN (st &&& c)) else if srcN af c≠0 then .step (lowN (srcN af c)) (lowN (af.getD (lowN (srcN af c)) 0 &&& c)) else if bd - (bd &&& c)≠0 then .bad (lowN (bd - (bd &&& c))) else .ok
theorem Zg0 (af:List Nat) (c k:Nat):(srcN af c).testBit k=true ↔ k < af.length∧af.getD k 0 &&& c≠0∧c.testBit k=false:=by
 unfold srcN;rw[Zbp,Bool.and_eq_true];unfold behN;rw[Zaq,Bool.and_eq_true,decide_eq_true_iff,decide_eq_true_iff]
 constructor
 ·rintro⟨⟨h1,h2⟩,h3⟩
  exact⟨h1,h2,by simpa using h3⟩
 ·rintro⟨h1,h2,h3⟩
  exact⟨⟨h1,h2⟩,by rw[h3]; rfl⟩
def Zrn (t:Ad):Sp:=fun vs H Q _=>∃(p:Addr) (m st bd c:Nat) (af:List Nat),vs=[.ref p,.int (c:Int)]∧Zbd t H p m st bd af∧GoodC m st bd af∧c < 2 ^ 2 ^ m∧(srcN af c=0→∀H',Same H H'→Q .non H')∧(srcN af c≠0→∀x H',Same H H'→Zoc H' (.step (lowN (srcN af c)) (lowN (af.getD (lowN (srcN af c)) 0 &&& c))) x→Q x H')
theorem Zfs (T:Txt K mg t):FnS P w K mg base 2 "first_crossing" ["chart","inside"] ((Zrn t)):=by
 refine⟨_,_,T.ZaT.ok Zcf (fun vs H Q E h=>?_) (fun _ _ _ _ H vs Q E hr h=>?_),T.ZdR,T.ZaT.kp,T.ZdU⟩
 ·obtain⟨p,m,st,bd,c,af,rfl,hC,hG,hc,q1,q2⟩:=h
  rfl
 obtain⟨p,m,st,bd,c,af,rfl,hC,hG,hc,q1,q2⟩:=h;have Zgh:=ZkS (P:=P) (w:=w) (base:=base) T;have D_ahead:=Zlc (P:=P) (w:=w) (base:=base) T;have D_behind:=Zju (P:=P) (w:=w) (base:=base) T;have hp:=Za6 hG.m6;have ln:=hG.ln;obtain⟨C,dx,fs,ei,hi,lk⟩:=hC.ins "ahead" (by decide) (by decide) (by decide) (by decide);obtain⟨C',dx',fs',ei',hi',lk'⟩:=hC.ins "behind" (by decide) (by decide) (by decide) (by decide)
 refine⟨_,(Zab (ss 2 Zcf.nd (Zah ZaG (ZsE D_behind hr (pv 0) (Zaa (pv 1) Zae)) (Zjd Zg2 (pv 1))))
   (Zab (ZaZ (Zal (ZbW hr.units) (pv 2) Zad (Zaw _))
   (Zac (Zaj ZfW))
   Zai)
   (Zab (ss 3 Zcf.nd (ZaA Zgh hr (Zaa (pv 2) Zae)))
   (Zac (Zaj (ZeC (Zaa ZkZ (Zaa (pv 3) (Zaa (ZaA Zgh hr (Zaa (Zah ZaG (ZsE D_ahead hr (pv 0) (Zaa (Zah ZbX Zad (pv 3)) Zae)) (pv 1)) Zae)) Zae))))))))),?_⟩
 walk_at "rd0";refine⟨p,C',dx',fs',rfl,ei',hi',lk',?_⟩;walk_at "";refine⟨ei',p,_,_,_,af,_,rfl,hC,by omega,fun H1 s1=>?_⟩;walk_at "";rw[Za9]
 change (if decide (((srcN af c:Nat):Int)=0)=true then _ else _)
 refine Zg8 (fun h1=>?_) (fun h1=>?_)
 ·walk_at ""
  exact q1 (by omega) H1 s1
 ·have hs:srcN af c≠0:=by omega
  have hb:=(Zi2 (Nat.pos_of_ne_zero hs)).1;obtain⟨b1,b2,b3⟩:=(Zg0 af c _).mp hb;walk_at "";refine⟨srcN af c,rfl,Nat.pos_of_ne_zero hs,?_⟩;walk_at "";refine⟨p,C,dx,fs,rfl,s1 _ _ ei,hi,lk,?_⟩;walk_at "";rw[Zbe];refine⟨s1 _ _ ei,p,_,_,_,af,_,rfl,hC.mono (Ext.of s1),fun H2 s2=>?_⟩;rw[Zme b1];walk_at "";rw[ZbA];refine⟨_,rfl,Nat.pos_of_ne_zero b2,?_⟩;walk_at "";refine Zhb (Nat.le_of_ble_eq_true rfl) fun px H3 s3 n3 e3=>?_;exact q2 hs _ H3 (s1.trans (s2.trans s3)) ⟨px,rfl,e3⟩
def Zpl (t:Ad):Sp:=fun vs H Q _=>∃(p:Addr) (m st bd c:Nat) (af:List Nat),vs=[.ref p,.int (c:Int)]∧Zbd t H p m st bd af∧GoodC m st bd af∧c < 2 ^ 2 ^ m∧∀x H',Same H H'→Zoc H' (ZfO af st bd c) x→Q x H'
theorem Zdv (T:Txt K mg t):FnS P w K mg base 3 "fault_of_crowd" ["chart","inside"] ((Zpl t)):=by
 refine⟨_,_,T.ZaS.ok Zce (fun vs H Q E h=>?_) (fun _ _ _ _ H vs Q E hr h=>?_),T.ZdQ,T.ZaS.kp,T.ZdT⟩
 ·obtain⟨p,m,st,bd,c,af,rfl,hC,hG,hc,q⟩:=h
  rfl
 obtain⟨p,m,st,bd,c,af,rfl,hC,hG,hc,q⟩:=h;have Zgh:=ZkS (P:=P) (w:=w) (base:=base) T;have Zf0:=Zfs (P:=P) (w:=w) (base:=base) T;obtain⟨dy,tp,c1,c2⟩:=id hC
 refine⟨_,(Zab (ZaZ (Zan (Zah ZaG (Ze2 (pv 0) rfl) (pv 1)) (fun _=>rfl))
   (Zac (Zaj (ZeC (Zaa ZkZ (Zaa (ZaA Zgh hr (Zaa (Zah ZaG (Ze2 (pv 0) rfl) (pv 1)) Zae)) Zae)))))
   Zai)
   (Zab (ss 2 Zce.nd (ZaA Zf0 hr (Zaa (pv 0) (Zaa (pv 1) Zae))))
   (Zab (ZaZ (Zal Zq8 (pv 2) ZfW (Zaw _))
   (Zac (Zaj (pv 2)))
   Zai)
   (Zab (ss 3 Zce.nd (Zah ZaG (Ze2 (pv 0) rfl) (Zjd Zg2 (pv 1))))
   (Zab (ZaZ (Zan (pv 3) (fun _=>rfl))
   (Zac (Zaj (ZeC (Zaa ZkZ (Zaa (ZaA Zgh hr (Zaa (pv 3) Zae)) Zae)))))
   Zai)
   (Zac (Zaj ZfW))))))),?_⟩
 walk_at "rd0";refine⟨p,_,_,_,_,rfl,c1,T.ZbB,T.Zbb,Zi1 _ _ _ _,?_⟩;walk_at "";rw[ZbA];refine Zow (fun h1=>?_) (fun h1=>?_)
 ·have h1':st &&& c≠0:=by omega
  walk_at "";refine⟨p,_,_,_,_,rfl,c1,T.ZbB,T.Zbb,Zi1 _ _ _ _,?_⟩;walk_at "";rw[ZbA];refine⟨_,rfl,Nat.pos_of_ne_zero h1',?_⟩;walk_at "";refine Zhb (Nat.le_of_ble_eq_true rfl) fun px H3 s3 n3 e3=>?_;refine q _ H3 s3 ?_;unfold ZfO;rw[if_pos h1'];exact⟨px,rfl,e3⟩
 ·have h1' : ¬st &&& c≠0:=by omega
  walk_at "";refine⟨p,m,st,bd,c,af,rfl,hC,hG,hc,fun h2 H1 s1=>?_,fun h2 x H1 s1 hx=>?_⟩
  ·walk_at ""
   refine⟨rfl,?_⟩;walk_at "";refine ZaQ (by simp) ?_;walk_at "";refine⟨p,_,_,_,_,rfl,s1 _ _ c1,T.ZbB,T.Zcl,ZqW _ _ _ _,?_⟩;walk_at "";rw[Za9];refine Zow (fun h3=>?_) (fun h3=>?_)
   ·have h3':bd - (bd &&& c)≠0:=by omega
    walk_at "";refine⟨_,rfl,Nat.pos_of_ne_zero h3',?_⟩;walk_at "";refine Zhb (Nat.le_of_ble_eq_true rfl) fun px H3 s3 n3 e3=>?_;refine q _ H3 (s1.trans s3) ?_;unfold ZfO;rw[if_neg h1',if_neg (fun z=>z h2),if_pos h3'];exact⟨px,rfl,e3⟩
   ·walk_at ""
    refine q _ H1 s1 ?_;unfold ZfO;rw[if_neg h1',if_neg (fun z=>z h2),if_neg (by omega)];rfl
  ·walk_at ""
   refine⟨rfl,?_⟩;walk_at "";have hx':=hx;obtain⟨px,rfl,_⟩:=hx;refine ZcA (by simp) ?_;walk_at "";refine q _ H1 s1 ?_;unfold ZfO;rw[if_neg h1',if_pos h2];exact hx'
def Zro (t:Ad):Sp:=fun vs H Q _=>∃(p l:Addr) (m st bd:Nat) (af:List Nat) (ps:List Addr) (bs:List Bar),vs=[.ref p,.ref l]∧Zbd t H p m st bd af∧GoodC m st bd af∧H l=some (.lst (ps.map V.ref))∧Paired (ZaR H) ps bs∧(∀b∈bs,b.good)∧∀x H',Same H H'→Zoc H' (ZfO af st bd (Zap (2 ^ m) bs)) x→Q x H'
theorem ZoQ (T:Txt K mg t):FnS P w K mg base 4 "fault" ["chart","bars"] ((Zro t)):=by
 refine⟨_,_,T.Zfa.ok Zpd (fun vs H Q E h=>?_) (fun _ _ _ _ H vs Q E hr h=>?_),T.Zmi,T.Zfa.kp,T.Znh⟩
 ·obtain⟨p,l,m,st,bd,af,ps,bs,rfl,hC,hG,hl,hb,hg,q⟩:=h
  rfl
 obtain⟨p,l,m,st,bd,af,ps,bs,rfl,hC,hG,hl,hb,hg,q⟩:=h;have Zfg:=ZgM (P:=P) (w:=w) (base:=base) T;have Zcp:=Zdv (P:=P) (w:=w) (base:=base) T;obtain⟨dy,tp,c1,c2⟩:=id hC;refine⟨_,(Zac (Zaj (ZaA Zcp hr (Zaa (pv 0) (Zaa (ZaA Zfg hr (Zaa (Ze2 (pv 0) rfl) (Zaa (pv 1) Zae))) Zae))))),?_⟩;walk_at "rd0";refine⟨p,_,_,_,_,rfl,c1,T.ZbB,T.Za2,Zic _ _ _ _,?_⟩;walk_at "";refine⟨m,l,ps,bs,rfl,hG.m6,hl,hb,hg,?_⟩;walk_at "";exact⟨p,m,st,bd,_,af,rfl,hC,hG,Zij _ _,q⟩
def ZeF (b:Bar):List Nat:=(List.range 6).filter fun k=>b.1.testBit k
def vi (k:Nat):V:=.int (k:Int)
theorem Zq3 (l:List Nat):(nums l).map V.int=l.map vi:=by unfold nums; rw[List.map_map]; rfl
theorem Zoh {n:Nat} (h:n < 64):(List.range (Builtin.Int.intBits (n:Int))).filter (fun k=>n.testBit k)=(List.range 6).filter (fun k=>n.testBit k)∧Builtin.Int.intBits (n:Int)≤6:=by
 have z:∀n:Fin 64,(List.range (Builtin.Int.intBits ((n.val:Nat):Int))).filter (fun k=>n.val.testBit k)=(List.range 6).filter (fun k=>n.val.testBit k)∧Builtin.Int.intBits ((n.val:Nat):Int)≤6:=by decide +kernel
 exact z ⟨n,h⟩
def ZnL:Sp:=fun vs H Q _=>∃(p:Addr) (b:Bar),vs=[.ref p]∧ZaR H p b∧b.1 < 64∧∀l H',Same H H'→H l=none→H' l=some (.lst ((ZeF b).map vi))→Q (.ref l) H'
theorem Zj2 (T:Txt K mg t):FnS P w K mg base 1 "asked_by" ["bar"] (ZnL):=by
 refine⟨_,_,T.ZcD.ok Zke (fun vs H Q E h=>?_) (fun _ _ _ _ H vs Q E hr h=>?_),T.Zho,T.ZcD.kp,T.ZhD⟩
 ·obtain⟨p,b,rfl,hb,h64,q⟩:=h
  rfl
 obtain⟨p,b,rfl,hb,h64,q⟩:=h;obtain⟨ef,hl6⟩:=Zoh h64;refine⟨_,(Zac (Zaj (Znp (sc:=Zag Zem) (N:=["bar"]) (ns:=["bar"]) (ix:=[0]) rfl rfl (by decide +kernel) rfl (Zbn rfl T.B.range (Zaa (Zp5 PySem.F.plainAttrs_int PySem.F.slot_int_bit_length PySem.F.type_int_bit_length ZeZ (Zcm ZbD (pv 0) Zad (fun _ _=>rfl))) Zae)) (fun _ _ _ _=>(Zif (ZgT (K:=K) rfl (Zah ZaG (Zah Zd5 (Zcm (Zfp (K:=K) rfl) (pv 1) Zad (fun _ _=>rfl)) (pv 0)) Zad) (fun _=>rfl)))) (fun _ _ _ _=>(pv 0))))),?_⟩;walk_at "rd0";refine Zes hb (v:=.int (b.1:Int)) rfl ?_;walk_at "";refine⟨_,rfl,by omega,by omega,?_⟩;rw[Int.toNat_natCast];refine Zlp (fun k=>b.1.testBit k) (by omega) ?_ ?_ ?_
 ·intro i H' hi s1 R k
  simp only [subS,map_cons,map_nil];walk_at "";refine Zes (s1 _ _ hb) (v:=.int (b.1:Int)) rfl ?_;walk_at "";rw[Zna];exact k H' (Same.refl _)
 ·intro i H' hi s1 R k
  simp only [subS,map_cons,map_nil];walk_at "";exact k H' (Same.refl _)
 ·intro l H' n1 s1 e1
  rw[ef,Zq3]at e1;exact q l H' s1 n1 e1
def ZnR:Sp:=fun vs H Q _=>∃(p:Addr) (b:Bar) (k:Nat),vs=[.ref p,.int (k:Int)]∧k≤6∧ZaR H p b∧∀p' H',Same H H'→H p'=none→ZaR H' p' (b.wo k)→Q (.ref p') H'
theorem ZlM (T:Txt K mg t):FnS P w K mg base 1 "without" ["bar","lamp"] (ZnR):=by
 refine⟨_,_,T.Zdn.ok ZhP (fun vs H Q E h=>?_) (fun _ _ _ _ H vs Q E hr h=>?_),T.Ziy,T.Zdn.kp,T.Zi7⟩
 ·obtain⟨p,b,k,rfl,hk,hb,q⟩:=h
  rfl
 obtain⟨p,b,k,rfl,hk,hb,q⟩:=h;have hp:=Za6 hk
 refine⟨_,(Zab (ss 2 ZhP.nd (Zjd Zg2 (Zah ZbX Zad (pv 1))))
   (Zac (Zaj (ZeC (Zaa (Zah ZaG (Zcm ZbD (pv 0) Zad (fun _ _=>rfl)) (pv 2)) (Zaa (Zah ZaG (Zcm ZbD (pv 0) Zad (fun _ _=>rfl)) (pv 2)) Zae)))))),?_⟩
 walk_at "rd0";rw[Zbe];refine Zes hb (v:=.int (b.1:Int)) rfl ?_;walk_at "";refine Zes hb (v:=.int (b.2:Int)) rfl ?_;walk_at "";rw[Za9,Za9];exact Zhb (Nat.le_of_ble_eq_true rfl) fun p' H' s1 n1 e1=>q p' H' s1 n1 e1
theorem wo1 (b:Bar) (k j:Nat):(b.wo k).1.testBit j=(b.1.testBit j && !decide (k=j)):=Zg1 _ _ _
theorem wo2 (b:Bar) (k j:Nat):(b.wo k).2.testBit j=(b.2.testBit j && !decide (k=j)):=Zg1 _ _ _
theorem Zkp {b:Bar} (g:b.good) (k:Nat):(b.wo k).good:=by
 constructor
 ·exact Nat.lt_of_le_of_lt (Nat.sub_le _ _) g.1
 ·apply Nat.eq_of_testBit_eq
  intro j;rw[Nat.testBit_and,wo1,wo2]
  cases e:b.1.testBit j with
  | true=>simp
  | false=>rw[ZkA g e]; rfl
theorem ZiY {b:Bar} (g:b.good) {k:Nat}:k∈ZeF b ↔ b.1.testBit k=true:=by
 unfold ZeF;rw[mem_filter,mem_range];exact⟨fun h=>h.2,fun h=>⟨ZjN g h,h⟩⟩
def Less (b f:Bar):Prop:=(∀k,f.1.testBit k=true→b.1.testBit k=true)∧f.2=b.2 &&& f.1
theorem Zgw {b:Bar} (g:b.good):Less b b:=⟨fun _ h=>h,g.2.symm⟩
theorem Zm8 {b f:Bar} (h:Less b f) (k:Nat):Less b (f.wo k):=by
 refine⟨fun j hj=>h.1 j ?_,?_⟩
 ·rw[wo1,Bool.and_eq_true]at hj; exact hj.1
 ·apply Nat.eq_of_testBit_eq
  intro j;rw[wo2,Nat.testBit_and,wo1,h.2,Nat.testBit_and,Bool.and_assoc]
end
end LW
open PySem L2
namespace LW
open PySem L2 EM
open List (all_eq_true any_eq_true any_nil getD_eq_getElem?_getD getElem?_map length_append length_map length_range length_singleton length_take map_append map_cons map_nil map_set mem_append mem_cons mem_filter mem_iff_getElem? mem_map mem_of_getElem? mem_range mem_singleton take_length take_nil take_zero)
section
variable {P:Program} {w:World} {K:W.Frag} {mg:Str→Option Value} {base:Heap} {t:Ad}
def fenB (af:List Nat) (st bd c:Nat):Bool:=decide (st &&& c=0∧srcN af c=0∧bd - (bd &&& c)=0)
theorem ZmD {af:List Nat} {st bd c:Nat}:fenB af st bd c=true ↔ (st &&& c=0∧srcN af c=0∧bd - (bd &&& c)=0):=decide_eq_true_iff
theorem ZmE {H:Hp} {af:List Nat} {st bd c:Nat} {x:V} (h:Zoc H (ZfO af st bd c) x):decide (x=.non)=fenB af st bd c:=by
 unfold ZfO at h
 by_cases h1:st &&& c=0
 ·rw[if_neg (fun z=>z h1)]at h
  by_cases h2:srcN af c=0
  ·rw[if_neg (fun z=>z h2)]at h
   by_cases h3:bd - (bd &&& c)=0
   ·rw[if_neg (fun z=>z h3)]at h
    have h:x=.non:=h;rw[h,decide_eq_true rfl,ZmD.mpr ⟨h1,h2,h3⟩]
   ·rw[if_pos h3]at h
    obtain⟨p,rfl,_⟩:=h;rw[decide_eq_false (by intro z; cases z)];exact(decide_eq_false fun z=>h3 z.2.2).symm
  ·rw[if_pos h2]at h
   obtain⟨p,rfl,_⟩:=h;rw[decide_eq_false (by intro z; cases z)];exact(decide_eq_false fun z=>h2 z.2.1).symm
 ·rw[if_pos h1]at h
  obtain⟨p,rfl,_⟩:=h;rw[decide_eq_false (by intro z; cases z)];exact(decide_eq_false fun z=>h1 z.1).symm
theorem and0 {x y:Nat}:x &&& y=0 ↔ ∀k,x.testBit k=true→y.testBit k=false:=by
 constructor
 ·intro h k hk
  have:(x &&& y).testBit k=false:=by rw[h]; exact Nat.zero_testBit k
  rw[Nat.testBit_and,hk,Bool.true_and]at this;exact this
 ·intro h
  apply Nat.eq_of_testBit_eq;intro k;rw[Nat.testBit_and,Nat.zero_testBit]
  cases e:x.testBit k with
  | false=>rfl
  | true=>rw[h k e]; rfl
theorem sub0 {x y:Nat}:x - (x &&& y)=0 ↔ ∀k,x.testBit k=true→y.testBit k=true:=by
 constructor
 ·intro h k hk
  have:(x - (x &&& y)).testBit k=false:=by rw[h]; exact Nat.zero_testBit k
  rw[Zbp,hk,Bool.true_and]at this
  simpa using this
 ·intro h
  apply Nat.eq_of_testBit_eq;intro k;rw[Zbp,Nat.zero_testBit]
  cases e:x.testBit k with
  | false=>rfl
  | true=>rw[h k e]; rfl
theorem ZjM {af:List Nat} {st bd c:Nat}:fenB af st bd c=true ↔ (∀k,st.testBit k=true→c.testBit k=false)∧(∀k x,c.testBit k=false→(af.getD k 0).testBit x=true→c.testBit x=false)∧(∀k,bd.testBit k=true→c.testBit k=true):=by
 rw[ZmD,and0,sub0];refine and_congr_right fun _=>and_congr_left fun _=>?_
 constructor
 ·intro h k x hk hx
  cases e:c.testBit x with
  | false=>rfl
  | true=>
   have kl:k < af.length:=by
    rcases Nat.lt_or_ge k af.length with z | z
    ·exact z
    ·rw[getD_eq_getElem?_getD,List.getElem?_eq_none z]at hx
     rw[show(Option.none:Option Nat).getD 0=0 from rfl,Nat.zero_testBit]at hx
     cases hx
   have:(srcN af c).testBit k=true:=(Zg0 af c k).mpr ⟨kl,(fun z=>by have:=and0.mp z x hx; rw[e]at this; cases this),hk⟩;rw[h,Nat.zero_testBit]at this
   cases this
 ·intro h
  apply Nat.eq_of_testBit_eq;intro k;rw[Nat.zero_testBit]
  cases e:(srcN af c).testBit k with
  | false=>rfl
  | true=>
   obtain⟨_,h2,h3⟩:=(Zg0 af c k).mp e;exact absurd (and0.mpr fun x hx=>h k x h3 hx) h2
theorem ZrQ {af:List Nat} {st bd c d:Nat} (h1:fenB af st bd c=true) (h2:fenB af st bd d=true):fenB af st bd (c ||| d)=true:=by
 obtain⟨a1,a2,a3⟩:=ZjM.mp h1;obtain⟨b1,b2,b3⟩:=ZjM.mp h2;refine ZjM.mpr ⟨fun k hk=>by rw[Nat.testBit_or,a1 k hk,b1 k hk]; rfl,fun k x hk hx=>?_,fun k hk=>by rw[Nat.testBit_or,a3 k hk]; rfl⟩;rw[Nat.testBit_or,Bool.or_eq_false_iff]at hk ⊢;exact⟨a2 k x hk.1 hx,b2 k x hk.2 hx⟩
theorem ZdZ (n:Nat) (b:Bar) (k:Nat):(ZaD n b).testBit k=(decide (k < n) && lies k b):=Zaq _ _ _
theorem ZeP (n:Nat) (bs:List Bar) (k:Nat):(Zap n bs).testBit k=(decide (k < n) && bs.any (lies k)):=Zaq _ _ _
def Ztp (t:Ad):Sp:=fun vs H Q _=>∃(p l:Addr) (m st bd:Nat) (af:List Nat) (ps:List Addr) (bs:List Bar),vs=[.ref p,.ref l]∧Zbd t H p m st bd af∧GoodC m st bd af∧H l=some (.lst (ps.map V.ref))∧Paired (ZaR H) ps bs∧(∀b∈bs,b.good)∧∀H',Same H H'→Q (.bl (fenB af st bd (Zap (2 ^ m) bs))) H'
theorem ZgK (T:Txt K mg t):FnS P w K mg base 5 "is_fence" ["chart","bars"] ((Ztp t)):=by
 refine⟨_,_,T.ZcH.ok Zkh (fun vs H Q E h=>?_) (fun _ _ _ _ H vs Q E hr h=>?_),T.Zhs,T.ZcH.kp,T.ZhH⟩
 ·obtain⟨p,l,m,st,bd,af,ps,bs,rfl,hC,hG,hl,hb,hg,q⟩:=h
  rfl
 obtain⟨p,l,m,st,bd,af,ps,bs,rfl,hC,hG,hl,hb,hg,q⟩:=h;have Zqh:=ZoQ (P:=P) (w:=w) (base:=base) T;refine⟨_,(Zac (Zaj (Zj6 Zno (ZaA Zqh hr (Zaa (pv 0) (Zaa (pv 1) Zae))) ZfW (Zaw _)))),?_⟩;walk_at "rd0";refine⟨p,l,m,st,bd,af,ps,bs,rfl,hC,hG,hl,hb,hg,fun x H1 s1 hx=>?_⟩;walk_at "";refine⟨rfl,?_⟩;rw[ZmE hx];exact q H1 s1
theorem ZiZ {b f:Bar} (gb:b.good) (gf:f.good) (h:Less b f) {s:Nat} (hs:lies s b=true):lies s f=true:=by
 rw[←Zia gb,decide_eq_true_iff]at hs;rw[←Zia gf,decide_eq_true_iff,h.2,←hs,Nat.and_assoc]
 congr 1
 apply Nat.eq_of_testBit_eq;intro k;rw[Nat.testBit_and]
 cases e:f.1.testBit k with
 | false=>rw[Bool.and_false]
 | true=>rw[h.1 k e]; rfl
theorem ZlI {a b c:Bar} (h1:Less a b) (h2:Less b c):Less a c:=by
 refine⟨fun k hk=>h1.1 k (h2.1 k hk),?_⟩;rw[h2.2,h1.2,Nat.and_assoc]
 congr 1
 apply Nat.eq_of_testBit_eq;intro k;rw[Nat.testBit_and]
 cases e:c.1.testBit k with
 | false=>rw[Bool.and_false]
 | true=>rw[h2.1 k e]; rfl
theorem ZqT {b f:Bar} (h:Less b f):f.1≤b.1:=by
 have:f.1=b.1 &&& f.1:=by
  apply Nat.eq_of_testBit_eq;intro k;rw[Nat.testBit_and]
  cases e:f.1.testBit k with
  | false=>rw[Bool.and_false]
  | true=>rw[h.1 k e]; rfl
 rw[this];exact Nat.and_le_left
theorem ZqS {b f:Bar} (g:b.good) (h:Less b f) (e:f.1=b.1):f=b:=Prod.ext e (by rw[h.2,e,g.2])
theorem Zs9 {b f:Bar} {k:Nat} (h:b.1.testBit k=true):f.wo k≠b:=fun e=>by
 have:=wo1 f k k;rw[e,h,decide_eq_true rfl,Bool.not_true,Bool.and_false]at this
 cases this
def Zrv (t:Ad):Sp:=fun vs H Q _=>∃(p pb:Addr) (m st bd c:Nat) (af:List Nat) (b:Bar),vs=[.ref p,.int (c:Int),.ref pb]∧Zbd t H p m st bd af∧GoodC m st bd af∧c < 2 ^ 2 ^ m∧ZaR H pb b∧b.good∧
 ∀H' p' f,Same H H'→ZaR H' p' f→f.good→Less b f→(f=b∨fenB af st bd (c ||| ZaD (2 ^ m) f)=true)→(f=b→∀k,b.1.testBit k=true→fenB af st bd (c ||| ZaD (2 ^ m) (b.wo k))=false)→Q (.ref p') H'
theorem Zjb (T:Txt K mg t):FnS P w K mg base 4 "wider_bar" ["chart","inside","bar"] ((Zrv t)):=by
 refine⟨_,_,T.Zb7.ok Zco (fun vs H Q E h=>?_) (fun _ _ _ _ H vs Q E hr h=>?_),T.Zgn,T.Zb7.kp,T.ZgC⟩
 ·obtain⟨p,pb,m,st,bd,c,af,b,rfl,hC,hG,hc,hb,hg,q⟩:=h
  rfl
 obtain⟨p,pb,m,st,bd,c,af,b,rfl,hC,hG,hc,hb,hg,q⟩:=h;have Zld:=Zj2 (P:=P) (w:=w) (base:=base) T;have Zl6:=ZlM (P:=P) (w:=w) (base:=base) T;have Zdo:=ZeH (P:=P) (w:=w) (base:=base) T;have Zcp:=Zdv (P:=P) (w:=w) (base:=base) T
 refine⟨_,(Zab (ss 3 Zco.nd (pv 2))
   (Zab (Zb3 PassesOwn.never rfl (ZdV (ZaA Zld hr (Zaa (pv 2) Zae))) (sg 4 Zco.nd)
   (Zab (ss 5 Zco.nd (ZaA Zl6 hr (Zaa (pv 3) (Zaa (pv 4) Zae))))
   (Zac (ZaZ (Zal Zno (ZaA Zcp hr (Zaa (pv 0) (Zaa (Zah Zft (pv 1) (ZaA Zdo hr (Zaa (Ze2 (pv 0) rfl) (Zaa (pv 5) Zae)))) Zae))) ZfW (Zaw _))
   (Zac (ss 3 Zco.nd (pv 5)))
   Zai))))
   (Zac (Zaj (pv 3))))),?_⟩
 walk_at "rd0";refine⟨pb,b,rfl,hb,hg.1,fun l H1 s1 n1 e1=>?_⟩;refine seqL (xs:=(ZeF b).map vi) (fun i σ H'=>∃(f:Bar) (fp:Addr) (v4 v5:Option V),Same H1 H'∧ZaR H' fp f∧f.good∧Less b f∧(f=b∨fenB af st bd (c ||| ZaD (2 ^ m) f)=true)∧(f=b→∀j k,j < i→(ZeF b)[j]?=some k→fenB af st bd (c ||| ZaD (2 ^ m) (b.wo k))=false)∧σ=[some (.ref p),some (.int (c:Int)),some (.ref pb),some (.ref fp),v4,v5]) ⟨b,pb,_,_,Same.refl _,s1 _ _ hb,hg,Zgw hg,.inl rfl,fun _ j k hj=>absurd hj (Nat.not_lt_zero _),rfl⟩ (fun i σ H' _ hp=>by obtain⟨_,_,_,_,z,_⟩:=hp; exact SqL.of (z _ _ e1)) ?_ ?_
 ·rintro i x σ H' hx ⟨f,fp,v4,v5,sm,hf,gf,lf,ff,fx,rfl⟩
  obtain⟨k,rfl,hki⟩ : ∃k:Nat,x=.int (k:Int)∧(ZeF b)[i]?=some k:=by
   rw[getElem?_map]at hx
   cases e:(ZeF b)[i]? with
   | none=>rw[e]at hx; cases hx
   | some k=>rw[e]at hx; exact⟨k,(Option.some.inj hx).symm,rfl⟩
  have hbk:=(ZiY hg).mp (mem_of_getElem? hki);have hk6:k < 6:=ZjN hg hbk;have hC':=hC.mono (Ext.of (s1.trans sm));walk_at "";refine⟨fp,f,k,rfl,by omega,hf,fun f2 H2 s2 n2 e2=>?_⟩;have hC2:=hC'.mono (Ext.of s2);obtain⟨dy,tp,c1,c2⟩:=id hC2;walk_at "";refine⟨p,_,_,_,_,rfl,c1,T.ZbB,T.Za2,Zic _ _ _ _,?_⟩;walk_at "";refine⟨m,f2,f.wo k,rfl,hG.m6,e2,Zkp gf k,?_⟩;walk_at "";rw[Zdw];refine⟨p,m,st,bd,_,af,rfl,hC2,hG,Nat.or_lt_two_pow hc (ZdB _ _),fun x H3 s3 hx=>?_⟩;walk_at "";refine⟨rfl,?_⟩;walk_at "";rw[ZmE hx];refine ZjQ (fun h1=>?_) (fun h1=>?_)
  ·walk_at ""
   exact⟨f.wo k,f2,_,_,sm.trans (s2.trans s3),s3 _ _ e2,Zkp gf k,Zm8 lf k,.inr h1,fun z=>absurd z (Zs9 hbk),rfl⟩
  ·walk_at ""
   refine⟨f,fp,_,_,sm.trans (s2.trans s3),s3 _ _ (s2 _ _ hf),gf,lf,ff,fun z j k' hj hkj=>?_,rfl⟩
   by_cases e:j=i
   ·subst e
    rw[hki]at hkj
    cases hkj
    rw[z]at h1;exact h1
   ·exact fx z j k' (by omega) hkj
 ·rintro σ H' ⟨f,fp,v4,v5,sm,hf,gf,lf,ff,fx,rfl⟩
  walk_at "";refine q H' fp f (s1.trans sm) hf gf lf ff fun z k hk=>?_;obtain⟨j,hj⟩:=mem_iff_getElem?.mp ((ZiY hg).mpr hk);exact fx z j k (by rw[length_map]; exact(List.getElem?_eq_some_iff.mp hj).1) hj
structure WFL (m st bd:Nat) (af:List Nat) (bs fs:List Bar):Prop where
 ln:fs.length=bs.length
 le:∀(i:Nat) (b f:Bar),bs[i]?=some b→fs[i]?=some f→Less b f∧f.good
 fe:fenB af st bd (Zap (2 ^ m) bs)=true→fenB af st bd (Zap (2 ^ m) fs)=true
 fx:fs=bs→∀b∈bs,∀k,b.1.testBit k=true→fenB af st bd (Zap (2 ^ m) bs ||| ZaD (2 ^ m) (b.wo k))=false
theorem ZoT {x y:Nat} (h:∀k,y.testBit k=true→x.testBit k=true):x ||| y=x:=by
 apply Nat.eq_of_testBit_eq;intro k;rw[Nat.testBit_or]
 cases e:y.testBit k with
 | false=>rw[Bool.or_false]
 | true=>rw[h k e]; rfl
theorem Zku {n:Nat} {bs:List Bar} {b:Bar} (h:b∈bs) {k:Nat} (hk:(ZaD n b).testBit k=true):(Zap n bs).testBit k=true:=by
 rw[ZdZ,Bool.and_eq_true]at hk;rw[ZeP,hk.1,Bool.true_and];exact any_eq_true.mpr ⟨b,h,hk.2⟩
theorem Zik {n:Nat} {bs cs:List Bar} (h:∀b∈bs,b∈cs) {k:Nat} (hk:(Zap n bs).testBit k=true):(Zap n cs).testBit k=true:=by
 rw[ZeP,Bool.and_eq_true]at hk ⊢;obtain⟨b,hb,hl⟩:=any_eq_true.mp hk.2;exact⟨hk.1,any_eq_true.mpr ⟨b,h b hb,hl⟩⟩
def Zts (t:Ad):Sp:=fun vs H Q _=>∃(p l:Addr) (m st bd:Nat) (af:List Nat) (ps:List Addr) (bs:List Bar),vs=[.ref p,.ref l]∧Zbd t H p m st bd af∧GoodC m st bd af∧H l=some (.lst (ps.map V.ref))∧Paired (ZaR H) ps bs∧(∀b∈bs,b.good)∧bs.length≤5000∧
 ∀a ps' fs H',Same H H'→H a=none→H' a=some (.lst (ps'.map V.ref))→Paired (ZaR H') ps' fs→WFL m st bd af bs fs→Q (.ref a) H'
theorem ZeI (T:Txt K mg t):FnS P w K mg base 5 "with_fewer_lamps" ["chart","bars"] ((Zts t)):=by
 refine⟨_,_,T.ZaC.ok ZaB (fun vs H Q E h=>?_) (fun _ _ _ _ H vs Q E hr h=>?_),T.Zc0,T.ZaC.kp,T.Zc7⟩
 ·obtain⟨p,l,m,st,bd,af,ps,bs,rfl,hC,hG,hl,hb,hg,hz,q⟩:=h
  rfl
 obtain⟨p,l,m,st,bd,af,ps,bs,rfl,hC,hG,hl,hb,hg,hz,q⟩:=h;have Zfg:=ZgM (P:=P) (w:=w) (base:=base) T;have Zjx:=Zjb (P:=P) (w:=w) (base:=base) T;have Zdo:=ZeH (P:=P) (w:=w) (base:=base) T;obtain⟨dy,tp,c1,c2⟩:=id hC;have pl:=ZaI hb
 refine⟨_,(Zab (ss 2 ZaB.nd (ZaA Zfg hr (Zaa (Ze2 (pv 0) rfl) (Zaa (pv 1) Zae))))
   (Zab (ss 3 ZaB.nd (ZkX Zae))
   (Zab (Zb3 PassesOwn.never rfl (ZdV (pv 1)) (sg 4 ZaB.nd)
   (Zab (ss 5 ZaB.nd (ZaA Zjx hr (Zaa (pv 0) (Zaa (pv 2) (Zaa (pv 4) Zae)))))
   (Zab (ss 2 ZaB.nd (Zah Zft (pv 2) (ZaA Zdo hr (Zaa (Ze2 (pv 0) rfl) (Zaa (pv 5) Zae)))))
   (Zac (Znw (ZsD PySem.F.plainAttrs_list PySem.F.slot_list_append PySem.F.type_list_append ZgE (pv 3) (Zaa (pv 5) Zae)))))))
   (Zac (Zaj (pv 3)))))),?_⟩
 walk_at "rd0";refine⟨p,_,_,_,_,rfl,c1,T.ZbB,T.Za2,Zic _ _ _ _,?_⟩;walk_at "";refine⟨m,l,ps,bs,rfl,hG.m6,hl,hb,hg,?_⟩;walk_at "";refine ZoB (by simp) fun a H1 s1 n1 e1=>?_;walk_at "";refine seqL (xs:=ps.map V.ref) (fun i σ H'=>∃(ps':List Addr) (fs:List Bar) (v4 v5:Option V),Same H H'∧H' a=some (.lst (ps'.map V.ref))∧Paired (ZaR H') ps' fs∧fs.length=i∧(∀(j:Nat) (b f:Bar),bs[j]?=some b→fs[j]?=some f→Less b f∧f.good)∧(fenB af st bd (Zap (2 ^ m) bs)=true→fenB af st bd (Zap (2 ^ m) bs ||| Zap (2 ^ m) fs)=true)∧(fs=bs.take i→∀(j:Nat) (b:Bar),j < i→bs[j]?=some b→∀k,b.1.testBit k=true→fenB af st bd (Zap (2 ^ m) bs ||| ZaD (2 ^ m) (b.wo k))=false)∧σ=[some (.ref p),some (.ref l),some (.int ((Zap (2 ^ m) bs ||| Zap (2 ^ m) fs:Nat):Int)),some (.ref a),v4,v5]) ⟨[],[],_,_,s1,e1,.nil,rfl,(fun j b f _ h=>by cases h),(fun h=>by rw[Ze5,Nat.or_zero]; exact h),(fun _ j b hj=>absurd hj (Nat.not_lt_zero _)),by rw[Ze5,Nat.or_zero]⟩ (fun i σ H' _ hp=>by obtain⟨_,_,_,_,z,_⟩:=hp; exact SqL.of (z _ _ hl)) ?_ ?_
 ·rintro i x σ H' hx ⟨ps',fs,v4,v5,sm,ea,hp,ln,le,fe,fx,rfl⟩
  obtain⟨pb,rfl,hpb⟩:=ZeE hx;obtain⟨b,hbi,hB⟩:=Zbc hb hpb;have hbm:=mem_of_getElem? hbi;have hi:=(List.getElem?_eq_some_iff.mp hbi).1;walk_at "";refine⟨p,pb,m,st,bd,_,af,b,rfl,hC.mono (Ext.of sm),hG,Nat.or_lt_two_pow (Zij _ _) (Zij _ _),sm _ _ hB,hg b hbm,fun H2 p2 f s2 hf gf lf ff fx2=>?_⟩;have sm2:=sm.trans s2;walk_at "";refine⟨p,_,_,_,_,rfl,sm2 _ _ c1,T.ZbB,T.Za2,Zic _ _ _ _,?_⟩;walk_at "";refine⟨m,p2,f,rfl,hG.m6,hf,gf,?_⟩;walk_at "";rw[Zdw];refine⟨tyL (s2 _ _ ea),?_⟩;walk_at "";have pl2:=ZaI hp;refine ZkI (s2 _ _ ea) (by rw[length_map]; omega) fun H3 b3 e3=>?_;have k3:∀x xs,H2 x=some (.tup xs)→H3 x=some (.tup xs):=fun x xs z=>b3 _ _ (Zsr z (s2 _ _ ea) (by intro y; cases y)) z;walk_at ""
  have eo:Zap (2 ^ m) bs ||| Zap (2 ^ m) fs ||| ZaD (2 ^ m) f=Zap (2 ^ m) bs ||| Zap (2 ^ m) (fs++[f]):=by rw[ZfB,Nat.or_assoc]
  refine⟨ps'++[p2],fs++[f],_,_,b3.same n1 sm2,by rw[map_append]; exact e3,Paired.snoc (ZaH (fun _ _ z=>k3 _ _ (s2 _ _ z)) hp) (k3 _ _ hf),by rw[length_append,ln]; rfl,fun j b' f' h1 h2=>?_,fun h=>?_,fun z j b' hj hbj k hk=>?_,by rw[eo]⟩
  ·by_cases e:j < fs.length
   ·rw[List.getElem?_append_left e]at h2
    exact le j b' f' h1 h2
   ·have ej:j=i:=by
     have:=(List.getElem?_eq_some_iff.mp h2).1;rw[length_append,length_singleton]at this;omega
    subst ej;rw[hbi]at h1;rw[List.getElem?_append_right (by omega),ln,Nat.sub_self]at h2
    cases h1
    cases h2
    exact⟨lf,gf⟩
  ·rw[←eo]
   rcases ff with rfl | ff
   ·rw[ZoT fun k hk=>by rw[Nat.testBit_or,Zku hbm hk]; rfl]
    exact fe h
   ·exact ff
  ·rw[ZcY hbi]at z
   have l1:fs.length=(bs.take i).length:=by rw[length_take]; omega
   obtain⟨z1,z2⟩:=List.append_inj z l1;have z2:f=b:=(List.cons.inj z2).1
   by_cases e:j=i
   ·subst e
    rw[hbi]at hbj
    cases hbj
    have:=fx2 z2 k hk;rw[ZoT (y:=Zap (2 ^ m) fs) fun k hk=>by rw[z1]at hk; exact Zik (fun b hb=>List.mem_of_mem_take hb) hk]at this;exact this
   ·exact fx z1 j b' (by omega) hbj k hk
 ·rintro σ H' ⟨ps',fs,v4,v5,sm,ea,hp,ln,le,fe,fx,rfl⟩
  rw[length_map,pl]at ln fx;walk_at "";refine q a ps' fs H' sm n1 ea hp ⟨ln,le,fun h=>?_,fun z b hb k hk=>?_⟩
  ·have:=fe h
   rw[Nat.or_comm,ZoT fun k hk=>?_]at this
   ·exact this
   ·rw[ZeP,Bool.and_eq_true]at hk ⊢
    obtain⟨b,hb',hlb⟩:=any_eq_true.mp hk.2;obtain⟨j,hj⟩:=mem_iff_getElem?.mp hb';have jl:=(List.getElem?_eq_some_iff.mp hj).1;obtain⟨f,hfj⟩ : ∃f,fs[j]?=some f:=⟨fs[j]'(by omega),List.getElem?_eq_getElem (by omega)⟩;obtain⟨lf,gf⟩:=le j b f hj hfj;exact⟨hk.1,any_eq_true.mpr ⟨f,mem_of_getElem? hfj,ZiZ (hg b hb') gf lf hlb⟩⟩
  ·obtain⟨j,hj⟩:=mem_iff_getElem?.mp hb
   exact fx (by rw[take_length]; exact z) j b (List.getElem?_eq_some_iff.mp hj).1 hj k hk
structure WFB (m st bd:Nat) (af:List Nat) (bs fs:List Bar):Prop where
 su:fs.Sublist bs
 fe:fenB af st bd (Zap (2 ^ m) bs)=true→fenB af st bd (Zap (2 ^ m) fs)=true
 fx:fs=bs→∀b∈bs,fenB af st bd (Zap (2 ^ m) (bs.filter fun c=>!decide (c=b)))=false
theorem ZqH {a b:Bar}:decide (ib a=ib b)=decide (a=b):=decide_eq_decide.mpr ⟨fun h=>by
 unfold ib at h;have h1:=(Prod.mk.inj h).1;have h2:=(Prod.mk.inj h).2
 exact Prod.ext (by omega) (by omega),fun h=>by rw[h]⟩
def Ztr (t:Ad):Sp:=fun vs H Q _=>∃(p l:Addr) (m st bd:Nat) (af:List Nat) (ps:List Addr) (bs:List Bar),vs=[.ref p,.ref l]∧Zbd t H p m st bd af∧GoodC m st bd af∧H l=some (.lst (ps.map V.ref))∧Paired (ZaR H) ps bs∧(∀b∈bs,b.good)∧bs.length≤5000∧
 ∀a ps' fs H',Same H H'→H a=none→H' a=some (.lst (ps'.map V.ref))→Paired (ZaR H') ps' fs→WFB m st bd af bs fs→Q (.ref a) H'
theorem Ze0 (T:Txt K mg t):FnS P w K mg base 6 "with_fewer_bars" ["chart","bars"] ((Ztr t)):=by
 refine⟨_,_,T.ZaM.ok ZaW (fun vs H Q E h=>?_) (fun _ _ _ _ H vs Q E hr h=>?_),T.Zdq,T.ZaM.kp,T.Zdt⟩
 ·obtain⟨p,l,m,st,bd,af,ps,bs,rfl,hC,hG,hl,hb,hg,hz,q⟩:=h
  rfl
 obtain⟨p,l,m,st,bd,af,ps,bs,rfl,hC,hG,hl,hb,hg,hz,q⟩:=h;have Zfe:=ZgK (P:=P) (w:=w) (base:=base) T;have pl:=ZaI hb
 refine⟨_,(Zab (ss 2 ZaW.nd (Ze1 Zfj rfl T.B.list Zfi (Zaa (pv 1) Zae)))
   (Zab (Zb3 PassesOwn.never rfl (ZdV (pv 1)) (sg 3 ZaW.nd)
   (Zab (ZgS 4 ZaW.nd (sc:=Zag Zbz) (N:=["chart","bars","found","bar","others"]) (ns:=["bar"]) (ix:=[3]) rfl rfl (by decide +kernel) rfl (ZdV (pv 2)) (fun _ _ _ _=>(Zif (Zal (ZeB hr.units) (pv 0) (pv 1) (Zaw _)))) (fun _ _ _ _=>(pv 0)))
   (Zac (ZaZ (Zan (ZaA Zfe hr (Zaa (pv 0) (Zaa (pv 4) Zae))) (fun _=>rfl))
   (Zac (ss 2 ZaW.nd (pv 4)))
   Zai))))
   (Zac (Zaj (pv 2))))),?_⟩
 walk_at "rd0";refine Zm2 (.inl (SqL.of hl)) fun a0 H1 s1 n1 e1=>?_;walk_at "";refine seqL (xs:=ps.map V.ref) (fun i σ H'=>∃(a:Addr) (ps':List Addr) (fs:List Bar) (v3 v4:Option V),Same H H'∧H a=none∧H' a=some (.lst (ps'.map V.ref))∧Paired (ZaR H') ps' fs∧fs.Sublist bs∧(fenB af st bd (Zap (2 ^ m) bs)=true→fenB af st bd (Zap (2 ^ m) fs)=true)∧(fs=bs→∀(j:Nat) (b:Bar),j < i→bs[j]?=some b→fenB af st bd (Zap (2 ^ m) (bs.filter fun c=>!decide (c=b)))=false)∧σ=[some (.ref p),some (.ref l),some (.ref a),v3,v4]) ⟨a0,ps,bs,_,_,s1,n1,e1,ZaH (fun _ _ z=>s1 _ _ z) hb,List.Sublist.refl _,fun h=>h,fun _ j b hj=>absurd hj (Nat.not_lt_zero _),rfl⟩ (fun i σ H' _ hp=>by obtain⟨_,_,_,_,_,z,_⟩:=hp; exact SqL.of (z _ _ hl)) ?_ ?_
 ·rintro i x σ H' hx ⟨a,ps',fs,v3,v4,sm,na,ea,hp,su,fe,fx,rfl⟩
  obtain⟨pb,rfl,hpb⟩:=ZeE hx;obtain⟨b,hbi,hB⟩:=Zbc hb hpb;have hbm:=mem_of_getElem? hbi;have hBt:ZaR H' pb b:=sm _ _ hB;have pl2:=ZaI hp;have sl:=su.length_le;walk_at "";refine .inl ⟨a,_,rfl,SqL.of ea,?_⟩;refine Zfl (fun i ys=>∃qs,ys=qs.map V.ref∧Paired (ZaR H') qs ((fs.take i).filter fun c=>!decide (c=b))) (Zim (SqL.of ea)) (by rw[length_map]; omega) ⟨[],rfl,.nil⟩ ?_ ?_
  ·rintro j x ys acc H2 hx2 s2 hacc ea2 ⟨qs,rfl,hq⟩ _ R kk
   obtain⟨pc,rfl,hpc⟩:=ZeE hx2;obtain⟨cb,hcj,hCb⟩:=Zbc hp hpc;simp only [subS,map_cons,map_nil];walk_at "";refine Zr5 (k:=ib cb) (k':=ib b) (s2 _ _ hCb) (s2 _ _ hBt) ?_;rw[ZqH];walk_at "";refine kk _ H2 (Same.refl _) (fun h=>⟨qs,rfl,?_⟩) fun h R2 k2=>?_
   ·rw[ZcY hcj,List.filter_append,List.filter_cons,h]
    simpa using hq
   ·walk_at ""
    refine k2 _ H2 (Same.refl _) ⟨qs++[pc],by rw[map_append]; rfl,?_⟩;rw[ZcY hcj,List.filter_append,List.filter_cons,h,if_pos rfl,List.filter_nil];exact Paired.snoc hq hCb
  ·rintro acc ys H2 n2 s2 e2 ⟨qs,rfl,hq⟩
   rw[length_map,pl2,take_length]at hq;have sm2:=sm.trans s2;have nacc:H acc=none:=sm.free n2;have hq2:Paired (ZaR H2) qs (fs.filter fun c=>!decide (c=b)):=ZaH (fun _ _ z=>s2 _ _ z) hq;walk_at "";refine⟨p,acc,m,st,bd,af,qs,_,rfl,hC.mono (Ext.of sm2),hG,e2,hq2,fun c hc=>hg c (su.mem (mem_filter.mp hc).1),fun H3 s3=>?_⟩;walk_at "";refine ZjQ (fun h1=>?_) (fun h1=>?_)
   ·walk_at ""
    refine⟨acc,qs,_,_,_,sm2.trans s3,nacc,s3 _ _ e2,ZaH (fun _ _ z=>s3 _ _ z) hq2,List.filter_sublist.trans su,fun _=>h1,fun z=>?_,rfl⟩
    exfalso
    have:b∈fs.filter fun c=>!decide (c=b):=by rw[z]; exact hbm
    have:=(mem_filter.mp this).2;simp at this
   ·walk_at ""
    refine⟨a,ps',fs,_,_,sm2.trans s3,na,s3 _ _ (s2 _ _ ea),ZaH (fun _ _ z=>s3 _ _ (s2 _ _ z)) hp,su,fe,fun z j b' hj hbj=>?_,rfl⟩
    by_cases e:j=i
    ·subst e
     rw[hbi]at hbj
     cases hbj
     rw[z]at h1;exact h1
    ·exact fx z j b' (by omega) hbj
 ·rintro σ H' ⟨a,ps',fs,v3,v4,sm,na,ea,hp,su,fe,fx,rfl⟩
  rw[length_map,pl]at fx;walk_at "";refine q a ps' fs H' sm na ea hp ⟨su,fe,fun z b hb=>?_⟩;obtain⟨j,hj⟩:=mem_iff_getElem?.mp hb;exact fx z j b (List.getElem?_eq_some_iff.mp hj).1 hj
structure TgR (m st bd:Nat) (af:List Nat) (bs F:List Bar):Prop where
 fr:∀f∈F,f.good∧∃b∈bs,Less b f
 so:(F.map ib).Pairwise ple
 nd:F.Nodup
 ln:F.length≤bs.length
 fe:fenB af st bd (Zap (2 ^ m) F)=true
 lp:∀b∈F,∀k,b.1.testBit k=true→fenB af st bd (Zap (2 ^ m) F ||| ZaD (2 ^ m) (b.wo k))=false
 br:∀b∈F,fenB af st bd (Zap (2 ^ m) (F.filter fun c=>!decide (c=b)))=false
theorem Zml {H:Hp}:∀{ps:List Addr} {ks:List (Int×Int)},Paired (Zct H) ps ks→(∀j∈ks,∃b:Bar,j=ib b)→∃bs:List Bar,Paired (ZaR H) ps bs∧ks=bs.map ib
 | _,_,.nil,_=>⟨[],.nil,rfl⟩
 | _,_,.cons r q,h=>by
  obtain⟨b,hb⟩:=h _ List.mem_cons_self;obtain⟨bs,h1,h2⟩:=Zml q fun j hj=>h j (List.mem_cons_of_mem _ hj);subst hb;exact⟨b::bs,.cons r h1,by rw[h2]; rfl⟩
theorem ZpY {b:Bar} {bs:List Bar}:ib b∈bs.map ib ↔ b∈bs:=by
 rw[mem_map]
 constructor
 ·rintro⟨c,hc,e⟩
  have:=of_decide_eq_true (ZqH.symm.trans (decide_eq_true e));rw[←this];exact hc
 ·exact fun h=>⟨b,h,rfl⟩
theorem Zm4 {H:Hp} {Q:VK} {p:Addr} {ps:List Addr} {bs:List Bar} (e:H p=some (.lst (ps.map V.ref))) (hp:Paired (ZaR H) ps bs) (hz:bs.length≤4900) (k:∀(l:Addr) (ps':List Addr) (fs:List Bar) (H':Hp),Same H H'→H l=none→H' l=some (.lst (ps'.map V.ref))→Paired (ZaR H') ps' fs→(∀b,b∈fs ↔ b∈bs)→fs.Nodup→(fs.map ib).Pairwise ple→fs.length≤bs.length→Q (.ref l) H'):Zl7 K (.ref p) H Q:=by
 have pl:=ZaI hp;refine ZoD e (Zby hp) (by omega) fun l ps' ks' H' s1 n1 e1 p1 m1 nd pw ln=>?_
 obtain⟨fs,h1,rfl⟩:=Zml p1 fun j hj=>by
  obtain⟨b,_,rfl⟩:=mem_map.mp ((m1 j).mp hj);exact⟨b,rfl⟩
 refine k l ps' fs H' s1 n1 e1 (ZaH (fun _ _ z=>s1 _ _ z) h1) (fun b=>?_) ((List.pairwise_map.mp nd).imp fun h e=>h (by rw[e])) pw (by have:=ZaI h1; omega);rw[←ZpY,m1,ZpY]
def sum1:List Bar→Nat
 | []=>0
 | b::r=>b.1+sum1 r
theorem Zjn:∀{bs fs:List Bar},fs.length=bs.length→(∀b∈bs,b.good)→(∀(i:Nat) (b f:Bar),bs[i]?=some b→fs[i]?=some f→Less b f∧f.good)→sum1 fs≤sum1 bs∧(sum1 fs=sum1 bs→fs=bs)
 | [],[],_,_,_=>⟨Nat.le_refl _,fun _=>rfl⟩
 | [],_::_,h,_,_=>by cases h
 | _::_,[],h,_,_=>by cases h
 | b::bs,f::fs,h,hg,hl=>by
  obtain⟨h1,_⟩:=hl 0 b f rfl rfl;obtain⟨a1,a2⟩:=Zjn (bs:=bs) (fs:=fs) (by simpa using h) (fun c hc=>hg c (List.mem_cons_of_mem _ hc)) fun i c d hc hd=>hl (i+1) c d (by simpa using hc) (by simpa using hd);have l1:=ZqT h1;refine⟨by show f.1+sum1 fs≤b.1+sum1 bs; omega,fun e=>?_⟩;have e:f.1+sum1 fs=b.1+sum1 bs:=e;rw[ZqS (hg b List.mem_cons_self) h1 (by omega),a2 (by omega)]
theorem ZnH {n:Nat} {bs cs:List Bar} (h:∀b,b∈bs ↔ b∈cs):Zap n bs=Zap n cs:=by
 apply Nat.eq_of_testBit_eq;intro k;rw[Bool.eq_iff_iff];exact⟨Zik fun b hb=>(h b).mp hb,Zik fun b hb=>(h b).mpr hb⟩
theorem Znk {a b:List Bar}:decide (a.map ib=b.map ib)=decide (a=b):=decide_eq_decide.mpr ⟨fun h=>by
 refine List.map_inj_right (f:=ib) (fun x y e=>of_decide_eq_true (ZqH.symm.trans (decide_eq_true e))) |>.mp h,fun h=>by rw[h]⟩
def Zrs (t:Ad):Sp:=fun vs H Q E=>∃(p l:Addr) (m st bd:Nat) (af:List Nat) (ps:List Addr) (bs:List Bar),vs=[.ref p,.ref l]∧Zbd t H p m st bd af∧GoodC m st bd af∧H l=some (.lst (ps.map V.ref))∧Paired (ZaR H) ps bs∧(∀b∈bs,b.good)∧bs.length≤4900∧
 (fenB af st bd (Zap (2 ^ m) bs)=false→∀H',Same H H'→E (.ref t.Zaf) none H')∧
 (fenB af st bd (Zap (2 ^ m) bs)=true→∀a ps' F H',Same H H'→H a=none→H' a=some (.lst (ps'.map V.ref))→Paired (ZaR H') ps' F→TgR m st bd af bs F→Q (.ref a) H')
theorem ZkT (T:Txt K mg t):FnS1 P w K mg base 7 "tight" ["chart","bars"] ((Zrs t)):=by
 refine⟨_,_,T.Zfc.ok1 ZcB (fun vs H Q E h=>?_) (fun _ _ _ _ H vs Q E hr h=>?_),T.Zmk,T.Zfc.kp,T.Znj⟩
 ·obtain⟨p,l,m,st,bd,af,ps,bs,rfl,hC,hG,hl,hb,hg,hz,q1,q2⟩:=h
  rfl
 obtain⟨p,l,m,st,bd,af,ps,bs,rfl,hC,hG,hl,hb,hg,hz,q1,q2⟩:=h;have Zfe:=ZgK (P:=P) (w:=w) (base:=base) T;have ZcZ:=ZeI (P:=P) (w:=w) (base:=base) T;have Zdp:=Ze0 (P:=P) (w:=w) (base:=base) T
 refine⟨_,(Zab (ZaZ (PT.nox (ZcX (Zan (ZaA Zfe hr (Zaa (pv 0) (Zaa (pv 1) Zae))) (fun _=>rfl))))
   (Zac (Zo3 rfl Zth T.ZgV.own rfl T.ZeW (PA.nox (Zaa ZkZ Zae))))
   (PSs.nox Zai))
   (PSs.nox (Zab (ss 2 ZcB.nd (ZgR hr.units rfl rfl T.B.sorted rfl T.B.set (pv 1)))
   (Zab (ss 3 ZcB.nd (ZaA ZcZ hr (Zaa (pv 0) (Zaa (pv 2) Zae))))
   (Zab (Zk3 PassesOwn.never (Zal (ZeB hr.units) (pv 3) (pv 2) (Zaw _))
   (Zab (ss 2 ZcB.nd (pv 3))
   (Zac (ss 3 ZcB.nd (ZaA ZcZ hr (Zaa (pv 0) (Zaa (pv 2) Zae)))))))
   (Zab (ss 2 ZcB.nd (ZgR hr.units rfl rfl T.B.sorted rfl T.B.set (pv 2)))
   (Zab (ss 3 ZcB.nd (ZaA Zdp hr (Zaa (pv 0) (Zaa (pv 2) Zae))))
   (Zab (Zk3 PassesOwn.never (Zal (ZeB hr.units) (pv 3) (pv 2) (Zaw _))
   (Zab (ss 2 ZcB.nd (pv 3))
   (Zac (ss 3 ZcB.nd (ZaA Zdp hr (Zaa (pv 0) (Zaa (pv 2) Zae)))))))
   (Zac (Zaj (pv 2))))))))))),?_⟩
 walk_at "rd0";refine⟨p,l,m,st,bd,af,ps,bs,rfl,hC,hG,hl,hb,hg,fun H1 s1=>?_⟩;walk_at "";refine ZjQ (fun h1=>?_) (fun h1=>?_)
 ·refine ZqG ?_
  walk_at "";exact⟨by decide,q1 (by simpa using h1) H1 s1⟩
 have hf0:fenB af st bd (Zap (2 ^ m) bs)=true:=by simpa using h1
 have q2:=q2 hf0;walk_at "";refine ZkG ?_;walk_at "";refine Zm4 (s1 _ _ hl) (ZaH (fun _ _ z=>s1 _ _ z) hb) hz fun l2 ps2 f2 H2 s2 n2 e2 p2 m2 nd2 so2 ln2=>?_;have fr2:∀f∈f2,f.good∧∃b∈bs,Less b f:=fun f hf=>⟨hg f ((m2 f).mp hf),f,(m2 f).mp hf,Zgw (hg f ((m2 f).mp hf))⟩;have sm2:=s1.trans s2
 have fe2:fenB af st bd (Zap (2 ^ m) f2)=true:=by rw[ZnH m2]; exact hf0
 walk_at "";refine⟨p,l2,m,st,bd,af,ps2,f2,rfl,hC.mono (Ext.of sm2),hG,e2,p2,fun b hb=>(fr2 b hb).1,by omega,fun l3 ps3 f3 H3 s3 n3 e3 p3 w3=>?_⟩;walk_at "";refine⟨fun mm σ H'=>∃(ga fa:Addr) (pg pf:List Addr) (g fs:List Bar),Same H H'∧H' ga=some (.lst (pg.map V.ref))∧Paired (ZaR H') pg g∧H' fa=some (.lst (pf.map V.ref))∧Paired (ZaR H') pf fs∧(∀f∈g,f.good∧∃b∈bs,Less b f)∧g.length≤bs.length∧fenB af st bd (Zap (2 ^ m) g)=true∧WFL m st bd af g fs∧mm=sum1 g∧σ=[some (.ref p),some (.ref l),some (.ref ga),some (.ref fa)],⟨_,l2,l3,ps2,ps3,f2,f3,sm2.trans s3,s3 _ _ e2,ZaH (fun _ _ z=>s3 _ _ z) p2,e3,p3,fr2,ln2,fe2,w3,rfl,rfl⟩,?_⟩;clear w3 p3 e3 n3 s3 H3 f3 ps3 l3 fe2 sm2 fr2 ln2 so2 nd2 m2 p2 e2 n2 s2 H2 f2 ps2 l2;rintro mm σ H2 ⟨ga,fa,pg,pf,g,fs,s2,eg,hgp,ef,hfp,fr,lng,feg,wf,rfl,rfl⟩;walk_at "";refine ZkE ef eg (Zby hfp) (Zby hgp) ?_;rw[Znk];walk_at ""
 by_cases hne:fs=g
 rotate_left
 ·obtain⟨u1,u2⟩:=Zjn wf.ln (fun b hb=>(fr b hb).1) wf.le
  have lt:sum1 fs < sum1 g:=by
   rcases Nat.lt_or_eq_of_le u1 with z | z
   ·exact z
   ·exact absurd (u2 z) hne
  have frf:∀f∈fs,f.good∧∃b∈bs,Less b f:=fun f hf=>by
   obtain⟨j,hj⟩:=mem_iff_getElem?.mp hf;have jl:=(List.getElem?_eq_some_iff.mp hj).1;have wl:=wf.ln;obtain⟨b,hbj⟩ : ∃b,g[j]?=some b:=⟨g[j]'(by omega),List.getElem?_eq_getElem (by omega)⟩;obtain⟨lf,gf⟩:=wf.le j b f hbj hj;obtain⟨_,c,hc,lc⟩:=fr b (mem_of_getElem? hbj);exact⟨gf,c,hc,ZlI lc lf⟩
  have wl:=wf.ln;refine ZcA (by rw[decide_eq_false hne]; rfl) ⟨fun σ' H'=>∃mm',mm' < sum1 g∧∃(ga fa:Addr) (pg pf:List Addr) (g fs:List Bar),Same H H'∧H' ga=some (.lst (pg.map V.ref))∧Paired (ZaR H') pg g∧H' fa=some (.lst (pf.map V.ref))∧Paired (ZaR H') pf fs∧(∀f∈g,f.good∧∃b∈bs,Less b f)∧g.length≤bs.length∧fenB af st bd (Zap (2 ^ m) g)=true∧WFL m st bd af g fs∧mm'=sum1 g∧σ'=[some (.ref p),some (.ref l),some (.ref ga),some (.ref fa)],fun _ _ z=>z,?_⟩;walk_at "";refine⟨p,fa,m,st,bd,af,pf,fs,rfl,hC.mono (Ext.of s2),hG,ef,hfp,fun b hb=>(frf b hb).1,by omega,fun l3 ps3 f3 H3 s3 n3 e3 p3 w3=>?_⟩;walk_at "";exact⟨_,lt,fa,l3,pf,ps3,fs,f3,s2.trans s3,s3 _ _ ef,ZaH (fun _ _ z=>s3 _ _ z) hfp,e3,p3,frf,by omega,wf.fe feg,w3,rfl,rfl⟩
 refine ZaQ (by rw[decide_eq_true hne]; rfl) ?_;have lpg:=wf.fx hne;clear wf hfp ef hne fs pf;walk_at "";refine ZkG ?_;walk_at "";refine Zm4 eg hgp (by omega) fun l3 ps3 f3 H3 s3 n3 e3 p3 m3 nd3 so3 ln3=>?_;have sm3:=s2.trans s3;have fr3:∀f∈f3,f.good∧∃b∈bs,Less b f:=fun f hf=>fr f ((m3 f).mp hf);have sh3:Zap (2 ^ m) f3=Zap (2 ^ m) g:=ZnH m3;have nl3:H l3=none:=s2.free n3;walk_at "";refine⟨p,l3,m,st,bd,af,ps3,f3,rfl,hC.mono (Ext.of sm3),hG,e3,p3,fun b hb=>(fr3 b hb).1,by omega,fun l4 ps4 f4 H4 s4 n4 e4 p4 w4=>?_⟩;walk_at "";refine⟨fun mm σ H'=>∃(ga fa:Addr) (pg pf:List Addr) (G fs:List Bar),Same H H'∧H ga=none∧H fa=none∧H' ga=some (.lst (pg.map V.ref))∧Paired (ZaR H') pg G∧H' fa=some (.lst (pf.map V.ref))∧Paired (ZaR H') pf fs∧G.Sublist f3∧fenB af st bd (Zap (2 ^ m) G)=true∧WFB m st bd af G fs∧mm=G.length∧σ=[some (.ref p),some (.ref l),some (.ref ga),some (.ref fa)],⟨_,l3,l4,ps3,ps4,f3,f4,sm3.trans s4,nl3,sm3.free n4,s4 _ _ e3,ZaH (fun _ _ z=>s4 _ _ z) p3,e4,p4,List.Sublist.refl _,by rw[sh3]; exact feg,w4,rfl,rfl⟩,?_⟩;clear w4 p4 e4 n4 s4 H4 f4 ps4 l4;rintro mm σ H4 ⟨ga',fa,pg',pf,G,fs,s4,na,nf,eG,hGp,ef,hfp,su,feG,wf,rfl,rfl⟩;walk_at "";refine ZkE ef eG (Zby hfp) (Zby hGp) ?_;rw[Znk];walk_at "";have sl:=su.length_le
 by_cases hne:fs=G
 rotate_left
 ·have lt:fs.length < G.length:=by
   rcases Nat.lt_or_eq_of_le wf.su.length_le with z | z
   ·exact z
   ·exact absurd (wf.su.eq_of_length z) hne
  refine ZcA (by rw[decide_eq_false hne]; rfl) ⟨fun σ' H'=>∃mm',mm' < G.length∧∃(ga fa:Addr) (pg pf:List Addr) (G fs:List Bar),Same H H'∧H ga=none∧H fa=none∧H' ga=some (.lst (pg.map V.ref))∧Paired (ZaR H') pg G∧H' fa=some (.lst (pf.map V.ref))∧Paired (ZaR H') pf fs∧G.Sublist f3∧fenB af st bd (Zap (2 ^ m) G)=true∧WFB m st bd af G fs∧mm'=G.length∧σ'=[some (.ref p),some (.ref l),some (.ref ga),some (.ref fa)],fun _ _ z=>z,?_⟩;walk_at "";refine⟨p,fa,m,st,bd,af,pf,fs,rfl,hC.mono (Ext.of s4),hG,ef,hfp,fun b hb=>(fr3 b (su.mem (wf.su.mem hb))).1,by omega,fun l5 ps5 f5 H5 s5 n5 e5 p5 w5=>?_⟩;walk_at "";exact⟨_,lt,fa,l5,pf,ps5,fs,f5,s4.trans s5,nf,s4.free n5,s5 _ _ ef,ZaH (fun _ _ z=>s5 _ _ z) hfp,e5,p5,wf.su.trans su,wf.fe feG,w5,rfl,rfl⟩
 refine ZaQ (by rw[decide_eq_true hne]; rfl) ?_;walk_at "";refine q2 ga' pg' G H4 s4 na eG hGp ⟨fun f hf=>fr3 f (su.mem hf),so3.sublist (List.Sublist.map _ su),nd3.sublist su,by omega,feG,fun b hb k hk=>?_,wf.fx hne⟩
 cases e:fenB af st bd (Zap (2 ^ m) G ||| ZaD (2 ^ m) (b.wo k)) with
 | false=>rfl
 | true=>
  have h2:=lpg b ((m3 b).mp (su.mem hb)) k hk;have h3:=ZrQ (d:=Zap (2 ^ m) g) e feg
  rw[show Zap (2 ^ m) G ||| ZaD (2 ^ m) (b.wo k) ||| Zap (2 ^ m) g=Zap (2 ^ m) g ||| ZaD (2 ^ m) (b.wo k) by
   have gg:Zap (2 ^ m) g ||| Zap (2 ^ m) G=Zap (2 ^ m) g:=ZoT fun k hk=>by rw[←sh3]; exact Zik (fun b hb=>su.mem hb) hk
   rw[Nat.or_assoc,Nat.or_comm (ZaD (2 ^ m) (b.wo k)),←Nat.or_assoc,Nat.or_comm (Zap (2 ^ m) G),gg],h2]at h3
  cases h3
end
end LW
open PySem L2
namespace LW
open PySem L2 EM
open List (all_eq_true any_eq_true any_nil getD_eq_getElem?_getD getElem?_map length_append length_map length_range length_singleton length_take map_append map_cons map_nil map_set mem_append mem_cons mem_filter mem_iff_getElem? mem_map mem_of_getElem? mem_range mem_singleton take_length take_nil take_zero)
section
variable {P:Program} {w:World} {K:W.Frag} {mg:Str→Option Value} {base:Heap} {t:Ad}
theorem Zez {t u:TS} {D:Ends} {σ:St} {H:Hp} (Pn:St→Hp→Prop) (h2:∀σ H,Pn σ H→u D σ H) (h1:∀Kn:St→Hp→Prop,(∀σ H,Pn σ H→Kn σ H)→t { D with nx:=Kn } σ H):tSeq t u D σ H:=h1 (u D) h2
theorem ZcW (c:Int) (m:Nat):∃a:Nat,c % ((2 ^ m:Nat):Int)=(a:Int)∧a < 2 ^ m:=by
 have h0:0 < 2 ^ m:=Nat.two_pow_pos m;have h1:=Int.emod_nonneg c (show((2 ^ m:Nat):Int)≠0 by omega);have h2:=Int.emod_lt_of_pos c (show(0:Int) < ((2 ^ m:Nat):Int) by omega);exact⟨(c % ((2 ^ m:Nat):Int)).toNat,by omega,by omega⟩
theorem Zpi (af:List Nat) (k v:Nat):((nums af).map V.int).set k (.int (v:Int))=(nums (af.set k v)).map V.int:=by
 unfold nums;rw[map_set,map_set]
theorem ZmI {af:List Nat} {B k:Nat} (h:∀x∈af,x < B) (hB:0 < B):af.getD k 0 < B:=by
 rw[getD_eq_getElem?_getD]
 cases e:af[k]? with
 | none=>exact hB
 | some x=>exact h x (mem_of_getElem? e)
theorem ZsQ {af:List Nat} {B k v:Nat} (h:∀x∈af,x < B) (hv:v < B):∀x∈af.set k v,x < B:=fun x hx=>by
 rcases List.mem_or_eq_of_mem_set hx with hx | hx
 ·exact h x hx
 ·rw[hx]; exact hv
structure AF (l:Addr) (af:List Nat) (m:Nat) (H:Hp):Prop where
 fl:H l=some (.lst ((nums af).map V.int))
 len:af.length=2 ^ m
 bd:∀x∈af,x < 2 ^ 2 ^ m
theorem AF.set {l:Addr} {af:List Nat} {m k v:Nat} {H H':Hp} (a:AF l af m H) (e:H' l=some (.lst (((nums af).map V.int).set k (.int (v:Int))))) (hv:v < 2 ^ 2 ^ m):AF l (af.set k v) m H':=
 ⟨by rw[e,Zpi],by rw[List.length_set]; exact a.len,ZsQ a.bd hv⟩
structure BL (H:Hp) (l:Addr) (ps:List Addr) (bs:List Bar):Prop where
 fl:H l=some (.lst (ps.map V.ref))
 pr:Paired (ZaR H) ps bs
 gd:∀b∈bs,b.good
theorem BL.mono {H H':Hp} {l:Addr} {ps:List Addr} {bs:List Bar} (h:BL H l ps bs) (s:Same H H'):BL H' l ps bs:=⟨s _ _ h.fl,Zdj (Ext.of s) h.pr,h.gd⟩
theorem ZhN {α β:Type} {F:α→β→Prop} {xs:List α} {ys:List β} (h:Paired F xs ys):Paired F xs.reverse ys.reverse:=by
 induction h with
 | nil=>exact .nil
 | cons r q ih=>rw[List.reverse_cons,List.reverse_cons]; exact Zbx ih (.cons r .nil)
theorem ZgP {α β:Type} {F:α→β→Prop}:∀{xs:List α} {ys:List β} (n:Nat),Paired F xs ys→Paired F (xs.drop n) (ys.drop n)
 | _,_,0,h=>h
 | _,_,_+1,.nil=>.nil
 | _,_,n+1,.cons _ q=>ZgP n q
theorem ZqY {b:Bar} {bs:List Bar} {n k:Nat} (h:b∈bs.take n++bs.drop k):b∈bs:=by
 rcases mem_append.mp h with h | h
 ·exact List.mem_of_mem_take h
 ·exact List.mem_of_mem_drop h
def Zpn:Sp:=fun vs H Q _=>∃(n:Nat) (p:Addr) (b:Bar),vs=[.int (n:Int),.ref p]∧n≤64∧ZaR H p b∧b.good∧Q (.int ((ZaD n b:Nat):Int)) H
theorem ZgJ (T:Txt K mg t):FnS P w K mg base 1 "_law_inside" ["_law_size","_law_bar"] (Zpn):=by
 refine⟨_,_,T.Zbr.ok Zci (fun vs H Q E h=>?_) (fun _ _ _ _ H vs Q E hr h=>?_),T.ZeN,T.Zbr.kp,T.ZeY⟩
 ·obtain⟨n,p,b,rfl,hn,hb,hg,q⟩:=h
  rfl
 obtain⟨n,p,b,rfl,hn,hb,hg,q⟩:=h
 refine⟨_,(Zab (ss 2 Zci.nd Zad)
   (Zab (Zb3 PassesOwn.never rfl (Zbn rfl T.B.range (Zaa (pv 0) Zae)) (sg 3 Zci.nd)
   (Zac (ZaZ (Zal (ZbW hr.units) (Zah ZaG (pv 3) (Zcm ZbD (pv 1) Zad (fun _ _=>rfl))) (Zcm ZbD (pv 1) Zad (fun _ _=>rfl)) (Zaw _))
   (Zac (ss 2 Zci.nd (Zah Zft (pv 2) (Zah ZbX Zad (pv 3)))))
   Zai)))
   (Zac (Zaj (pv 2))))),?_⟩
 walk_at "rd0";refine⟨_,rfl,by omega,by omega,?_⟩;rw[Int.toNat_natCast];refine ZfQ (n:=n) (fun i σ H'=>H'=H∧∃v,σ=[some (.int (n:Int)),some (.ref p),some (.int ((ZaD i b:Nat):Int)),v]) ⟨rfl,_,rfl⟩ ?_ ?_
 ·rintro i σ H' hi ⟨rfl,v,rfl⟩
  have li:decide (Builtin.bitAnd (i:Int) (b.1:Int)=(b.2:Int))=lies i b:=by
   rw[ZbA,←Zia hg];exact decide_eq_decide.mpr (by omega)
  walk_at "";refine Zes hb (v:=.int (b.1:Int)) rfl ?_;walk_at "";refine Zes hb (v:=.int (b.2:Int)) rfl ?_;walk_at "";rw[li];refine ZjQ (fun h1=>?_) (fun h1=>?_)
  ·walk_at ""
   refine⟨rfl,some (.int (i:Int)),?_⟩;unfold ZaD;rw[Zp4 (f:=fun s=>lies s b) h1]
   all_goals rfl
  ·walk_at ""
   refine⟨rfl,some (.int (i:Int)),?_⟩;unfold ZaD;rw[ZiD (fun s=>lies s b) i h1]
   all_goals rfl
 ·rintro σ H' ⟨rfl,v,rfl⟩
  walk_at "";exact q
def Zrr:Sp:=fun vs H Q _=>∃(cp:Addr) (cs:List Int) (m sh:Nat),vs=[.ref cp,.int ((2 ^ m:Nat):Int),.int (sh:Int)]∧H cp=some (.lst (cs.map V.int))∧m≤6∧∀l H' af,Same H H'→H l=none→AF l af m H'→Q (.ref l) H'
theorem ZoS (T:Txt K mg t):FnS P w K mg base 1 "_law_steps" ["_law_cells","_law_size","_law_shut"] (Zrr):=by
 refine⟨_,_,T.ZbK.ok Zb1 (fun vs H Q E h=>?_) (fun _ _ _ _ H vs Q E hr h=>?_),T.ZfK,T.ZbK.kp,T.ZfT⟩
 ·obtain⟨cp,cs,m,sh,rfl,hC,hm,q⟩:=h
  rfl
 obtain⟨cp,cs,m,sh,rfl,hC,hm,q⟩:=h;have hp:=Za6 hm;have hp0:0 < 2 ^ m:=Nat.two_pow_pos m;have h2p:0 < 2 ^ 2 ^ m:=Nat.two_pow_pos _
 refine⟨_,(Zab (ZgS 3 Zb1.nd (sc:=Zag Zda) (N:=["_law_cells","_law_size","_law_shut","_law_after","_law_cell","_law_here","_law_there"]) (ns:=[]) (ix:=[]) rfl rfl (by decide +kernel) rfl (Zbn rfl T.B.range (Zaa (pv 1) Zae)) (fun _ _ _ _=>Zj9) (fun _ _ _ _=>Zad))
   (Zab (Zb3 PassesOwn.never rfl (ZdV (pv 0)) (sg 4 Zb1.nd)
   (Zab (ss 5 Zb1.nd (Zah ZbE (Zah Zbw (pv 4) Zad) (pv 1)))
   (Zab (ss 6 Zb1.nd (Zah ZbE (Zah ZdI (Zah ZdI (Zah ZdI (pv 5) Zad) (Zah Zbw (Zah Zbw (pv 4) Zad) (pv 1))) (Zah ZbE (pv 4) Zad)) (pv 1)))
   (Zac (ZaZ (PW.pt (Zhi (Zal (ZbW hr.units) (Zah ZaG (Zah Zd5 (pv 2) (pv 5)) Zad) Zad (Zaw _)) (ZfX (Zal (ZbW hr.units) (Zah ZaG (Zah Zd5 (pv 2) (pv 6)) Zad) Zad (Zaw _)))))
   (Zac (Zk1 (Zah Zft (Zcm ZbD (pv 3) (pv 5) (fun _ _=>rfl)) (Zah ZbX Zad (pv 6))) (Zk0 (pv 3) (pv 5) Zgd)))
   Zai)))))
   (Zac (Zaj (pv 3))))),?_⟩
 walk_at "rd0";refine⟨_,rfl,by omega,by omega,?_⟩;rw[Int.toNat_natCast];refine Zfl (fun i ys=>ys=(nums (List.replicate i 0)).map V.int) (Zin 0 (2 ^ m) H) (by rw[length_map,length_range]; omega) rfl ?_ ?_
 ·intro i x ys acc H' hx s1 hacc ea hy _ R k
  simp only [subS,map_cons,map_nil];walk_at "";refine k _ H' (Same.refl _) (fun z=>by cases z) fun z R2 k2=>?_;walk_at "";refine k2 _ H' (Same.refl _) ?_;rw[hy,List.replicate_succ',Zi9];rfl
 intro l ys H1 n1 s1 e1 hy;rw[length_map,length_range]at hy;subst hy;have A1:AF l (List.replicate (2 ^ m) 0) m H1:=⟨e1,List.length_replicate ..,fun x hx=>by rw[(List.mem_replicate.mp hx).2]; exact h2p⟩;have nlc:cp≠l:=ZaF hC n1;walk_at "";refine seqL (xs:=cs.map V.int) (fun i σ H'=>∃af v1 v2 v3,Same H H'∧AF l af m H'∧σ=[some (.ref cp),some (.int ((2 ^ m:Nat):Int)),some (.int (sh:Int)),some (.ref l),v1,v2,v3]) ⟨_,_,_,_,s1,A1,rfl⟩ (fun i σ H' _ hp=>by obtain⟨_,_,_,_,sm,_,_⟩:=hp; exact SqL.of (sm _ _ hC)) ?_ ?_
 ·rintro i x σ H' hx ⟨af,v1,v2,v3,sm,A3,rfl⟩
  obtain⟨c,rfl,hci⟩:=ZmJ hx;obtain⟨a,ha,la⟩:=ZcW (c / 3) m;obtain⟨e,he,le⟩:=ZcW ((a:Int)+1+c / 3 / ((2 ^ m:Nat):Int)+c % 3) m
  have put:∀H2 b2 e2,∃af v1 v2 v3,Same H H2∧AF l af m H2∧[some (.ref cp),some (.int ((2 ^ m:Nat):Int)),some (.int (sh:Int)),some (.ref l),some (.int c),some (.int (a:Int)),some (.int (e:Int))]=[some (V.ref cp),some (.int ((2 ^ m:Nat):Int)),some (.int (sh:Int)),some (.ref l),v1,v2,v3]:=fun H2 (b2:But l H' H2) (e2:H2 l=some (.lst (((nums af).map V.int).set a (.int ((af.getD a 0 ||| 2 ^ e:Nat):Int)))))=>
   ⟨_,_,_,_,b2.same n1 sm,A3.set e2 (Nat.or_lt_two_pow (ZmI A3.bd h2p) (Zj7 le)),rfl⟩
  walk_at "";rw[ha];walk_at "";rw[he];walk_at "";rw[Zfr]
  cases h1:sh.testBit a with
  | false=>
   refine ZcA rfl ?_;refine ZcA rfl ?_;walk_at "";refine Zg9 A3.fl (ZdH (by rw[A3.len]; exact la)) ?_;walk_at "";rw[Zbe,Zdw];exact Zm3 A3.fl (by rw[Zbg,A3.len]; exact la) put
  | true=>
   refine ZaQ rfl ?_;walk_at "";rw[Zfr]
   cases h2:sh.testBit e with
   | true=>
    refine ZcA rfl ?_;walk_at "";refine Zg9 A3.fl (ZdH (by rw[A3.len]; exact la)) ?_;walk_at "";rw[Zbe,Zdw];exact Zm3 A3.fl (by rw[Zbg,A3.len]; exact la) put
   | false=>
    refine ZaQ rfl ?_;walk_at "";exact⟨_,_,_,_,sm,A3,rfl⟩
 ·rintro σ H' ⟨af,v1,v2,v3,sm,A3,rfl⟩
  walk_at "";exact q l H' af sm n1 A3
def Zrm (K:W.Frag):Sp:=fun vs H Q _=>∃(sc:Addr) (ns:List Int) (m sh:Nat),vs=[.ref sc,.int ((2 ^ m:Nat):Int),.int (sh:Int)]∧SqL K H sc (ns.map V.int)∧m≤6∧∀l H' ps bs,Same H H'→BL H' l ps bs→ps.length≤70→Q (.ref l) H'
theorem Zq5 (T:Txt K mg t):FnS P w K mg base 2 "_law_bars" ["_law_script","_law_size","_law_shut"] ((Zrm K)):=by
 refine⟨_,_,T.Zb5.ok ZaK (fun vs H Q E h=>?_) (fun _ _ _ _ H vs Q E hr h=>?_),T.Zgl,T.Zb5.kp,T.ZgA⟩
 ·obtain⟨sc,ns,m,sh,rfl,hS,hm,q⟩:=h
  rfl
 obtain⟨sc,ns,m,sh,rfl,hS,hm,q⟩:=h;have Zat:=ZhK (P:=P) (w:=w) (base:=base) T;have Zbs:=ZgJ (P:=P) (w:=w) (base:=base) T;have hp:=Za6 hm;have hp0:0 < 2 ^ m:=Nat.two_pow_pos m
 have em:((2 ^ m:Nat):Int) - 1=((2 ^ m - 1:Nat):Int):=by omega
 refine⟨_,(Zab (ZgS 3 ZaK.nd (sc:=Zag ZdL) (N:=["_law_script","_law_size","_law_shut","_law_bars_here","_law_cell","_law_asked","_law_bar","_law_at"]) (ns:=["_law_shut","_law_size"]) (ix:=[2,1]) rfl rfl (by decide +kernel) rfl (Zbn rfl T.B.range (Zaa (pv 1) Zae)) (fun _ _ _ _=>(Zif (Zal (ZbW hr.units) (Zah ZaG (Zah Zd5 (pv 1) (pv 0)) Zad) Zad (Zaw _)))) (fun _ _ _ _=>(ZeC (Zaa (Zah ZhL (pv 2) Zad) (Zaa (pv 0) Zae)))))
   (Zab (Zb3 PassesOwn.never rfl (ZdV (Zgb Zk5 (pv 0) (Zfu Zad) (Zfu Zad))) (sg 4 ZaK.nd)
   (Zab (ss 5 ZaK.nd (Zah ZbE (pv 4) (pv 1)))
   (Zab (ss 6 ZaK.nd (ZeC (Zaa (pv 5) (Zaa (Zah ZaG (pv 5) (Zah ZbE (Zah Zbw (pv 4) (pv 1)) (pv 1))) Zae))))
   (Zac (ZaZ (Zal (ZbW hr.units) (Zah ZaG (ZaA Zbs hr (Zaa (pv 1) (Zaa (pv 6) Zae))) (pv 2)) Zad (Zaw _))
   (Zac (ss 3 ZaK.nd (Zah ZdI (Zah ZdI (ZkX (Zaa (pv 6) Zae)) (pv 3)) (ZkX (Zaa (pv 6) Zae)))))
   Zai)))))
   (Zab (ZaZ (Zal (ZbW hr.units) (Zah ZbE (Zah Zbw (ZaA Zat hr (Zaa (pv 0) (Zaa Zad Zae))) Zad) Zad) Zad (Zaw _))
   (Zac (ss 3 ZaK.nd (ZhO rfl rfl T.B.list rfl T.B.reversed (pv 3))))
   Zai)
   (Zab (ss 4 ZaK.nd (ZaA Zat hr (Zaa (pv 0) (Zaa Zad Zae))))
   (Zab (ZaZ (PW.pt (Zjg (Zal (ZbW hr.units) (Zah ZbE (Zah Zbw (ZaA Zat hr (Zaa (pv 0) (Zaa Zad Zae))) Zad) Zad) Zad (Zaw _)) (ZgU (Zal Zq7 (Zar Za5 rfl T.B.len ZdS (Zaa (pv 3) Zae)) Zad (Zaw _)))))
   (Zab (ss 7 ZaK.nd (Zah ZbE (pv 4) (Zar Za5 rfl T.B.len ZdS (Zaa (pv 3) Zae))))
   (Zac (ss 3 ZaK.nd (Zah ZdI (Zgb Zk5 (pv 3) Znu (Zfu (pv 7))) (Zgb Zk5 (pv 3) (Zfu (Zah ZdI (pv 7) Zad)) Znu)))))
   Zai)
   (Zac (Zaj (pv 3)))))))),?_⟩
 walk_at "rd0";refine⟨_,rfl,by omega,by omega,?_⟩;rw[Int.toNat_natCast];refine Zoj (fun i ys H'=>∃ps bs,ys=ps.map V.ref∧Paired (ZaR H') ps bs∧(∀b∈bs,b.good)∧ps.length≤i) (Zin 0 (2 ^ m) H) (by rw[length_map,length_range]; omega) (fun H' _=>⟨[],[],rfl,.nil,fun b z=>(by cases z),Nat.le_refl _⟩) (by rintro i ys H1 H2 x ⟨ps,bs,a,b,c⟩; exact⟨ps,bs,a,Zdj x b,c⟩) ?_ ?_
 ·intro i x ys acc H' hx s2 hacc ea hy _ R k
  obtain⟨hi,rfl⟩:=ZiJ hx;obtain⟨ps,bs,rfl,hpr,hgd,hpl⟩:=hy;rw[Int.zero_add];rw[Int.zero_add]at k;simp only [subS,map_cons,map_nil];walk_at "";refine k _ H' (Same.refl _) (fun z=>⟨ps,bs,rfl,hpr,hgd,by omega⟩) fun z R2 k2=>?_;walk_at "";rw[em];refine Zhb (Nat.le_of_ble_eq_true rfl) fun p H3 s3 n3 e3=>?_;refine k2 _ H3 s3 ⟨ps++[p],bs++[(2 ^ m - 1,i)],by rw[map_append]; rfl,Zbx (Zdj (Ext.of s3) hpr) (.cons e3 .nil),fun b' hb'=>?_,by rw[length_append,length_singleton]; omega⟩
  rcases mem_append.mp hb' with h | h
  ·exact hgd b' h
  ·rw[mem_singleton.mp h]; exact Zos hm hi
 intro l0 ys H1 n1 s1 e1 hy;obtain⟨ps0,bs0,rfl,hpr0,hgd0,hpl0⟩:=hy;rw[length_map,length_range]at hpl0;have B0:BL H1 l0 ps0 bs0:=⟨e1,hpr0,hgd0⟩;clear e1 hpr0 hgd0 n1;walk_at "rs";refine Zez (fun σ H'=>∃l ps bs v4 v5 v6,Same H H'∧BL H' l ps bs∧ps.length≤70∧σ=[some (.ref sc),some (.int ((2 ^ m:Nat):Int)),some (.int (sh:Int)),some (.ref l),v4,v5,v6,none]) ?_ ?_
 rotate_left
 ·intro Kn hK
  walk_at "";refine ZoC (s1.seq hS) ((Zmt _ 5 8).trans (ZgD ns 5 3)) fun cp H2 s2 n2 e2=>?_
  have hcs:((ns.drop 5).take 3).length≤3:=by rw[length_take]; omega
  generalize (ns.drop 5).take 3=cs at e2 hcs;refine seqL (xs:=cs.map V.int) (fun i σ H'=>∃l ps bs v4 v5 v6,Same H2 H'∧BL H' l ps bs∧ps.length≤64+2 * i∧σ=[some (.ref sc),some (.int ((2 ^ m:Nat):Int)),some (.int (sh:Int)),some (.ref l),v4,v5,v6,none]) ⟨l0,ps0,bs0,_,_,_,Same.refl _,B0.mono s2,by omega,rfl⟩ (fun i σ H' _ hp=>by obtain⟨_,_,_,_,_,_,z,_⟩:=hp; exact SqL.of (z _ _ e2)) ?_ ?_
  ·rintro i x σ H3 hx ⟨l,ps,bs,v4,v5,v6,s3,B3,hl3,rfl⟩
   obtain⟨c,rfl,hci⟩:=ZmJ hx;obtain⟨a,ha,la⟩:=ZcW c m;obtain⟨b,hb,lb⟩:=ZcW (c / ((2 ^ m:Nat):Int)) m;have hil:=(List.getElem?_eq_some_iff.mp hx).1;rw[length_map]at hil;walk_at "";rw[ha];walk_at "";rw[hb,ZbA];refine Zhb (Nat.le_of_ble_eq_true rfl) fun p H4 s4 n4 e4=>?_;have gb:Bar.good (a,a &&& b):=Zor hm la;walk_at "";refine⟨2 ^ m,p,(a,a &&& b),rfl,hp,e4,gb,?_⟩;walk_at "";rw[ZbA];refine Zg8 (fun h1=>?_) (fun h1=>?_)
   ·walk_at ""
    refine ZoB (Nat.le_of_ble_eq_true rfl) fun l5 H5 s5 n5 e5=>?_;walk_at "";refine ZqL e5 (s5 _ _ (s4 _ _ B3.fl)) (by rw[length_map,length_singleton]; omega) fun l6 H6 s6 n6 e6=>?_;walk_at "";refine ZoB (Nat.le_of_ble_eq_true rfl) fun l7 H7 s7 n7 e7=>?_;walk_at "";refine ZqL (s7 _ _ e6) e7 (by rw[length_append,length_map,length_singleton]; simp; omega) fun l8 H8 s8 n8 e8=>?_;have sC:=s4.trans (s5.trans (s6.trans (s7.trans s8)));have e8p:ZaR H8 p (a,a &&& b):=(s5.trans (s6.trans (s7.trans s8))) _ _ e4;walk_at "";refine⟨l8,[p]++ps++[p],[(a,a &&& b)]++bs++[(a,a &&& b)],_,_,_,s3.trans sC,⟨by rw[e8,map_append,map_append]; rfl,Zbx (Zbx (.cons e8p .nil) (Zdj (Ext.of sC) B3.pr)) (.cons e8p .nil),fun x hx=>?_⟩,by rw[length_append,length_append,length_singleton]; omega,rfl⟩
    rcases mem_append.mp hx with hx | hx
    ·rcases mem_append.mp hx with hx | hx
     ·rw[mem_singleton.mp hx]; exact gb
     ·exact B3.gd x hx
    ·rw[mem_singleton.mp hx]; exact gb
   ·walk_at ""
    exact⟨l,ps,bs,_,_,_,s3.trans s4,B3.mono s4,by omega,rfl⟩
  ·rintro σ H3 ⟨l,ps,bs,v4,v5,v6,s3,B3,hl3,rfl⟩
   rw[length_map]at hl3;exact hK _ _ ⟨l,ps,bs,_,_,_,s1.trans (s2.trans s3),B3,by omega,rfl⟩
 clear B0 s1 hpl0 H1 bs0 ps0 l0;rintro σ H1 ⟨l,ps,bs,v4,v5,v6,s1,B1,hl1,rfl⟩;refine Zez (fun σ H'=>∃l ps bs,Same H H'∧BL H' l ps bs∧ps.length≤70∧σ=[some (.ref sc),some (.int ((2 ^ m:Nat):Int)),some (.int (sh:Int)),some (.ref l),v4,v5,v6,none]) ?_ ?_
 rotate_left
 ·intro Kn hK
  walk_at "";refine⟨sc,ns,0,rfl,s1.seq hS,?_⟩;walk_at "";refine Zg8 (fun h2=>?_) (fun h2=>?_)
  ·walk_at ""
   refine ZiR (SqL.of B1.fl) fun l2 H2 s2 n2 e2=>?_;walk_at "";exact hK _ _ ⟨l2,ps.reverse,bs.reverse,s1.trans s2,⟨by rw[e2,List.map_reverse],ZhN (Zdj (Ext.of s2) B1.pr),fun b hb=>B1.gd b (List.mem_reverse.mp hb)⟩,by rw[List.length_reverse]; exact hl1,rfl⟩
  ·walk_at ""
   exact hK _ _ ⟨l,ps,bs,s1,B1,hl1,rfl⟩
 clear B1 s1 hl1 H1 bs ps l;rintro σ H1 ⟨l,ps,bs,s1,B1,hl1,rfl⟩;walk_at "rs";refine ZiM ?_;walk_at "rs";refine⟨sc,ns,4,rfl,s1.seq hS,?_⟩;generalize cell ns 4=c;walk_at "rs";refine Zez (fun σ H'=>∃l ps bs v4 v5 v6 v7,Same H H'∧BL H' l ps bs∧ps.length≤70∧σ=[some (.ref sc),some (.int ((2 ^ m:Nat):Int)),some (.int (sh:Int)),some (.ref l),v4,v5,v6,v7]) ?_ ?_
 rotate_left
 ·intro Kn hK
  have f1:=B1.fl;walk_at "";refine⟨sc,ns,0,rfl,s1.seq hS,?_⟩;walk_at "";refine Zg8 (fun h3=>?_) (fun h3=>?_)
  rotate_left
  ·refine ZaQ rfl ?_
   walk_at "";exact hK _ _ ⟨l,ps,bs,_,_,_,_,s1,B1,hl1,rfl⟩
  walk_at "";rw[length_map];refine Zg8 (fun h4=>?_) (fun h4=>?_)
  rotate_left
  ·walk_at ""
   exact hK _ _ ⟨l,ps,bs,_,_,_,_,s1,B1,hl1,rfl⟩
  walk_at "";rw[length_map]
  obtain⟨a,ha,la⟩ : ∃a:Nat,c % ((ps.length:Nat):Int)=(a:Int)∧a < ps.length:=by
   have g1:=Int.emod_nonneg c (show((ps.length:Nat):Int)≠0 by omega);have g2:=Int.emod_lt_of_pos c (show(0:Int) < ((ps.length:Nat):Int) by omega);exact⟨(c % ((ps.length:Nat):Int)).toNat,by omega,by omega⟩
  walk_at "";rw[ha];walk_at "";refine ZoC (SqL.of f1) (ZrM (by rw[length_map]; omega)) fun l3 H3 s3 n3 e3=>?_;walk_at "";rw[show(a:Int)+1=((a+1:Nat):Int) by omega];refine ZoC (SqL.of (s3 _ _ f1)) (Zom (by rw[length_map]; omega)) fun l4 H4 s4 n4 e4=>?_;refine ZqL (s4 _ _ e3) e4 (by rw[length_take,List.length_drop,length_map]; omega) fun l5 H5 s5 n5 e5=>?_;walk_at "";exact hK _ _ ⟨l5,ps.take a++ps.drop (a+1),bs.take a++bs.drop (a+1),_,_,_,_,s1.trans (s3.trans (s4.trans s5)),⟨by rw[e5,map_append,List.map_take,List.map_drop],Zdj (Ext.of (s3.trans (s4.trans s5))) (Zbx (ZgQ _ B1.pr) (ZgP _ B1.pr)),fun b hb=>B1.gd b (ZqY hb)⟩,by rw[length_append,length_take,List.length_drop]; omega,rfl⟩
 clear B1 s1 hl1 H1 bs ps l;rintro σ H1 ⟨l,ps,bs,w4,w5,w6,w7,s1,B1,hl1,rfl⟩;walk_at "";exact q l H1 ps bs s1 B1 hl1
def Ztq:Sp:=fun vs H Q _=>∃(n:Nat) (l:Addr) (ps:List Addr) (bs:List Bar),vs=[.int (n:Int),.ref l]∧n≤64∧BL H l ps bs∧Q (.int ((Zap n bs:Nat):Int)) H
theorem Zsu (T:Txt K mg t):FnS P w K mg base 2 "_law_out" ["_law_size","_law_bars_here"] (Ztq):=by
 refine⟨_,_,T.ZcC.ok ZdN (fun vs H Q E h=>?_) (fun _ _ _ _ H vs Q E hr h=>?_),T.Zhn,T.ZcC.kp,T.ZhC⟩
 ·obtain⟨n,l,ps,bs,rfl,hn,B,q⟩:=h
  rfl
 obtain⟨n,l,ps,bs,rfl,hn,B,q⟩:=h;have Zbs:=ZgJ (P:=P) (w:=w) (base:=base) T
 refine⟨_,(Zab (ss 2 ZdN.nd Zad)
   (Zab (Zb3 PassesOwn.never rfl (ZdV (pv 1)) (sg 3 ZdN.nd)
   (Zac (ss 2 ZdN.nd (Zah Zft (pv 2) (ZaA Zbs hr (Zaa (pv 0) (Zaa (pv 3) Zae)))))))
   (Zac (Zaj (pv 2))))),?_⟩
 walk_at "rd0";refine seqL (xs:=ps.map V.ref) (fun i σ H'=>H'=H∧∃v,σ=[some (.int (n:Int)),some (.ref l),some (.int ((Zap n (bs.take i):Nat):Int)),v]) ⟨rfl,_,by rw[take_zero,Ze5]; rfl⟩ (fun i σ H' _ hp=>by obtain⟨rfl,_⟩:=hp; exact SqL.of B.fl) ?_ ?_
 ·rintro i x σ H' hx ⟨rfl,v,rfl⟩
  obtain⟨p,rfl,hx'⟩:=ZeE hx;obtain⟨b,hbi,hbp⟩:=Zbc B.pr hx';walk_at "";refine⟨n,p,b,rfl,hn,hbp,B.gd b (mem_of_getElem? hbi),?_⟩;walk_at "";refine⟨rfl,some (.ref p),?_⟩;rw[Zdw,ZcY hbi,ZfB]
 ·rintro σ H' ⟨rfl,v,rfl⟩
  walk_at "";rw[length_map,ZaI B.pr,take_length];exact q
def Zpm:Sp:=fun vs H Q _=>∃(la:Addr) (m st bd c:Nat) (af:List Nat),vs=[.int (st:Int),.int (bd:Int),.ref la,.int (c:Int)]∧m≤6∧AF la af m H∧Q (.bl (fenB af st bd c)) H
theorem ZkR (T:Txt K mg t):FnS P w K mg base 1 "_law_fence" ["_law_starts","_law_bads","_law_after","_law_out_here"] (Zpm):=by
 refine⟨_,_,T.ZbI.ok Ze4 (fun vs H Q E h=>?_) (fun _ _ _ _ H vs Q E hr h=>?_),T.ZfI,T.ZbI.kp,T.ZfR⟩
 ·obtain⟨la,m,st,bd,c,af,rfl,hm,A,q⟩:=h
  rfl
 obtain⟨la,m,st,bd,c,af,rfl,hm,A,q⟩:=h;have hp:=Za6 hm;have hfl:=A.fl;have ln:=A.len;have no:(¬(st &&& c=0∧srcN af c=0∧bd - (bd &&& c)=0))→fenB af st bd c=false:=fun h=>decide_eq_false h
 refine⟨_,(Zab (ZaZ (PW.pt (Zhi (Zal (ZeB hr.units) (Zah ZaG (pv 0) (pv 3)) Zad (Zaw _)) (ZfX (Zal (ZeB hr.units) (Zah ZaG (pv 1) (Zjd Zg2 (pv 3))) Zad (Zaw _)))))
   (Zac (Zaj Zdk))
   Zai)
   (Zab (Zb3 PassesOwn.never rfl (Zbn rfl T.B.range (Zaa (Zar Za5 rfl T.B.len ZdS (Zaa (pv 2) Zae)) Zae)) (sg 4 Ze4.nd)
   (Zac (ZaZ (PW.pt (Zjg (Zal (ZbW hr.units) (Zah ZaG (Zah Zd5 (pv 3) (pv 4)) Zad) Zad (Zaw _)) (ZgU (Zal (ZeB hr.units) (Zah ZaG (Zcm ZbD (pv 2) (pv 4) (fun _ _=>rfl)) (pv 3)) Zad (Zaw _)))))
   (Zac (Zaj Zdk))
   Zai)))
   (Zac (Zaj Zdk)))),?_⟩
 walk_at "rd0";rw[ZbA]
 by_cases h1:st &&& c=0
 rotate_left
 ·refine ZcA (by rw[decide_eq_false (by omega)]; rfl) ?_
  refine ZcA rfl ?_;walk_at "";rw[no fun z=>h1 z.1]at q;exact q
 refine ZaQ (by rw[h1]; rfl) ?_;walk_at "";rw[Za9]
 by_cases h2:bd - (bd &&& c)=0
 rotate_left
 ·refine ZcA (by rw[decide_eq_false (by omega)]; rfl) ?_
  walk_at "";rw[no fun z=>h2 z.2.2]at q;exact q
 refine ZaQ (by rw[h2]; rfl) ?_;walk_at "";rw[Zbg];refine⟨_,rfl,by omega,by omega,?_⟩;rw[Int.toNat_natCast];refine ZfQ (n:=af.length) (fun i σ H'=>H'=H∧(∀j,j < i→c.testBit j=false→af.getD j 0 &&& c=0)∧∃v4,σ=[some (.int (st:Int)),some (.int (bd:Int)),some (.ref la),some (.int (c:Int)),v4]) ⟨rfl,fun j hj=>absurd hj (Nat.not_lt_zero _),_,rfl⟩ ?_ ?_
 ·rintro i σ H' hi ⟨rfl,hj,v4,rfl⟩
  walk_at "";rw[show decide (Builtin.bitAnd ((c:Int) / 2 ^ ((i:Int)).toNat) 1=0) = !c.testBit i by rw[Zfr]; cases c.testBit i <;> decide]
  cases hb:c.testBit i with
  | true=>
   refine ZaQ rfl ?_;refine ZaQ rfl ?_;walk_at "";refine⟨rfl,fun j h1 h2=>?_,_,rfl⟩
   by_cases e:j=i
   ·subst e; rw[hb]at h2; cases h2
   ·exact hj j (by omega) h2
  | false=>
   refine ZcA rfl ?_;walk_at "";refine Zg9 hfl (ZdH hi) ?_;walk_at "";rw[ZbA]
   by_cases h3:af.getD i 0 &&& c=0
   ·refine ZaQ (by rw[h3]; rfl) ?_
    walk_at "";refine⟨rfl,fun j h1 h2=>?_,_,rfl⟩
    by_cases e:j=i
    ·subst e; exact h3
    ·exact hj j (by omega) h2
   ·refine ZcA (by rw[decide_eq_false (by omega)]; rfl) ?_
    walk_at ""
    have:srcN af c≠0:=fun z=>by
     have:=(Zg0 af c i).mpr ⟨hi,h3,hb⟩;rw[z,Nat.zero_testBit]at this
     cases this
    rw[no fun z=>this z.2.1]at q;exact q
 ·rintro σ H' ⟨rfl,hj,v4,rfl⟩
  walk_at ""
  have:srcN af c=0:=by
   apply Nat.eq_of_testBit_eq;intro k;rw[Nat.zero_testBit]
   cases e:(srcN af c).testBit k with
   | false=>rfl
   | true=>
    obtain⟨a1,a2,a3⟩:=(Zg0 af c k).mp e;exact absurd (hj k a1 a3) a2
  rw[show fenB af st bd c=true from ZmD.mpr ⟨h1,this,h2⟩]at q;exact q
end
theorem Zsm {a b:Bar} (h:ple (ib a) (ib b)) (n:a≠b):HT.lexLt [(a.1:Int),(a.2:Int)] [(b.1:Int),(b.2:Int)]=true:=by
 rw[HT.lexLt_cons,HT.lexLt_cons,HT.lexLt_nil_nil];have h:(a.1:Int) < (b.1:Int)∨((a.1:Int)=(b.1:Int)∧(a.2:Int)≤(b.2:Int)):=h
 rcases h with h | ⟨h1,h2⟩
 ·rw[if_neg (by omega)]; exact decide_eq_true h
 ·rw[if_pos h1]
  have:(a.2:Int)≠(b.2:Int):=fun z=>n (Prod.ext (by omega) (by omega));rw[if_neg this]; exact decide_eq_true (by omega)
section
variable {P:Program} {w:World} {K:W.Frag} {mg:Str→Option Value} {base:Heap} {t:Ad}
theorem Zi0 {b f:Bar} (h:Less b f):f.1 - (f.1 &&& b.1)=0∧b.2 &&& f.1=f.2:=by
 refine⟨?_,h.2.symm⟩
 have e:f.1 &&& b.1=f.1:=by
  apply Nat.eq_of_testBit_eq;intro k;rw[Nat.testBit_and]
  cases z:f.1.testBit k with
  | false=>rfl
  | true=>rw[h.1 k z]; rfl
 rw[e,Nat.sub_self]
theorem ZmS {H:Hp} {Q:VK} {l l':Addr} {ps ps':List Addr} {ks ks':List (Int×Int)} (h:H l=some (.lst (ps.map V.ref))) (h':H l'=some (.lst (ps'.map V.ref))) (p:Paired (Zct H) ps ks) (p':Paired (Zct H) ps' ks') (q:Q (.bl (decide (ks=ks'))) H):rEqA (.ref l) (.ref l') H Q:=by
 refine .inr ⟨.list (ks.map pd),.list (ks'.map pd),?_,?_,?_,?_,?_,?_⟩
 ·rw[DV]; exact⟨l,_,rfl,h,Zd2 p⟩
 ·rw[DV]; exact⟨l',_,rfl,h',Zd2 p'⟩
 ·rw[PyData.canLay0]; exact Zd4 ks
 ·rw[PyData.canLay0]; exact Zd4 ks'
 ·rw[PyData.depth]
  have:∀a:List (Int×Int),PyData.depthAll (a.map pd)≤1:=fun a=>by induction a with | nil=>exact Nat.zero_le _ | cons x a ih=>simp only [map_cons,PyData.depthAll,pd,PyData.depth]; omega
  have:=this ks;omega
 ·rw[PyData.eqv,Zd3]; exact q
def Zrp:Sp:=fun vs H Q _=>∃(lf lb:Addr) (pf pb:List Addr) (F bs:List Bar),vs=[.ref lf,.ref lb]∧BL H lf pf F∧BL H lb pb bs∧F.length≤5000∧bs.length≤5000∧F.Nodup∧(F.map ib).Pairwise ple∧(∀f∈F,∃b∈bs,Less b f)∧∀H',Same H H'→Q (.bl true) H'
theorem ZoR (T:Txt K mg t):FnS P w K mg base 1 "_law_kinds" ["_law_found","_law_bars_here"] (Zrp):=by
 refine⟨_,_,T.ZbJ.ok Zb0 (fun vs H Q E h=>?_) (fun _ _ _ _ H vs Q E hr h=>?_),T.ZfJ,T.ZbJ.kp,T.ZfS⟩
 ·obtain⟨lf,lb,pf,pb,F,bs,rfl,B,C,hz,hzb,nd,so,fr,q⟩:=h
  rfl
 obtain⟨lf,lb,pf,pb,F,bs,rfl,B,C,hz,hzb,nd,so,fr,q⟩:=h;have bf:=B.fl;have pl:=ZaI B.pr;have plb:=ZaI C.pr
 refine⟨_,(Zab (ZaZ (ZcX (Zan (Zar ZdC rfl T.B.isinstance Zav (Zaa (pv 0) (Zaa (Zd6 (v:=.ty "list") rfl T.B.list Zfi rfl) Zae))) (fun _=>rfl)))
   (Zac (Zaj Zdk))
   Zai)
   (Zab (Zb3 PassesOwn.never rfl (Zbn rfl T.B.range (Zaa (Zar Za5 rfl T.B.len ZdS (Zaa (pv 0) Zae)) Zae)) (sg 2 Zb0.nd)
   (Zab (ss 3 Zb0.nd (Zcm ZbD (pv 0) (pv 2) (fun _ _=>rfl)))
   (Zab (ZaZ (PW.pt (Zhi (ZcX (Zan (Zar ZdC rfl T.B.isinstance Zav (Zaa (pv 3) (Zaa (Zd6 (v:=.ty "tuple") rfl T.B.tuple Zkr rfl) Zae))) (fun _=>rfl))) (Zhi (Zal (ZeB hr.units) (Zar Za5 rfl T.B.len ZdS (Zaa (pv 3) Zae)) Zad (Zaw _)) (ZfX (PW.pt (Zjg (Zal Zq7 (pv 2) Zad (Zaw _)) (ZgU (Zal (Zsy hr.units) (Zcm ZbD (pv 0) (Zah ZhL (pv 2) Zad) (fun _ _=>rfl)) (pv 3) (Zaw _)))))))))
   (Zac (Zaj Zdk))
   Zai)
   (Zab (Zb3 PassesOwn.never rfl (ZdV (pv 3)) (sg 4 Zb0.nd)
   (Zac (ZaZ (PW.pt (Zhi (ZcX (Zan (Zar ZdC rfl T.B.isinstance Zav (Zaa (pv 4) (Zaa (Zd6 (v:=.ty "int") rfl T.B.int Zpv rfl) Zae))) (fun _=>rfl))) (ZfX (Zan (Zar ZdC rfl T.B.isinstance Zav (Zaa (pv 4) (Zaa (Zd6 (v:=.ty "bool") rfl T.B.bool Zmm rfl) Zae))) (fun _=>rfl)))))
   (Zac (Zaj Zdk))
   Zai)))
   (Zab (ZgS 5 Zb0.nd (sc:=Zag Zc9) (N:=["_law_found","_law_bars_here","_law_k","_law_bar","_law_number","_law_old"]) (ns:=["_law_bar"]) (ix:=[3]) rfl rfl (by decide +kernel) rfl (ZdV (pv 1)) (fun _ _ _ _=>(Zif (PW.pt (Zjg (Zal (ZbW hr.units) (Zah ZaG (Zcm (Zfp (K:=K) rfl) (pv 1) Zad (fun _ _=>rfl)) (Zjd Zg2 (Zcm (Zfp (K:=K) rfl) (pv 0) Zad (fun _ _=>rfl)))) Zad (Zaw _)) (ZgU (Zal (ZbW hr.units) (Zah ZaG (Zcm (Zfp (K:=K) rfl) (pv 0) Zad (fun _ _=>rfl)) (Zcm (Zfp (K:=K) rfl) (pv 1) Zad (fun _ _=>rfl))) (Zcm (Zfp (K:=K) rfl) (pv 1) Zad (fun _ _=>rfl)) (Zaw _))))))) (fun _ _ _ _=>(pv 0)))
   (Zac (ZaZ (Zal (ZbW hr.units) (pv 5) (ZkX Zae) (Zaw _))
   (Zac (Zaj Zdk))
   Zai)))))))
   (Zac (Zaj Zdk)))),?_⟩
 walk_at "rd0";refine ZaQ rfl ?_;walk_at "";rw[length_map,pl];refine⟨_,rfl,by omega,by omega,?_⟩;rw[Int.toNat_natCast];refine ZfQ (n:=F.length) (fun i σ H'=>Same H H'∧∃v2 v3 v4 v5,σ=[some (.ref lf),some (.ref lb),v2,v3,v4,v5]) ⟨Same.refl _,_,_,_,_,rfl⟩ ?_ ?_
 ·rintro i σ H' hi ⟨sm,v2,v3,v4,v5,rfl⟩
  have at_:∀j,j < F.length→∃p b,pf[j]?=some p∧F[j]?=some b∧ZaR H' p b:=fun j hj=>by
   obtain⟨p,hp⟩ : ∃p,pf[j]?=some p:=⟨pf[j]'(by omega),List.getElem?_eq_getElem (by omega)⟩;obtain⟨b,hb,hB⟩:=Zbc B.pr hp;exact⟨p,b,hp,hb,sm _ _ hB⟩
  have gr:∀{j:Nat} {p:Addr},pf[j]?=some p→(pf.map V.ref)[j]?=some (.ref p):=fun {j p} h=>by rw[getElem?_map,h]; rfl
  obtain⟨p,f,hpi,hfi,hB⟩:=at_ i hi;have hBt:H' p=some (.tup [.int (f.1:Int),.int (f.2:Int)]):=hB;have hfm:=mem_of_getElem? hfi;walk_at "rs";refine ZiM ?_;walk_at "rs";refine Zg9 (sm _ _ bf) (gr hpi) ?_;walk_at "rs";refine Zez (fun σ H''=>H''=H'∧σ=[some (.ref lf),some (.ref lb),some (.int (i:Int)),some (.ref p),v4,v5]) ?_ ?_
  rotate_left
  ·intro Kn hK
   walk_at "";refine ZaQ rfl ?_;walk_at "";refine ZaQ (by simp) ?_;walk_at ""
   by_cases h0:i=0
   ·refine ZaQ (decide_eq_false (by omega)) ?_
    refine ZaQ rfl ?_;walk_at "";exact hK _ _ ⟨rfl,rfl⟩
   ·obtain⟨p',f',hpi',hfi',hB'⟩:=at_ (i - 1) (by omega)
    refine ZcA (decide_eq_true (by omega)) ?_;walk_at "";rw[show((i:Int) - 1)=((i - 1:Nat):Int) by omega];refine Zg9 (sm _ _ bf) (gr hpi') ?_;walk_at ""
    have hlt:i - 1 < F.length:=by omega
    have e1:F[i - 1]'hlt=f':=(List.getElem?_eq_some_iff.mp hfi').2;have e2:F[i]'hi=f:=(List.getElem?_eq_some_iff.mp hfi).2
    have hne:f'≠f:=fun z=>by
     have:=(List.getElem?_inj hlt nd).mp (hfi'.trans (by rw[z]; exact hfi.symm));omega
    have hple:ple (ib f') (ib f):=by
     have:=List.pairwise_iff_getElem.mp (List.pairwise_map.mp so) (i - 1) i hlt hi (by omega);rw[e1,e2]at this;exact this
    refine⟨p',p,[(f'.1:Int),(f'.2:Int)],[(f.1:Int),(f.2:Int)],rfl,rfl,SqT.of hB',SqT.of hB,?_⟩;rw[Zsm hple hne];refine⟨_,rfl,?_⟩;refine ZaQ rfl ?_;walk_at "";exact hK _ _ ⟨rfl,rfl⟩
  rintro σ H'' ⟨rfl,rfl⟩;refine Zez (fun σ H2=>H2=H''∧∃v4,σ=[some (.ref lf),some (.ref lb),some (.int (i:Int)),some (.ref p),v4,v5]) ?_ ?_
  rotate_left
  ·intro Kn hK
   walk_at "";refine seqT (xs:=[V.int (f.1:Int),V.int (f.2:Int)]) (fun j σ H2=>H2=H''∧∃v4,σ=[some (.ref lf),some (.ref lb),some (.int (i:Int)),some (.ref p),v4,v5]) ⟨rfl,_,rfl⟩ (fun j σ H2 _ hp=>by obtain⟨rfl,_⟩:=hp; exact SqT.of hBt) ?_ ?_
   ·rintro j x σ H2 hx ⟨rfl,v4,rfl⟩
    obtain⟨n,rfl⟩ : ∃n:Int,x=.int n:=by
     have:=mem_of_getElem? hx
     rcases mem_cons.mp this with rfl | this
     ·exact⟨_,rfl⟩
     ·rw[mem_singleton.mp this]; exact⟨_,rfl⟩
    walk_at "";refine ZaQ rfl ?_;walk_at "";refine ZaQ rfl ?_;walk_at "";exact⟨rfl,_,rfl⟩
   ·rintro σ H2 ⟨rfl,v4,rfl⟩
    exact hK _ _ ⟨rfl,_,rfl⟩
  rintro σ H2 ⟨rfl,v4,rfl⟩;have cf:=sm _ _ C.fl;walk_at "";refine .inl ⟨lb,_,rfl,SqL.of cf,?_⟩;refine Zfl (fun j ys=>∃qs ks,ys=qs.map V.ref∧Paired (ZaR H2) qs ks∧((∃b∈bs.take j,Less b f)→ks≠[])) (Zim (SqL.of cf)) (by rw[length_map]; omega) ⟨[],[],rfl,.nil,fun⟨b,hb,_⟩=>by cases hb⟩ ?_ ?_
  ·rintro j x ys acc H3 hx s3 hacc ea ⟨qs,ks,rfl,hq,hne⟩ _ R kk
   obtain⟨pc,rfl,hpc⟩:=ZeE hx;obtain⟨cb,hcj,hCb⟩:=Zbc C.pr hpc;have hC2:ZaR H2 pc cb:=sm _ _ hCb;have tk:=ZcY hcj;have yes:∀(y:V),y=.ref pc→∃qs' ks',(qs.map V.ref++[y])=qs'.map V.ref∧Paired (ZaR H2) qs' ks'∧((∃b∈bs.take (j+1),Less b f)→ks'≠[]):=fun y hy=>⟨qs++[pc],ks++[cb],by rw[hy,map_append]; rfl,Paired.snoc hq hC2,fun _ z=>by simp at z⟩
   have no : ¬Less cb f→∃qs' ks',(qs.map V.ref)=qs'.map V.ref∧Paired (ZaR H2) qs' ks'∧((∃b∈bs.take (j+1),Less b f)→ks'≠[]):=fun hn=>⟨qs,ks,rfl,hq,fun⟨b,hb,hl⟩=>by
    rw[tk]at hb
    rcases mem_append.mp hb with hb | hb
    ·exact hne ⟨b,hb,hl⟩
    ·rw[mem_singleton.mp hb]at hl; exact absurd hl hn⟩
   simp only [subS,map_cons,map_nil];walk_at "";refine Zes (s3 _ _ hBt) (v:=.int (f.1:Int)) rfl ?_;walk_at "";refine Zes (s3 _ _ hC2) (v:=.int (cb.1:Int)) rfl ?_;walk_at "";rw[Za9]
   by_cases h1:f.1 - (f.1 &&& cb.1)=0
   ·refine ZcA (by rw[h1]; rfl) ?_
    walk_at "";refine Zes (s3 _ _ hC2) (v:=.int (cb.2:Int)) rfl ?_;walk_at "";refine Zes (s3 _ _ hBt) (v:=.int (f.1:Int)) rfl ?_;walk_at "";refine Zes (s3 _ _ hBt) (v:=.int (f.2:Int)) rfl ?_;walk_at "";rw[ZbA];refine kk _ H3 (Same.refl _) (fun z=>no fun hl=>?_) fun _ R2 k2=>?_
    ·have:=(Zi0 hl).2
     rw[this]at z;simp at z
    ·walk_at ""
     exact k2 _ H3 (Same.refl _) (yes _ rfl)
   ·refine ZaQ (decide_eq_false (by omega)) ?_
    refine kk _ H3 (Same.refl _) (fun _=>no fun hl=>h1 (Zi0 hl).1) fun z=>by cases z
  rintro acc ys H3 n3 s3 e3 ⟨qs,ks,rfl,hq,hne⟩;rw[length_map,plb,take_length]at hne;have hks:=hne (fr f hfm);walk_at "";refine ZoB (Nat.le_of_ble_eq_true rfl) fun l4 H4 s4 n4 e4=>?_;walk_at "";refine ZmS (ps':=[]) (s4 _ _ e3) e4 (Zby (ZaH (fun _ _ z=>s4 _ _ (s3 _ _ z)) hq)) .nil ?_;rw[decide_eq_false (fun z=>hks (List.map_eq_nil_iff.mp z))];walk_at "";refine ZaQ rfl ?_;walk_at "";exact⟨sm.trans (s3.trans s4),_,_,_,_,rfl⟩
 ·rintro σ H' ⟨sm,v2,v3,v4,v5,rfl⟩
  walk_at "";exact q H' sm
def Zpo:Sp:=fun vs H Q _=>∃(lf la:Addr) (pf:List Addr) (F bs:List Bar) (m st bd:Nat) (af:List Nat),vs=[.ref lf,.int (st:Int),.int (bd:Int),.ref la]∧BL H lf pf F∧m≤6∧AF la af m H∧F.length≤5000∧TgR m st bd af bs F∧∀H',Same H H'→Q (.bl true) H'
theorem Zpj {n k:Nat} {F:List Bar} (nd:F.Nodup) {f:Bar} (hf:F[k]?=some f) {o:Nat} (ho:∀s,o.testBit s=true ↔ ∃j b,j≠k∧F[j]?=some b∧(ZaD n b).testBit s=true):o=Zap n (F.filter fun c=>!decide (c=f)):=by
 apply Nat.eq_of_testBit_eq;intro s;rw[Bool.eq_iff_iff,ho,ZeP,Bool.and_eq_true]
 constructor
 ·rintro⟨j,b,hj,hb,hs⟩
  rw[ZdZ,Bool.and_eq_true]at hs;refine⟨hs.1,any_eq_true.mpr ⟨b,mem_filter.mpr ⟨mem_of_getElem? hb,?_⟩,hs.2⟩⟩
  have:b≠f:=fun z=>by
   rw[z]at hb;exact hj ((List.getElem?_inj (List.getElem?_eq_some_iff.mp hb).1 nd).mp (hb.trans hf.symm))
  rw[decide_eq_false this];rfl
 ·rintro⟨h1,h2⟩
  obtain⟨b,hb,hl⟩:=any_eq_true.mp h2;obtain⟨hb1,hb2⟩:=mem_filter.mp hb;obtain⟨j,hj⟩:=mem_iff_getElem?.mp hb1;refine⟨j,b,fun z=>?_,hj,by rw[ZdZ,h1,hl]; rfl⟩;rw[z,hf]at hj
  cases hj
  simp at hb2
theorem Zja (T:Txt K mg t):FnS P w K mg base 2 "_law_tight" ["_law_found","_law_starts","_law_bads","_law_after"] (Zpo):=by
 refine⟨_,_,T.ZbL.ok Zao (fun vs H Q E h=>?_) (fun _ _ _ _ H vs Q E hr h=>?_),T.ZfL,T.ZbL.kp,T.ZfU⟩
 ·obtain⟨lf,la,pf,F,bs,m,st,bd,af,rfl,B,hm,A,hz,R,q⟩:=h
  rfl
 obtain⟨lf,la,pf,F,bs,m,st,bd,af,rfl,B,hm,A,hz,R,q⟩:=h;have Zbs:=ZgJ (P:=P) (w:=w) (base:=base) T;have Zck:=ZkR (P:=P) (w:=w) (base:=base) T;have hp:=Za6 hm;have hfl:=A.fl;have bf:=B.fl;have pl:=ZaI B.pr
 refine⟨_,(Zab (ss 4 Zao.nd (Zar Za5 rfl T.B.len ZdS (Zaa (pv 3) Zae)))
   (Zab (ZgS 5 Zao.nd (sc:=Zag Zdb) (N:=["_law_found","_law_starts","_law_bads","_law_after","_law_size","_law_insides","_law_k","_law_others","_law_j","_law_asked","_law_lamp","_law_rest","_law_wider","_law_out_here"]) (ns:=["_law_size"]) (ix:=[4]) rfl rfl (by decide +kernel) rfl (ZdV (pv 0)) (fun _ _ _ _=>Zj9) (fun _ _ _ _=>(ZaA Zbs hr (Zaa (pv 1) (Zaa (pv 0) Zae)))))
   (Zab (Zb3 PassesOwn.never rfl (Zbn rfl T.B.range (Zaa (Zar Za5 rfl T.B.len ZdS (Zaa (pv 0) Zae)) Zae)) (sg 6 Zao.nd)
   (Zab (ss 7 Zao.nd Zad)
   (Zab (Zb3 PassesOwn.never rfl (Zbn rfl T.B.range (Zaa (Zar Za5 rfl T.B.len ZdS (Zaa (pv 0) Zae)) Zae)) (sg 8 Zao.nd)
   (Zac (ZaZ (Zal (ZeB hr.units) (pv 8) (pv 6) (Zaw _))
   (Zac (ss 7 Zao.nd (Zah Zft (pv 7) (Zcm ZbD (pv 5) (pv 8) (fun _ _=>rfl)))))
   Zai)))
   (Zab (ZaZ (Zan (ZaA Zck hr (Zaa (pv 1) (Zaa (pv 2) (Zaa (pv 3) (Zaa (pv 7) Zae))))) (fun _=>rfl))
   (Zac (Zaj Zdk))
   Zai)
   (Zab (ss 9 Zao.nd (Zcm ZbD (Zcm ZbD (pv 0) (pv 6) (fun _ _=>rfl)) Zad (fun _ _=>rfl)))
   (Zac (Zb3 PassesOwn.never rfl (Zbn rfl T.B.range (Zaa Zad Zae)) (sg 10 Zao.nd)
   (Zab (ss 11 Zao.nd (Zjd Zg2 (Zah ZbX Zad (pv 10))))
   (Zab (ss 12 Zao.nd (ZeC (Zaa (Zah ZaG (pv 9) (pv 11)) (Zaa (Zah ZaG (Zcm ZbD (Zcm ZbD (pv 0) (pv 6) (fun _ _=>rfl)) Zad (fun _ _=>rfl)) (pv 11)) Zae))))
   (Zab (ss 13 Zao.nd (Zah Zft (pv 7) (ZaA Zbs hr (Zaa (pv 4) (Zaa (pv 12) Zae)))))
   (Zac (ZaZ (PW.pt (Zjg (Zal (ZbW hr.units) (Zah ZaG (Zah Zd5 (pv 9) (pv 10)) Zad) Zad (Zaw _)) (ZgU (Zan (ZaA Zck hr (Zaa (pv 1) (Zaa (pv 2) (Zaa (pv 3) (Zaa (pv 13) Zae))))) (fun _=>rfl)))))
   (Zac (Zaj Zdk))
   Zai))))))))))))
   (Zac (Zaj Zdk))))),?_⟩
 walk_at "rd0";rw[Zbg,A.len];refine .inl ⟨lf,_,rfl,SqL.of bf,?_⟩;refine Zfl (fun j ys=>ys=(nums ((F.take j).map (ZaD (2 ^ m)))).map V.int) (Zim (SqL.of bf)) (by rw[length_map]; omega) rfl ?_ ?_
 ·intro j x ys acc H' hx s1 hacc ea hy _ R' kk
  obtain⟨p,rfl,hpj⟩:=ZeE hx;obtain⟨b,hbj,hB⟩:=Zbc B.pr hpj;simp only [subS,map_cons,map_nil];walk_at "";refine kk _ H' (Same.refl _) (fun z=>by cases z) fun z R2 k2=>?_;walk_at "";refine⟨2 ^ m,p,b,rfl,hp,s1 _ _ hB,B.gd b (mem_of_getElem? hbj),?_⟩;refine k2 _ H' (Same.refl _) ?_;rw[hy,ZcY hbj,map_append,map_cons,map_nil,Zi9]
 intro li ys H1 n1 s1 e1 hy;rw[length_map,pl,take_length]at hy;subst hy;have bf1:=s1 _ _ bf;have A1:AF la af m H1:=⟨s1 _ _ A.fl,A.len,A.bd⟩;have lF:(F.map (ZaD (2 ^ m))).length=F.length:=length_map _;walk_at "";rw[length_map,pl];refine⟨_,rfl,by omega,by omega,?_⟩;rw[Int.toNat_natCast];refine ZfQ (n:=F.length) (fun i σ H'=>Same H1 H'∧∃v6 v7 v8 v9 v10 v11 v12 v13,σ=[some (.ref lf),some (.int (st:Int)),some (.int (bd:Int)),some (.ref la),some (.int ((2 ^ m:Nat):Int)),some (.ref li),v6,v7,v8,v9,v10,v11,v12,v13]) ⟨Same.refl _,_,_,_,_,_,_,_,_,rfl⟩ ?_ ?_
 ·rintro i σ H' hi ⟨sm,v6,v7,v8,v9,v10,v11,v12,v13,rfl⟩
  obtain⟨p,hpi⟩ : ∃p,pf[i]?=some p:=⟨pf[i]'(by omega),List.getElem?_eq_getElem (by omega)⟩;obtain⟨f,hfi,hB⟩:=Zbc B.pr hpi;have hfm:=mem_of_getElem? hfi;have gf:=B.gd f hfm
  have gp:(pf.map V.ref)[i]?=some (.ref p):=by rw[getElem?_map,hpi]; rfl
  have hB':H' p=some (.tup [.int (f.1:Int),.int (f.2:Int)]):=sm _ _ (s1 _ _ hB);have bf':=sm _ _ bf1;have e1':=sm _ _ e1;have A':AF la af m H':=⟨sm _ _ A1.fl,A.len,A.bd⟩;walk_at "rs";refine ZiM ?_;walk_at "rs";refine Zez (fun σ H2=>H2=H'∧∃(o:Nat) (v8:Option V),(∀s,o.testBit s=true ↔ ∃j b,j≠i∧F[j]?=some b∧(ZaD (2 ^ m) b).testBit s=true)∧o < 2 ^ 2 ^ m∧σ=[some (.ref lf),some (.int (st:Int)),some (.int (bd:Int)),some (.ref la),some (.int ((2 ^ m:Nat):Int)),some (.ref li),some (.int (i:Int)),some (.int (o:Int)),v8,v9,v10,v11,v12,v13]) ?_ ?_
  rotate_left
  ·intro Kn hK
   walk_at "";rw[length_map,pl];refine⟨_,rfl,by omega,by omega,?_⟩;rw[Int.toNat_natCast];refine ZfQ (n:=F.length) (fun k σ H2=>H2=H'∧∃(o:Nat) (v8:Option V),(∀s,o.testBit s=true ↔ ∃j b,j < k∧j≠i∧F[j]?=some b∧(ZaD (2 ^ m) b).testBit s=true)∧o < 2 ^ 2 ^ m∧σ=[some (.ref lf),some (.int (st:Int)),some (.int (bd:Int)),some (.ref la),some (.int ((2 ^ m:Nat):Int)),some (.ref li),some (.int (i:Int)),some (.int (o:Int)),v8,v9,v10,v11,v12,v13]) ⟨rfl,0,_,fun s=>⟨fun z=>(by rw[Nat.zero_testBit]at z; cases z),fun⟨j,b,z,_⟩=>(by omega)⟩,Nat.two_pow_pos _,rfl⟩ ?_ ?_
   ·rintro k σ H2 hk ⟨rfl,o,v8,ho,hol,rfl⟩
    obtain⟨c,hck⟩ : ∃c,F[k]?=some c:=⟨F[k]'hk,List.getElem?_eq_getElem hk⟩;walk_at ""
    by_cases hki:k=i
    ·refine ZaQ (by rw[decide_eq_true (by omega)]; rfl) ?_
     walk_at "";refine⟨rfl,o,_,fun s=>(ho s).trans ⟨fun⟨j,b,h1,h2⟩=>⟨j,b,by omega,h2⟩,fun⟨j,b,h1,h2⟩=>⟨j,b,by have:=h2.1; omega,h2⟩⟩,hol,rfl⟩
    ·refine ZcA (by rw[decide_eq_false (by omega)]; rfl) ?_
     walk_at "";refine Zg9 e1' (ZdH (by omega)) ?_
     have ec:(F.map (ZaD (2 ^ m))).getD k 0=ZaD (2 ^ m) c:=by rw[getD_eq_getElem?_getD,getElem?_map,hck]; rfl
     walk_at "";rw[ec,Zdw];refine⟨rfl,_,_,fun s=>?_,Nat.or_lt_two_pow hol (ZdB _ _),rfl⟩;rw[Nat.testBit_or,Bool.or_eq_true,ho]
     constructor
     ·rintro(⟨j,b,h1,h2⟩ | h)
      ·exact⟨j,b,by omega,h2⟩
      ·exact⟨k,c,by omega,hki,hck,h⟩
     ·rintro⟨j,b,h1,h2,h3,h4⟩
      by_cases e:j=k
      ·subst e
       rw[hck]at h3
       cases h3
       exact .inr h4
      ·exact .inl ⟨j,b,by omega,h2,h3,h4⟩
   ·rintro σ H2 ⟨rfl,o,v8,ho,hol,rfl⟩
    exact hK _ _ ⟨rfl,o,_,fun s=>(ho s).trans ⟨fun⟨j,b,h1,h2⟩=>⟨j,b,h2⟩,fun⟨j,b,h2⟩=>⟨j,b,(List.getElem?_eq_some_iff.mp h2.2.1).1,h2⟩⟩,hol,rfl⟩
  rintro σ H2 ⟨rfl,o,v8,ho,hol,rfl⟩;have eo:=Zpj R.nd hfi ho;walk_at "";refine⟨la,m,st,bd,o,af,rfl,hm,A',?_⟩;rw[eo,R.br f hfm,←eo];walk_at "";refine ZaQ rfl ?_;walk_at "";refine Zg9 bf' gp ?_;walk_at "";refine Zes hB' (v:=.int (f.1:Int)) rfl ?_;walk_at "";refine⟨6,rfl,by omega,by omega,?_⟩;refine ZfQ (n:=6) (fun k σ H3=>Same H2 H3∧∃v10 v11 v12 v13,σ=[some (.ref lf),some (.int (st:Int)),some (.int (bd:Int)),some (.ref la),some (.int ((2 ^ m:Nat):Int)),some (.ref li),some (.int (i:Int)),some (.int (o:Int)),v8,some (.int (f.1:Int)),v10,v11,v12,v13]) ⟨Same.refl _,_,_,_,_,rfl⟩ ?_ ?_
  ·rintro k σ H3 hk ⟨s3,v10,v11,v12,v13,rfl⟩
   walk_at "";rw[show(1:Int) * 2 ^ ((k:Int)).toNat=((2 ^ k:Nat):Int) from Zbe k,Za9];refine Zg9 (s3 _ _ bf') gp ?_;walk_at "";refine Zes (s3 _ _ hB') (v:=.int (f.2:Int)) rfl ?_;walk_at "";rw[Za9];refine Zhb (Nat.le_of_ble_eq_true rfl) fun p4 H4 s4 n4 e4=>?_;have gw:(f.wo k).good:=Zkp gf k;walk_at "";refine⟨2 ^ m,p4,f.wo k,rfl,hp,e4,gw,?_⟩;walk_at "";rw[Zdw,Zp0]
   cases hbk:f.1.testBit k with
   | false=>
    refine ZaQ rfl ?_;refine ZaQ rfl ?_;walk_at "";exact⟨s3.trans s4,_,_,_,_,rfl⟩
   | true=>
    refine ZcA rfl ?_;walk_at "";refine⟨la,m,st,bd,_,af,rfl,hm,⟨(s3.trans s4) _ _ A'.fl,A.len,A.bd⟩,?_⟩
    have eu:o ||| ZaD (2 ^ m) (f.wo k)=Zap (2 ^ m) F ||| ZaD (2 ^ m) (f.wo k):=by
     apply Nat.eq_of_testBit_eq;intro s;rw[Nat.testBit_or,Nat.testBit_or,Bool.eq_iff_iff,Bool.or_eq_true,Bool.or_eq_true]
     constructor
     ·rintro(h | h)
      ·obtain⟨j,b,_,hb,hs⟩:=(ho s).mp h
       exact .inl (Zku (mem_of_getElem? hb) hs)
      ·exact .inr h
     ·rintro(h | h)
      ·rw[ZeP,Bool.and_eq_true]at h
       obtain⟨b,hb,hl⟩:=any_eq_true.mp h.2;obtain⟨j,hj⟩:=mem_iff_getElem?.mp hb
       by_cases e:j=i
       ·subst e
        rw[hfi]at hj
        cases hj
        refine .inr ?_;rw[ZdZ,h.1,Bool.true_and];exact ZiZ gf gw (Zm8 (Zgw gf) k) hl
       ·exact .inl ((ho s).mpr ⟨j,b,e,hj,by rw[ZdZ,h.1,hl]; rfl⟩)
      ·exact .inr h
    rw[eu,R.lp f hfm k hbk];walk_at "";refine ZaQ rfl ?_;walk_at "";exact⟨s3.trans s4,_,_,_,_,rfl⟩
  ·rintro σ H3 ⟨s3,v10,v11,v12,v13,rfl⟩
   walk_at "";exact⟨sm.trans s3,_,_,_,_,_,_,_,_,rfl⟩
 ·rintro σ H' ⟨sm,v6,v7,v8,v9,v10,v11,v12,v13,rfl⟩
  walk_at "";exact q H' (s1.trans sm)
end
section
variable {P:Program} {w:World} {K:W.Frag} {mg:Str→Option Value} {base:Heap} {t:Ad}
def ZsW (t:Ad):Sp:=fun vs H Q _=>∃(p l:Addr) (m st bd:Nat) (af:List Nat) (ps:List Addr) (bs:List Bar),vs=[.ref p,.ref l]∧Zbd t H p m st bd af∧GoodC m st bd af∧BL H l ps bs∧ps.length≤100∧fenB af st bd (Zap (2 ^ m) bs)=false∧∀H',Same H H'→Q (.bl true) H'
theorem Zf5 (T:Txt K mg t):FnS P w K mg base 8 "_law_refused_alone" ["_law_chart","_law_bars_here"] ((ZsW t)):=by
 refine⟨_,_,T.Zax.ok Zcn (fun vs H Q E h=>?_) (fun _ _ _ _ H vs Q E hr h=>?_),T.Zcu,T.Zax.kp,T.Zcv⟩
 ·obtain⟨p,l,m,st,bd,af,ps,bs,rfl,hC,hG,B,hz,hf,q⟩:=h
  rfl
 obtain⟨p,l,m,st,bd,af,ps,bs,rfl,hC,hG,B,hz,hf,q⟩:=h;have Zjw:=ZkT (P:=P) (w:=w) (base:=base) T;have pl:=ZaI B.pr
 refine⟨_,(Zab (Zqa (Zo4 (Zp6 Zjw hr (Zaa (pv 0) (Zaa (pv 1) Zae))))
   (ZoX (i:=2) ⟨rfl,T.Zgx,T.Zdd,T.ZfN,T.Zc8,by decide⟩ Zcn.nd rfl rfl (fun ea oe C pn h1 h2 h3 h4 hx=>(Zab (ZaZ (ZgT (K:=K) (by rfl) (Zar (ZeQ hx h1 h2 h3 h4) (by rfl) T.B.isinstance Zav (Zaa (pv 2) (Zaa (ZeC (Zaa (Zcq (v:=.ref t.ZaO) (by rfl) T.Zgy rfl) (Zaa (Zcq (v:=.ref t.Zbi) (by rfl) T.Zi3 rfl) (Zaa (Zcq (v:=.ref t.ZbV) (by rfl) T.ZkP rfl) (Zaa (Zcq (v:=.ref t.ZbT) (by rfl) T.ZkN rfl) (Zaa (Zcq (v:=.ref t.ZbU) (by rfl) T.ZkO rfl) (Zaa (Zcq (v:=.ref t.ZcT) (by rfl) T.Zng rfl) Zae))))))) Zae))) (fun _=>rfl))
   (Zac (Zaj Zdk))
   Zai)
   (Zab (ZaZ (ZgT (K:=K) (by rfl) (Zar (ZeQ hx h1 h2 h3 h4) (by rfl) T.B.isinstance Zav (Zaa (pv 2) (Zaa (ZeC (Zaa (Zcq (v:=.ref t.Zbk) (by rfl) T.Zi5 rfl) (Zaa (Zcq (v:=.ref t.Zbj) (by rfl) T.Zi4 rfl) (Zaa (Zcq (v:=.ref t.ZaP) (by rfl) T.Zgz rfl) (Zaa (Zcq (v:=.ref t.Zau) (by rfl) T.ZeX rfl) (Zaa (Zcq (v:=.ref t.Zbl) (by rfl) T.Zi6 rfl) Zae)))))) Zae))) (fun _=>rfl))
   (Zac (Zaj Zdk))
   Zai)
   (Zac (Zaj (ZkW (Zar (ZeQ hx h1 h2 h3 h4) (by rfl) T.B.isinstance Zav (Zaa (pv 2) (Zaa (Zcq (v:=.ref t.Zaf) (by rfl) T.ZeW rfl) Zae))) (ZkY (Zar (ZeQ hx h1 h2 h3 h4) (by rfl) T.B.isinstance Zav (Zaa (pv 2) (Zaa (Zd6 (v:=.ty "ValueError") (by rfl) T.b_ValueError (by decide +kernel) rfl) Zae))))))))))
   Zp8))
   (Zac (Zaj Zdk))),?_⟩
 walk_at "rd0";refine Zsa ?_;refine Zr1 ?_;walk_at "";refine⟨p,l,m,st,bd,af,ps,bs,rfl,hC,hG,B.fl,B.pr,B.gd,by omega,fun _ H1 s1=>⟨_,rfl,?_⟩,fun z=>by rw[hf]at z; cases z⟩;refine ZmU T.Za1 ?_;refine i_as T.ZgV fun ea=>?_
 (try dsimp only [List.set_cons_succ,List.set_cons_zero])
 walk_at "";refine Zhb (Nat.le_of_ble_eq_true rfl) fun p1 H2 s2 n2 e2=>?_;walk_at "";refine ZmV (cs:=[t.ZaO,t.Zbi,t.ZbV,t.ZbT,t.ZbU,t.ZcT]) e2 (fun d hd=>?_) ?_
 ·simp only [mem_cons,List.not_mem_nil,or_false]at hd
  rcases hd with rfl | rfl | rfl | rfl | rfl | rfl
  all_goals first | exact T.ZdW | exact T.Zde | exact T.Zcw | exact T.Zdx | exact T.Zdy | exact T.Zdz
 walk_at "";refine ZaQ rfl ?_;walk_at "";refine Zhb (Nat.le_of_ble_eq_true rfl) fun p2 H3 s3 n3 e3=>?_;walk_at "";refine ZmV (cs:=[t.Zbk,t.Zbj,t.ZaP,t.Zau,t.Zbl]) e3 (fun d hd=>?_) ?_
 ·simp only [mem_cons,List.not_mem_nil,or_false]at hd
  rcases hd with rfl | rfl | rfl | rfl | rfl
  all_goals first | exact T.Zdh | exact T.Zdg | exact T.Zcx | exact T.Zb4 | exact T.Zdi
 walk_at "";refine ZaQ rfl ?_;walk_at "";refine ZqD T.Zdf ?_;walk_at "";refine ZcA rfl ?_;walk_at "";refine ZqE T.Zjr ?_;exact q H3 (s1.trans (s2.trans s3))
def Zrt (t:Ad):Sp:=fun vs H Q _=>∃(p lb la:Addr) (m st bd:Nat) (af:List Nat) (ps:List Addr) (bs:List Bar),vs=[.ref p,.ref lb,.int (st:Int),.int (bd:Int),.ref la]∧Zbd t H p m st bd af∧GoodC m st bd af∧BL H lb ps bs∧ps.length≤70∧AF la af m H∧∀H',Same H H'→Q (.bl true) H'
theorem Zq6 (T:Txt K mg t):FnS P w K mg base 9 "_law_told" ["_law_chart","_law_bars_here","_law_starts","_law_bads","_law_after"] ((Zrt t)):=by
 refine⟨_,_,T.Zb6.ok ZbS (fun vs H Q E h=>?_) (fun _ _ _ _ H vs Q E hr h=>?_),T.Zgm,T.Zb6.kp,T.ZgB⟩
 ·obtain⟨p,lb,la,m,st,bd,af,ps,bs,rfl,hC,hG,B,hz,A,q⟩:=h
  rfl
 obtain⟨p,lb,la,m,st,bd,af,ps,bs,rfl,hC,hG,B,hz,A,q⟩:=h;have Zck:=ZkR (P:=P) (w:=w) (base:=base) T;have Zhm:=Zsu (P:=P) (w:=w) (base:=base) T;have Zjw:=ZkT (P:=P) (w:=w) (base:=base) T;have Zeq:=Zf5 (P:=P) (w:=w) (base:=base) T;have Zio:=ZoR (P:=P) (w:=w) (base:=base) T;have Ziq:=Zja (P:=P) (w:=w) (base:=base) T;have hp:=Za6 hG.m6;have hfl:=A.fl;have pl:=ZaI B.pr
 refine⟨_,(Zab (ss 5 ZbS.nd (ZaA Zck hr (Zaa (pv 2) (Zaa (pv 3) (Zaa (pv 4) (Zaa (ZaA Zhm hr (Zaa (Zar Za5 rfl T.B.len ZdS (Zaa (pv 4) Zae)) (Zaa (pv 1) Zae))) Zae))))))
   (Zab (ss 6 ZbS.nd (Ze1 Zfj rfl T.B.list Zfi (Zaa (pv 1) Zae)))
   (Zab (ss 7 ZbS.nd ZfW)
   (Zab (Zqa (Zre (i:=7) ZbS.nd rfl (.inl rfl) (Zp6 Zjw hr (Zaa (pv 0) (Zaa (pv 6) Zae))))
   (ZsG ⟨rfl,T.ZeW,T.Zep,T.Zhw,T.Zdu,by decide⟩ (fun _ _ _ _ _ _=>(Zac (ss 7 ZbS.nd ZfW)))
   Zp8))
   (Zab (ZaZ (Zal (ZeB hr.units) (pv 6) (pv 1) (Zaw _))
   (Zac (Zaj Zdk))
   Zai)
   (Zab (ZaZ (ZcX (Zan (pv 5) (fun _=>rfl)))
   (Zac (Zaj (ZkW (Zj6 Zno (pv 7) ZfW (Zaw _)) (ZkY (ZaA Zeq hr (Zaa (pv 0) (Zaa (pv 6) Zae)))))))
   Zai)
   (Zab (ZaZ (PW.pt (Zhi (ZcX (Zan (ZaA Zio hr (Zaa (pv 7) (Zaa (pv 1) Zae))) (fun _=>rfl))) (ZfX (ZcX (Zan (ZaA Zck hr (Zaa (pv 2) (Zaa (pv 3) (Zaa (pv 4) (Zaa (ZaA Zhm hr (Zaa (Zar Za5 rfl T.B.len ZdS (Zaa (pv 4) Zae)) (Zaa (pv 7) Zae))) Zae))))) (fun _=>rfl))))))
   (Zac (Zaj Zdk))
   Zai)
   (Zab (ZaZ (ZcX (Zan (ZaA Ziq hr (Zaa (pv 7) (Zaa (pv 2) (Zaa (pv 3) (Zaa (pv 4) Zae))))) (fun _=>rfl)))
   (Zac (Zaj Zdk))
   Zai)
   (Zab (Znw (ZsD PySem.F.plainAttrs_list PySem.F.slot_list_append PySem.F.type_list_append ZgE (pv 7) (Zaa (ZeC (Zaa Zad (Zaa Zad Zae))) Zae)))
   (Zac (Zaj (Zj6 (ZbW hr.units) (pv 6) (pv 1) (Zaw _))))))))))))),?_⟩
 walk_at "rd0";rw[Zbg,A.len];refine⟨2 ^ m,lb,ps,bs,rfl,hp,B,?_⟩;walk_at "";refine⟨la,m,st,bd,_,af,rfl,hG.m6,A,?_⟩;walk_at "rs";refine ZiM ?_;walk_at "rs";refine Zm2 (.inl (SqL.of B.fl)) fun lh H1 s1 n1 e1=>?_;have B1:BL H1 lb ps bs:=B.mono s1;have Bh:BL H1 lh ps bs:=⟨e1,B1.pr,B.gd⟩;have hC1:=hC.mono (Ext.of s1);have A1:AF la af m H1:=⟨s1 _ _ A.fl,A.len,A.bd⟩;walk_at "rs";refine ZiM ?_;walk_at "rs";refine ZiM ?_;refine Zox ?_;refine Zr1 ?_;walk_at "";refine⟨p,lh,m,st,bd,af,ps,bs,rfl,hC1,hG,e1,B1.pr,B.gd,by omega,fun hf H2 s2=>⟨_,rfl,?_⟩,fun hf a pf F H2 s2 n2 e2 p2 R=>?_⟩
 ·refine ZmU T.Zbh ?_
  rw[hf];walk_at "";refine ZkE (s2 _ _ e1) (s2 _ _ B1.fl) (Zby (Zdj (Ext.of s2) B1.pr)) (Zby (Zdj (Ext.of s2) B1.pr)) ?_;rw[decide_eq_true rfl];walk_at "";refine ZaQ rfl ?_;walk_at "";refine ZcA rfl ?_;walk_at "";refine⟨rfl,?_⟩;walk_at "";refine ZcA (by simp) ?_;walk_at "";exact⟨p,lh,m,st,bd,af,ps,bs,rfl,hC1.mono (Ext.of s2),hG,Bh.mono s2,by omega,hf,fun H' s'=>q H' (s1.trans (s2.trans s'))⟩
 ·rw[hf]
  have B2:=B1.mono s2;have F2:BL H2 a pf F:=⟨e2,p2,fun f hf=>(R.fr f hf).1⟩;have A2:AF la af m H2:=⟨s2 _ _ A1.fl,A.len,A.bd⟩;have fl:=R.ln;have na:H a=none:=s1.free n2;walk_at "";refine ZkE (s2 _ _ e1) B2.fl (Zby B2.pr) (Zby B2.pr) ?_;rw[decide_eq_true rfl];walk_at "";refine ZaQ rfl ?_;walk_at "";refine ZaQ rfl ?_;walk_at "";refine⟨a,lb,pf,ps,F,bs,rfl,F2,B2,by omega,by omega,R.nd,R.so,fun f hf=>(R.fr f hf).2,fun H3 s3=>?_⟩;have fla3:=s3 _ _ A2.fl;walk_at "";refine ZaQ rfl ?_;walk_at "";rw[Zbg,A.len];refine⟨2 ^ m,a,pf,F,rfl,hp,F2.mono s3,?_⟩;walk_at "";refine⟨la,m,st,bd,_,af,rfl,hG.m6,⟨fla3,A.len,A.bd⟩,?_⟩;rw[R.fe];walk_at "";refine ZaQ rfl ?_;walk_at "";refine⟨a,la,pf,F,bs,m,st,bd,af,rfl,F2.mono s3,hG.m6,⟨fla3,A.len,A.bd⟩,by omega,R,fun H4 s4=>?_⟩;walk_at "";refine ZaQ rfl ?_;have e4:=s4 _ _ (s3 _ _ e2);walk_at "";refine⟨tyL e4,?_⟩;walk_at "";refine Zhb (Nat.le_of_ble_eq_true rfl) fun pz H5 s5 n5 e5=>?_;walk_at "";have plf:=ZaI p2;refine ZkI (s5 _ _ e4) (by rw[length_map]; omega) fun H6 b6 e6=>?_;have sm5:Same H2 H5:=s3.trans (s4.trans s5);have sm6:Same H H6:=b6.same na (s1.trans (s2.trans sm5))
  have nlh:lh≠a:=fun z=>by rw[←z,e1]at n2; cases n2
  have nlb:lb≠a:=fun z=>by rw[←z,B1.fl]at n2; cases n2
  have k6:Paired (ZaR H6) ps bs:=Zdj (Ext.of sm6) B.pr;walk_at "";refine ZmS (b6 _ _ nlh (sm5 _ _ (s2 _ _ e1))) (sm6 _ _ B.fl) (Zby k6) (Zby k6) ?_;rw[decide_eq_true rfl];exact q H6 sm6
end
section
variable {P:Program} {w:World} {K:W.Frag} {mg:Str→Option Value} {base:Heap} {t:Ad}
theorem ok_law (T:Txt K mg t):FnOk P w K mg base CX0 16 t.f_law t.d_law ["_law_script"] (spLaw K):=by
 refine T.F_law.ok Zdc (fun vs H Q E h=>?_) (fun _ _ _ _ H vs Q E hr h=>?_)
 ·obtain⟨a,ns,rfl,_⟩:=h
  rfl
 obtain⟨sc,ns,rfl,hS,h63,hO,q⟩:=h;have Zat:=ZhK (P:=P) (w:=w) (base:=base) T;have Zip:=ZoS (P:=P) (w:=w) (base:=base) T;have Zjv:=Zq5 (P:=P) (w:=w) (base:=base) T;have Zgg:=Zq6 (P:=P) (w:=w) (base:=base) T;have Zqj:=ZoP (P:=P) (w:=w) (base:=base) T
 refine⟨_,(Zab (ss 1 Zdc.nd (ZaA Zat hr (Zaa (pv 0) (Zaa Zad Zae))))
   (Zab (ss 2 Zdc.nd (Zah ZdI Zad (Zah ZbE (pv 1) Zad)))
   (Zab (ss 3 Zdc.nd (Zah ZbX Zad (pv 2)))
   (Zab (ss 4 Zdc.nd (Zah ZbE (ZaA Zat hr (Zaa (pv 0) (Zaa Zad Zae))) (Zah ZbX Zad (pv 3))))
   (Zab (ZaZ (Zal (ZbW hr.units) (Zah ZbE (Zah Zbw (pv 1) Zad) Zad) Zad (Zaw _))
   (Zac (ss 4 Zdc.nd (Zah ZhL (Zah ZhL (Zah ZbX Zad (pv 3)) Zad) (Zah ZaG (Zah ZaG (pv 4) (Zah Zbw (pv 4) Zad)) (Zah Zbw (pv 4) Zad)))))
   Zai)
   (Zab (ss 5 Zdc.nd (Zah ZaG (Zah ZbE (ZaA Zat hr (Zaa (pv 0) (Zaa Zad Zae))) (Zah ZbX Zad (pv 3))) (pv 4)))
   (Zab (ss 6 Zdc.nd (Zah ZaG (Zah ZbE (ZaA Zat hr (Zaa (pv 0) (Zaa Zad Zae))) (Zah ZbX Zad (pv 3))) (Zjd Zg2 (pv 4))))
   (Zab (ss 7 Zdc.nd (ZaA Zip hr (Zaa (Zgb Zk5 (pv 0) (Zfu Zad) (Zfu Zad)) (Zaa (pv 3) (Zaa (pv 4) Zae)))))
   (Zab (ZaZ (Zal (ZbW hr.units) (Zah ZbE (Zah Zbw (pv 1) Zad) Zad) Zad (Zaw _))
   (Zac (Zb3 PassesOwn.never rfl (Zbn rfl T.B.range (Zaa (pv 3) Zae)) (sg 8 Zdc.nd)
   (Zab (Zk1 (Zah ZbE (ZaA Zat hr (Zaa (pv 0) (Zaa (Zah ZdI Zad (pv 8)) Zae))) (Zah ZbX Zad (pv 3))) (Zk0 (pv 7) (pv 8) Zgd))
   (Zac (ZaZ (Zal (ZbW hr.units) (Zah ZaG (Zah Zd5 (pv 4) (pv 8)) Zad) Zad (Zaw _))
   (Zac (Zk1 (Zah ZaG (Zcm ZbD (pv 7) (pv 8) (fun _ _=>rfl)) (pv 4)) (Zk0 (pv 7) (pv 8) Zgd)))
   Zai)))))
   Zai)
   (Zab (ss 9 Zdc.nd (ZaA Zat hr (Zaa (pv 0) (Zaa Zad Zae))))
   (Zab (ZaZ (Zal (ZbW hr.units) (Zah ZbE (Zah Zbw (pv 1) Zad) Zad) Zad (Zaw _))
   (Zac (Zk1 (Zah Zft (Zcm ZbD (pv 7) (Zah ZbE (pv 9) (pv 3)) (fun _ _=>rfl)) (Zah ZbX Zad (Zah ZbE (Zah Zbw (pv 9) (pv 3)) (pv 3)))) (Zk0 (pv 7) (Zah ZbE (pv 9) (pv 3)) Zgd)))
   Zai)
   (Zab (ZaZ (Zal (ZbW hr.units) (Zah ZbE (Zah Zbw (pv 1) Zad) Zad) Zad (Zaw _))
   (Zac (ss 6 Zdc.nd (Zah Zft (pv 6) (Zah ZbX Zad (Zah ZbE (pv 9) (pv 3))))))
   Zai)
   (Zab (ss 10 Zdc.nd (Ztn Zqj hr (Zaa (pv 2) (Zaa (pv 5) (Zaa (pv 6) (Zaa (Ze1 Zfj rfl T.B.list Zfi (Zaa (pv 7) Zae)) Zae))))))
   (Zab (ss 11 Zdc.nd (ZaA Zjv hr (Zaa (pv 0) (Zaa (pv 3) (Zaa (pv 4) Zae)))))
   (Zab (ZaZ (ZcX (Zan (ZaA Zgg hr (Zaa (pv 10) (Zaa (pv 11) (Zaa (pv 5) (Zaa (pv 6) (Zaa (pv 7) Zae)))))) (fun _=>rfl)))
   (Zac (Zaj Zdk))
   Zai)
   (Zac (Zaj (ZaA Zgg hr (Zaa (pv 10) (Zaa (ZhO rfl rfl T.B.list rfl T.B.reversed (pv 11)) (Zaa (pv 5) (Zaa (pv 6) (Zaa (pv 7) Zae))))))))))))))))))))))),?_⟩
 walk_at "rd0";refine⟨sc,ns,0,rfl,hS,?_⟩;generalize cell ns 0=y0;walk_at "";obtain⟨m,hm,hm1,hm6⟩ : ∃m:Nat,1+y0 % 6=(m:Int)∧1≤m∧m≤6:=⟨(1+y0 % 6).toNat,by omega,by omega,by omega⟩;rw[hm];have hp:=Za6 hm6;have hp0:0 < 2 ^ m:=Nat.two_pow_pos m;have h2p:0 < 2 ^ 2 ^ m:=Nat.two_pow_pos _;walk_at "";rw[Zbe];refine⟨sc,ns,1,rfl,hS,?_⟩;obtain⟨sh0,hsh0,lsh0⟩:=ZcW (cell ns 1) (2 ^ m);walk_at "";rw[Zbe];refine i_rI (by show(0:Int) < _; omega) ?_;rw[hsh0]
 dsimp only [Zg6]
 refine Zez (fun σ H'=>∃sh:Nat,H=H'∧sh < 2 ^ 2 ^ m∧σ=[some (.ref sc),some (.int y0),some (.int (m:Int)),some (.int ((2 ^ m:Nat):Int)),some (.int (sh:Int)),none,none,none,none,none,none,none]) ?_ ?_
 rotate_left
 ·intro Kn hK
  walk_at "";refine Zg8 (fun h1=>?_) (fun h1=>?_)
  ·walk_at ""
   rw[Zbe,show((sh0:Int) / 3)=((sh0 / 3:Nat):Int) by omega,ZbA,show((sh0:Int) / 7)=((sh0 / 7:Nat):Int) by omega,ZbA];have a1:sh0 &&& sh0 / 3 &&& sh0 / 7≤sh0:=Nat.le_trans Nat.and_le_left Nat.and_le_left;exact hK _ _ ⟨2 ^ 2 ^ m - 1 - (sh0 &&& sh0 / 3 &&& sh0 / 7),rfl,by omega,by rw[show((2 ^ 2 ^ m - 1 - (sh0 &&& sh0 / 3 &&& sh0 / 7):Nat):Int)=((2 ^ 2 ^ m:Nat):Int) - 1 - ((sh0 &&& sh0 / 3 &&& sh0 / 7:Nat):Int) by omega]⟩
  ·walk_at ""
   exact hK _ _ ⟨sh0,rfl,lsh0,rfl⟩
 clear lsh0 hsh0 sh0;rintro σ H0 ⟨sh,rfl,lsh,rfl⟩;walk_at "";refine⟨sc,ns,2,rfl,hS,?_⟩;obtain⟨s2,hs2,ls2⟩:=ZcW (cell ns 2) (2 ^ m);walk_at "";rw[Zbe];refine i_rI (by show(0:Int) < _; omega) ?_;rw[hs2];walk_at "";rw[ZbA];obtain⟨st,hst,lst⟩ : ∃st,s2 &&& sh=st∧st < 2 ^ 2 ^ m:=⟨_,rfl,Nat.lt_of_le_of_lt Nat.and_le_left ls2⟩;rw[hst];refine⟨sc,ns,3,rfl,hS,?_⟩;obtain⟨b2,hb2,lb2⟩:=ZcW (cell ns 3) (2 ^ m);walk_at "";rw[Zbe];refine i_rI (by show(0:Int) < _; omega) ?_;rw[hb2];walk_at "";rw[Za9];obtain⟨bd0,hbd0,lbd0⟩ : ∃bd,b2 - (b2 &&& sh)=bd∧bd < 2 ^ 2 ^ m:=⟨_,rfl,by omega⟩;rw[hbd0];refine ZoC hS ((Zmt _ 5 80).trans (ZgD ns 5 75)) fun cp H1 s1 n1 e1=>?_;walk_at "";refine⟨cp,_,m,sh,rfl,e1,hm6,fun l H2 af s2' n2 A2=>?_⟩;have sm2:=s1.trans s2';have nl:H l=none:=s1.free n2;clear hst hbd0 hs2 ls2 hb2 lb2 e1 s2' n2 n1 s1 H1
 dsimp only [Zg6]
 refine Zez (fun σ H'=>∃af v8,Same H H'∧AF l af m H'∧σ=[some (.ref sc),some (.int y0),some (.int (m:Int)),some (.int ((2 ^ m:Nat):Int)),some (.int (sh:Int)),some (.int (st:Int)),some (.int (bd0:Int)),some (.ref l),v8,none,none,none]) ?_ ?_
 rotate_left
 ·intro Kn hK
  walk_at "";refine Zg8 (fun h1=>?_) (fun h1=>?_)
  rotate_left
  ·walk_at ""
   exact hK _ _ ⟨af,_,sm2,A2,rfl⟩
  walk_at "";refine⟨_,rfl,by omega,by omega,?_⟩;rw[Int.toNat_natCast];refine ZfQ (n:=2 ^ m) (fun i σ H'=>∃af v8,Same H H'∧AF l af m H'∧σ=[some (.ref sc),some (.int y0),some (.int (m:Int)),some (.int ((2 ^ m:Nat):Int)),some (.int (sh:Int)),some (.int (st:Int)),some (.int (bd0:Int)),some (.ref l),v8,none,none,none]) ⟨af,_,sm2,A2,rfl⟩ ?_ ?_
  ·clear A2 sm2 H2 af
   rintro i σ H2 hi ⟨af,v8,sm2,A2,rfl⟩;walk_at "";rw[show(8:Int)+(i:Int)=((8+i:Nat):Int) by omega];refine⟨sc,ns,8+i,rfl,sm2.seq hS,?_⟩;obtain⟨a,ha,la⟩:=ZcW (cell ns (8+i)) (2 ^ m);walk_at "";rw[Zbe];refine i_rI (by show(0:Int) < _; omega) ?_;rw[ha];walk_at "";refine Zm3 A2.fl (by rw[Zbg,A2.len]; exact hi) fun H3 b3 e3=>?_;have A3:AF l (af.set i a) m H3:=A2.set e3 la;have sm3:=b3.same nl sm2;walk_at "";rw[Zp0];refine ZjQ (fun h2=>?_) (fun h2=>?_)
   ·walk_at ""
    refine Zg9 A3.fl (ZdH (by rw[A3.len]; exact hi)) ?_;walk_at "";rw[ZbA];refine Zm3 A3.fl (by rw[Zbg,A3.len]; exact hi) fun H4 b4 e4=>?_;walk_at "";exact⟨_,_,b4.same nl sm3,A3.set e4 (Nat.lt_of_le_of_lt Nat.and_le_right lsh),rfl⟩
   ·walk_at ""
    exact⟨_,_,sm3,A3,rfl⟩
  ·rintro σ H3 ⟨af',v8,sm3,A3,rfl⟩
   exact hK _ _ ⟨af',_,sm3,A3,rfl⟩
 clear A2 sm2 H2 af;rintro σ H2 ⟨af,v8,sm2,A2,rfl⟩;walk_at "rs";refine ZiM ?_;walk_at "rs";refine⟨sc,ns,4,rfl,sm2.seq hS,?_⟩;generalize cell ns 4=c;walk_at "rs";refine Zez (fun σ H'=>∃af,Same H H'∧AF l af m H'∧σ=[some (.ref sc),some (.int y0),some (.int (m:Int)),some (.int ((2 ^ m:Nat):Int)),some (.int (sh:Int)),some (.int (st:Int)),some (.int (bd0:Int)),some (.ref l),v8,some (.int c),none,none]) ?_ ?_
 rotate_left
 ·intro Kn hK
  obtain⟨a,ha,la⟩:=ZcW c m;obtain⟨b,hb,lb⟩:=ZcW (c / ((2 ^ m:Nat):Int)) m;walk_at "";refine Zg8 (fun h1=>?_) (fun h1=>?_)
  ·walk_at ""
   rw[ha];refine Zg9 A2.fl (ZdH (by rw[A2.len]; exact la)) ?_;walk_at "";rw[hb];walk_at "";rw[Zbe,Zdw]
   try rw[ha]
   refine Zm3 A2.fl (by rw[Zbg,A2.len]; exact la) fun H3 b3 e3=>?_;exact hK _ _ ⟨_,b3.same nl sm2,A2.set e3 (Nat.or_lt_two_pow (ZmI A2.bd h2p) (Zj7 lb)),rfl⟩
  ·walk_at ""
   exact hK _ _ ⟨af,sm2,A2,rfl⟩
 clear A2 sm2 H2 af;rintro σ H2 ⟨af,sm2,A2,rfl⟩;refine Zez (fun σ H'=>∃bd:Nat,H'=H2∧bd < 2 ^ 2 ^ m∧σ=[some (.ref sc),some (.int y0),some (.int (m:Int)),some (.int ((2 ^ m:Nat):Int)),some (.int (sh:Int)),some (.int (st:Int)),some (.int (bd:Int)),some (.ref l),v8,some (.int c),none,none]) ?_ ?_
 rotate_left
 ·intro Kn hK
  obtain⟨a,ha,la⟩:=ZcW c m;walk_at "";refine Zg8 (fun h1=>?_) (fun h1=>?_)
  ·walk_at ""
   rw[ha];walk_at "";rw[Zbe,Zdw];exact hK _ _ ⟨_,rfl,Nat.or_lt_two_pow lbd0 (Zj7 la),rfl⟩
  ·walk_at ""
   exact hK _ _ ⟨bd0,rfl,lbd0,rfl⟩
 clear lbd0 bd0;rintro σ H3 ⟨bd,rfl,lbd,rfl⟩;have G:GoodC m st bd af:=⟨hm1,hm6,lst,lbd,A2.len,A2.bd⟩;walk_at "";refine Zm2 (.inl (SqL.of A2.fl)) fun d H5 s5 n5 e5=>?_;walk_at "";refine ZqB e5 G fun ch H6 s6 n6 hC=>?_;have sm6:=sm2.trans (s5.trans s6);walk_at "";refine⟨sc,ns,m,sh,rfl,sm6.seq hS,hm6,fun lb H7 ps bs s7 B hl=>?_⟩;have A7:AF l af m H7:=⟨(s5.trans (s6.trans s7)) _ _ A2.fl,A2.len,A2.bd⟩;have hC7:=hC.mono (Ext.of s7);walk_at "";refine⟨ch,lb,l,m,st,bd,af,ps,bs,rfl,hC7,G,B,hl,A7,fun H8 s8=>?_⟩;have B8:=B.mono s8;walk_at "";refine ZaQ rfl ?_;walk_at "";refine ZiR (SqL.of B8.fl) fun l9 H9 s9 n9 e9=>?_;walk_at "";exact⟨ch,l9,l,m,st,bd,af,ps.reverse,bs.reverse,rfl,hC7.mono (Ext.of (s8.trans s9)),G,⟨by rw[e9,List.map_reverse],ZhN (Zdj (Ext.of s9) B8.pr),fun b hb=>B.gd b (List.mem_reverse.mp hb)⟩,by rw[List.length_reverse]; exact hl,⟨(s8.trans s9) _ _ A7.fl,A7.len,A7.bd⟩,fun H' _=>q H'⟩
end
end LW
structure PySem.W.Fast : Prop where
 (tw16328289372989247886 tw14937304869134176741 tw9030074091874748473 tw10871906154804754805 tw5831704344991315376 tw10140221118840263236 tw8764824971103816129 tw185345233318333602 tw7416341920179804197 tw11123135940171913153 tw786103334989430609 tw155624599695387207 tw17979588108054886713 tw11960855937132015261 tw10135694608295184476 tw5843491697307228708 tw11931719996394840964 tw3066466020815410463 tw3148391329121881688 tw14879313374176960892 tw16161890769808532850 tw1750522146763308382 tw4149989009646431758 tw7588631038515397800 tw10049016484984910103 tw8298209657188510108 tw9704823747707295596 tw10748335085974571787 tw10809963637912577929 tw3758968246362438973 tw744286315940123293 tw11347531145571098032 tw12841231321043951365 tw9107772763999762097 tw17603902641099966115 tw7971121102096527512 tw4084555511090340407 tw16774173817588539723 tw13505381138254901616 tw13375702758757450580 tw4625901928032746796 tw10789957000072846920 tw6696707219330127321 tw4720058305256344086 tw15066184084428383121 tw3856705744786976578 tw7057751547652058261 tw17293743414533598164 tw12644927770446099831 tw1156778548651257785 tw9090652759325974307 tw7300689290220081117 tw6738626421946224848 tw12381964755058948201 tw17807054226185222286 tw7765256064685362045 tw4496329902086832962 tw11687903817503287992 tw5978355231863197717 tw2258784677324401256 tw2501715048738329790 tw4092732815172212053 tw17541821260542815815 tw4921846594822783183 tw2069536997029266062 tw17750307959341999372 tw15184932246798702160 tw9638715773087201865 tw7446495046395405115 tw17559263490198506059 tw9475148742275225697 tw17394800138429221888 tw8406755309385784626 tw215564265506496167 tw2070357102592339416 tw8760342886066336782 tw7650251647440242084 tw6066417303424730563 tw10104427182598609685 tw8215549194540943118 tw10641016862298123857 tw9708320563940004748 tw6450965229055637022 tw16498908217529118915 tw4145191771015009789 tw11128865842680095396 tw7283117488956089001 tw17421812363771936024 tw7655811500823230272 tw15400831251413085774 tw11531766402427097617 tw14252649158100704081 tw823557688437606259 tw4113569110297851593 tw8375567239995652904 tw3774735497514733518 tw11118448753777677948 tw17732301908270469688 tw610840511407902153 tw3564330017904954053 tw5508683820691762868 tw12091927560663530491 tw11844581139866937009 tw15794000549627676278 tw15504528252860320599 tw13722353918966815566 tw5119771314068715877 tw861587879756978689 tw17956081200224523296 tw4505327713729924898 tw15200143424198713633 tw315356688818503475 tw7493806522462097382 tw6675016598310105833 tw13333930492421172953 tw2807736972299239685 tw5182616438986328450 tw2228506544482181659 tw10351673018241600893 tw16687690687012864840 tw13510260680646413649 tw1957686654391445920 tw4836300908911197272 tw13070984526522077022 tw11128274308065174520 tw12144575827933299885 tw17281329617261879566 tw542990902688114152 tw463633209599135047 tw15726728724779116499 tw1395655944589130592 tw8574997725054419378 tw13548385143239929061 tw9156646574182968763 tw15106454290355011368 tw10727298431589105029 tw6471741510976078304 tw8595985900439982419 tw756200730898278871 tw3439887927718538823 tw10843166875740274184 tw12871453467990299258 tw7478150869693863997 tw15047628992289510362 tw124152740281208834 tw2551321963753255173 tw11189014109746201053 tw10432849985933857709 tw1352882568257228001 tw958494966823659341 tw15321348742644052704 tw15432436600230510064 tw5623867075100308813 tw4288256782600436328 tw12828149563446572199 tw8007974639972322707 tw12438454574795169176 tw1617307592939172604 tw17949207063743686883 tw1430081656897649752 tw7956010049674309213 tw9694611373205606481 tw3639084697298221598 tw10009740432637584931 tw8122646141137151420 tw16175948954624170927 tw17126340558551675056 tw7319791839112449382 tw18366048876841768268 tw10440318429229854370 tw4548764868149614679 tw7863412040895528190 tw2356399769836942267 tw15790279445033965686 tw11269556541915136058 tw9513667847363333934 tw6324007194884718308 tw7657358465965117189 tw13766520292045741974 tw13277225448234601716 tw8099759674266884119 tw3823040844590470395 tw9512986086580720375 tw6107954284887962948 tw16350688933842759636 tw3663040352973477761 tw4944368138316072063 tw6671898448603121044 tw7205799321849270833 tw9685391072865976222 tw18410409370032457770 tw11540309342369234003 tw8551535869174097363 tw11186863236814444134 tw12454421646470305333 tw12460051178023043482 tw17668327847980654366 tw15441345319933387277 tw14200616605065521270 tw2501153441031306269 tw9379129757542377652 tw8345618885985275640 tw11202344401044218804 tw1162151639193042698 tw15680561589668238546 tw17400748960949108979 tw1572886831178986875 tw10458272757567772723 tw11559394966968224390 tw9314336906313898681 tw7212436452922998152 tw10992914613170384181 tw1956153944896589772 tw990843294744055922 tw8674784939632004190 tw7205668575506622263 tw2906246559630184319 tw15159592460284388646 tw485892904270639024 tw1541619304843206142 tw4332637723911662178 tw11429358107396999471 tw8504693890739507464 tw9650879617101148431 tw5408955083207717193 tw4381376578925245151 tw705360104741779860 tw5868396993684563514 tw14307131405176666722 tw14403865359045716773 tw3248037293896807685 tw2304642473616790259 tw11151386293804977593 tw17041642971144155194 tw9002687381281021339 tw3237800114573185242 tw14162254812183237139 tw4410037142821821092 tw16394856100492120960 tw1452140130347699424 tw17950981169201943895 tw9888462781035165697 tw7791413053580130786 tw16727752933251531346 tw13447342897585213961 tw9421707447565550881 tw4105667938112852721 tw12151638775038073367 tw11172396918069539840 tw17513330672217683311 tw3031513155553635243 tw963634940327500801 tw8365669702656343563 tw18172399142229372371 tw641311250055327709 tw14123522779855112608 tw6603633150544320558 tw4525095515136854772 tw18099072644421750528 tw15052456349566650311 tw15580589626009816915 tw2991607356782805536 tw568354424755019499 tw8564398978669038047 tw3403513947908744783 tw6579107952309174144 tw14085406047665202427 tw11283459438850047490 tw8655882683526092687 tw10405634311047175585 tw13697555326128323593 tw2890067093607328693 tw4703550549671936511 tw4091669294054403057 tw12592579372953372386 tw6647817301061879217 tw6596668427762074546 tw7428769093040958624 tw13815910894859010826 tw7440990292411660462 tw2462197483976645905 tw359268283411500645 tw14192428561857913876 tw14105422288356443342 tw6123049083085316729 tw14218315030024016302 tw1702684073173668818 tw16889119814222582356 tw804414653654442217 tw15799080386216850677 tw4820378851297486723 tw16444871932527611148 tw7078640273408280310 tw16143238545406467985 tw15187048285770808032 tw2835293554260884906 tw11922206970761393302 tw842050602508530711 tw3182817217282856191 tw963876615481785689 tw18101232140980667503 tw9467618632496110938 tw4276582666203947333 tw14023956971306842260 tw5252307296423937499 tw1044502382633090083 tw685147672200083213 tw9143883263267049985 tw3359272446056299496 tw15288744886077617664 tw17760746399753650944 tw121579842280787898 tw10951449529863695286 tw4592135799773747446 tw13726752837118715616 tw2601319437309568332 tw3428408607773483526 tw17897579710995916373 tw13438978027907565491 tw17720355066212613249 tw10248277795614188297 tw984158187738525545 tw18120876878791481102 tw10486359845130994521 tw17107335782217299022 tw17788298380032802378 tw9131925327331966745 tw3755287540955479895 tw9991876060660454296 tw16580716540008612747 tw8470277244090122277 tw578369812312355220 tw16095117798391148498 tw1701945321459001417 tw7928585097658188819 tw13914453284944335764 tw13060276870957670706 tw14018678156450670316 tw3929474781786458325 tw7745012052182701333 tw17303662487673257808 tw5680090389268209281 tw18110316226418960258 tw18443721153840454563 tw17421207376485671630 tw1306398816568483473 tw10771166096821020537 tw16565298045314222100 tw15979112602142756194 tw12764403187000528377 tw251014246109449913 tw3263527632376458638 tw15605519261368134107 tw5853448253312102042 tw682399598729225170 tw13076137453357776040 tw3060007024770490352 tw12356983562476516817 tw3555208632621813792 tw5216164069139939403 tw11822415197633531705 tw16657760920883663652 tw14273844063368640950 tw18132077212952504905 tw5914496821966629021 tw4226831844254277995 tw4446671076216162942 tw4786471118741925904 tw16151582700348306803 tw17603075114105308760 tw9636879148859915670 tw8484719930641326657 tw10557541590034772225 tw3158716534825011336 tw13581184976609446761 tw2770011084988022543 tw10863902252748216052 tw5276254385571158914 tw16306683868056951087 tw11148866236966062945 tw7185139885941293420 tw2113574083466981738 tw16047579649383196086 tw8082299832108667389 tw1386401987576836205 tw2271792905693839088 tw181066229813719812 tw6641417446985546604 tw6928439251138066814 tw12593886884896928147 tw11793456466788107150 tw10159220767831719085 tw5714979503808557852 tw14629120736094997871 tw2956721866757996361 tw16009400763305949204 tw14531353977834566982 tw10686066394467604174 tw4031308046173502716 tw15418418420619631257 tw6912616112521508309 tw296116170936740471 tw6082412390215164295 tw5484062757184025794 tw18422971147615456632 tw17922675971050164926 tw17824404367568416564 tw11772040928720261749 tw3233654975694318136 tw16325522244715465664 tw4740865219463287951 tw14150972991987500691 tw13590089551498329626 tw610954269946674247 tw6899714575762811896 tw16220899510192097878 tw3169317459362420672 tw3081106650446174840 tw1933333293213623925 tw5927916742202803121 tw10013895494611221757 tw8700280224615745920 tw12582330956851451128 tw5179713125207877704 tw16071813332723841552 tw16434328467149898711 tw1380747791575136875 tw16117075791521822656 tw1143629296776978781 tw10026530075202548754 tw7611991061353915925 tw7887360897933500493 tw2937943263796466631 tw2831540375127222951 tw7880125796704454055 tw13260688546172064718 tw5974410644019186432 tw391703351987059876 tw16389418678752197180 tw9299928703563300736 tw15727980624676622556 tw12949300657514676674 tw8198513963062223349 tw14842370675705495211 tw4580279127561691691 tw11834005645218521079 tw2179135106679087769 tw5339243602834847801 tw4578016679807248711 tw7368796425721535550 tw10869134951924484880 tw1656426261125155399 tw10036077845829381315 tw716217777000944175 tw5566465210649028211 tw11091504103294710676 tw9806114168201939765 tw8569020890170783175 tw9241723423302637840 tw10856112656632905009 tw17614459018797444380 tw16322565274579990838 tw16987809181148427533 tw4877595216099256848 tw7688226840569994867 tw14755575019217309918 tw10029713297691304027 tw1834188596936897094 tw4482026739302064618 tw7922458919469528421 tw13201318306192868837 tw13201656812029980677 tw11569488675745287757 tw9209348974508530541 tw1811521238965022448 tw1982751605544769153 tw11496092303648241450 tw3352076643460392064 tw9608935593326501832 tw16703074885188523395 tw2723216801489817436 tw7278214194863000390 tw11984772879306423567 tw2221901788073735301 tw10869969607885707247 tw10403254087028712608 tw1761294963693364102 tw9557235131955721379 tw2340003731603910817 tw10926610499268004904 tw9182881048915529554 tw10045108267261933557 tw17516079799663952025 tw10664359939636710517 tw17514407949002877285 tw6444444006493547735 tw1641613707751404203 tw9044721258750211793 tw4615105387611875415 tw7251225653870405413 tw300139408546770952 tw15087039418799651957 tw6315441614827915377 tw11810107068870051850 tw11028814459585619843 tw6161297346487746032 tw16639497720192374933 tw17751371739552976248 tw6098513207245026841 tw1555463248434487113 tw11821899306543600203 tw2070536139247776163 tw9732000320641298380 tw14664827578799753493 tw6415047374531012937 tw9888803965017719398 tw5596150271778316798 tw14141113451997112628 tw10496557746206248760 tw4731732439548099037 tw7940285517593423976 tw12884931005377285027 tw835846352504090847 tw10122212787975652631 tw11275761339462771926 tw5672212496171927033 tw11618496308273982031 tw11265100283876729132 tw6006986948364799398 tw17130297931923204439 tw14300223829871958014 tw3296644963904639484 tw8703942516798073902 tw8374302381221801096 tw7443309531767010861 tw10119834595612054996 tw9862011553590322264 tw15600458926325296098 tw3050723746766153321 tw3040978998066254558 tw2237042682441272839 tw13228671910268239102 tw16740361738780677962 tw12662838062926801236 tw9895092757477825099 tw7430274052459775311 tw16526710738041825346 tw5715464662310631588 tw1153936481042520712 tw919274132463648200 tw7327960043831806659 tw1433928378629768713 tw17136351471347833373 tw2953834852570327563 tw9846886835120625301 tw14351758558106339723 tw17884205905277347551 tw5798617403034034136 tw7039299838035011681 tw12765534186944582756 tw6972799374268190777 tw16692002405043685519 tw6491846164257609858 tw960930585740440358 tw7533909415949243875 tw18103791578795175937 tw11137121433391613724 tw3229333463342195658 tw4143519358002094968 tw5523985545126798476 tw7225299837526875815 tw1618380301812684637 tw139375175952480555 tw1314854359660138791 tw4072455586810085844 tw13802886507573042566 tw11838412470775350219 tw3386273643013018218 tw1302383368950629445 tw1822661916391744258 tw8812709533090803774 tw7297051465712208059 tw17035685333250133527 tw16581720946080754911 tw4445537551282671325 tw15408961291244273820 tw11995836626576496178 tw13102721713638280784 tw14984339288627918370 tw2144783107852607683 tw2829962566961073245 tw7659191756510477237 tw9614484377222678313 tw1799054211047036367 tw12030924012052571751 tw1218739642816954399 tw3136265573783860966 tw2193669562095442122 tw3667851783632942527 tw8894131790662688854 tw3559452788037803072 tw15979777859143192822 tw1399898272994377284 tw13972948841863701564 tw6340527729174393928 tw13196032265359082211 tw13858798952127443459 tw12011814998351228044 tw5944237870699270524 tw8010815370732791122 tw12374350802509201434 tw10400346000509152559 tw7026635927741963433 tw15417953450389683342 tw6814084436009014393 tw3478375411914731722 tw6165530671977545374 tw186162387907830259 tw12340719674077748167 tw4237307113387109739 tw13883095781575682325 tw229580269522931442 tw10228040675366013637 tw13609333625921830664 tw6386189562605574852 tw8001397557614638071 tw8884387653278834831 tw10944832773273783221 tw14046014965742522381 tw922057300615715608 tw451331623431341677 tw9886459512856649061 tw16047189537772933628 tw15918469460910294691 tw3310878099694214599 tw6225994968096014153 tw7969617575539625973 tw18183766298193040382 tw1412324409260780820 tw7845385344511162467 tw12269469836858569440 tw10476631543501079389 tw430498648358984994 tw9528849905097569422 tw6958798080805129867 tw17315158269021777654 tw12351786006566011486 tw17612744963853249068 tw15751166653337198389 tw10800146161419477367 tw3828542721221030694 tw7127728497072340218 tw5762899994353325644 tw7255848096041218577 tw9063096460416393184 tw11651049099735542789 tw14314052243518229765 tw11175939636451197220 tw17802184782108059439 tw13248613342614067899 tw17449620387950362639 tw14802670435798281403 tw6210950410731032743 tw18224325685156273479 tw12952117535503688386 tw12122107283621227642 tw18074014601288467704 tw17710201595110846731 tw16100465235863760319 tw11510081967164067561 tw12473457878332614746 tw5588511062895485063 tw4237495820017482403 tw12565108245854426492 tw4656816345079086746 tw12588420737078546860 tw6988687843998054241 tw18344597623329312548 tw11826796827627596644 tw7280382061679026860 tw12463852616258945726 tw4858019651045491011 tw2001111394116345447 tw5302420259447310260 tw13330317686174689262 tw6480110784115455685 tw4068501967804594572 tw1072898340650048272 tw4048241671097773797 tw3590855110479867190 tw16652697992863168429 tw11654639552464870016 tw371836705261121303 tw3651898520001058152 tw15308963607053065555 tw7073482635512631222 tw10414017566030413516 tw7681853090231076011 tw2959779758006224844 tw1128598690030047868 tw4933514004174255765 tw8961154399521055216 tw17575325470361914811 tw9739870934721884887 tw5805155996241100980 tw14798931260475978266 tw16205144510988794468 tw8326736715483925076:True)
open PySem PySem.W PyProof.Rows
set_option maxRecDepth 100000 in
set_option maxHeartbeats 0 in
theorem PySem.Challenge.cw_evernever_k40_tight_holds : PySem.Challenge.rw_evernever_k40_tight.Holds := by
 w_on; o_law; k_head; (case hw=>w_witness2)
 k_fill
 refine L2.walk_ofK (l:=PySem.Challenge.rw_evernever_k40_tight) (n:=63) (k:=16) (x:="_law_script") (CX:=L2.CX0) (sp:=LW.spLaw) rfl (by decide) rfl ⟨rfl,by decide,by decide⟩ (fun w h Y=>W.kIn_of Y) ?F ?S ?C
 case F=>
  intro w mg fa h KX G hmg
  have T:∃t,LW.Txt (L2.KOf KX) mg t:=by
   dsimp only [L2.KOf]
   refine' LW.txt_mk KX G ?_ ?_ ?_ ?_ ?_ ?_ ?_ ?_ ?_ ?_ ?_ ?_ ?_ ?_ ?_ ?_ ?_ ?_ ?_ ?_ ?_ ?_ ?_ ?_ ?_ ?_ ?_ ?_ ?_ ?_ ?_ ?_ ?_ ?_ ?_ ?_ ?_ ?_ ?_ ?_ ?_ ?_ ?_ ?_ ?_ ?_ ?_ ?_ ?_ ?_ ?_ ?_ ?_ ?_ ?_ ?_ ?_ ?_ ?_ ?_ ?_ ?_ ?_ ?_ ?_ ?_ ?_ ?_ ?_ ?_ ?ZfD ?_ ?_ ?_ ?_ ?_ ?_ ?_ ?_ ?_ ?_ ?_ ?_ ?_ ?_ ?_ ?_ ?_ ?_ ?_ ?ne_ ?_ ?_ ?_ (LW.dmk ?_ ?_ ?_) (LW.dmk ?_ ?_ ?_) (LW.dmk ?_ ?_ ?_) (LW.dmk ?_ ?_ ?_) (LW.dmk ?_ ?_ ?_) (LW.dmk ?_ ?_ ?_) (LW.dmk ?_ ?_ ?_) (LW.dmk ?_ ?_ ?_) (LW.dmk ?_ ?_ ?_) (LW.dmk ?_ ?_ ?_) (LW.dmk ?_ ?_ ?_) (LW.dmk ?_ ?_ ?_) (LW.dmk ?_ ?_ ?_) (LW.dmk ?_ ?_ ?_) (LW.dmk ?_ ?_ ?_) (LW.dmk ?_ ?_ ?_) (LW.dmk ?_ ?_ ?_) (LW.dmk ?_ ?_ ?_) (LW.dmk ?_ ?_ ?_) (LW.dmk ?_ ?_ ?_) (LW.dmk ?_ ?_ ?_) (LW.dmk ?_ ?_ ?_) (LW.dmk ?_ ?_ ?_) (LW.dmk ?_ ?_ ?_) (LW.dmk ?_ ?_ ?_) (LW.dmk ?_ ?_ ?_) (LW.dmk ?_ ?_ ?_) ?_ ?_ ?_ (LW.dmk ?_ ?_ ?_) ?_ (LW.dmk ?_ ?_ ?_) ?_ (LW.dmk ?_ ?_ ?_) ?_ ?_ ?_ ?_ ?_ ?_ ?_ ?_ ?_ ?_ ?_ ?_ ?_ ?_ ?_ ?_ ?_ ?_ ?_ ?_ ?_ ?_ ?_ ?_ ?_ ?_ ?_ ?_ ?_ ?_ ?_
   all_goals (try k_is)
   (case ZfD=>k_exc)
   (case ne_=>decide)
  obtain⟨t,T⟩:=T;have e0:=hmg.symm.trans T.m_law
  cases e0
  exact⟨_,T.bl,fun base _ _=>LW.ok_law T⟩
 case S=>exact fun K H a ns hl hO hS=>⟨a,ns,rfl,hS,hl,hO,fun _=>rfl⟩
 case C=>exact fun _ _ _ _ z=>z
#print axioms PySem.Challenge.cw_evernever_k40_tight_holds
