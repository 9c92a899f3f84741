import PyProof.Rows.All
import KE.KIsAll
import Wide.All
import Wide.FinOn
import KE.KRevIter
import KE.KDictList
import KE.KItem
import PySem.Challenge.RW_evernever_k17_lines_read
set_option Elab.async false
set_option linter.all false
set_option maxRecDepth 100000
set_option maxHeartbeats 4000000
namespace L2
open PySem PySem.Spec PyProof.Rows
abbrev Key:=Sum Int Str
def Zvj:Key→Value→Bool
 | .inl k,v=>Value.isInt k v
 | .inr x,v=>Value.isStrOf x v
def keyH (w:World):Key→Int
 | .inl k=>hashInt k
 | .inr x=>hashStr w x
theorem Zb4:∀{k:Key} {v:Value},Zvj k v=true→(∃i t,k=Sum.inl i∧v=Value.int i t)∨(∃x t,k=Sum.inr x∧v=Value.str x t)
 | .inl i,v,h=>by
  obtain⟨t,e⟩:=Value.isInt_shape (k:=i) (v:=v) h;exact .inl ⟨i,t,rfl,e⟩
 | .inr x,v,h=>by
  obtain⟨t,e⟩:=Value.isStrOf_shape (x:=x) (v:=v) h;exact .inr ⟨x,t,rfl,e⟩
theorem ZwQ (i:Int) (t:Tok):Zvj (.inl i) (.int i t)=true:=by simp[Zvj,Value.isInt]
theorem ZwR (x:Str) (t:Tok):Zvj (.inr x) (.str x t)=true:=by simp[Zvj,Value.isStrOf]
theorem ZDF (a b:Int):decide ((Sum.inl a:Key)=Sum.inl b)=(a == b):=by
 by_cases e:a=b
 ·subst e; simp
 ·have h : ¬(Sum.inl a:Key)=Sum.inl b:=fun q=>e (Sum.inl.inj q)
  rw[decide_eq_false h];exact(beq_eq_false_iff_ne.mpr e).symm
theorem ZDI (a b:Str):decide ((Sum.inr a:Key)=Sum.inr b)=decide (a=b):=by
 by_cases e:a=b
 ·subst e; simp
 ·have h : ¬(Sum.inr a:Key)=Sum.inr b:=fun q=>e (Sum.inr.inj q)
  rw[decide_eq_false h,decide_eq_false e]
theorem ZDG (a:Int) (b:Str):decide ((Sum.inl a:Key)=Sum.inr b)=false:=decide_eq_false (fun q=>nomatch q)
theorem ZDH (a:Str) (b:Int):decide ((Sum.inr a:Key)=Sum.inl b)=false:=decide_eq_false (fun q=>nomatch q)
def Zcl (prog:Program) (w:World):PySem.KeyKind prog w Key where
 is:=Zvj
 hash:=keyH w
 inj:=fun v a b ha hb=>by
  rcases Zb4 ha with⟨i,t,rfl,rfl⟩ | ⟨x,t,rfl,rfl⟩
  ·rcases Zb4 hb with⟨j,u,rfl,e⟩ | ⟨y,u,rfl,e⟩
   ·injection e with e1 _; rw[e1]
   ·exact nomatch e
  ·rcases Zb4 hb with⟨j,u,rfl,e⟩ | ⟨y,u,rfl,e⟩
   ·exact nomatch e
   ·injection e with e1 _; rw[e1]
 byValue:=fun k v h=>by
  rcases Zb4 h with⟨i,t,rfl,rfl⟩ | ⟨x,t,rfl,rfl⟩ <;> rfl
 pyHash:=fun hv h=>by
  rcases Zb4 hv with⟨i,t,rfl,rfl⟩ | ⟨x,t,rfl,rfl⟩
  ·exact wpAny_pyHash_int h
  ·exact wpAny_pyHash_str h
 eqBool:=fun hu hv h=>by
  rcases Zb4 hu with⟨i,t,rfl,rfl⟩ | ⟨x,t,rfl,rfl⟩
  ·rcases Zb4 hv with⟨j,u,rfl,rfl⟩ | ⟨y,u,rfl,rfl⟩
   ·rw[ZDF]at h; exact wpAny_eqBool_int h
   ·rw[ZDG]at h; exact SeqAt.EqAt.int_str i t y u _ _ _ _ h
  ·rcases Zb4 hv with⟨j,u,rfl,rfl⟩ | ⟨y,u,rfl,rfl⟩
   ·rw[ZDH]at h; exact SeqAt.EqAt.str_int x t j u _ _ _ _ h
   ·rw[ZDI]at h; exact wpAny_eqBool_str h
 «strs»:=fun k x t v h=>by
  rcases Zb4 h with⟨i,u,rfl,e⟩ | ⟨y,u,rfl,e⟩
  ·exact nomatch e
  ·injection e with e1 _
   subst e1
   cases v <;> rfl
theorem Zs4 (prog:Program) (w:World) (i:Int) (t:Tok):(Zcl prog w).is (.inl i) (.int i t)=true:=ZwQ i t
theorem Zs5 (prog:Program) (w:World) (x:Str) (t:Tok):(Zcl prog w).is (.inr x) (.str x t)=true:=ZwR x t
end L2
namespace L2
open PySem PySem.Spec PyProof.Rows
inductive V where
 | non | bl (b:Bool) | int (i:Int) | str (x:Str) | byt (b:Array UInt8) | flt (b:UInt64) | ref (a:Addr) | ty (n:String)
 deriving DecidableEq
def RelV:V→Value→Prop
 | .non,u=>u=Value.none
 | .bl b,u=>u=Value.bool b
 | .int i,u=>∃t,u=Value.int i t
 | .str x,u=>∃t,u=Value.str x t
 | .byt b,u=>∃t,u=Value.bytes b t
 | .flt b,u=>∃t,u=Value.float b t
 | .ref a,u=>u=Value.ref a
 | .ty n,u=>u=Value.type n
abbrev Vals:List V→List Value→Prop:=Paired RelV
theorem Vals.length {xs:List V} {us:List Value} (r:Vals xs us):xs.length=us.length:=Paired.length r
theorem Vals.get:∀{xs:List V} {us:List Value} {i:Nat} {x:V},Vals xs us→xs[i]?=some x→∃u,us[i]?=some u∧RelV x u
 | _,_,_,_,.nil,e=>by simp at e
 | _,_,0,_,.cons r _,e=>by simp at e; subst e; exact⟨_,rfl,r⟩
 | _,_,i+1,x,.cons _ t,e=>by
  obtain⟨u,h1,h2⟩:=Vals.get (i:=i) (x:=x) t (by simpa using e);exact⟨u,by simpa using h1,h2⟩
theorem Vals.set {x:V} {u:Value} (r:RelV x u):∀{xs:List V} {us:List Value} (i:Nat),Vals xs us→Vals (xs.set i x) (us.set i u)
 | _,_,_,.nil=>.nil
 | _,_,0,.cons _ t=>.cons r t
 | _,_,i+1,.cons q t=>.cons q (Vals.set r i t)
theorem Vals.append:∀{xs ys:List V} {us ws:List Value},Vals xs us→Vals ys ws→Vals (xs++ys) (us++ws)
 | _,_,_,_,.nil,s=>s
 | _,_,_,_,.cons r t,s=>.cons r (Vals.append t s)
theorem Vals.take:∀{xs:List V} {us:List Value} (n:Nat),Vals xs us→Vals (xs.take n) (us.take n)
 | _,_,0,_=>.nil
 | _,_,_+1,.nil=>.nil
 | _,_,n+1,.cons r t=>.cons r (Vals.take n t)
theorem Vals.drop:∀{xs:List V} {us:List Value} (n:Nat),Vals xs us→Vals (xs.drop n) (us.drop n)
 | _,_,0,r=>r
 | _,_,_+1,.nil=>.nil
 | _,_,n+1,.cons _ t=>Vals.drop n t
def RelO:Option V→Option Value→Prop
 | some v,some u=>RelV v u
 | none,none=>True
 | _,_=>False
def KV {κ:Type}:List (κ×V)→List (κ×Value)→Prop:=Paired fun(p:κ×V) (q:κ×Value)=>p.1=q.1∧RelV p.2 q.2
def kV:Key→V
 | .inl i=>.int i
 | .inr x=>.str x
inductive HO where
 | lst (xs:List V)
 | tup (xs:List V)
 | dK (kvs:List (Key×V)) | dT (kvs:List (List Key×V))
 | set (S:Int→Bool) (n:Nat)
 | ins (C dx:Addr) (fs:List (Str×V))
 | own (x:Addr)
 | xd (fs:List (Str×V))
 | met (f x:Addr)
 | rng (lo hi:Int)
 | frz (o:Obj) (u:HO)
 | tbl (ps:Array Value)
 | ext (φ:Heap→Prop)
abbrev Hp:=Addr→Option HO
def upd (H:Hp) (a:Addr) (o:HO):Hp:=fun b=>if b=a then some o else H b
theorem Zax {H:Hp} {a:Addr} {o:HO}:upd H a o a=some o:=by unfold upd; rw[if_pos rfl]
theorem ZaF {H:Hp} {a b:Addr} {o:HO} (h:b≠a):upd H a o b=H b:=by unfold upd; rw[if_neg h]
theorem Ztz {H:Hp} {a:Addr} {o u:HO}:upd (upd H a o) a u=upd H a u:=by
 funext b; unfold upd; split <;> rfl
theorem Zcm {H:Hp} {a b:Addr} {o u:HO} (h:H a=some o) (h':H b=some u) (d:o≠u):a≠b:=by
 intro e; subst e; rw[h]at h'; exact d (Option.some.inj h')
theorem Zag {H:Hp} {a b:Addr} {o:HO} (h:H a=some o) (h':H b=none):a≠b:=by
 intro e; subst e; rw[h]at h'; cases h'
section
variable (P:Program) (w:World)
def Zc7 (H:Hp) (h:Heap) (a:Addr):HO→Prop
 | .lst xs=>xs.length≤sizeLine∧∃(its:List Value) (n:Nat),Vals xs its∧h.get? a=some { cls:=.type "list",data:=.seq its.toArray n }
 | .tup xs=>xs.length≤sizeLine∧∃its:List Value,Vals xs its∧IsTup h a its.toArray
 | .dK kvs=>kvs.length≤sizeLine∧(a == sysModules)=false∧∃vs,KV kvs vs∧h.DictOf (Zcl P w) a vs
 | .dT kvs=>kvs.length≤sizeLine∧(a == sysModules)=false∧∃xs:List (List Key×Addr×Value),
   Paired (fun(p:List Key×V) (q:List Key×Addr×Value)=>p.1=q.1∧H q.2.1=some (.tup (p.1.map kV))∧RelV p.2 q.2.2) kvs xs∧
   ∃o es ep,h.get? a=some o∧o.ExactDict∧o.data=.dict es ep∧es.toList=xs.map (entryOfKey (tupleKind (Zcl P w)))∧(xs.map (·.1)).Nodup
 | .set S n=>h.SetOf (intKind P w) a S n
 | .ins C dx fs=>H dx=some (.own a)∧fs.length≤1000∧dx≠a∧h.get? a=some (PySem.W.instObj C dx)∧
   ∃mA,h.Ns1 dx mA∧(∀f,RelO (fs.lookup f) (mA f))∧PySem.Within mA (fs.map (·.1))
 | .own _=>∃o,h.get? a=some o
 | .xd fs=>∃mA,h.Ns1 a mA∧∀f,RelO (fs.lookup f) (mA f)
 | .rng lo hi=>∃t u v,h.get? a=some { cls:=.type "range",data:=.fields #[.int lo t,.int hi u,.int 1 v] }
 | .frz o u=>h.get? a=some o∧Zc7 H h a u
 | .tbl ps=>h.get? a=some { cls:=.none,data:=.fields ps }
 | .met f x=>h.get? a=some (PySem.W.methodObj (.ref f) (.ref x))
 | .ext φ=>φ h∧(∃o,h.get? a=some o)∧∀h1 h2:Heap,φ h1→(∀o,h1.get? a=some o→h2.get? a=some o)→φ h2
def HOk (H:Hp) (h:Heap):Prop:=∀a o,H a=some o→Zc7 P w H h a o
end
section
variable {P:Program} {w:World} {H H':Hp} {h h':Heap} {a:Addr} {o:HO}
theorem Zc7.lt (x:Zc7 P w H h a o):a < h.objs.size:=by
 cases o with
 | lst xs=>obtain⟨_,_,_,_,e⟩:=x; exact Heap.lt_size e
 | tup xs=>obtain⟨_,_,_,p⟩:=x; exact p.lt
 | dK kvs=>obtain⟨_,_,_,_,o,_,_,e,_⟩:=x; exact Heap.lt_size e
 | dT kvs=>obtain⟨_,_,_,_,o,_,_,e,_⟩:=x; exact Heap.lt_size e
 | set S n=>obtain⟨o,_,_,_,e,_⟩:=x; exact Heap.lt_size e
 | ins C dx fs=>obtain⟨_,_,_,e,_⟩:=x; exact Heap.lt_size e
 | own y=>obtain⟨_,e⟩:=x; exact Heap.lt_size e
 | xd fs=>obtain⟨_,⟨_,_,_,e,_⟩,_⟩:=x; exact Heap.lt_size e
 | rng lo hi=>obtain⟨_,_,_,e⟩:=x; exact Heap.lt_size e
 | frz ob u=>obtain⟨e,_⟩:=x; exact Heap.lt_size e
 | tbl ps=>exact Heap.lt_size (show h.get? a=some _ from x)
 | met f y=>exact Heap.lt_size (show h.get? a=some _ from x)
 | ext φ=>obtain⟨_,⟨_,e⟩,_⟩:=x; exact Heap.lt_size e
theorem Paired.mapP {α β:Type} {F G:α→β→Prop}:∀{l₁:List α} {l₂:List β},Paired F l₁ l₂→(∀a b,F a b→G a b)→Paired G l₁ l₂
 | _,_,.nil,_=>.nil
 | _,_,.cons r t,f=>.cons (f _ _ r) (Paired.mapP t f)
theorem Zc7.stay (x:Zc7 P w H h a o) (k:∀b u,(b=a∨H b=some (.own a))→h.get? b=some u→h'.get? b=some u)
  (ho:∀b,H b=some (.own a)→H' b=some (.own a)) (ht:∀b xs,H b=some (.tup xs)→H' b=some (.tup xs)):Zc7 P w H' h' a o:=by
 induction o with
 | lst xs=>obtain⟨z,its,n,r,e⟩:=x; exact⟨z,its,n,r,k _ _ (.inl rfl) e⟩
 | tup xs=>obtain⟨z,its,r,ob,e,c⟩:=x; exact⟨z,its,r,ob,k _ _ (.inl rfl) e,c⟩
 | dK kvs=>obtain⟨z,y,vs,r,ob,es,ep,e,c⟩:=x; exact⟨z,y,vs,r,ob,es,ep,k _ _ (.inl rfl) e,c⟩
 | dT kvs=>
  obtain⟨z,y,xs,r,ob,es,ep,e,c⟩:=x;exact⟨z,y,xs,Paired.mapP r fun p q z=>⟨z.1,ht _ _ z.2.1,z.2.2⟩,ob,es,ep,k _ _ (.inl rfl) e,c⟩
 | set S n=>obtain⟨ob,es,ep,t,e,c⟩:=x; exact⟨ob,es,ep,t,k _ _ (.inl rfl) e,c⟩
 | ins C dx fs=>
  obtain⟨d,z,ne,e,mA,⟨od,es,ep,e2,c⟩,r⟩:=x;exact⟨ho _ d,z,ne,k _ _ (.inl rfl) e,mA,⟨od,es,ep,k _ _ (.inr d) e2,c⟩,r⟩
 | own y=>obtain⟨ob,e⟩:=x; exact⟨ob,k _ _ (.inl rfl) e⟩
 | xd fs=>obtain⟨mA,⟨od,es,ep,e,c⟩,r⟩:=x; exact⟨mA,⟨od,es,ep,k _ _ (.inl rfl) e,c⟩,r⟩
 | rng lo hi=>obtain⟨t,u,v,e⟩:=x; exact⟨t,u,v,k _ _ (.inl rfl) e⟩
 | frz ob u ih=>obtain⟨e,q⟩:=x; exact⟨k _ _ (.inl rfl) e,ih q⟩
 | tbl ps=>
  have e:h.get? a=some { cls:=.none,data:=.fields ps }:=x;show h'.get? a=some { cls:=.none,data:=.fields ps };exact k a _ (.inl rfl) e
 | met f y=>
  have e:h.get? a=some (PySem.W.methodObj (.ref f) (.ref y)):=x;show h'.get? a=some (PySem.W.methodObj (.ref f) (.ref y));exact k a _ (.inl rfl) e
 | ext φ=>obtain⟨p,⟨o,e⟩,st⟩:=x; exact⟨st _ _ p fun o q=>k _ _ (.inl rfl) q,⟨o,k _ _ (.inl rfl) e⟩,st⟩
theorem HOk.lt (x:HOk P w H h) (e:H a=some o):a < h.objs.size:=(x a o e).lt
theorem HOk.fresh (x:HOk P w H h) (e:h.objs.size≤a):H a=none:=by
 cases q:H a with
 | none=>rfl
 | some u=>exact absurd (Nat.lt_of_lt_of_le (x.lt q) e) (Nat.lt_irrefl _)
theorem HOk.kept (x:HOk P w H h) (k:∀b u,h.get? b=some u→h'.get? b=some u):HOk P w H h':=fun a o e=>
 (x a o e).stay (fun b u _ q=>k b u q) (fun _ q=>q) fun _ _ q=>q
theorem HOk.laid (x:HOk P w H h) (k:∀b u,h.get? b=some u→h'.get? b=some u) (hp:h.objs.size≤a) (new:Zc7 P w (upd H a o) h' a o):HOk P w (upd H a o) h':=fun b u e=>by
 have hn:=x.fresh hp
 by_cases hb:b=a
 ·subst hb; rw[Zax]at e; cases e; exact new
 ·rw[ZaF hb]at e
  exact(x b u e).stay (fun c v _ q=>k c v q) (fun c q=>by rw[ZaF (Zag q hn)]; exact q) fun c xs q=>by rw[ZaF (Zag q hn)]; exact q
end
def Rd (H:Hp) (a:Addr) (u:HO):Prop:=H a=some u∨∃o,H a=some (.frz o u)
theorem Rd.ok {P:Program} {w:World} {H:Hp} {h:Heap} {a:Addr} {u:HO} (r:Rd H a u) (x:HOk P w H h):Zc7 P w H h a u:=by
 rcases r with r | ⟨o,r⟩
 ·exact x a u r
 ·obtain⟨_,q⟩:=x a _ r
  exact q
def Mut:Option HO→Prop
 | some (.lst _)=>True
 | some (.dK _)=>True
 | some (.dT _)=>True
 | some (.set _ _)=>True
 | some (.ins _ _ _)=>True
 | some (.ext _)=>True
 | _=>False
section
variable {P:Program} {w:World} {H:Hp} {h h':Heap} {x e:Addr} {o':HO}
theorem HOk.write (ok:HOk P w H h) (mu:Mut (H x)) (he:e=x∨H e=some (.own x)) (k:∀b u,b≠e→h.get? b=some u→h'.get? b=some u) (heo:∃u,h'.get? e=some u)
  (new:Zc7 P w (upd H x o') h' x o'):HOk P w (upd H x o') h':=fun b u q=>by
 have nown:∀c y,H c=some (.own y)→c≠x:=fun c y r z=>by subst z; rw[r]at mu; exact mu
 have ntup:∀c xs,H c=some (.tup xs)→c≠x:=fun c xs r z=>by subst z; rw[r]at mu; exact mu
 by_cases hb:b=x
 ·subst hb; rw[Zax]at q; cases q; exact new
 ·rw[ZaF hb]at q
  by_cases hbe:b=e
  ·have q':H b=some (.own x):=by
    rcases he with z | z
    ·exact absurd (hbe.trans z) hb
    ·rw[hbe]; exact z
   rw[q]at q'; cases q';obtain⟨v,hv⟩:=heo;exact⟨v,by rw[hbe]; exact hv⟩
  ·refine(ok b u q).stay (fun c v hc r=>k c v ?_ r) (fun c r=>by rw[ZaF (nown c b r)]; exact r) fun c xs r=>by rw[ZaF (ntup c xs r)]; exact r
   rcases hc with rfl | hc
   ·exact hbe
   ·rintro rfl
    rcases he with z | z
    ·exact nown c b hc z
    ·rw[hc]at z; cases z; exact hb rfl
end
structure Un (fs ex:List Addr) (H H':Hp) (h h':Heap):Prop where
 keep:∀b o,h.get? b=some o→H b=none→b∉fs→b∉ex→h'.get? b=some o
 slot:∀b o,h.get? b=some o→H b=none→b∈fs→b∉ex→∃sl,h'.get? b=some { o with slots:=sl }
 free:∀b o,h.get? b=some o→H b=none→b∉ex→H' b=none
 there:∀b o,h.get? b=some o→b∉ex→∃o',h'.get? b=some o'
 tups:∀b xs,H b=some (.tup xs)→H' b=some (.tup xs)
 frzs:∀b o u,H b=some (.frz o u)→H' b=some (.frz o u)
 tbls:∀b ps,H b=some (.tbl ps)→∃more,H' b=some (.tbl (ps++more))
section
variable {fs fs' ex ex':List Addr} {H H1 H2:Hp} {h h1 h2 h':Heap} {a x e:Addr} {o:HO}
theorem Un.any (u:Un fs ex H H1 h h1) {b:Addr} {ob:Obj} (q:h.get? b=some ob) (n:H b=none) (hx:b∉ex):∃sl,h1.get? b=some { ob with slots:=sl }:=by
 by_cases hb:b∈fs
 ·exact u.slot b ob q n hb hx
 ·exact⟨ob.slots,u.keep b ob q n hb hx⟩
theorem Un.kept (k:∀b u,h.get? b=some u→h'.get? b=some u):Un fs ex H H h h':=
 ⟨fun b ob q _ _ _=>k b ob q,fun b ob q _ _ _=>⟨ob.slots,k b ob q⟩,fun _ _ _ n _=>n,fun b ob q _=>⟨ob,k b ob q⟩,fun _ _ q=>q,fun _ _ _ q=>q,fun _ ps q=>⟨#[],by rw[q]; simp⟩⟩
theorem Un.refl:Un fs ex H H h h:=Un.kept fun _ _ q=>q
theorem Un.laid (k:∀b u,h.get? b=some u→h'.get? b=some u) (hp:h.objs.size≤a) (hn:H a=none):Un fs ex H (upd H a o) h h' where
 keep:=fun b u q _ _ _=>k b u q
 slot:=fun b u q _ _ _=>⟨u.slots,k b u q⟩
 free:=fun b u q n _=>by rw[ZaF (Nat.ne_of_lt (Nat.lt_of_lt_of_le (Heap.lt_size q) hp))]; exact n
 there:=fun b u q _=>⟨u,k b u q⟩
 tups:=fun b xs q=>by rw[ZaF (Zag q hn)]; exact q
 frzs:=fun b u xs q=>by rw[ZaF (Zag q hn)]; exact q
 tbls:=fun b ps q=>⟨#[],by rw[ZaF (Zag q hn),q]; simp⟩
theorem Un.write (mu:Mut (H x)) (he:e=x∨H e=some (.own x)) (k:∀b u,b≠e→h.get? b=some u→h'.get? b=some u) (heo:∃u,h'.get? e=some u):Un fs ex H (upd H x o) h h':=by
 have hx:∀b,H b=none→b≠x:=fun b n z=>by subst z; rw[n]at mu; exact mu
 have hb:∀b,H b=none→b≠e:=fun b n z=>by
  subst z
  rcases he with r | r
  ·exact hx b n r
  ·rw[n]at r; cases r
 have hm:∀b u,H b=some u→¬Mut (some u)→b≠x:=fun b u q nm z=>by subst z; rw[q]at mu; exact nm mu
 refine⟨fun b u q n _ _=>k b u (hb b n) q,fun b u q n _ _=>⟨u.slots,k b u (hb b n) q⟩,fun b u q n _=>by rw[ZaF (hx b n)]; exact n,fun b u q _=>?_,
  fun b xs q=>by rw[ZaF (hm b _ q fun z=>z)]; exact q,fun b u xs q=>by rw[ZaF (hm b _ q fun z=>z)]; exact q,fun b ps q=>⟨#[],by rw[ZaF (hm b _ q fun z=>z),q]; simp⟩⟩
 by_cases hbe:b=e
 ·subst hbe; exact heo
 ·exact⟨u,k b u hbe q⟩
end
def trk (h:Heap) (H:Hp):List Addr:=(List.range h.objs.size).filter fun a=>(H a).isSome
def hidT (h:Heap) (H:Hp):Heap:=PySem.W.hideAll h (trk h H)
theorem Zwz (h:Heap) (H:Hp):(hidT h H).objs.size=h.objs.size:=PySem.W.hideAll_size _ _
theorem ZyA {h:Heap} {H:Hp} {b:Addr} {o:Obj} (e:h.get? b=some o) (n:H b=none):(hidT h H).get? b=some o:=
 PySem.W.hideAll_get _ e fun hm=>by
  have q:(H b).isSome=true:=(List.mem_filter.mp hm).2;rw[n]at q; simp at q
theorem ZBL {h:Heap} {H:Hp} {b:Addr} {o:Obj} (e:(hidT h H).get? b=some o):h.get? b=some o∧H b=none:=by
 have e':h.get? b=some o:=PySem.W.of_hideAll (trk h H) e;refine⟨e',?_⟩
 cases q:H b with
 | none=>rfl
 | some x=>
  have hm:b∈trk h H:=List.mem_filter.mpr ⟨List.mem_range.mpr (Heap.lt_size e'),by simp[q]⟩;have z:(hidT h H).get? b=none:=PySem.W.hideAll_none (trk h H) hm;rw[z]at e; cases e
end L2
namespace L2
open PySem PySem.Spec PyProof.Rows
structure Mod (K:PySem.W.Frag) (mg:Str→Option Value) (base:Heap):Prop where
 kin:K.In base
 glob:base.Ns mainGlobals mg
 blt:∃mb,base.Ns builtinsNs mb∧∀x:Str,x≠"__name__"→mb x=bootBuiltins x
 nolimit:base.NoLimit
set_option genSizeOf false in
set_option genInjectivity false in
structure Cx where
 prog:Program
 w:World
 K:PySem.W.Frag
 mg:Str→Option Value
 base:Heap
 A:Around
 N:List Str
 s₀:Shared
 H₀:Hp
 env:Env
 outer:List Env
 stack:List Env
 ex:List Addr
 fn:Str→Bool
 calm:Bool
 pn:List (Addr×Obj)
 xe:Value→Shared→Prop
def frs (l:List Env):List Addr:=l.filterMap (·.frame)
abbrev Cx.fs (X:Cx):List Addr:=frs X.outer
def Vis (sc:Scope) (x:Str):Prop:=sc.names.lookup x=some .local∨sc.names.lookup x=some .cell∨sc.names.lookup x=some .free
def Loc (sc:Scope) (x:Str):Prop:=sc.names.lookup x=some .local∨sc.names.lookup x=some .cell
def Look (env:Env) (h:Heap) (m:Str→Option Value) (x:Str) (u:Value):Prop:=
 (env.kindOf x=some .local∧m x=some u)∨((env.kindOf x=some .cell∨env.kindOf x=some .free)∧∃c,env.cells.lookup x=some c∧h.IsCell c (some u))
structure Cx.Ok (X:Cx):Prop where
 mod:Mod X.K X.mg X.base
 kind:X.env.scope.kind=.function
 glob:X.env.globals=mainGlobals
 blt:X.env.builtins=builtinsNs
 above:X.s₀.heap.objs.size≤X.env.locals
 inj:∀x y c,X.env.cells.lookup x=some c→X.env.cells.lookup y=some c→x=y
 has:∀x,(X.env.kindOf x=some .cell∨X.env.kindOf x=some .free)→∃c,X.env.cells.lookup x=some c
 cab:∀x c,X.fn x=true→X.env.cells.lookup x=some c→X.s₀.heap.objs.size≤c
 hd:X.calm=true→X.A.handled=none
 frames:X.A.frames=some X.stack
 stk:X.stack=X.outer∨(X.stack=X.env::X.outer∧X.env.frame=some X.env.locals)
 exf:∀b∈X.ex,b≠X.env.locals∧∀x c,X.env.cells.lookup x=some c→c≠b
 bs:∀b o,X.base.get? b=some o→X.s₀.heap.get? b=some o∧X.H₀ b=none
 bsz:X.base.objs.size≤X.s₀.heap.objs.size
 noex:∀b o,X.base.get? b=some o→b∉X.ex
 exfs:∀b∈X.ex,b∉X.fs
 funs:X.s₀.heap.FunFrames X.base X.outer
 frf:∀b∈X.fs,X.H₀ b=none
structure Inv (X:Cx) (pj:List (Addr×Obj)) (σ:List (Option V)) (H:Hp) (s:Shared):Prop where
 ok:X.Ok
 os:s.os=X.s₀.os
 bare:AllBare s.gens
 base:Un X.fs X.ex X.H₀ H X.s₀.heap s.heap
 loc:∃m,s.heap.Ns X.env.locals m∧∀(i:Nat) (x:Str) (v:V),X.N[i]?=some x→σ[i]?=some (some v)→Vis X.env.scope x→∃u,RelV v u∧Look X.env s.heap m x u
 cell:∀x c,X.env.cells.lookup x=some c→∃v,s.heap.IsCell c v
 free:H X.env.locals=none
 freeC:∀x c,X.env.cells.lookup x=some c→H c=none
 pin:∀p∈X.pn++pj,s.heap.get? p.1=some p.2∧H p.1=none∧p.1≠X.env.locals∧p.1∉X.fs∧∀v,p.2.data≠.cell v
 hok:HOk X.prog X.w H s.heap
 len:σ.length=X.N.length
section
variable {X:Cx} {pj:List (Addr×Obj)} {σ:List (Option V)} {H H':Hp} {s:Shared} {h':Heap}
theorem Cx.Ok.nofr (ok:X.Ok) {b:Addr} {o:Obj} (e:X.base.get? b=some o):b∉X.fs:=fun hb=>by
 have:=(ok.funs.mem hb).1;rw[e]at this; cases this
theorem Inv.bs (I:Inv X pj σ H s):∀b o,X.base.get? b=some o→s.heap.get? b=some o∧H b=none:=fun b o e=>
 ⟨I.base.keep b o (I.ok.bs b o e).1 (I.ok.bs b o e).2 (I.ok.nofr e) (I.ok.noex b o e),I.base.free b o (I.ok.bs b o e).1 (I.ok.bs b o e).2 (I.ok.noex b o e)⟩
theorem Inv.bk (I:Inv X pj σ H s):∀b o,X.base.get? b=some o→s.heap.get? b=some o:=fun b o e=>(I.bs b o e).1
theorem Inv.mod (I:Inv X pj σ H s):Mod X.K X.mg X.base:=I.ok.mod
theorem Inv.kIn (I:Inv X pj σ H s):X.K.In s.heap:=I.ok.mod.kin.keeps I.bk
theorem Inv.lt (I:Inv X pj σ H s):X.env.locals < s.heap.objs.size:=let ⟨_,hn,_⟩:=I.loc; hn.lt
theorem Inv.sz (I:Inv X pj σ H s):X.s₀.heap.objs.size≤s.heap.objs.size:=Nat.le_trans I.ok.above (Nat.le_of_lt I.lt)
theorem Inv.nofs (I:Inv X pj σ H s) {a:Addr} (h:s.heap.objs.size≤a):a∉X.fs:=fun hb=>by
 obtain⟨_,o,ho,_⟩:=I.ok.funs.mem hb;exact absurd (Nat.lt_of_lt_of_le (Heap.lt_size ho) (Nat.le_trans I.sz h)) (Nat.lt_irrefl _)
theorem Inv.cne (I:Inv X pj σ H s):∀x c,X.env.cells.lookup x=some c→c≠X.env.locals:=fun x c e z=>by
 obtain⟨v,o,ho,hd⟩:=I.cell x c e;obtain⟨m,⟨o',es,ep,ho',hd',_⟩,_⟩:=I.loc;rw[z,ho']at ho; cases ho; rw[hd']at hd; cases hd
theorem Inv.funs (I:Inv X pj σ H s):s.heap.FunFrames X.base X.outer:=by
 have all:∀(l:List Env),(∀b∈frs l,b∈X.fs)→X.s₀.heap.FunFrames X.base l→s.heap.FunFrames X.base l:=by
  intro l
  induction l with
  | nil=>intro _ _; trivial
  | cons env r ih=>
   intro hs hl;obtain⟨hk,⟨L,o,hf,hn,ho,hd⟩,hr⟩:=hl;have hL:L∈X.fs:=hs L (by unfold frs; rw[List.filterMap_cons,hf]; exact List.mem_cons_self);obtain⟨sl,e⟩:=I.base.slot L o ho (I.ok.frf L hL) hL fun z=>I.ok.exfs L z hL;exact⟨hk,⟨L,_,hf,hn,e,hd⟩,ih (fun b hb=>hs b (by unfold frs; rw[List.filterMap_cons,hf]; exact List.mem_cons_of_mem _ hb)) hr⟩
 exact all X.outer (fun _ hb=>hb) I.ok.funs
theorem Inv.stack (I:Inv X pj σ H s):s.heap.FunFrames X.base X.stack:=by
 rcases I.ok.stk with e | ⟨e,hf⟩
 ·rw[e]; exact I.funs
 ·rw[e]
  obtain⟨m,hn,_⟩:=I.loc;refine .cons (by rw[I.ok.kind]; decide) hf hn ?_ I.funs;exact Heap.get?_none_of_le (Nat.le_trans I.ok.bsz I.ok.above)
theorem Inv.stkSub (I:Inv X pj σ H s):∀b∈frs X.stack,b∈X.env.locals::X.fs:=fun b hb=>by
 rcases I.ok.stk with e | ⟨e,hf⟩
 ·rw[e]at hb; exact List.mem_cons_of_mem _ hb
 ·rw[e]at hb
  unfold frs at hb;rw[List.filterMap_cons,hf]at hb;exact hb
theorem Inv.stkFree (I:Inv X pj σ H s):∀b∈frs X.stack,H b=none:=fun b hb=>by
 rcases List.mem_cons.mp (I.stkSub b hb) with e | hb
 ·rw[e]; exact I.free
 ·obtain⟨_,o,ho,_⟩:=I.ok.funs.mem hb
  exact I.base.free b o ho (I.ok.frf b hb) fun z=>I.ok.exfs b z hb
theorem Inv.step {g':Array GenState} {t':Nat} {d':Drawn} {ch:List Addr} (I:Inv X pj σ H s)
  (hch:∀b∈ch,(b∈X.ex∨X.s₀.heap.objs.size≤b)∧b≠X.env.locals∧(∀x c,X.env.cells.lookup x=some c→c≠b)∧∀p∈X.pn++pj,p.1≠b)
  (keep:∀b o,b≠X.env.locals→b∉X.fs→b∉ch→s.heap.get? b=some o→H b=none→h'.get? b=some o)
  (slot:∀b o,b≠X.env.locals→b∈X.fs→b∉ch→s.heap.get? b=some o→H b=none→∃sl,h'.get? b=some { o with slots:=sl }) (free:∀b o,b∉ch→s.heap.get? b=some o→H b=none→H' b=none)
  (there:∀b o,b∉ch→s.heap.get? b=some o→∃o',h'.get? b=some o')
  (tups:∀b xs,H b=some (.tup xs)→H' b=some (.tup xs)) (frzs:∀b o u,H b=some (.frz o u)→H' b=some (.frz o u)) (tbls:∀b ps,H b=some (.tbl ps)→∃more,H' b=some (.tbl (ps++more)))
  (ns:∀m,s.heap.Ns X.env.locals m→h'.Ns X.env.locals m) (hok:HOk X.prog X.w H' h') (hg:AllBare g') :
  Inv X pj σ H' { s with heap:=h',gens:=g',drawn:=d',toks:=t' }:=by
 have neL:∀b o,X.s₀.heap.get? b=some o→b≠X.env.locals:=fun b o e=>Nat.ne_of_lt (Nat.lt_of_lt_of_le (Heap.lt_size e) I.ok.above)
 have neC:∀b o,X.s₀.heap.get? b=some o→b∉X.ex→b∉ch:=fun b o e hx hb=>by
  rcases(hch b hb).1 with z | z
  ·exact hx z
  ·exact absurd (Nat.lt_of_lt_of_le (Heap.lt_size e) z) (Nat.lt_irrefl _)
 have cellK:∀x c,X.env.cells.lookup x=some c→∀v,s.heap.IsCell c v→h'.IsCell c v:=fun x c e v ⟨o,ho,hd⟩=>by
  have nch:c∉ch:=fun z=>(hch c z).2.2.1 x c e rfl
  by_cases hc:c∈X.fs
  ·obtain⟨sl,q⟩:=slot c o (I.cne x c e) hc nch ho (I.freeC x c e)
   exact⟨_,q,hd⟩
  ·exact⟨o,keep c o (I.cne x c e) hc nch ho (I.freeC x c e),hd⟩
 refine⟨I.ok,I.os,hg,⟨fun b o e n hb hx=>?_,fun b o e n hb hx=>?_,fun b o e n hx=>?_,fun b o e hx=>?_,fun b xs e=>tups b xs (I.base.tups b xs e),fun b o xs e=>frzs b o xs (I.base.frzs b o xs e),fun b ps e=>?_⟩,?_,fun x c e=>?_,?_,fun x c e=>?_,fun p hp=>?_,hok,I.len⟩
 ·exact keep b o (neL b o e) hb (neC b o e hx) (I.base.keep b o e n hb hx) (I.base.free b o e n hx)
 ·obtain⟨sl,e1⟩:=I.base.slot b o e n hb hx
  obtain⟨sl',e2⟩:=slot b _ (neL b o e) hb (neC b o e hx) e1 (I.base.free b o e n hx);exact⟨sl',e2⟩
 ·obtain⟨o',e1⟩:=I.base.there b o e hx
  exact free b o' (neC b o e hx) e1 (I.base.free b o e n hx)
 ·obtain⟨o',e1⟩:=I.base.there b o e hx
  exact there b o' (neC b o e hx) e1
 ·obtain⟨m1,e1⟩:=I.base.tbls b ps e
  obtain⟨m2,e2⟩:=tbls b _ e1;exact⟨m1++m2,by rw[e2,Array.append_assoc]⟩
 ·obtain⟨m,hn,hl⟩:=I.loc
  refine⟨m,ns m hn,fun i x v e1 e2 e3=>?_⟩;obtain⟨u,r,l⟩:=hl i x v e1 e2 e3;refine⟨u,r,?_⟩
  rcases l with l | ⟨k,c,e,z⟩
  ·exact .inl l
  ·exact .inr ⟨k,c,e,cellK x c e _ z⟩
 ·obtain⟨v,z⟩:=I.cell x c e
  exact⟨v,cellK x c e v z⟩
 ·obtain⟨m,⟨o,_,_,ho,_⟩,_⟩:=I.loc
  exact free _ o (fun z=>(hch _ z).2.1 rfl) ho I.free
 ·obtain⟨v,o,ho,hd⟩:=I.cell x c e
  exact free c o (fun z=>(hch c z).2.2.1 x c e rfl) ho (I.freeC x c e)
 ·obtain⟨e,n,ne,nf,d⟩:=I.pin p hp
  have nch:p.1∉ch:=fun z=>(hch p.1 z).2.2.2 p hp rfl;exact⟨keep p.1 p.2 ne nf nch e n,free p.1 p.2 nch e n,ne,nf,d⟩
theorem Inv.un {t':Nat} (I:Inv X pj σ H s) (u:Un X.fs [] H H' s.heap h') (hok:HOk X.prog X.w H' h'):Inv X pj σ H' { s with heap:=h',toks:=t' }:=by
 obtain⟨m,⟨o,es,ep,ho,r⟩,_⟩:=id I.loc;obtain⟨sl,hL⟩:=u.any ho I.free (by simp)
 exact I.step (g':=s.gens) (d':=s.drawn) (ch:=[]) (fun _ z=>nomatch z) (fun b o _ hb _ e n=>u.keep b o e n hb (by simp)) (fun b o _ hb _ e n=>u.slot b o e n hb (by simp)) (fun b o _ e n=>u.free b o e n (by simp)) (fun b o _ e=>u.there b o e (by simp)) u.tups u.frzs u.tbls (fun m' hm=>by
  obtain⟨o',es',ep',ho',r'⟩:=hm;rw[ho]at ho'; cases ho'
  exact⟨_,es',ep',hL,r'⟩) hok I.bare
theorem Inv.call {g':Array GenState} {t':Nat} {d':Drawn} {ch:List Addr} (I:Inv X pj σ H s) (u:Un (frs X.stack) ch H H' s.heap h') (hok:HOk X.prog X.w H' h') (hg:AllBare g')
  (hch:∀b∈ch,(b∈X.ex∨X.s₀.heap.objs.size≤b)∧b≠X.env.locals∧(∀x c,X.env.cells.lookup x=some c→c≠b)∧∀p∈X.pn++pj,p.1≠b) :
  Inv X pj σ H' { s with heap:=h',gens:=g',drawn:=d',toks:=t' }:=by
 obtain⟨m,⟨o,es,ep,ho,r⟩,_⟩:=id I.loc;obtain⟨sl,hL⟩:=u.any ho I.free fun z=>(hch _ z).2.1 rfl
 exact I.step (ch:=ch) hch (fun b o hL hb hc e n=>u.keep b o e n (fun z=>(List.mem_cons.mp (I.stkSub b z)).elim hL hb) hc) (fun b o _ _ hc e n=>u.any e n hc) (fun b o hc e n=>u.free b o e n hc) (fun b o hc e=>u.there b o e hc) u.tups u.frzs u.tbls (fun m' hm=>by
  obtain⟨o',es',ep',ho',r'⟩:=hm;rw[ho]at ho'; cases ho'
  exact⟨_,es',ep',hL,r'⟩) hok hg
theorem Inv.turned {t':Nat} {it:Addr} (I:Inv X pj σ H s) (k:∀b o,b≠it→s.heap.get? b=some o→h'.get? b=some o) (hn:H it=none) (hL:it≠X.env.locals)
  (h1:it∈X.ex∨X.s₀.heap.objs.size≤it) (h2:∀x c,X.env.cells.lookup x=some c→c≠it) (h3:∀p∈X.pn++pj,p.1≠it):Inv X pj σ H { s with heap:=h',toks:=t' }:=by
 have nit:∀b u,H b=some u→b≠it:=fun b u e z=>by rw[z,hn]at e; cases e
 refine I.step (g':=s.gens) (d':=s.drawn) (ch:=[it]) (fun b hb=>?_) (fun b o _ _ hc e _=>k b o (fun z=>hc (by simp[z])) e) (fun b o _ _ hc e _=>⟨o.slots,k b o (fun z=>hc (by simp[z])) e⟩) (fun _ _ _ _ n=>n)
  (fun b o hc e=>⟨o,k b o (fun z=>hc (by simp[z])) e⟩) (fun _ _ e=>e) (fun _ _ _ e=>e) (fun b ps e=>⟨#[],by rw[e]; simp⟩) (fun m hm=>?_) (fun b u e=>?_) I.bare
 ·have e:b=it:=by simpa using hb
  subst e;exact⟨h1,hL,h2,h3⟩
 ·obtain⟨o,es,ep,ho,r⟩:=hm
  exact⟨o,es,ep,k _ o (Ne.symm hL) ho,r⟩
 ·refine(I.hok b u e).stay (fun c v hc q=>k c v ?_ q) (fun _ q=>q) fun _ _ q=>q
  rcases hc with z | z
  ·rw[z]; exact nit b u e
  ·exact nit c _ z
theorem Inv.tok (I:Inv X pj σ H s) (t:Nat):Inv X pj σ H { s with toks:=t }:=I.un (h':=s.heap) (t':=t) Un.refl I.hok
theorem Inv.kept {t':Nat} (I:Inv X pj σ H s) (k:∀b u,s.heap.get? b=some u→h'.get? b=some u):Inv X pj σ H { s with heap:=h',toks:=t' }:=I.un (Un.kept k) (I.hok.kept k)
theorem Inv.laid {a:Addr} {o:HO} {t':Nat} (I:Inv X pj σ H s) (k:∀b u,s.heap.get? b=some u→h'.get? b=some u) (hp:s.heap.objs.size≤a) (new:Zc7 X.prog X.w (upd H a o) h' a o) :
  Inv X pj σ (upd H a o) { s with heap:=h',toks:=t' }:=I.un (Un.laid k hp (I.hok.fresh hp)) (I.hok.laid k hp new)
theorem Inv.write {x e:Addr} {o:HO} {t':Nat} (I:Inv X pj σ H s) (mu:Mut (H x)) (he:e=x∨H e=some (.own x)) (k:∀b u,b≠e→s.heap.get? b=some u→h'.get? b=some u) (heo:∃u,h'.get? e=some u)
  (new:Zc7 X.prog X.w (upd H x o) h' x o):Inv X pj σ (upd H x o) { s with heap:=h',toks:=t' }:=I.un (Un.write mu he k heo) (I.hok.write mu he k heo new)
theorem Inv.pins_of {pins':List (Addr×Obj)} (I:Inv X pj σ H s) (h:∀p∈pins',s.heap.get? p.1=some p.2∧H p.1=none∧p.1≠X.env.locals∧p.1∉X.fs∧∀v,p.2.data≠.cell v):Inv X pins' σ H s:=
 ⟨I.ok,I.os,I.bare,I.base,I.loc,I.cell,I.free,I.freeC,fun p hp=>(List.mem_append.mp hp).elim (fun z=>I.pin p (List.mem_append_left _ z)) (h p),I.hok,I.len⟩
theorem Zpp {N:List Str} (hN:N.Nodup) {i j:Nat} {x:Str} (a:N[i]?=some x) (b:N[j]?=some x):i=j:=by
 obtain⟨h1,e1⟩:=List.getElem?_eq_some_iff.mp a;obtain⟨h2,e2⟩:=List.getElem?_eq_some_iff.mp b;exact(List.getElem_inj hN).mp (e1.trans e2.symm)
theorem ZrT {M:Model} {A:Around} {E:Value→Shared→Prop} {i:Nat} {x:Str} {v:V} {u:Value} {Q:Unit→Shared→Prop} (I:Inv X pj σ H s) (hN:X.N.Nodup) (hi:X.N[i]?=some x) (hx:Loc X.env.scope x) (r:RelV v u)
  (h:∀s',Inv X pj (σ.set i (some v)) H s'→(∃a,Heap.SameBut a s.heap s'.heap∧(a=X.env.locals∨X.env.cells.lookup x=some a))→Q () s') (hf:X.fn x=true∨X.env.scope.names.lookup x=some .local:=by first | exact .inl rfl | exact .inr rfl | assumption):wpAny M A (storeName X.env x u) Q E s:=by
 obtain⟨m,hn,hl⟩:=id I.loc
 have hcls:(X.env.scope.kind == .class || (X.env.scope.kind == .module && X.env.locals != X.env.globals))=false:=by rw[I.ok.kind]; rfl
 have hiσ:i < σ.length:=by rw[I.len]; exact(List.getElem?_eq_some_iff.mp hi).1
 have cne:=I.cne
 have tracked:∀{a:Addr} {h':Heap},(∃o,s.heap.get? a=some o∧H a=none)→Heap.SameBut a s.heap h'→HOk X.prog X.w H h':=fun {a h'} ha hs b ob e=>by
  obtain⟨_,_,hfree⟩:=ha;refine(I.hok b ob e).stay (fun c w' hc q=>(hs.2 c ?_).trans q) (fun _ q=>q) fun _ _ q=>q;rintro rfl
  rcases hc with rfl | hc
  ·rw[hfree]at e; cases e
  ·rw[hfree]at hc; cases hc
 rcases hx with hk | hk
 ·refine wpAny_storeName_local hk hn (fun h' hn' hs=>?_) hcls
  obtain⟨oL,_,_,hoL,_⟩:=id hn;refine h _ ⟨I.ok,I.os,I.bare,⟨fun b o e n hb hx=>?_,fun b o e n hb hx=>?_,I.base.free,fun b o e hx=>?_,I.base.tups,I.base.frzs,I.base.tbls⟩,⟨_,hn',fun j y v' e1 e2 e3=>?_⟩,fun y c e=>?_,I.free,I.freeC,fun p hp=>?_,tracked ⟨oL,hoL,I.free⟩ hs,by simpa using I.len⟩ ⟨_,hs,.inl rfl⟩
  ·exact(hs.2 b (Nat.ne_of_lt (Nat.lt_of_lt_of_le (Heap.lt_size e) I.ok.above))).trans (I.base.keep b o e n hb hx)
  ·obtain⟨sl,e1⟩:=I.base.slot b o e n hb hx
   exact⟨sl,(hs.2 b (Nat.ne_of_lt (Nat.lt_of_lt_of_le (Heap.lt_size e) I.ok.above))).trans e1⟩
  ·obtain⟨o',e1⟩:=I.base.there b o e hx
   exact⟨o',(hs.2 b (Nat.ne_of_lt (Nat.lt_of_lt_of_le (Heap.lt_size e) I.ok.above))).trans e1⟩
  ·by_cases hj:j=i
   ·subst hj
    rw[hi]at e1; cases e1;rw[List.getElem?_set_self hiσ]at e2
    cases e2
    exact⟨u,r,.inl ⟨hk,by simp⟩⟩
   ·rw[List.getElem?_set_ne (Ne.symm hj)]at e2
    obtain⟨u',r',q⟩:=hl j y v' e1 e2 e3;refine⟨u',r',?_⟩
    rcases q with⟨k,e⟩ | ⟨k,c,e,z⟩
    ·refine .inl ⟨k,?_⟩
     have:y≠x:=fun e=>hj (Zpp hN e1 (e ▸ hi));simp[this,e]
    ·exact .inr ⟨k,c,e,z.sameBut hs (cne y c e)⟩
  ·obtain⟨w',z⟩:=I.cell y c e
   exact⟨w',z.sameBut hs (cne y c e)⟩
  ·obtain⟨e,n,ne,nf,d⟩:=I.pin p hp
   exact⟨(hs.2 p.1 ne).trans e,n,ne,nf,d⟩
 ·have hfn:X.fn x=true:=by
   rcases hf with z | z
   ·exact z
   ·rw[z]at hk; cases hk
  obtain⟨c,hc⟩:=I.ok.has x (.inl hk);obtain⟨w',z⟩:=I.cell x c hc;refine wpAny_storeName_cell I.ok.kind hk hc z (fun h' hc' hs=>?_);obtain⟨oc,hoc,hocd⟩:=id z;refine h { s with heap:=h' } ⟨I.ok,I.os,I.bare,⟨fun b o e n hb hx=>?_,fun b o e n hb hx=>?_,I.base.free,fun b o e hx=>?_,I.base.tups,I.base.frzs,I.base.tbls⟩,⟨m,hn.sameBut hs (Ne.symm (cne x c hc)),fun j y v' e1 e2 e3=>?_⟩,fun y c' e=>?_,I.free,I.freeC,fun p hp=>?_,tracked ⟨oc,hoc,I.freeC x c hc⟩ hs,by simpa using I.len⟩ ⟨c,hs,.inr hc⟩
  ·exact(hs.2 b (Nat.ne_of_lt (Nat.lt_of_lt_of_le (Heap.lt_size e) (I.ok.cab x c hfn hc)))).trans (I.base.keep b o e n hb hx)
  ·obtain⟨sl,e1⟩:=I.base.slot b o e n hb hx
   exact⟨sl,(hs.2 b (Nat.ne_of_lt (Nat.lt_of_lt_of_le (Heap.lt_size e) (I.ok.cab x c hfn hc)))).trans e1⟩
  ·obtain⟨o',e1⟩:=I.base.there b o e hx
   exact⟨o',(hs.2 b (Nat.ne_of_lt (Nat.lt_of_lt_of_le (Heap.lt_size e) (I.ok.cab x c hfn hc)))).trans e1⟩
  ·by_cases hj:j=i
   ·subst hj
    rw[hi]at e1; cases e1;rw[List.getElem?_set_self hiσ]at e2
    cases e2
    exact⟨u,r,.inr ⟨.inl hk,c,hc,hc'⟩⟩
   ·rw[List.getElem?_set_ne (Ne.symm hj)]at e2
    obtain⟨u',r',q⟩:=hl j y v' e1 e2 e3;refine⟨u',r',?_⟩
    rcases q with q | ⟨k,c',e,z'⟩
    ·exact .inl q
    ·refine .inr ⟨k,c',e,z'.sameBut hs ?_⟩
     rintro rfl;exact hj (Zpp hN e1 (I.ok.inj _ _ _ e hc ▸ hi))
  ·by_cases hcc:c'=c
   ·subst hcc; exact⟨_,hc'⟩
   ·obtain⟨w2,z2⟩:=I.cell y c' e
    exact⟨w2,z2.sameBut hs hcc⟩
  ·obtain⟨e,n,ne,nf,d⟩:=I.pin p hp
   refine⟨(hs.2 p.1 ?_).trans e,n,ne,nf,d⟩;intro q;rw[q,hoc]at e;have q':oc=p.2:=Option.some.inj e;exact d w' (by rw[←q']; exact hocd)
theorem Zuz {M:Model} {A:Around} {E:Value→Shared→Prop} {i:Nat} {x:Str} {v:V} {u:Value} {Q:Unit→Shared→Prop} (I:Inv X pj σ H s) (hN:X.N.Nodup) (hi:X.N[i]?=some x) (hx:Loc X.env.scope x) (r:RelV v u)
  (h:∀s',Inv X pj (σ.set i (some v)) H s'→Q () s') (hf:X.fn x=true∨X.env.scope.names.lookup x=some .local:=by first | exact .inl rfl | exact .inr rfl | assumption):wpAny M A (storeName X.env x u) Q E s:=
 ZrT I hN hi hx r (fun s' I' _=>h s' I') hf
theorem Inv.call' {s':Shared} {ch:List Addr} (I:Inv X pj σ H s) (ho:s'.os=s.os) (u:Un (frs X.stack) ch H H' s.heap s'.heap) (hok:HOk X.prog X.w H' s'.heap) (hg:AllBare s'.gens)
  (hch:∀b∈ch,(b∈X.ex∨X.s₀.heap.objs.size≤b)∧b≠X.env.locals∧(∀x c,X.env.cells.lookup x=some c→c≠b)∧∀p∈X.pn++pj,p.1≠b):Inv X pj σ H' s':=by
 obtain⟨h',g',d',t',o'⟩:=s';have e:o'=s.os:=ho;subst e;exact I.call (g':=g') (t':=t') (d':=d') u hok hg hch
end
abbrev XK:=Value→Option Addr→Hp→Prop
abbrev St:=List (Option V)
abbrev VK:=V→Hp→Prop
abbrev TE:=St→Hp→VK→Prop
abbrev TT:=St→Hp→(Bool→Hp→Prop)→Prop
abbrev TA:=St→Hp→(List V→Hp→Prop)→Prop
structure Ends where
 nx:St→Hp→Prop
 rt:VK
 bk:St→Hp→Prop:=fun _ _=>False
 ct:St→Hp→Prop:=fun _ _=>False
abbrev TS:=Ends→St→Hp→Prop
def EP (X:Cx) (pj:List (Addr×Obj)) (σ:St) (Q:VK) (u:Value) (s':Shared):Prop:=∃v H',Inv X pj σ H' s'∧RelV v u∧Q v H'
def TP (X:Cx) (pj:List (Addr×Obj)) (σ:St) (Q:Bool→Hp→Prop) (b:Bool) (s':Shared):Prop:=∃H',Inv X pj σ H' s'∧Q b H'
def AP (X:Cx) (pj:List (Addr×Obj)) (σ:St) (Q:List V→Hp→Prop) (us:List Value) (s':Shared):Prop:=∃vs H',Inv X pj σ H' s'∧Vals vs us∧Q vs H'
def SP (X:Cx) (pj:List (Addr×Obj)) (D:Ends) (f:Flow) (s':Shared):Prop:=
 match f with
 | .next=>∃σ' H',Inv X pj σ' H' s'∧D.nx σ' H'
 | .brk=>∃σ' H',Inv X pj σ' H' s'∧D.bk σ' H'
 | .cont=>∃σ' H',Inv X pj σ' H' s'∧D.ct σ' H'
 | .ret u=>∃v σ' H',Inv X pj σ' H' s'∧RelV v u∧D.rt v H'
def PE (X:Cx) (e:Expr) (t:TE):Prop:=
 ∀(pj:List (Addr×Obj)) (s:Shared) (σ:St) (H:Hp) (Q:VK),Inv X pj σ H s→t σ H Q→wpAny (model X.prog X.w) X.A (eval e X.env) (EP X pj σ Q) X.xe s
def PT (X:Cx) (e:Expr) (t:TT):Prop:=
 ∀(pj:List (Addr×Obj)) (s:Shared) (σ:St) (H:Hp) (Q:Bool→Hp→Prop),Inv X pj σ H s→t σ H Q→wpAny (model X.prog X.w) X.A (isTrue e X.env (eval e X.env)) (TP X pj σ Q) X.xe s
def PW (X:Cx) (e:Expr) (t:TT):Prop:=
 ∀(whole:Sem Value) (pj:List (Addr×Obj)) (s:Shared) (σ:St) (H:Hp) (Q:Bool→Hp→Prop),Inv X pj σ H s→t σ H Q→wpAny (model X.prog X.w) X.A (isTrue e X.env whole) (TP X pj σ Q) X.xe s
theorem PW.pt {X:Cx} {e:Expr} {t:TT} (h:PW X e t):PT X e t:=h _
def PA (X:Cx) (es:List Expr) (t:TA):Prop:=
 ∀(pos:Pos) (pj:List (Addr×Obj)) (s:Shared) (σ:St) (H:Hp) (Q:List V→Hp→Prop),Inv X pj σ H s→t σ H Q→wpAny (model X.prog X.w) X.A (spliced (backTo pos (starEach es X.env))) (AP X pj σ Q) X.xe s
def PS (X:Cx) (st:Stmt) (t:TS):Prop:=
 ∀(pj:List (Addr×Obj)) (s:Shared) (σ:St) (H:Hp) (D:Ends),Inv X pj σ H s→t D σ H→wpAny (model X.prog X.w) X.A (exec st X.env) (SP X pj D) X.xe s
def PSs (X:Cx) (st:List Stmt) (t:TS):Prop:=
 ∀(pj:List (Addr×Obj)) (s:Shared) (σ:St) (H:Hp) (D:Ends),Inv X pj σ H s→t D σ H→wpAny (model X.prog X.w) X.A (execs st X.env) (SP X pj D) X.xe s
theorem thn {α:Type} {t:Sem α} {Q Q':α→Shared→Prop} {M:Model} {A:Around} {E:Value→Shared→Prop} {s:Shared} (h:wpAny M A t Q E s) (hQ:∀a s,Q a s→Q' a s):wpAny M A t Q' E s:=wpAny_mono h hQ fun _ _ x=>x
end L2
namespace L2
open PySem PySem.Spec PyProof.Rows
section
variable {X:Cx}
def tVar (i:Nat):TE:=fun σ H Q=>∃v,σ[i]?=some (some v)∧Q v H
abbrev tC (v:V):TE:=fun _ H Q=>Q v H
theorem ZEa {i:Nat} {x:Str} {pos:Pos} (hN:X.N[i]?=some x) (hv:Vis X.env.scope x) (hd:(x == ("__debug__" : Str))=false:=by decide) (hcd:(x == ("__classdict__" : Str))=false:=by decide):PE X (.Name x pos) (tVar i):=by
 intro pj s σ H Q I h;obtain⟨v,e,h⟩:=h;obtain⟨m,hn,hl⟩:=I.loc;obtain⟨u,r,l⟩:=hl i x v hN e hv;have fin:EP X pj σ Q u s:=⟨v,H,I,r,h⟩
 rcases l with⟨hk,hm⟩ | ⟨hk,c,hc,hcell⟩
 ·exact wpAny_Name (wpAny_loadName_local I.ok.kind hk hn hm fin) hd
 ·rcases hk with hk | hk
  ·exact wpAny_Name (wpAny_loadName_cell I.ok.kind hk hc hcell fin) hd
  ·exact wpAny_Name (wpAny_loadName_free I.ok.kind hk hc hcell fin hcd) hd
theorem Zac {i j pos}:PE X (.Constant (.int i) j pos) (tC (.int i)):=fun _ _ _ H _ I h=>wpAny_Constant_int ⟨.int i,H,I.tok _,⟨_,rfl⟩,h⟩
theorem Zfl {b j pos}:PE X (.Constant (.bool b) j pos) (tC (.bl b)):=fun _ _ _ H _ I h=>Constant_bool ⟨.bl b,H,I,rfl,h⟩
theorem Zuo {j pos}:PE X (.Constant .none j pos) (tC .non):=fun _ _ _ H _ I h=>Constant_none ⟨.non,H,I,rfl,h⟩
theorem Zal {x j pos}:PE X (.Constant (.str x) j pos) (tC (.str x)):=fun _ _ _ H _ I h=>Calls.Constant_str ⟨.str x,H,I.tok _,⟨_,rfl⟩,h⟩
def Gl (X:Cx) (x:Str):Prop:=X.env.kindOf x=some .globalImplicit
theorem Zm0 {E:Value→Shared→Prop} {pj:List (Addr×Obj)} {s:Shared} {σ:St} {H:Hp} {x:Str} {u:Value} {pos:Pos} {Q:Value→Shared→Prop} (I:Inv X pj σ H s) (hg:Gl X x) (hm:X.mg x=some u) (h:Q u s)
  (hd:(x == ("__debug__" : Str))=false:=by decide):wpAny (model X.prog X.w) X.A (eval (.Name x pos) X.env) Q E s:=
 Calls.Name_function_global I.ok.kind hg (Calls.loadGlobal_global (by rw[I.ok.glob]; exact I.mod.glob.keeps I.bk) hm h) hd
theorem Zlx {E:Value→Shared→Prop} {pj:List (Addr×Obj)} {s:Shared} {σ:St} {H:Hp} {x:Str} {u:Value} {pos:Pos} {Q:Value→Shared→Prop} (I:Inv X pj σ H s) (hg:Gl X x) (hm:X.mg x=none) (hv:bootBuiltins x=some u) (h:Q u s)
  (hn:x≠"__name__":=by decide) (hd:(x == ("__debug__" : Str))=false:=by decide):wpAny (model X.prog X.w) X.A (eval (.Name x pos) X.env) Q E s:=by
 obtain⟨mb,h1,h2⟩:=I.mod.blt;exact Calls.Name_function_global I.ok.kind hg (Calls.loadGlobal_builtin (by rw[I.ok.glob]; exact I.mod.glob.keeps I.bk) hm (by rw[I.ok.blt]; exact h1.keeps I.bk) ((h2 x hn).trans hv) h) hd
theorem Zxt {x:Str} {v:V} {u:Value} {pos:Pos} (hg:Gl X x) (hm:X.mg x=some u) (r:RelV v u) (hd:(x == ("__debug__" : Str))=false:=by decide):PE X (.Name x pos) (tC v):=
 fun _ _ _ H _ I h=>Zm0 I hg hm ⟨v,H,I,r,h⟩ hd
theorem Znm {x:Str} {v:V} {u:Value} {pos:Pos} (hg:Gl X x) (hm:X.mg x=none) (hv:bootBuiltins x=some u) (r:RelV v u) (hn:x≠"__name__":=by decide) (hd:(x == ("__debug__" : Str))=false:=by decide):PE X (.Name x pos) (tC v):=
 fun _ _ _ H _ I h=>Zlx I hg hm hv ⟨v,H,I,r,h⟩ hn hd
variable {a b:Expr} {ta tb:TE} {pos:Pos}
variable {tA tB':TT} {rest:List Expr}
abbrev tAnd (t u:TT):TT:=fun σ H Q=>t σ H fun c H1=>if c=true then u σ H1 Q else Q false H1
abbrev tOr (t u:TT):TT:=fun σ H Q=>t σ H fun c H1=>if c=true then Q true H1 else u σ H1 Q
abbrev tNot (t:TT):TT:=fun σ H Q=>t σ H fun c H1=>Q (!c) H1
theorem Zc2 (ha:PT X a tA):PW X (.BoolOp .And [a] pos) tA:=by
 intro wh pj s σ H Q I h;refine isTrue_and (thn (ha pj s σ H Q I h) fun c s1 e=>?_)
 cases c with
 | true=>exact isTrue_and_nil e
 | false=>exact e
theorem ZfT (ha:PT X a tA):PW X (.BoolOp .Or [a] pos) tA:=by
 intro wh pj s σ H Q I h;refine isTrue_or (thn (ha pj s σ H Q I h) fun c s1 e=>?_)
 cases c with
 | false=>exact isTrue_or_nil e
 | true=>exact e
theorem Zd7 (ha:PT X a tA) (hb:PW X (.BoolOp .And (b::rest) pos) tB'):PW X (.BoolOp .And (a::b::rest) pos) (tAnd tA tB'):=by
 intro wh pj s σ H Q I h;refine isTrue_and (thn (ha pj s σ H _ I h) fun c s1 ⟨H1,I1,q1⟩=>?_)
 cases c with
 | true=>exact hb wh pj s1 σ H1 Q I1 q1
 | false=>exact⟨H1,I1,q1⟩
theorem Zih (ha:PT X a tA) (hb:PW X (.BoolOp .Or (b::rest) pos) tB'):PW X (.BoolOp .Or (a::b::rest) pos) (tOr tA tB'):=by
 intro wh pj s σ H Q I h;refine isTrue_or (thn (ha pj s σ H _ I h) fun c s1 ⟨H1,I1,q1⟩=>?_)
 cases c with
 | true=>exact⟨H1,I1,q1⟩
 | false=>exact hb wh pj s1 σ H1 Q I1 q1
theorem Zgp (ha:PT X a tA):PT X (.UnaryOp .Not a pos) (tNot tA):=by
 intro pj s σ H Q I h;exact isTrue_not (ha pj s σ H (fun c H1=>Q (!c) H1) I h)
abbrev ZEQ (ta tb:TE):TE:=fun σ H Q=>ta σ H fun x H1=>∃c,x=.bl c∧if c=true then tb σ H1 Q else Q (.bl false) H1
theorem Zup {op} {t:TE} (h:PE X a t):PE X (.BoolOp op [a] pos) t:=fun pj s σ H Q I hw=>BoolOp_one (h pj s σ H Q I hw)
theorem ZrD (ha:PE X a ta) (hb:PE X (.BoolOp .And (b::rest) pos) tb):PE X (.BoolOp .And (a::b::rest) pos) (ZEQ ta tb):=by
 intro pj s σ H Q I h;refine BoolOp_and (thn (ha pj s σ H _ I h) fun v s1 ⟨x,H1,I1,r1,q1⟩=>?_);obtain⟨c,rfl,q1⟩:=q1
 cases r1
 refine wpAny_truthy_bool ?_
 cases c with
 | true=>exact hb pj s1 σ H1 Q I1 q1
 | false=>exact⟨.bl false,H1,I1,rfl,q1⟩
abbrev tIf (t:TT) (ta tb:TE):TE:=fun σ H Q=>t σ H fun c H1=>if c=true then ta σ H1 Q else tb σ H1 Q
theorem Zl9 {c:Expr} (hc:PT X c tA) (ha:PE X a ta) (hb:PE X b tb):PE X (.IfExp c a b pos) (tIf tA ta tb):=by
 intro pj s σ H Q I h;refine wpAny_IfExp (thn (hc pj s σ H _ I h) fun d s1 ⟨H1,I1,q1⟩=>?_)
 cases d with
 | true=>exact ha pj s1 σ H1 Q I1 q1
 | false=>exact hb pj s1 σ H1 Q I1 q1
end
end L2
namespace L2
open PySem PySem.Spec PyProof.Rows
def SqL (K:PySem.W.Frag) (H:Hp) (a:Addr) (xs:List V):Prop:=
 Rd H a (.lst xs)∨
  ∃(o:Obj) (its:Array Value) (n:Nat),K.lookup a=some o∧o.cls=.type "list"∧o.dict=none∧o.data=.seq its n∧its.size≤sizeLine∧Vals xs its.toList
def SqT (K:PySem.W.Frag) (H:Hp) (a:Addr) (xs:List V):Prop:=
 Rd H a (.tup xs)∨
  ∃(o:Obj) (its:Array Value) (n:Nat),K.lookup a=some o∧o.cls=.type "tuple"∧o.data=.seq its n∧its.size≤sizeLine∧Vals xs its.toList
def absV:Value→Option V
 | .none=>some .non
 | .bool b=>some (.bl b)
 | .int i _=>some (.int i)
 | .str x _=>some (.str x)
 | .bytes b _=>some (.byt b)
 | .float b _=>some (.flt b)
 | .ref a=>some (.ref a)
 | .type n=>some (.ty n)
 | _=>none
theorem RelV.abs {x:V} {u:Value} (r:RelV x u):absV u=some x:=by
 cases x with
 | non=>cases r; rfl
 | bl _=>cases r; rfl
 | int _=>obtain⟨t,rfl⟩:=r; rfl
 | str _=>obtain⟨t,rfl⟩:=r; rfl
 | byt _=>obtain⟨t,rfl⟩:=r; rfl
 | flt _=>obtain⟨t,rfl⟩:=r; rfl
 | ref _=>cases r; rfl
 | ty _=>cases r; rfl
theorem RelV.inj {x y:V} {u:Value} (r:RelV x u) (q:RelV y u):x=y:=Option.some.inj (r.abs.symm.trans q.abs)
theorem Vals.inj:∀{xs ys:List V} {us:List Value},Vals xs us→Vals ys us→xs=ys
 | _,_,_,.nil,.nil=>rfl
 | _,_,_,.cons r t,.cons r' t'=>by rw[r.inj r',Vals.inj t t']
section
variable {X:Cx} {pj:List (Addr×Obj)} {σ:St} {H:Hp} {s:Shared} {a:Addr} {xs ys:List V}
theorem SqL.of {K:PySem.W.Frag} (h:H a=some (.lst xs)):SqL K H a xs:=.inl (.inl h)
theorem SqT.of {K:PySem.W.Frag} (h:H a=some (.tup xs)):SqT K H a xs:=.inl (.inl h)
theorem Inv.list (I:Inv X pj σ H s) (h:SqL X.K H a xs):∃its:List Value,Vals xs its∧PlainL s.heap a its.toArray∧xs.length≤sizeLine:=by
 rcases h with h | ⟨o,its,n,hk,hc,hd,hs,hz,r⟩
 ·obtain⟨z,its,n,r,e⟩:=h.ok I.hok
  exact⟨its,r,⟨_,n,e,rfl,rfl,rfl⟩,z⟩
 ·refine⟨its.toList,r,⟨o,n,I.kIn a o hk,hc,hd,by simpa using hs⟩,?_⟩
  have e:=r.length;simp only [Array.length_toList]at e;omega
theorem Inv.tuple (I:Inv X pj σ H s) (h:SqT X.K H a xs):∃its:List Value,Vals xs its∧IsTup s.heap a its.toArray∧xs.length≤sizeLine:=by
 rcases h with h | ⟨o,its,n,hk,hc,hs,hz,r⟩
 ·obtain⟨z,its,r,p⟩:=h.ok I.hok
  exact⟨its,r,p,z⟩
 ·refine⟨its.toList,r,⟨o,I.kIn a o hk,hc,n,by simpa using hs⟩,?_⟩
  have e:=r.length;simp only [Array.length_toList]at e;omega
theorem Inv.list_inj (I:Inv X pj σ H s) (h:SqL X.K H a xs) (h':SqL X.K H a ys):xs=ys:=by
 obtain⟨its,r,⟨o,n,e,_,_,d⟩,_⟩:=I.list h;obtain⟨its',r',⟨o',n',e',_,_,d'⟩,_⟩:=I.list h';rw[e]at e'; cases e';rw[d]at d'
 injection d' with d1 _
 have:its=its':=by simpa using congrArg Array.toList d1
 subst this;exact r.inj r'
theorem Inv.tuple_inj (I:Inv X pj σ H s) (h:SqT X.K H a xs) (h':SqT X.K H a ys):xs=ys:=by
 obtain⟨its,r,⟨o,e,_,n,d⟩,_⟩:=I.tuple h;obtain⟨its',r',⟨o',e',_,n',d'⟩,_⟩:=I.tuple h';rw[e]at e'; cases e';rw[d]at d'
 injection d' with d1 _
 have:its=its':=by simpa using congrArg Array.toList d1
 subst this;exact r.inj r'
end
abbrev Cx.wish (X:Cx) (E:Value→Shared→Prop):Cx:={ X with xe:=E }
abbrev Cx.nox (X:Cx):Cx:=X.wish fun _ _=>False
theorem Cx.Ok.wish {X:Cx} (ok:X.Ok) (E:Value→Shared→Prop):(X.wish E).Ok:=
 ⟨ok.mod,ok.kind,ok.glob,ok.blt,ok.above,ok.inj,ok.has,ok.cab,ok.hd,ok.frames,ok.stk,ok.exf,ok.bs,ok.bsz,ok.noex,ok.exfs,ok.funs,ok.frf⟩
theorem Cx.Ok.unwish {X:Cx} {E:Value→Shared→Prop} (ok:(X.wish E).Ok):X.Ok:=
 ⟨ok.mod,ok.kind,ok.glob,ok.blt,ok.above,ok.inj,ok.has,ok.cab,ok.hd,ok.frames,ok.stk,ok.exf,ok.bs,ok.bsz,ok.noex,ok.exfs,ok.funs,ok.frf⟩
section
variable {X:Cx} {pj:List (Addr×Obj)} {σ:St} {H:Hp} {s:Shared} {E:Value→Shared→Prop}
theorem Inv.wish (I:Inv X pj σ H s) (E:Value→Shared→Prop):Inv (X.wish E) pj σ H s:=⟨I.ok.wish E,I.os,I.bare,I.base,I.loc,I.cell,I.free,I.freeC,I.pin,I.hok,I.len⟩
theorem Inv.unwish (I:Inv (X.wish E) pj σ H s):Inv X pj σ H s:=⟨I.ok.unwish,I.os,I.bare,I.base,I.loc,I.cell,I.free,I.freeC,I.pin,I.hok,I.len⟩
theorem SP.unwish {D:Ends} {f:Flow} {s':Shared} (h:SP (X.wish E) pj D f s'):SP X pj D f s':=by
 cases f with
 | next=>obtain⟨σ',H',I,q⟩:=h; exact⟨σ',H',I.unwish,q⟩
 | brk=>obtain⟨σ',H',I,q⟩:=h; exact⟨σ',H',I.unwish,q⟩
 | cont=>obtain⟨σ',H',I,q⟩:=h; exact⟨σ',H',I.unwish,q⟩
 | ret u=>obtain⟨v,σ',H',I,r,q⟩:=h; exact⟨v,σ',H',I.unwish,r,q⟩
theorem PT.nox {e:Expr} {t:TT} (h:PT X.nox e t):PT X e t:=fun pj s σ H Q I hw=>
 wpAny_mono (h pj s σ H Q (I.wish _) hw) (fun _ _ ⟨H',I',q⟩=>⟨H',I'.unwish,q⟩) fun _ _ z=>False.elim z
theorem PSs.nox {st:List Stmt} {t:TS} (h:PSs X.nox st t):PSs X st t:=fun pj s σ H D I hw=>
 wpAny_mono (h pj s σ H D (I.wish _) hw) (fun _ _ q=>q.unwish) fun _ _ z=>False.elim z
end
section
variable {X:Cx} {st:Stmt} {rest:List Stmt} {t u:TS} {e:Expr} {te:TE} {pos:Pos}
abbrev ZEV:TS:=fun D σ H=>D.nx σ H
def tSeq (t u:TS):TS:=fun D σ H=>t { D with nx:=u D } σ H
theorem Zap:PSs X [] ZEV:=fun _ _ σ H _ I h=>wpAny_execs_nil ⟨σ,H,I,h⟩
theorem Zab (h1:PS X st t) (h2:PSs X rest u):PSs X (st::rest) (tSeq t u):=by
 intro pj s σ H D I h;refine wpAny_execs_cons (thn (h1 pj s σ H { D with nx:=u D } I h) fun f s1 q=>?_)
 cases f with
 | next=>
  obtain⟨σ',H',I',q⟩:=q;exact h2 pj s1 σ' H' D I' q
 | ret v=>exact q
 | brk=>exact q
 | cont=>exact q
theorem Zae (h1:PS X st t):PSs X [st] t:=by
 intro pj s σ H D I h;refine wpAny_execs_cons (thn (h1 pj s σ H D I h) fun f s1 q=>?_)
 cases f with
 | next=>exact wpAny_execs_nil q
 | ret v=>exact q
 | brk=>exact q
 | cont=>exact q
theorem Inv.quiet {pj:List (Addr×Obj)} {σ:St} {H:Hp} {s:Shared} (I:Inv X pj σ H s):interactive X.env=false:=by simp[interactive,I.ok.kind]
abbrev ZCB (te:TE):TS:=fun D σ H=>te σ H fun _ H1=>D.nx σ H1
theorem ZaQ (he:PE X e te) (hs:swapsWith e none pos.line X.env=pure false:=by rfl):PS X (.Expr e pos) (ZCB te):=by
 intro pj s σ H D I h;exact wpAny_Expr_any (thn (he pj s σ H _ I h) fun v s1 ⟨x,H1,I1,r1,q1⟩=>⟨σ,H1,I1,q1⟩) I.quiet hs
abbrev tRet (te:TE):TS:=fun D σ H=>te σ H D.rt
theorem Zao (he:PE X e te):PS X (.Return (some e) pos) (tRet te):=by
 intro pj s σ H D I h;exact wpAny_Return_some (thn (he pj s σ H _ I h) fun v s1 ⟨x,H1,I1,r1,q1⟩=>⟨x,σ,H1,I1,r1,q1⟩)
abbrev tIfS (c:TT) (t u:TS):TS:=fun D σ H=>c σ H fun b H1=>if b=true then t D σ H1 else u D σ H1
theorem ZaB {c:Expr} {a b:List Stmt} {tc:TT} (hc:PT X c tc) (ha:PSs X a t) (hb:PSs X b u):PS X (.If c a b pos) (tIfS tc t u):=by
 intro pj s σ H D I h;refine wpAny_If (thn (hc pj s σ H _ I h) fun d s1 ⟨H1,I1,q1⟩=>?_)
 cases d with
 | true=>exact ha pj s1 σ H1 D I1 q1
 | false=>exact hb pj s1 σ H1 D I1 q1
def ZEU:TS:=fun _ _ _=>False
theorem Zd6:PS X st ZEU:=fun _ _ _ _ _ _ h=>h.elim
end
abbrev TG:=V→St→Hp→(St→Hp→Prop)→Prop
abbrev TGs:=List V→St→Hp→(St→Hp→Prop)→Prop
def PG (X:Cx) (target:Expr) (t:TG):Prop:=
 ∀(pj:List (Addr×Obj)) (s:Shared) (σ:St) (H:Hp) (v:V) (u:Value) (Q:St→Hp→Prop),Inv X pj σ H s→RelV v u→t v σ H Q→
  wpAny (model X.prog X.w) X.A (assign target X.env u) (fun _ s'=>∃σ' H',Inv X pj σ' H' s'∧Q σ' H') X.xe s
def PGs (X:Cx) (ts:List Expr) (t:TGs):Prop:=
 ∀(pj:List (Addr×Obj)) (s:Shared) (σ:St) (H:Hp) (vs:List V) (us:List Value) (Q:St→Hp→Prop),Inv X pj σ H s→Vals vs us→t vs σ H Q→
  wpAny (model X.prog X.w) X.A (assignInOrder ((assignEach ts X.env).map (·.2)) us) (fun _ s'=>∃σ' H',Inv X pj σ' H' s'∧Q σ' H') X.xe s
abbrev TSet:=V→V→V→Hp→(Hp→Prop)→Prop
def PSet (X:Cx) (t:TSet):Prop:=
 ∀(pj:List (Addr×Obj)) (s:Shared) (σ:St) (H:Hp) (o i v:V) (ov iv u:Value) (Q:Hp→Prop),Inv X pj σ H s→RelV o ov→RelV i iv→RelV v u→t o i v H Q→
  wpAny (model X.prog X.w) X.A (setItem ov iv u) (fun _ s'=>∃H',Inv X pj σ H' s'∧Q H') X.xe s
section
variable {X:Cx} {pos:Pos}
def ZmJ (i:Nat):TG:=fun v σ H Q=>Q (σ.set i (some v)) H
theorem Zxv {i:Nat} {x:Str} (hN:X.N.Nodup) (hi:X.N[i]?=some x) (hx:Loc X.env.scope x) (hf:X.fn x=true∨X.env.scope.names.lookup x=some .local:=by first | exact .inl rfl | exact .inr rfl | assumption):PG X (.Name x pos) (ZmJ i):=by
 intro pj s σ H v u Q I r h;exact wpAny_assign_Name (Zuz I hN hi hx r (fun s' I'=>⟨_,H,I',h⟩) hf)
def gNil:TGs:=fun vs σ H Q=>vs=[]∧Q σ H
def ZA2 (t:TG) (u:TGs):TGs:=fun vs σ H Q=>∃v r,vs=v::r∧t v σ H fun σ' H'=>u r σ' H' Q
theorem Zjw:PGs X [] gNil:=by
 intro pj s σ H vs us Q I r h;obtain⟨e,h⟩:=h;subst e
 cases r
 exact assignInOrder_nil ⟨σ,H,I,h⟩
theorem Zco {e:Expr} {es:List Expr} {t:TG} {u:TGs} (h1:PG X e t) (h2:PGs X es u)
  (hs:(assignEach (e::es) X.env).map (·.2)=assign e X.env::(assignEach es X.env).map (·.2):=by rfl):PGs X (e::es) (ZA2 t u):=by
 intro pj s σ H vs us Q I r h;obtain⟨v,vr,e1,h⟩:=h;subst e1
 cases r with
 | cons r rr=>
  rw[hs];refine assignInOrder_cons (thn (h1 pj s σ H _ _ _ I r h) fun _ s1 ⟨σ1,H1,I1,q1⟩=>?_);exact h2 pj s1 σ1 H1 _ _ Q I1 rr q1
def gTup (K:PySem.W.Frag) (n:Nat) (t:TGs):TG:=fun v σ H Q=>∃a xs,v=.ref a∧SqT K H a xs∧xs.length=n∧t xs σ H Q
theorem Znn {es:List Expr} {k:Nat} {t:TGs} {n:Nat} (hc:X.calm=true) (h:PGs X es t)
  (hn:(assignEach es X.env).length=n:=by rfl) (hst:(assignEach es X.env).findIdx? (·.1)=none:=by rfl):PG X (.Tuple es k pos) (gTup X.K n t):=by
 intro pj s σ H v u Q I r hw;obtain⟨a,xs,e1,hq,hl,hw⟩:=hw;subst e1
 cases r
 obtain⟨its,rv,ht,hz⟩:=I.tuple hq;refine assign_Tuple_tuple (I.ok.hd hc) ht (by simp[hn,←hl,rv.length]) hst fun h' hx=>?_;have I1:Inv X pj σ H { s with heap:=h' }:=I.kept (t':=s.toks) fun b o e=>hx b o (Nat.ne_of_lt (Heap.lt_size e)) e;exact h pj _ σ H xs _ Q I1 (by simpa using rv) hw
abbrev gSub (to ti:TE) (t:TSet):TG:=fun v σ H Q=>to σ H fun o H1=>ti σ H1 fun i H2=>t o i v H2 fun H3=>Q σ H3
theorem ZEd {o i:Expr} {to ti:TE} {t:TSet} (ho:PE X o to) (hi:PE X i ti) (hs:PSet X t)
  (ha:∀v,assign (.Subscript o i pos) X.env v=(do
   let ov ←holding [v] (eval o X.env)
   let iv ←holding [v,ov] (eval i X.env)
   standAt pos
   holding [v,ov,iv] (setItem ov iv v)
   release [v,ov,iv] []):=by intro _; rfl):PG X (.Subscript o i pos) (gSub to ti t):=by
 intro pj s σ H v u Q I r h;rw[ha];refine wpAny_bind (wpAny_holding (thn (ho pj s σ H _ I h) fun ov s1 ⟨x,H1,I1,r1,q1⟩=>?_));refine wpAny_bind (wpAny_holding (thn (hi pj s1 σ H1 _ I1 q1) fun iv s2 ⟨y,H2,I2,r2,q2⟩=>?_));refine wpAny_bind (wpAny_standAt (wpAny_bind (wpAny_holding (thn (hs pj s2 σ H2 x y v ov iv u _ I2 r1 r2 r q2) fun _ s3 ⟨H3,I3,q3⟩=>?_))));exact wpAny_release ⟨σ,H3,I3,q3⟩
abbrev tAsg (te:TE) (g:TG):TS:=fun D σ H=>te σ H fun x H1=>g x σ H1 D.nx
theorem ZEh {tg e:Expr} {te:TE} {g:TG} (he:PE X e te) (hg:PG X tg g) (hs:swapsWithSole [tg] e pos.line X.env=pure false:=by rfl) (hw:swappedStores [tg] e X.env=pure none:=by rfl)
  (h1:(assignEach [tg] X.env).map (·.2)=[assign tg X.env]:=by rfl):PS X (.Assign [tg] e pos) (tAsg te g):=by
 intro pj s σ H D I h;refine wpAny_Assign_stores (thn (he pj s σ H _ I h) fun v s1 ⟨x,H1,I1,r1,q1⟩=>?_) hs hw;rw[h1];exact thn (hg pj s1 σ H1 x v _ I1 r1 q1) fun _ s2 q=>q
theorem ZEi {i:Nat} {x:Str} {e:Expr} {te:TE} {pos':Pos} (hN:X.N.Nodup) (hi:X.N[i]?=some x) (hx:Loc X.env.scope x) (he:PE X e te) (hs:swapsWith e (some (.Name x pos')) pos.line X.env=pure false:=by rfl) (hf:X.fn x=true∨X.env.scope.names.lookup x=some .local:=by first | exact .inl rfl | exact .inr rfl | assumption) :
  PS X (.Assign [.Name x pos'] e pos) (tAsg te (ZmJ i)):=by
 intro pj s σ H D I h;refine wpAny_Assign_Name (thn (he pj s σ H _ I h) fun v s1 ⟨y,H1,I1,r1,q1⟩=>?_) hs;exact Zuz I1 hN hi hx r1 (fun s2 I2=>⟨_,H1,I2,q1⟩) hf
end
section
variable {X:Cx} {pos:Pos}
def ZEZ (c:TT) (tb:TS):TS:=fun D σ H=>∃W:Nat→St→Hp→Prop,(∃m,W m σ H)∧∀m σ H,W m σ H→
 c σ H fun b H1=>if b=true then ∃N:St→Hp→Prop,(∀σ' H',N σ' H'→∃m',m' < m∧W m' σ' H')∧tb { D with nx:=N,ct:=N,bk:=D.nx } σ H1 else D.nx σ H1
theorem ZpF {c:Expr} {body:List Stmt} {tc:TT} {tb:TS} (hp:PassesOwn (model X.prog X.w) X.A X.env X.xe) (hc:PT X c tc) (hb:PSs X body tb):PS X (.While c body [] pos) (ZEZ tc tb):=by
 intro pj s σ H D I h;obtain⟨W,⟨m0,w0⟩,turn⟩:=h;refine wpAny_While (codeAny_whileLoop (fun n s'=>∃σ' H',Inv X pj σ' H' s'∧W n σ' H') ?_ m0 ⟨σ,H,I,w0⟩);rintro n s1 ⟨σ1,H1,I1,w1⟩;refine wpAny_passesOwn hp (thn (hc pj s1 σ1 H1 _ I1 (turn n σ1 H1 w1)) fun b s2 ⟨H2,I2,q2⟩=>?_)
 cases b with
 | true=>
  obtain⟨N,hN,q2⟩:=q2;rw[if_pos rfl];refine wpAny_passesOwn hp (thn (hb pj s2 σ1 H2 _ I2 q2) fun f s3 q3=>?_)
  cases f with
  | next=>
   obtain⟨σ3,H3,I3,n3⟩:=q3;obtain⟨m',hm,w3⟩:=hN σ3 H3 n3;exact⟨m',hm,σ3,H3,I3,w3⟩
  | cont=>
   obtain⟨σ3,H3,I3,n3⟩:=q3;obtain⟨m',hm,w3⟩:=hN σ3 H3 n3;exact⟨m',hm,σ3,H3,I3,w3⟩
  | brk=>exact q3
  | ret v=>exact q3
 | false=>
  rw[if_neg Bool.false_ne_true];exact wpAny_execs_nil ⟨σ1,H2,I2,q2⟩
end
structure It where
 go:Nat→Hp→Prop
 yld:Nat→Hp→V→Hp→Prop
 stop:Nat→Hp→Prop
def FpOk (X:Cx) (pj:List (Addr×Obj)) (H:Hp) (b:Addr):Prop:=
 H b=none∧b≠X.env.locals∧b∉X.fs∧(b∈X.ex∨X.s₀.heap.objs.size≤b)∧(∀x c,X.env.cells.lookup x=some c→c≠b)∧∀p∈X.pn++pj,p.1≠b
theorem Inv.fpOk {X:Cx} {pj:List (Addr×Obj)} {σ:St} {H H':Hp} {s:Shared} {b:Addr} (I:Inv X pj σ H s) (hb:s.heap.objs.size≤b) (hn:H' b=none):FpOk X pj H' b:=by
 refine⟨hn,Nat.ne_of_gt (Nat.lt_of_lt_of_le I.lt hb),I.nofs hb,.inr (Nat.le_trans I.sz hb),fun x c e z=>?_,fun p hp z=>?_⟩
 ·obtain⟨v,q⟩:=I.cell x c e
  exact absurd (Nat.lt_of_lt_of_le q.lt (by rw[z]; exact hb)) (Nat.lt_irrefl _)
 ·exact absurd (Nat.lt_of_lt_of_le (Heap.lt_size (I.pin p hp).1) (by rw[z]; exact hb)) (Nat.lt_irrefl _)
structure Turn (P:Program) (w:World) (K:PySem.W.Frag) (tg:Expr) (J:It) (fp:List Addr) (it:Addr) (tn:Nat→Heap→Prop):Prop where
 mem:it∈fp
 obj:∀i h,tn i h→∀b∈fp,∃o,h.get? b=some o∧∀v,o.data≠.cell v
 keep:∀i h h',tn i h→(∀b∈fp,∀o,h.get? b=some o→h'.get? b=some o)→tn i h'
 item:∀(X:Cx),X.prog=P→X.w=w→X.K=K→X.calm=true→∀(i:Nat) (pj:List (Addr×Obj)) (s:Shared) (σ:St) (H:Hp) (E:Value→Shared→Prop),Inv X pj σ H s→(∀b∈fp,FpOk X pj H b)→tn i s.heap→J.go i H→
  wpAny (model P w) X.A (pyNext (.ref it)) (fun r s1=>∃u,r=some u∧
   wpAny (model P w) X.A (letOwnedTupleGo tg (.ref it) u) (fun _ s2=>∃x H',Inv X pj σ H' s2∧RelV x u∧J.yld i H x H'∧tn (i+1) s2.heap∧∀b∈fp,H' b=none) E s1) E s
 done:∀(X:Cx),X.prog=P→X.w=w→X.K=K→X.calm=true→∀(i:Nat) (pj:List (Addr×Obj)) (s:Shared) (σ:St) (H:Hp) (E:Value→Shared→Prop),Inv X pj σ H s→(∀b∈fp,FpOk X pj H b)→tn i s.heap→J.stop i H→
  wpAny (model P w) X.A (pyNext (.ref it)) (fun r s1=>r=none∧Inv X pj σ H s1) E s
 self:∀(A:Around) (i:Nat) (s:Shared) (Q:Value→Shared→Prop) (E:Value→Shared→Prop),tn i s.heap→Q (.ref it) s→wpAny (model P w) A (pyIter (.ref it)) Q E s
abbrev TI:=St→Hp→(It→Hp→Prop)→Prop
def PIE (X:Cx) (pj:List (Addr×Obj)) (σ:St) (tg:Expr) (R:It→Hp→Prop) (itv:Value) (s2:Shared):Prop:=
 ∃(it:Addr) (fp:List Addr) (tn:Nat→Heap→Prop) (J:It) (H':Hp),itv=.ref it∧Inv X pj σ H' s2∧Turn X.prog X.w X.K tg J fp it tn∧tn 0 s2.heap∧(∀b∈fp,FpOk X pj H' b)∧R J H'
def PI (X:Cx) (tg iter:Expr) (wi:TI):Prop:=
 ∀(pj:List (Addr×Obj)) (s:Shared) (σ:St) (H:Hp) (R:It→Hp→Prop),Inv X pj σ H s→wi σ H R→
  wpAny (model X.prog X.w) X.A (eval iter X.env) (fun v s1=>wpAny (model X.prog X.w) X.A (pyIter v) (PIE X pj σ tg R) X.xe s1) X.xe s
theorem Zu8 {M:Model} {A:Around} {E:Value→Shared→Prop} {s:Shared} {tg:Expr} {it:Addr} {u:Value} {o:Obj} {n:String} {vs:Array Value} {Q:Unit→Shared→Prop} (ho:s.heap.get? it=some o) (hc:o.cls=.type n) (hd:o.data=.fields vs)
    (hn:["enumerate","zip","dict_itemiterator","dict_reverseitemiterator","odict_iterator","itertools.zip_longest","itertools.pairwise"].contains n=false) (hQ:Q () s):wpAny M A (letOwnedTupleGo tg (.ref it) u) Q E s:=by
  unfold letOwnedTupleGo
  cases tg <;> first
    | exact wpAny_pure hQ
    | (cases u <;> first
        | exact wpAny_pure hQ
        | (refine wpAny_bind (wpAny_load ho ?_)
           rw[hc,hd];show wpAny M A (if (["enumerate","zip","dict_itemiterator","dict_reverseitemiterator","odict_iterator","itertools.zip_longest","itertools.pairwise"].contains n && vs[0]? == some (rawInt _))=true then _ else _) Q E s;rw[if_neg (by intro h; rw[hn,Bool.false_and]at h; cases h)]
           exact wpAny_pure hQ))
def Itl (K:PySem.W.Frag) (a:Addr):It:=
 ⟨fun i H=>∃xs x,SqL K H a xs∧xs[i]?=some x,fun i H x H'=>H'=H∧∀xs,SqL K H a xs→xs[i]?=some x,fun i H=>∃xs,SqL K H a xs∧xs.length≤i⟩
def Itt (K:PySem.W.Frag) (a:Addr):It:=
 ⟨fun i H=>∃xs x,SqT K H a xs∧xs[i]?=some x,fun i H x H'=>H'=H∧∀xs,SqT K H a xs→xs[i]?=some x,fun i H=>∃xs,SqT K H a xs∧xs.length≤i⟩
def Itr (lo:Int) (n:Nat):It:=⟨fun i _=>i < n,fun i H x H'=>H'=H∧x=.int (lo+i),fun i _=>n≤i⟩
theorem Zx4 {P:Program} {w:World} {K:PySem.W.Frag} {tg:Expr} (a it:Addr):Turn P w K tg (Itl K a) [it] it (fun i h=>h.IsListIter it a i) where
 mem:=by simp
 obj:=fun i h st b hb=>by
  have e:b=it:=by simpa using hb
  subst e;obtain⟨o,e,c,d⟩:=st;exact⟨o,e,fun v z=>by rw[d]at z; cases z⟩
 keep:=fun i h h' st k=>st.at fun o e=>k it (by simp) o e
 item:=by
  intro X hP hw hK hc i pj s σ H E I hf st hg;subst hP hw hK;obtain⟨xs,x,hq,hx⟩:=hg;obtain⟨its,rv,p,hz⟩:=I.list hq;obtain⟨u,hu,ru⟩:=rv.get hx;obtain⟨f0,f1,f2,f3,f4,f5⟩:=hf it (by simp);refine wpAny_pyNext_list_item st p.isList (x:=u) (by simpa using hu) fun h' st' sb=>?_;have I1:Inv X pj σ H { s with heap:=h' }:=I.turned (t':=s.toks) (fun b o hb e=>(sb.2 b hb).trans e) f0 f1 f3 f4 f5;obtain⟨o,e,c,d⟩:=id st';exact⟨u,rfl,Zu8 (s:={ s with heap:=h' }) e c d (by decide) ⟨x,H,I1,ru,⟨rfl,fun ys hy=>by rw[I.list_inj hy hq]; exact hx⟩,st',fun b hb=>(hf b hb).1⟩⟩
 done:=by
  intro X hP hw hK hc i pj s σ H E I hf st hg;subst hP hw hK;obtain⟨xs,hq,hx⟩:=hg;obtain⟨its,rv,p,hz⟩:=I.list hq;obtain⟨f0,f1,f2,f3,f4,f5⟩:=hf it (by simp);have hl:=rv.length;exact wpAny_pyNext_list_end (I.ok.hd hc) st p.isList (by simp; omega) fun h' eb=>⟨rfl,I.turned (t':=s.toks) (fun b o hb e=>eb b o hb e) f0 f1 f3 f4 f5⟩
 self:=fun _ _ _ _ _ st h=>wpAny_pyIter_listiter st h
theorem ZvR {P:Program} {w:World} {K:PySem.W.Frag} {tg:Expr} (a it:Addr):Turn P w K tg (Itt K a) [it] it (fun i h=>h.IsTupleIter it a i) where
 mem:=by simp
 obj:=fun i h st b hb=>by
  have e:b=it:=by simpa using hb
  subst e;obtain⟨o,e,c,d⟩:=st;exact⟨o,e,fun v z=>by rw[d]at z; cases z⟩
 keep:=fun i h h' st k=>st.at fun o e=>k it (by simp) o e
 item:=by
  intro X hP hw hK hc i pj s σ H E I hf st hg;subst hP hw hK;obtain⟨xs,x,hq,hx⟩:=hg;obtain⟨its,rv,p,hz⟩:=I.tuple hq;obtain⟨u,hu,ru⟩:=rv.get hx;obtain⟨f0,f1,f2,f3,f4,f5⟩:=hf it (by simp);refine wpAny_pyNext_tuple_item st (show s.heap.IsTuple a its.toArray from p) (x:=u) (by simpa using hu) fun h' st' sb=>?_;have I1:Inv X pj σ H { s with heap:=h' }:=I.turned (t':=s.toks) (fun b o hb e=>(sb.2 b hb).trans e) f0 f1 f3 f4 f5;obtain⟨o,e,c,d⟩:=id st';exact⟨u,rfl,Zu8 (s:={ s with heap:=h' }) e c d (by decide) ⟨x,H,I1,ru,⟨rfl,fun ys hy=>by rw[I.tuple_inj hy hq]; exact hx⟩,st',fun b hb=>(hf b hb).1⟩⟩
 done:=by
  intro X hP hw hK hc i pj s σ H E I hf st hg;subst hP hw hK;obtain⟨xs,hq,hx⟩:=hg;obtain⟨its,rv,p,hz⟩:=I.tuple hq;obtain⟨f0,f1,f2,f3,f4,f5⟩:=hf it (by simp);have hl:=rv.length;exact wpAny_pyNext_tuple_end (I.ok.hd hc) st (show s.heap.IsTuple a its.toArray from p) (by simp; omega) fun h' eb=>⟨rfl,I.turned (t':=s.toks) (fun b o hb e=>eb b o hb e) f0 f1 f3 f4 f5⟩
 self:=fun _ _ _ _ _ st h=>wpAny_pyIter_tupleiter st h
theorem ZvQ {P:Program} {w:World} {K:PySem.W.Frag} {tg:Expr} (it:Addr) (lo:Int) (n:Nat):Turn P w K tg (Itr lo n) [it] it (fun i h=>IsRangeIter h it (lo+(i:Nat) * 1) ((n:Int) - (i:Nat)) 1) where
 mem:=by simp
 obj:=fun i h st b hb=>by
  have e:b=it:=by simpa using hb
  subst e
  exact⟨_,st,fun v z=>by
   have z':Data.fields _=Data.cell v:=z
   cases z'⟩
 keep:=fun i h h' st k=>k it (by simp) _ st
 item:=by
  intro X hP hw hK hc i pj s σ H E I hf st hg;subst hP hw hK;obtain⟨f0,f1,f2,f3,f4,f5⟩:=hf it (by simp);have W:=Walks.range (prog:=X.prog) (w:=X.w) (I.ok.hd hc) it lo 1 n;refine W.item i s _ _ hg st fun v h' tk hv st' kk=>?_;obtain⟨t,rfl⟩:=hv;have I1:Inv X pj σ H { s with heap:=h',toks:=tk }:=I.turned (fun b o hb e=>kk b o (by simpa using hb) e) f0 f1 f3 f4 f5;refine⟨_,rfl,Zu8 (s:={ s with heap:=h',toks:=tk }) (n:="range_iterator") st' rfl rfl (by decide) ⟨.int (lo+i),H,I1,⟨t,?_⟩,⟨rfl,rfl⟩,st',fun b hb=>(hf b hb).1⟩⟩;rw[Int.mul_one]
 done:=by
  intro X hP hw hK hc i pj s σ H E I hf st hg;subst hP hw hK;obtain⟨f0,f1,f2,f3,f4,f5⟩:=hf it (by simp);exact wpAny_pyNext_range_end (I.ok.hd hc) st (by have:n≤i:=hg; omega) fun h' eb=>⟨rfl,I.turned (t':=s.toks) (fun b o hb e=>eb b o hb e) f0 f1 f3 f4 f5⟩
 self:=fun _ _ _ _ _ st h=>wpAny_pyIter_rangeiter st h
end L2
namespace L2
open PySem PySem.Spec PyProof.Rows
section
variable {X:Cx} {tg:Expr}
theorem Zzi {pj:List (Addr×Obj)} {σ:St} {H:Hp} {s:Shared} {R:It→Hp→Prop} {E:Value→Shared→Prop} {lo hi:Int} {t u v:Tok} {tk:Nat} (I:Inv X pj σ H s) (h1 : -(2 ^ 62)≤lo) (h2:lo < 2 ^ 62) (h3 : -(2 ^ 62)≤hi) (h4:hi < 2 ^ 62)
  (q:R (Itr lo (hi - lo).toNat) H):wpAny (model X.prog X.w) X.A (pyIter (.ref s.heap.objs.size)) (PIE X pj σ tg R) E { s with heap:=s.heap.push { cls:=.type "range",data:=.fields #[.int lo t,.int hi u,.int 1 v] },toks:=tk }:=by
 refine wpAny_pyIter_range (IsRange.new ..) (small_one h1 h2 h3 h4) ?_;have I1:Inv X pj σ H { s with heap:=s.heap.push { cls:=.type "range",data:=.fields #[.int lo t,.int hi u,.int 1 v] },toks:=tk }:=I.kept fun b o e=>Heap.get?_push_of_some _ e
 refine⟨(s.heap.push { cls:=.type "range",data:=.fields #[.int lo t,.int hi u,.int 1 v] }).objs.size,[(s.heap.push { cls:=.type "range",data:=.fields #[.int lo t,.int hi u,.int 1 v] }).objs.size],_,_,H,rfl,
  I1.kept (t':=tk) fun b o e=>Heap.get?_push_of_some _ e,ZvQ _ lo (hi - lo).toNat,?_,fun b hb=>?_,q⟩
 ·have e1:lo+((0:Nat):Int) * 1=lo:=by simp
  have e2:(((hi - lo).toNat:Nat):Int) - ((0:Nat):Int)=Builtin.Range.rangeSize lo hi 1:=by rw[rangeSize_one]; split <;> omega
  show IsRangeIter _ _ (lo+((0:Nat):Int) * 1) ((((hi - lo).toNat:Nat):Int) - ((0:Nat):Int)) 1;rw[e1,e2];exact Heap.get?_push_size _ rfl
 ·have e:b=(s.heap.push { cls:=.type "range",data:=.fields #[.int lo t,.int hi u,.int 1 v] }).objs.size:=by simpa using hb
  subst e;exact I1.fpOk (Nat.le_refl _) (I1.hok.fresh (Nat.le_refl _))
def ZBb (ta:TA):TI:=fun σ H R=>ta σ H fun vs H1=>∃j:Int,vs=[.int j]∧-(2 ^ 62)≤j∧j < 2 ^ 62∧R (Itr 0 j.toNat) H1
theorem ZaZ {a:Expr} {ta:TA} {p pos:Pos} (hg:Gl X "range") (hm:X.mg "range" = none) (ha:PA X [a] ta) (hs:starEach [a] X.env=[(false,eval a X.env)]:=by rfl):PI X tg (.Call (.Name "range" p) [a] [] pos) (ZBb ta):=by
 intro pj s σ H R I h;refine Call_ (Zlx I hg hm boot_range (PyProof.Rows.callWith_type1 (thn (ha pos pj s σ H _ I h) fun us s1 ⟨vs,H1,I1,r1,q1⟩=>?_) hs rfl));obtain⟨j,e,q1,q2,q⟩:=q1;subst e
 cases r1 with
 | cons r rr=>
  cases rr
  obtain⟨t,rfl⟩:=r;exact call_range_1 (Zzi I1 (by omega) (by omega) q1 q2 (by simpa using q))
def tFor (wi:TI) (g:TG) (tb:TS):TS:=fun D σ H=>wi σ H fun J H1=>∃W:Nat→Nat→St→Hp→Prop,(∃m,W 0 m σ H1)∧∀i m σ H,W i m σ H→
 (J.stop i H∧D.nx σ H)∨(J.go i H∧∃N:St→Hp→Prop,(∀σ' H',N σ' H'→∃m',m' < m∧W (i+1) m' σ' H')∧∀x H',J.yld i H x H'→g x σ H' fun σ2 H2=>tb { D with nx:=N,ct:=N,bk:=D.nx } σ2 H2)
def ZrF (fp:List Addr) (h:Heap):List (Addr×Obj):=fp.filterMap fun b=>(h.get? b).map fun o=>(b,o)
theorem ZgS {fp:List Addr} {h:Heap} {b:Addr} {o:Obj} (hb:b∈fp) (e:h.get? b=some o):(b,o)∈ZrF fp h:=List.mem_filterMap.mpr ⟨b,hb,by rw[e]; rfl⟩
theorem Zxc {fp:List Addr} {h:Heap} {p:Addr×Obj} (hp:p∈ZrF fp h):p.1∈fp∧h.get? p.1=some p.2:=by
 obtain⟨b,hb,e⟩:=List.mem_filterMap.mp hp
 cases q:h.get? b with
 | none=>rw[q]at e; cases e
 | some o=>
  rw[q]at e;have e':(b,o)=p:=Option.some.inj e;subst e';exact⟨hb,q⟩
theorem Inv.pinned {pj:List (Addr×Obj)} {σ:St} {H:Hp} {s:Shared} {fp:List Addr} (I:Inv X pj σ H s) (hf:∀b∈fp,FpOk X pj H b) (ho:∀b∈fp,∃o,s.heap.get? b=some o∧∀v,o.data≠.cell v):Inv X (pj++ZrF fp s.heap) σ H s:=
 I.pins_of fun p hp=>(List.mem_append.mp hp).elim (fun z=>I.pin p (List.mem_append_right _ z)) fun z=>by
  obtain⟨hb,e⟩:=Zxc z;obtain⟨f0,f1,f2,_⟩:=hf p.1 hb;obtain⟨o,e',d⟩:=ho p.1 hb;rw[e]at e'; cases e';exact⟨e,f0,f1,f2,d⟩
theorem Inv.unpinned {pj pl:List (Addr×Obj)} {σ:St} {H:Hp} {s:Shared} (I:Inv X (pj++pl) σ H s):Inv X pj σ H s:=I.pins_of fun p hp=>I.pin p (List.mem_append_right _ (List.mem_append_left _ hp))
theorem ZaS {iter:Expr} {body:List Stmt} {wi:TI} {g:TG} {tb:TS} {pos:Pos} (hp:PassesOwn (model X.prog X.w) X.A X.env X.xe) (hc:X.calm=true) (hi:PI X tg iter wi) (hg:PG X tg g) (hb:PSs X body tb)
  (hs:∀x,foldedSetIterable iter X.env x=pure x:=by intro _; rfl):PS X (.For tg iter body [] pos) (tFor wi g tb):=by
 intro pj s σ H D I h;refine wpAny_For (thn (hi pj s σ H _ I h) fun v s1 h1=>thn h1 fun itv s2 h2=>?_) hs;obtain⟨it,fp,tn,J,H2,e,I2,T,st2,f2,W,⟨m0,w0⟩,turn⟩:=h2;subst e;have stat:∀{H':Hp},(∀b∈fp,H' b=none)→∀b∈fp,FpOk X pj H' b:=fun hn b hb=>⟨hn b hb,(f2 b hb).2⟩;refine codeAny_forLoop_any (fun n s'=>∃i σ' H',Inv X pj σ' H' s'∧tn i s'.heap∧(∀b∈fp,H' b=none)∧W i n σ' H') ?_ m0 ⟨0,σ,H2,I2,st2,fun b hb=>(f2 b hb).1,w0⟩;rintro n s3 ⟨i,σ3,H3,I3,st3,fr3,w3⟩
 rcases turn i n σ3 H3 w3 with⟨stop,qn⟩ | ⟨go,N,hN,step⟩
 ·refine wpAny_passesOwn hp (thn (T.done X rfl rfl rfl hc i pj s3 σ3 H3 X.xe I3 (stat fr3) st3 stop) fun r s4 ⟨hr,I4⟩=>?_)
  subst hr;exact wpAny_execs_nil ⟨σ3,H3,I4,qn⟩
 ·refine wpAny_passesOwn hp (thn (T.item X rfl rfl rfl hc i pj s3 σ3 H3 X.xe I3 (stat fr3) st3 go) fun r s4 ⟨u,hr,h4⟩=>?_)
  subst hr;refine wpAny_passesOwn hp (thn h4 fun _ s5 ⟨x,H5,I5,r5,y5,st5,fr5⟩=>?_);have I5':=I5.pinned (stat fr5) (T.obj _ _ st5);refine wpAny_passesOwn hp (thn (hg _ s5 σ3 H5 x u _ I5' r5 (step x H5 y5)) fun _ s6 ⟨σ6,H6,I6,q6⟩=>?_);refine wpAny_passesOwn hp (thn (hb _ s6 σ6 H6 _ I6 q6) fun f s7 q7=>?_)
  have again:∀{σ7:St} {H7:Hp},Inv X (pj++ZrF fp s5.heap) σ7 H7 s7→N σ7 H7→∃m,m < n∧∃i σ' H',Inv X pj σ' H' s7∧tn i s7.heap∧(∀b∈fp,H' b=none)∧W i m σ' H':=fun {σ7 H7} I7 n7=>by
   obtain⟨m',hm,w7⟩:=hN σ7 H7 n7;refine⟨m',hm,i+1,σ7,H7,I7.unpinned,T.keep _ _ _ st5 fun b hb o e=>(I7.pin (b,o) (List.mem_append_right _ (List.mem_append_right _ (ZgS hb e)))).1,fun b hb=>?_,w7⟩;obtain⟨o,e,d⟩:=T.obj _ _ st5 b hb;exact(I7.pin (b,o) (List.mem_append_right _ (List.mem_append_right _ (ZgS hb e)))).2.1
  cases f with
  | next=>obtain⟨σ7,H7,I7,n7⟩:=q7; exact again I7 n7
  | cont=>obtain⟨σ7,H7,I7,n7⟩:=q7; exact again I7 n7
  | brk=>obtain⟨σ7,H7,I7,q7⟩:=q7; exact⟨σ7,H7,I7.unpinned,q7⟩
  | ret v=>obtain⟨x7,σ7,H7,I7,r7,q7⟩:=q7; exact⟨x7,σ7,H7,I7.unpinned,r7,q7⟩
end
theorem Zyw {K:PySem.W.Frag} {a:Addr} {xs:List V} {g:TG} {tb:TS} {D:Ends} {σ:St} {H:Hp} (Pv:Nat→St→Hp→Prop) (h0:Pv 0 σ H) (hl:∀i σ H,i≤xs.length→Pv i σ H→SqL K H a xs)
  (hs:∀i x σ H,xs[i]?=some x→Pv i σ H→g x σ H fun σ2 H2=>tb { D with nx:=Pv (i+1),ct:=Pv (i+1),bk:=D.nx } σ2 H2) (hd:∀σ H,Pv xs.length σ H→D.nx σ H) :
  ∃W:Nat→Nat→St→Hp→Prop,(∃m,W 0 m σ H)∧∀i m σ H,W i m σ H→
   ((Itl K a).stop i H∧D.nx σ H)∨((Itl K a).go i H∧∃N:St→Hp→Prop,(∀σ' H',N σ' H'→∃m',m' < m∧W (i+1) m' σ' H')∧∀x H',(Itl K a).yld i H x H'→g x σ H' fun σ2 H2=>tb { D with nx:=N,ct:=N,bk:=D.nx } σ2 H2):=by
 refine⟨fun i m σ H=>m=xs.length - i∧i≤xs.length∧Pv i σ H,⟨xs.length,by simp,Nat.zero_le _,h0⟩,?_⟩;rintro i m σ H ⟨rfl,hi,p⟩;have q:=hl i σ H hi p
 by_cases hlt:i < xs.length
 ·refine .inr ⟨⟨xs,xs[i],q,by simp[hlt]⟩,Pv (i+1),fun σ' H' p'=>⟨xs.length - (i+1),by omega,rfl,hlt,p'⟩,fun x H' y=>?_⟩
  obtain⟨e,y⟩:=y;subst e;exact hs i x σ _ (y xs q) p
 ·have e:i=xs.length:=by omega
  subst e;exact .inl ⟨⟨xs,q,Nat.le_refl _⟩,hd σ H p⟩
theorem ZA0 {K:PySem.W.Frag} {a:Addr} {xs:List V} {g:TG} {tb:TS} {D:Ends} {σ:St} {H:Hp} (Pv:Nat→St→Hp→Prop) (h0:Pv 0 σ H) (hl:∀i σ H,i≤xs.length→Pv i σ H→SqT K H a xs)
  (hs:∀i x σ H,xs[i]?=some x→Pv i σ H→g x σ H fun σ2 H2=>tb { D with nx:=Pv (i+1),ct:=Pv (i+1),bk:=D.nx } σ2 H2) (hd:∀σ H,Pv xs.length σ H→D.nx σ H) :
  ∃W:Nat→Nat→St→Hp→Prop,(∃m,W 0 m σ H)∧∀i m σ H,W i m σ H→
   ((Itt K a).stop i H∧D.nx σ H)∨((Itt K a).go i H∧∃N:St→Hp→Prop,(∀σ' H',N σ' H'→∃m',m' < m∧W (i+1) m' σ' H')∧∀x H',(Itt K a).yld i H x H'→g x σ H' fun σ2 H2=>tb { D with nx:=N,ct:=N,bk:=D.nx } σ2 H2):=by
 refine⟨fun i m σ H=>m=xs.length - i∧i≤xs.length∧Pv i σ H,⟨xs.length,by simp,Nat.zero_le _,h0⟩,?_⟩;rintro i m σ H ⟨rfl,hi,p⟩;have q:=hl i σ H hi p
 by_cases hlt:i < xs.length
 ·refine .inr ⟨⟨xs,xs[i],q,by simp[hlt]⟩,Pv (i+1),fun σ' H' p'=>⟨xs.length - (i+1),by omega,rfl,hlt,p'⟩,fun x H' y=>?_⟩
  obtain⟨e,y⟩:=y;subst e;exact hs i x σ _ (y xs q) p
 ·have e:i=xs.length:=by omega
  subst e;exact .inl ⟨⟨xs,q,Nat.le_refl _⟩,hd σ H p⟩
theorem ZqH {lo:Int} {n:Nat} {g:TG} {tb:TS} {D:Ends} {σ:St} {H:Hp} (Pv:Nat→St→Hp→Prop) (h0:Pv 0 σ H)
  (hs:∀i σ H,i < n→Pv i σ H→g (.int (lo+i)) σ H fun σ2 H2=>tb { D with nx:=Pv (i+1),ct:=Pv (i+1),bk:=D.nx } σ2 H2) (hd:∀σ H,Pv n σ H→D.nx σ H) :
  ∃W:Nat→Nat→St→Hp→Prop,(∃m,W 0 m σ H)∧∀i m σ H,W i m σ H→
   ((Itr lo n).stop i H∧D.nx σ H)∨((Itr lo n).go i H∧∃N:St→Hp→Prop,(∀σ' H',N σ' H'→∃m',m' < m∧W (i+1) m' σ' H')∧∀x H',(Itr lo n).yld i H x H'→g x σ H' fun σ2 H2=>tb { D with nx:=N,ct:=N,bk:=D.nx } σ2 H2):=by
 refine⟨fun i m σ H=>m=n - i∧i≤n∧Pv i σ H,⟨n,by simp,Nat.zero_le _,h0⟩,?_⟩;rintro i m σ H ⟨rfl,hi,p⟩
 by_cases hlt:i < n
 ·refine .inr ⟨hlt,Pv (i+1),fun σ' H' p'=>⟨n - (i+1),by omega,rfl,hlt,p'⟩,fun x H' y=>?_⟩
  obtain⟨e,y⟩:=y;subst e y;exact hs i σ _ hlt p
 ·have e:i=n:=by omega
  subst e;exact .inl ⟨Nat.le_refl _,hd σ H p⟩
end L2
namespace L2
open PySem PySem.Spec PyProof.Rows
abbrev R2:=V→V→Hp→VK→Prop
def OpR (X:Cx) (f:Value→Value→Sem Value) (r:R2):Prop:=
 ∀(pj:List (Addr×Obj)) (s:Shared) (σ:St) (H:Hp) (x y:V) (v u:Value) (Q:VK),Inv X pj σ H s→RelV x v→RelV y u→r x y H Q→
  wpAny (model X.prog X.w) X.A (f v u) (EP X pj σ Q) X.xe s
def UnR (X:Cx) (f:Value→Sem Value) (r:V→Hp→VK→Prop):Prop:=
 ∀(pj:List (Addr×Obj)) (s:Shared) (σ:St) (H:Hp) (x:V) (v:Value) (Q:VK),Inv X pj σ H s→RelV x v→r x H Q→
  wpAny (model X.prog X.w) X.A (f v) (EP X pj σ Q) X.xe s
def ZhL (X:Cx) (f:Value) (r:List V→Hp→VK→Prop):Prop:=
 ∀(pj:List (Addr×Obj)) (s:Shared) (σ:St) (H:Hp) (xs:List V) (us:List Value) (Q:VK),Inv X pj σ H s→Vals xs us→r xs H Q→
  wpAny (model X.prog X.w) X.A (call f us) (EP X pj σ Q) X.xe s
def TruR (X:Cx) (r:V→Hp→(Bool→Hp→Prop)→Prop):Prop:=
 ∀(pj:List (Addr×Obj)) (s:Shared) (σ:St) (H:Hp) (x:V) (v:Value) (Q:Bool→Hp→Prop),Inv X pj σ H s→RelV x v→r x H Q→
  wpAny (model X.prog X.w) X.A (truthy v) (TP X pj σ Q) X.xe s
abbrev tOp (r:R2) (ta tb:TE):TE:=fun σ H Q=>ta σ H fun x H1=>tb σ H1 fun y H2=>r x y H2 Q
abbrev tUn (r:V→Hp→VK→Prop) (ta:TE):TE:=fun σ H Q=>ta σ H fun x H1=>r x H1 Q
def rI (C:Int→Int→Prop) (g:Int→Int→V):R2:=fun x y H Q=>∃i j,x=.int i∧y=.int j∧C i j∧Q (g i j) H
def rI0 (g:Int→Int→V):R2:=fun x y H Q=>∃i j,x=.int i∧y=.int j∧Q (g i j) H
def rU (g:Int→V):V→Hp→VK→Prop:=fun x H Q=>∃i,x=.int i∧Q (g i) H
section
variable {X:Cx} {a b c:Expr} {ta tb tc:TE} {pos:Pos}
theorem binT (ha:PE X a ta) (hb:PE X b tb) {pj:List (Addr×Obj)} {s:Shared} {σ:St} {H:Hp} {R:V→V→Hp→Prop} (I:Inv X pj σ H s)
  (h:ta σ H fun x H1=>tb σ H1 fun y H2=>R x y H2) {Q:Value→Shared→Prop} {f:Value→Value→Sem Value}
  (hf:∀v u s2 x y H2,Inv X pj σ H2 s2→RelV x v→RelV y u→R x y H2→wpAny (model X.prog X.w) X.A (f v u) Q X.xe s2) :
  wpAny (model X.prog X.w) X.A (eval a X.env) (fun v s₁=>wpAny (model X.prog X.w) X.A (eval b X.env) (fun u s₂=>wpAny (model X.prog X.w) X.A (f v u) Q X.xe s₂) X.xe s₁) X.xe s:=by
 refine thn (ha pj s σ H _ I h) fun v s1 ⟨x,H1,I1,r1,q1⟩=>?_;refine thn (hb pj s1 σ H1 _ I1 q1) fun u s2 ⟨y,H2,I2,r2,q2⟩=>?_;exact hf v u s2 x y H2 I2 r1 r2 q2
theorem Zai {op:Operator} {r:R2} (ho:OpR X (binaryOp op) r) (ha:PE X a ta) (hb:PE X b tb):PE X (.BinOp a op b pos) (tOp r ta tb):=by
 intro pj s σ H Q I h;exact wpAny_BinOp (binT ha hb I h fun v u s2 x y H2 I2 rx ry q=>ho pj s2 σ H2 x y v u Q I2 rx ry q)
theorem Ztj {op:UnaryOp} {r:V→Hp→VK→Prop} (ho:UnR X (unaryOp op) r) (ha:PE X a ta):PE X (.UnaryOp op a pos) (tUn r ta):=by
 intro pj s σ H Q I h;exact UnaryOp_ (thn (ha pj s σ H _ I h) fun v s1 ⟨x,H1,I1,r1,q1⟩=>ho pj s1 σ H1 x v Q I1 r1 q1)
theorem opI {f:Value→Value→Sem Value} {C:Int→Int→Prop} {g:Int→Int→Int}
  (rule:∀(i j:Int) (t u:Tok) (s:Shared) (Q:Value→Shared→Prop) (E:Value→Shared→Prop),C i j→Q (.int (g i j) s.toks) { s with toks:=s.toks+1 }→wpAny (model X.prog X.w) X.A (f (.int i t) (.int j u)) Q E s) :
  OpR X f (rI C fun i j=>.int (g i j)):=by
 intro pj s σ H x y v u Q I rx ry h;obtain⟨i,j,rfl,rfl,hc,q⟩:=h;obtain⟨t,rfl⟩:=rx;obtain⟨t',rfl⟩:=ry;exact rule i j t t' s _ _ hc ⟨.int (g i j),H,I.tok _,⟨_,rfl⟩,q⟩
theorem opI0 {f:Value→Value→Sem Value} {g:Int→Int→Int}
  (rule:∀(i j:Int) (t u:Tok) (s:Shared) (Q:Value→Shared→Prop) (E:Value→Shared→Prop),Q (.int (g i j) s.toks) { s with toks:=s.toks+1 }→wpAny (model X.prog X.w) X.A (f (.int i t) (.int j u)) Q E s) :
  OpR X f (rI0 fun i j=>.int (g i j)):=by
 intro pj s σ H x y v u Q I rx ry h;obtain⟨i,j,rfl,rfl,q⟩:=h;obtain⟨t,rfl⟩:=rx;obtain⟨t',rfl⟩:=ry;exact rule i j t t' s _ _ ⟨.int (g i j),H,I.tok _,⟨_,rfl⟩,q⟩
theorem opB0 {f:Value→Value→Sem Value} {g:Int→Int→Bool}
  (rule:∀(i j:Int) (t u:Tok) (s:Shared) (Q:Value→Shared→Prop) (E:Value→Shared→Prop),Q (.bool (g i j)) s→wpAny (model X.prog X.w) X.A (f (.int i t) (.int j u)) Q E s) :
  OpR X f (rI0 fun i j=>.bl (g i j)):=by
 intro pj s σ H x y v u Q I rx ry h;obtain⟨i,j,rfl,rfl,q⟩:=h;obtain⟨t,rfl⟩:=rx;obtain⟨t',rfl⟩:=ry;exact rule i j t t' s _ _ ⟨.bl (g i j),H,I,rfl,q⟩
def CPow (i j:Int):Prop:=0≤j∧j≤1000000∧i.natAbs < 2 ^ 64
def CMul (i j:Int):Prop:=(-(2 ^ 64) < i∧i < 2 ^ 64)∨(-(2 ^ 64) < j∧j < 2 ^ 64)
theorem CMul.ok {i j:Int} (h:CMul i j):IntMulOk i j:=by
 rcases h with⟨h1,h2⟩ | ⟨h1,h2⟩
 ·exact .of_left (intBits_le_64 h1 h2)
 ·exact .of_right (intBits_le_64 h1 h2)
theorem ZvS (k:Nat):(0:Int)≤2 ^ k:=by
 rw[two_pow_cast];exact Int.natCast_nonneg _
theorem ZDX:OpR X (binaryOp .Add) (rI0 fun i j=>.int (i+j)):=opI0 fun _ _ _ _ _ _ _ q=>add_int q
theorem ZfQ:OpR X (binaryOp .Sub) (rI0 fun i j=>.int (i - j)):=opI0 fun _ _ _ _ _ _ _ q=>sub_int q
theorem ZD2:OpR X (binaryOp .Mult) (rI CMul fun i j=>.int (i * j)):=opI fun _ _ _ _ _ _ _ hc q=>mul_int q hc.ok
theorem ZaR:OpR X (binaryOp .Mod) (rI (fun _ j=>0 < j) fun i j=>.int (i % j)):=opI fun i j _ _ _ _ _ hc q=>by
 have h1:(0:Int) < j:=hc;exact mod_int' (by omega) (by rw[Int.fmod_eq_emod_of_nonneg i (by omega)]; exact q)
theorem Zba:OpR X (binaryOp .LShift) (rI CPow fun i j=>.int (i * 2 ^ j.toNat)):=opI fun _ _ _ _ _ _ _ hc q=>lshift_int_small hc.1 hc.2.1 hc.2.2 q
theorem ZAv:OpR X (binaryOp .RShift) (rI (fun _ j=>0≤j) fun i j=>.int (i / 2 ^ j.toNat)):=opI fun i j _ _ _ _ _ hc q=>
 rshift_int hc (by rw[Int.fdiv_eq_ediv_of_nonneg i (ZvS _)]; exact q)
theorem ZlM:OpR X (binaryOp .BitAnd) (rI0 fun i j=>.int (Builtin.bitAnd i j)):=opI0 fun _ _ _ _ _ _ _ q=>and_int q
theorem ZlY:OpR X (binaryOp .BitOr) (rI0 fun i j=>.int (Builtin.bitOr i j)):=opI0 fun _ _ _ _ _ _ _ q=>or_int q
theorem ZoD:OpR X (binaryOp .BitXor) (rI0 fun i j=>.int (Builtin.bitXor i j)):=opI0 fun _ _ _ _ _ _ _ q=>xor_int q
theorem unI {f:Value→Sem Value} {g:Int→Int}
  (rule:∀(i:Int) (t:Tok) (s:Shared) (Q:Value→Shared→Prop) (E:Value→Shared→Prop),Q (.int (g i) s.toks) { s with toks:=s.toks+1 }→wpAny (model X.prog X.w) X.A (f (.int i t)) Q E s) :
  UnR X f (rU fun i=>.int (g i)):=by
 intro pj s σ H x v Q I rx h;obtain⟨i,rfl,q⟩:=h;obtain⟨t,rfl⟩:=rx;exact rule i t s _ _ ⟨.int (g i),H,I.tok _,⟨_,rfl⟩,q⟩
theorem ZoK:UnR X (unaryOp .USub) (rU fun i=>.int (-i)):=unI fun _ _ _ _ _ q=>neg_int q
theorem ZE0:UnR X (unaryOp .Invert) (rU fun i=>.int (Builtin.bitNot i)):=unI fun _ _ _ _ _ q=>invert_int q
end
def scal:V→V→Bool
 | .non,.non=>true | .non,.int _=>true | .int _,.non=>true | .non,.bl _=>true | .bl _,.non=>true | .non,.str _=>true | .str _,.non=>true
 | .int _,.int _=>true | .bl _,.bl _=>true | .str _,.str _=>true | .byt _,.byt _=>true
 | .int _,.str _=>true | .str _,.int _=>true | .bl _,.str _=>true | .str _,.bl _=>true
 | _,_=>false
def rEq:R2:=fun x y H Q=>scal x y=true∧Q (.bl (decide (x=y))) H
def rNe:R2:=fun x y H Q=>scal x y=true∧Q (.bl (!decide (x=y))) H
theorem Zwl {i j:Int}:decide (V.int i=V.int j)=(i == j):=by
 rw[Bool.eq_iff_iff];simp
theorem ZzN {i j:Bool}:decide (V.bl i=V.bl j)=(i == j):=by
 rw[Bool.eq_iff_iff];simp
theorem Zwm {i j:Str}:decide (V.str i=V.str j)=(i == j):=by
 rw[Bool.eq_iff_iff];simp
theorem Zwk {i j:Array UInt8}:decide (V.byt i=V.byt j)=(i.toList == j.toList):=by
 rw[Bool.eq_iff_iff]
 cases i
 cases j
 simp
section
variable {X:Cx} {a b c:Expr} {ta tb tc:TE} {pos:Pos}
theorem Zbm {pj:List (Addr×Obj)} {σ:St} {H:Hp} {s:Shared} {Q:VK} {k k':Bool} (I:Inv X pj σ H s) (q:Q (.bl k) H) (e:k=k'):EP X pj σ Q (.bool k') s:=by
 subst e;exact⟨.bl k,H,I,rfl,q⟩
theorem ZFr:OpR X (compareOp .Eq) rEq:=by
 intro pj s σ H x y v u Q I rx ry h;obtain⟨hs,q⟩:=h
 cases x with
 | non=>
  cases rx
  cases y with
  | non=>cases ry; exact PySem.EqNone.eq_none_none (Zbm I q (by simp))
  | bl j=>cases ry; exact PySem.EqNone.eq_none_bool (Zbm I q (by simp))
  | int j=>obtain⟨t',rfl⟩:=ry; exact PySem.EqNone.eq_none_int (Zbm I q (by simp))
  | str j=>obtain⟨t',rfl⟩:=ry; exact PySem.EqNone.eq_none_str (Zbm I q (by simp))
  | _=>exact absurd (show false=true from hs) Bool.false_ne_true
 | bl i=>
  cases rx
  cases y with
  | non=>cases ry; exact PySem.EqNone.eq_bool_none (Zbm I q (by simp))
  | bl j=>cases ry; exact eq_bool (Zbm I q ZzN)
  | str j=>obtain⟨t',rfl⟩:=ry; exact PySem.EqMixed.eq_bool_str (Zbm I q (by simp))
  | _=>exact absurd (show false=true from hs) Bool.false_ne_true
 | int i=>
  obtain⟨t,rfl⟩:=rx
  cases y with
  | non=>cases ry; exact PySem.EqNone.eq_int_none (Zbm I q (by simp))
  | int j=>obtain⟨t',rfl⟩:=ry; exact eq_int (Zbm I q Zwl)
  | str j=>obtain⟨t',rfl⟩:=ry; exact PySem.EqMixed.eq_int_str (Zbm I q (by simp))
  | _=>exact absurd (show false=true from hs) Bool.false_ne_true
 | str i=>
  obtain⟨t,rfl⟩:=rx
  cases y with
  | non=>cases ry; exact PySem.EqNone.eq_str_none (Zbm I q (by simp))
  | bl j=>cases ry; exact PySem.EqMixed.eq_str_bool (Zbm I q (by simp))
  | int j=>obtain⟨t',rfl⟩:=ry; exact PySem.EqMixed.eq_str_int (Zbm I q (by simp))
  | str j=>obtain⟨t',rfl⟩:=ry; exact eq_str (Zbm I q Zwm)
  | _=>exact absurd (show false=true from hs) Bool.false_ne_true
 | byt i=>
  obtain⟨t,rfl⟩:=rx
  cases y with
  | byt j=>obtain⟨t',rfl⟩:=ry; exact PySem.W.eq_bytes (Zbm I q Zwk)
  | _=>exact absurd (show false=true from hs) Bool.false_ne_true
 | _=>cases y <;> exact absurd (show false=true from hs) Bool.false_ne_true
theorem ZFs:OpR X (compareOp .NotEq) rNe:=by
 intro pj s σ H x y v u Q I rx ry h;obtain⟨hs,q⟩:=h
 cases x with
 | non=>
  cases rx
  cases y with
  | non=>cases ry; exact PySem.EqNone.ne_none_none (Zbm I q (by simp))
  | bl j=>cases ry; exact PySem.EqNone.ne_none_bool (Zbm I q (by simp))
  | int j=>obtain⟨t',rfl⟩:=ry; exact PySem.EqNone.ne_none_int (Zbm I q (by simp))
  | str j=>obtain⟨t',rfl⟩:=ry; exact PySem.EqNone.ne_none_str (Zbm I q (by simp))
  | _=>exact absurd (show false=true from hs) Bool.false_ne_true
 | bl i=>
  cases rx
  cases y with
  | non=>cases ry; exact PySem.EqNone.ne_bool_none (Zbm I q (by simp))
  | bl j=>cases ry; exact ne_bool (Zbm I q (congrArg not ZzN))
  | str j=>obtain⟨t',rfl⟩:=ry; exact PySem.EqMixed.ne_bool_str (Zbm I q (by simp))
  | _=>exact absurd (show false=true from hs) Bool.false_ne_true
 | int i=>
  obtain⟨t,rfl⟩:=rx
  cases y with
  | non=>cases ry; exact PySem.EqNone.ne_int_none (Zbm I q (by simp))
  | int j=>obtain⟨t',rfl⟩:=ry; exact ne_int (Zbm I q (congrArg not Zwl))
  | str j=>obtain⟨t',rfl⟩:=ry; exact PySem.EqMixed.ne_int_str (Zbm I q (by simp))
  | _=>exact absurd (show false=true from hs) Bool.false_ne_true
 | str i=>
  obtain⟨t,rfl⟩:=rx
  cases y with
  | non=>cases ry; exact PySem.EqNone.ne_str_none (Zbm I q (by simp))
  | bl j=>cases ry; exact PySem.EqMixed.ne_str_bool (Zbm I q (by simp))
  | int j=>obtain⟨t',rfl⟩:=ry; exact PySem.EqMixed.ne_str_int (Zbm I q (by simp))
  | str j=>obtain⟨t',rfl⟩:=ry; exact ne_str (Zbm I q (congrArg not Zwm))
  | _=>exact absurd (show false=true from hs) Bool.false_ne_true
 | byt i=>
  obtain⟨t,rfl⟩:=rx
  cases y with
  | byt j=>obtain⟨t',rfl⟩:=ry; exact PySem.W.ne_bytes (Zbm I q (congrArg not Zwk))
  | _=>exact absurd (show false=true from hs) Bool.false_ne_true
 | _=>cases y <;> exact absurd (show false=true from hs) Bool.false_ne_true
theorem ZvF:OpR X (compareOp .Lt) (rI0 fun i j=>.bl (decide (i < j))):=opB0 fun _ _ _ _ _ _ _ q=>lt_int q
theorem ZD1:OpR X (compareOp .LtE) (rI0 fun i j=>.bl (decide (i≤j))):=opB0 fun _ _ _ _ _ _ _ q=>le_int q
theorem Zju:OpR X (compareOp .Gt) (rI0 fun i j=>.bl (decide (j < i))):=opB0 fun _ _ _ _ _ _ _ q=>gt_int q
theorem Zy7:OpR X (compareOp .GtE) (rI0 fun i j=>.bl (decide (j≤i))):=opB0 fun _ _ _ _ _ _ _ q=>ge_int q
theorem Zxl:OpR X (compareOp .In) (fun x y H Q=>∃i j,x=.str i∧y=.str j∧Q (.bl (!(Builtin.Str.occurrences j i 0 j.length 1).isEmpty)) H):=by
 intro pj s σ H x y v u Q I rx ry h;obtain⟨i,j,rfl,rfl,q⟩:=h;obtain⟨t,rfl⟩:=rx;obtain⟨t',rfl⟩:=ry;exact in_str (Zbm I q rfl)
theorem ZD0:OpR X (compareOp .Is) (fun x y H Q=>y=.non∧Q (.bl (decide (x=.non))) H):=by
 intro pj s σ H x y v u Q I rx ry h;obtain⟨rfl,q⟩:=h
 cases ry
 refine is_none_gen (Zbm I q ?_)
 cases x <;> first
  | (cases rx; rfl)
  | (obtain⟨t,rfl⟩:=rx; rfl)
theorem ZBV:OpR X (compareOp .IsNot) (fun x y H Q=>y=.non∧Q (.bl (!decide (x=.non))) H):=by
 intro pj s σ H x y v u Q I rx ry h;obtain⟨rfl,q⟩:=h
 cases ry
 refine isnot_none_gen (Zbm I q ?_)
 cases x <;> first
  | (cases rx; rfl)
  | (obtain⟨t,rfl⟩:=rx; rfl)
theorem ZrB:OpR X (compareOp .NotIn) (fun x y H Q=>∃i j,x=.str i∧y=.str j∧Q (.bl (!(!(Builtin.Str.occurrences j i 0 j.length 1).isEmpty))) H):=by
 intro pj s σ H x y v u Q I rx ry h;obtain⟨i,j,rfl,rfl,q⟩:=h;obtain⟨t,rfl⟩:=rx;obtain⟨t',rfl⟩:=ry;exact notIn_str (Zbm I q rfl)
theorem OpR.or {f:Value→Value→Sem Value} {r r':R2} (h:OpR X f r) (h':OpR X f r'):OpR X f (fun x y H Q=>r x y H Q∨r' x y H Q):=by
 intro pj s σ H x y v u Q I rx ry q
 rcases q with q | q
 ·exact h pj s σ H x y v u Q I rx ry q
 ·exact h' pj s σ H x y v u Q I rx ry q
theorem Zan (b:Expr) {op:CmpOp} (h:op≠.In:=by decide) (h2:op≠.NotIn:=by decide):behindInMarks op b=false:=by
 have e1:(op == CmpOp.In)=false:=by cases op <;> first | rfl | exact absurd rfl h
 have e2:(op == CmpOp.NotIn)=false:=by cases op <;> first | rfl | exact absurd rfl h2
 cases b <;> simp[behindInMarks,e1,e2]
theorem Zjv {op:CmpOp} {r:R2} (ho:OpR X (compareOp op) r) (ha:PE X a ta) (hb:PE X b tb) (hm:behindInMarks op b=false):PE X (.Compare a [op] [b] pos) (tOp r ta tb):=by
 intro pj s σ H Q I h;exact wpAny_Compare1 (binT ha hb I h fun v u s2 x y H2 I2 rx ry q=>ho pj s2 σ H2 x y v u Q I2 rx ry q) hm
abbrev ZEY (t:TE):TT:=fun σ H Q=>t σ H fun x H'=>∃k,x=.bl k∧Q k H'
theorem Zaj {op:CmpOp} {r:R2} (ho:OpR X (compareOp op) r) (ha:PE X a ta) (hb:PE X b tb) (hm:behindInMarks op b=false):PT X (.Compare a [op] [b] pos) (ZEY (tOp r ta tb)):=by
 intro pj s σ H Q I h
 refine wpAny_isTrue_Compare1 (thn (ha pj s σ H _ I h) fun v s1 ⟨x,H1,I1,r1,q1⟩=>thn (hb pj s1 σ H1 _ I1 q1) fun u s2 ⟨y,H2,I2,r2,q2⟩=>
  thn (ho pj s2 σ H2 x y v u _ I2 r1 r2 q2) fun c s3 ⟨z,H3,I3,r3,k,e,q3⟩=>?_) hm
 subst e
 cases r3
 exact wpAny_truthy_bool ⟨H3,I3,q3⟩
abbrev ZAE (r r':R2) (ta tb tc:TE):TE:=fun σ H Q=>ta σ H fun x H1=>tb σ H1 fun y H2=>r x y H2 fun z H3=>∃k,z=.bl k∧
 (if k=true then tc σ H3 fun w' H4=>r' y w' H4 Q else Q (.bl false) H3)
theorem Zun {op op':CmpOp} {r r':R2} (ho:OpR X (compareOp op) r) (ho':OpR X (compareOp op') r') (ha:PE X a ta) (hb:PE X b tb) (hc:PE X c tc)
  (hm:lastMarks [op,op'] [b,c]=false:=by with_unfolding_all rfl):PE X (.Compare a [op,op'] [b,c] pos) (ZAE r r' ta tb tc):=by
 intro pj s σ H Q I h
 refine Compare_chain (thn (ha pj s σ H _ I h) fun v s1 ⟨x,H1,I1,r1,q1⟩=>chain_link (thn (hb pj s1 σ H1 _ I1 q1) fun u s2 ⟨y,H2,I2,r2,q2⟩=>
  thn (ho pj s2 σ H2 x y v u _ I2 r1 r2 q2) fun d s3 ⟨z,H3,I3,r3,k,e,q3⟩=>?_)) hm
 subst e
 cases r3
 refine wpAny_truthy_bool ?_
 cases k with
 | false=>exact ite_ff ⟨.bl false,H3,I3,rfl,q3⟩
 | true=>exact ite_tt (chain_last (thn (hc pj s3 σ H3 _ I3 q3) fun w' s4 ⟨z',H4,I4,r4,q4⟩=>ho' pj s4 σ H4 y z' u w' Q I4 r2 r4 q4))
def TruV (K:PySem.W.Frag) (x:V) (H:Hp) (k:Bool):Prop:=
 match x with
 | .non=>k=false
 | .bl b=>k=b
 | .int i=>k=(i != 0)
 | .str y=>y.length≤sizeLine∧k=((y.length:Int) != 0)
 | .byt y=>y.size≤sizeLine∧k=((y.size:Int) != 0)
 | .ref p=>(∃xs,SqL K H p xs∧k = !xs.isEmpty)∨(∃xs,SqT K H p xs∧k = !xs.isEmpty)∨∃kvs,H p=some (.dK kvs)∧k = !kvs.isEmpty
 | _=>False
theorem Zvg {κ:Type} {kvs:List (κ×V)} {vs:List (κ×Value)} (r:KV kvs vs):(!vs.isEmpty) = !kvs.isEmpty:=by
 cases r <;> rfl
theorem Zot {xs:List V} {its:List Value} (r:Vals xs its):(!its.toArray.isEmpty) = !xs.isEmpty:=by
 cases r <;> simp
theorem Zou:(sizeLine:Nat) < 2 ^ 63:=by rw[sizeLine_eq]; decide
theorem ZAI:TruR X (fun x H Q=>∃k,TruV X.K x H k∧Q k H):=by
 intro pj s σ H x v Q I rx h;obtain⟨k,e,q⟩:=h;have hl:=Zou;have hs:sizeLine=16777216:=sizeLine_eq
 cases x with
 | non=>
  cases rx
  have e':k=false:=e;subst e';exact truthy_none ⟨H,I,q⟩
 | bl b=>
  cases rx
  have e':k=b:=e;subst e';exact wpAny_truthy_bool ⟨H,I,q⟩
 | int i=>
  obtain⟨t,rfl⟩:=rx;have e':k=(i != 0):=e;subst e';exact PySem.P.truthy_int ⟨H,I,q⟩
 | str y=>
  obtain⟨t,rfl⟩:=rx;obtain⟨hy,e'⟩ : y.length≤sizeLine∧k=((y.length:Int) != 0):=e;subst e';exact PySem.P.truthy_str (by omega) ⟨H,I.tok _,q⟩
 | byt y=>
  obtain⟨t,rfl⟩:=rx;obtain⟨hy,e'⟩ : y.size≤sizeLine∧k=((y.size:Int) != 0):=e;subst e';exact PySem.W.truthy_bytes (by omega) ⟨H,I.tok _,q⟩
 | ref p=>
  cases rx
  have e':(∃xs,SqL X.K H p xs∧k = !xs.isEmpty)∨(∃xs,SqT X.K H p xs∧k = !xs.isEmpty)∨∃kvs,H p=some (.dK kvs)∧k = !kvs.isEmpty:=e
  rcases e' with⟨xs,hx,e'⟩ | ⟨xs,hx,e'⟩ | ⟨kvs,hx,e'⟩
  ·subst e'
   obtain⟨its,r,pl,hz⟩:=I.list hx;have hlen:=r.length;exact wpAny_truthy_list pl.isList (by simp only [List.size_toArray]; omega) ⟨H,I.tok _,by rw[Zot r]; exact q⟩
  ·subst e'
   obtain⟨its,r,pl,hz⟩:=I.tuple hx;have hlen:=r.length;exact truthy_tuple pl (by simp only [List.size_toArray]; omega) ⟨H,I.tok _,by rw[Zot r]; exact q⟩
  ·subst e'
   obtain⟨hz,hS,vs,r,m⟩ : kvs.length≤sizeLine∧(p == sysModules)=false∧∃vs,KV kvs vs∧s.heap.DictOf (Zcl X.prog X.w) p vs:=I.hok p _ hx;have hlen:kvs.length=vs.length:=Paired.length r;exact wpAny_truthy_dict hS m (by omega) ⟨H,I.tok _,by rw[Zvg r]; exact q⟩
 | _=>exact(show False from e).elim
theorem ZaL (ha:PE X a ta) (he:∀whole,isTrue a X.env whole=(do let v ←whole; standAt a.pos; holding [v] (truthy v))) :
  PT X a (fun σ H Q=>ta σ H fun x H'=>∃k,TruV X.K x H' k∧Q k H'):=by
 intro pj s σ H Q I h;exact isTrue_plain (thn (ha pj s σ H _ I h) fun v s1 ⟨x,H1,I1,r1,q1⟩=>ZAI pj s1 σ H1 x v Q I1 r1 q1) (he _)
theorem ZvE:OpR X (binaryOp .Add) (fun x y H Q=>∃i j,x=.str i∧y=.str j∧i.length+j.length≤sizeLine∧Q (.str (i++j)) H):=by
 intro pj s σ H x y v u Q I rx ry h;obtain⟨i,j,rfl,rfl,hz,q⟩:=h;obtain⟨t,rfl⟩:=rx;obtain⟨t',rfl⟩:=ry;exact add_str (fun t' tk=>⟨.str (i++j),H,I.tok _,⟨_,rfl⟩,q⟩) hz
theorem ZrX {x:V} {us:List Value} (r:Vals [x] us):∃u,us=[u]∧RelV x u:=by
 cases r with
 | cons r1 r2=>cases r2; exact⟨_,rfl,r1⟩
theorem ZzE {x y:V} {us:List Value} (r:Vals [x,y] us):∃u w',us=[u,w']∧RelV x u∧RelV y w':=by
 cases r with
 | cons r1 r2=>
  cases r2 with
  | cons r3 r4=>cases r4; exact⟨_,_,rfl,r1,r3⟩
theorem Zv7 (hc:X.calm=true):ZhL X (.builtin "max") (fun xs H Q=>∃i j,xs=[.int i,.int j]∧Q (.int (if j > i then j else i)) H):=by
 intro pj s σ H xs us Q I r h;obtain⟨i,j,rfl,q⟩:=h;obtain⟨u,w',rfl,⟨t,rfl⟩,⟨t',rfl⟩⟩:=ZzE r;refine max_two_ints (I.ok.hd hc) fun h' tk k=>⟨_,H,I.kept k,?_,q⟩
 by_cases hj:j > i
 ·rw[if_pos hj,if_pos hj]; exact⟨_,rfl⟩
 ·rw[if_neg hj,if_neg hj]; exact⟨_,rfl⟩
theorem Zv8 (hc:X.calm=true):ZhL X (.builtin "min") (fun xs H Q=>∃i j,xs=[.int i,.int j]∧Q (.int (if j < i then j else i)) H):=by
 intro pj s σ H xs us Q I r h;obtain⟨i,j,rfl,q⟩:=h;obtain⟨u,w',rfl,⟨t,rfl⟩,⟨t',rfl⟩⟩:=ZzE r;refine min_two_ints (I.ok.hd hc) fun h' tk k=>⟨_,H,I.kept k,?_,q⟩
 by_cases hj:j < i
 ·rw[if_pos hj,if_pos hj]; exact⟨_,rfl⟩
 ·rw[if_neg hj,if_neg hj]; exact⟨_,rfl⟩
theorem Zv6:ZhL X (.type "int") (fun xs H Q=>(∃i,xs=[.int i]∧Q (.int i) H)∨∃k,xs=[.bl k]∧Q (.int (if k then 1 else 0)) H):=by
 intro pj s σ H xs us Q I r h
 rcases h with⟨i,rfl,q⟩ | ⟨k,rfl,q⟩
 ·obtain⟨u,rfl,t,rfl⟩:=ZrX r
  exact call_int_int ⟨.int i,H,I,⟨_,rfl⟩,q⟩
 ·obtain⟨u,rfl,r1⟩:=ZrX r
  cases r1
  exact call_int_bool ⟨.int (if k then 1 else 0),H,I.tok _,⟨_,rfl⟩,q⟩
def LenV (K:PySem.W.Frag) (x:V) (H:Hp) (n:Nat):Prop:=
 match x with
 | .str y=>y.length≤sizeLine∧n=y.length
 | .byt y=>y.size≤sizeLine∧n=y.size
 | .ref p=>(∃xs,SqL K H p xs∧n=xs.length)∨∃xs,SqT K H p xs∧n=xs.length
 | _=>False
theorem Zyq:ZhL X (.builtin "len") (fun xs H Q=>∃x n,xs=[x]∧LenV X.K x H n∧Q (.int n) H):=by
 intro pj s σ H xs us Q I r h;obtain⟨x,n,rfl,e,q⟩:=h;obtain⟨u,rfl,rx⟩:=ZrX r;have hl:=Zou;have hs:sizeLine=16777216:=sizeLine_eq
 cases x with
 | str y=>
  obtain⟨t,rfl⟩:=rx;obtain⟨hy,e'⟩ : y.length≤sizeLine∧n=y.length:=e;subst e';exact len_str (by omega) ⟨.int _,H,I.tok _,⟨_,rfl⟩,q⟩
 | byt y=>
  obtain⟨t,rfl⟩:=rx;obtain⟨hy,e'⟩ : y.size≤sizeLine∧n=y.size:=e;subst e';exact PySem.W.len_bytes (by omega) ⟨.int _,H,I.tok _,⟨_,rfl⟩,q⟩
 | ref p=>
  cases rx
  have e':(∃xs,SqL X.K H p xs∧n=xs.length)∨∃xs,SqT X.K H p xs∧n=xs.length:=e
  rcases e' with⟨xs,hx,e'⟩ | ⟨xs,hx,e'⟩
  ·subst e'
   obtain⟨its,r',pl,hz⟩:=I.list hx;have hlen:=r'.length;exact Calls.call_len_list pl.isList (by simp only [List.size_toArray]; omega) ⟨.int xs.length,H,I.tok _,⟨_,by simp only [List.size_toArray]; rw[hlen]⟩,q⟩
  ·subst e'
   obtain⟨its,r',pl,hz⟩:=I.tuple hx;have hlen:=r'.length;exact len_tuple pl (by simp only [List.size_toArray]; omega) ⟨.int xs.length,H,I.tok _,⟨_,by simp only [List.size_toArray]; rw[hlen]⟩,q⟩
 | _=>exact(show False from e).elim
end
end L2
namespace L2
open PySem PySem.Spec PyProof.Rows
structure ObjM (h:Heap) (x dx C:Addr) (mA:Str→Option Value):Prop where
 obj:h.get? x=some (PySem.W.instObj C dx)
 ns:h.Ns1 dx mA
 ne:dx≠x
theorem Zw0 {h:Heap} {dx:Addr} {mA:Str→Option Value} (n:h.Ns1 dx mA):∃od,h.get? dx=some od∧∀name,PySem.W.lookIn name od=some (mA name):=by
 obtain⟨o,es,ep,ho,hd,hk,_,hm⟩:=n;refine⟨o,ho,fun name=>?_⟩;have e:=hm name;unfold nsFind findBy at e;rw[←Array.find?_toList]at e;unfold PySem.W.lookIn;rw[hd]
 dsimp only
 split
 ·rename_i y q
  rw[q]at e;exact congrArg some e
 ·rename_i q
  rw[q]at e
  have a:es.toList.any (·.refKey)=false:=by
   rw[List.any_eq_false];intro y hy;obtain⟨z,t,hkey⟩:=hk y (Array.mem_toList_iff.mp hy);simp[DictEntry.refKey,hkey]
  have a' : ¬es.toList.any (·.refKey)=true:=by rw[a]; exact Bool.false_ne_true
  rw[if_neg a'];exact congrArg some e
theorem ObjM.look {h:Heap} {x dx C:Addr} {mA:Str→Option Value} (I:ObjM h x dx C mA):∃od,PySem.W.InstAt h x (PySem.W.instObj C dx) C (some od)∧∀name,PySem.W.lookIn name od=some (mA name):=
 let ⟨od,ho,hl⟩:=Zw0 I.ns
 ⟨od,⟨I.obj,rfl,rfl,ho⟩,hl⟩
section
variable {prog:Program} {w:World} {A:Around} {E:Value→Shared→Prop} {s:Shared} {K:PySem.W.Frag} {x dx C f:Addr} {mA:Str→Option Value} {name:Str} {v:Value}
theorem ZA5 {expr:Bool} {Q:Value→Shared→Prop} (X:K.In s.heap) (I:ObjM s.heap x dx C mA) (hg:PySem.W.plainGet K C name=true) (hh:PySem.W.hasDictIn K C=true)
  (ha:PySem.W.findIn K (.ref C) name=some none) (hv:mA name=some v) (hv':PySem.W.handedIn v=true) (h:Q v { s with toks:=s.toks+1 }) :
  wpAny (model prog w) A (getAttr (.ref x) name expr) Q E s:=by
 obtain⟨od,J,hl⟩:=I.look;exact PySem.W.get_value X J (PySem.W.plainGet_of hg).1 (PySem.W.findObj_own hh ha rfl (by rw[hl,hv])) hv' h
theorem Zyx {pl:Sem Bool} {Q:Value×List Value→Shared→Prop} (X:K.In s.heap) (I:ObjM s.heap x dx C mA) (hg:PySem.W.plainGet K C name=true)
  (hf:PySem.W.findIn K (.ref C) name=some (some (.ref f))) (ht:PySem.W.isFn K (.ref f)=true) (hv:mA name=none) (h:Q (.ref f,[.ref x]) s) :
  wpAny (model prog w) A (getMethod (.ref x) name pl) Q E s:=by
 obtain⟨od,J,hl⟩:=I.look;exact PySem.W.method_fn X J (PySem.W.plainGet_of hg).1 (PySem.W.plainGet_of hg).2 hf (beq_iff_eq.mp ht) (by show(PySem.W.lookIn name od).map (·.isSome)=some false; rw[hl,hv]; rfl) h
theorem ZCe {ns:List Str} {Q:Unit→Shared→Prop} (X:K.In s.heap) (I:ObjM s.heap x dx C mA)
  (hs:PySem.W.findIn K (.ref C) "__setattr__" = some (some (.builtin "object.__setattr__"))) (hp:PySem.W.plainOver K C=true) (ht:PySem.W.takerIn K C name=some none) (hh:PySem.W.hasDictIn K C=true)
  (hw:PySem.Within mA ns) (hsz:ns.length≤sizeLine)
  (h:∀h',ObjM h' x dx C (fun y=>if y=name then some v else mA y)→Heap.SameBut dx s.heap h'→Q () { s with heap:=h',toks:=s.toks+2 }) :
  wpAny (model prog w) A (setAttr (.ref x) name v) Q E s:=by
 obtain⟨od,J,hl⟩:=I.look;refine PySem.W.set_plain X J hs (PySem.W.osa_open (s:={ s with toks:=s.toks+1 }) (r:=none) X J hp ht fun b=>?_);obtain⟨cd,hc,hd'⟩:=PySem.W.any_some hh;have hx:s.heap.get? x=some ⟨.ref C,some dx,.plain,#[]⟩:=I.obj;refine wpAny_bind (wpAny_pure (wpAny_bind (wpAny_bind (wpAny_loadPart hx (wpAny_bind (PySem.W.Looks.here (s:={ s with toks:=s.toks+1 }) (PySem.W.looks_clsIn X hc) ?_))))));rw[hd'];refine wpAny_pure (a:=some dx) (wpAny_bind (wpAny_pure (wpAny_bind ?_)));refine wpAny_nsSet1 (s:={ s with toks:=s.toks+1 }) I.ns fun h' hn2 hs2=>?_;obtain⟨oD,esD,epD,hoD,hdD,hcD⟩:=hn2.count (PySem.Within.cons name v hw);refine wpAny_bind (wpAny_lookBehind hoD (by rw[hdD]; exact pastItsLine_dict (Nat.le_trans hcD (by rw[List.length_cons]; omega))) ?_);exact wpAny_pure (h _ ⟨(hs2.2 _ (Ne.symm I.ne)).trans I.obj,hn2,I.ne⟩ hs2)
theorem ZyS {R:Result→Shared→Prop} {vs:List Value} {kw:List (Str×Value)} (X:K.In s.heap) (hm:PySem.W.makesIn K C=true)
  (hi:PySem.W.findIn K (.ref C) "__init__" = some (some (.ref f))) (hf:PySem.W.typeIn K (.ref f)=some (.type "function"))
  (h:codeAny (model prog w) (A.under (.builtin "type.__call__" ⟨.ref C::vs,kw⟩)) (.call (.ref f) ⟨.ref (s.heap.objs.size+1)::vs,kw⟩) (PySem.W.InitBack (s.heap.objs.size+1) R)
   { s with heap:=(s.heap.push PySem.W.emptyDict).push (PySem.W.instObj C s.heap.objs.size) }) :
  codeAny (model prog w) A (.call (.ref C) ⟨vs,kw⟩) R s:=by
 obtain⟨hh,g,d,t,os⟩:=s;exact PySem.W.make_core (PySem.W.makes_of X hm) (PySem.W.looks_findIn X hi) (fun self=>PySem.W.bind_fn X self hf) (.inl rfl) h
end
def putF (f:Str) (v:V):List (Str×V)→List (Str×V)
 | []=>[(f,v)]
 | (g,x)::r=>if g=f then(g,v)::r else(g,x)::putF f v r
theorem Zar (f g:Str) (v:V):∀fs:List (Str×V),(putF f v fs).lookup g=if g=f then some v else fs.lookup g
 | []=>by
  show List.lookup g [(f,v)]=_
  by_cases h:g=f
  ·have hb:(g == f)=true:=beq_iff_eq.mpr h
   simp only [List.lookup,hb,if_pos h]
  ·have hb:(g == f)=false:=beq_eq_false_iff_ne.mpr h
   simp only [List.lookup,hb,if_neg h]
 | (k,x)::r=>by
  have ih:=Zar f g v r;rw[show putF f v ((k,x)::r)=(if k=f then(k,v)::r else(k,x)::putF f v r) from rfl]
  by_cases hk:k=f
  ·rw[if_pos hk]
   by_cases h:g=k
   ·have hb:(g == k)=true:=beq_iff_eq.mpr h
    simp only [List.lookup,hb,if_pos (h.trans hk)]
   ·have hb:(g == k)=false:=beq_eq_false_iff_ne.mpr h
    simp only [List.lookup,hb,if_neg (fun e:g=f=>h (e.trans hk.symm))]
  ·rw[if_neg hk]
   by_cases h:g=k
   ·have hb:(g == k)=true:=beq_iff_eq.mpr h
    simp only [List.lookup,hb,if_neg (fun e:g=f=>hk (h.symm.trans e))]
   ·have hb:(g == k)=false:=beq_eq_false_iff_ne.mpr h
    simp only [List.lookup,hb];exact ih
theorem ZmU (f:Str) (v:V):∀fs:List (Str×V),f∈(putF f v fs).map (·.1)∧∀g,g∈fs.map (·.1)→g∈(putF f v fs).map (·.1)
 | []=>⟨by simp[putF],fun g h=>by simp at h⟩
 | (k,x)::r=>by
  obtain⟨i1,i2⟩:=ZmU f v r;rw[show putF f v ((k,x)::r)=(if k=f then(k,v)::r else(k,x)::putF f v r) from rfl]
  by_cases hk:k=f
  ·rw[if_pos hk]
   subst hk;exact⟨by simp,fun g h=>by simpa using h⟩
  ·rw[if_neg hk]
   refine⟨?_,fun g h=>?_⟩
   ·rw[List.map_cons]
    exact List.mem_cons_of_mem _ i1
   ·rw[List.map_cons]at h ⊢
    rcases List.mem_cons.mp h with e | e
    ·exact List.mem_cons.mpr (.inl e)
    ·exact List.mem_cons_of_mem _ (i2 g e)
theorem Zm2 (f:Str) (v:V):∀fs:List (Str×V),(putF f v fs).length≤fs.length+1
 | []=>by simp[putF]
 | (k,x)::r=>by
  have ih:=Zm2 f v r;rw[show putF f v ((k,x)::r)=(if k=f then(k,v)::r else(k,x)::putF f v r) from rfl]
  by_cases hk:k=f
  ·rw[if_pos hk,List.length_cons,List.length_cons]; omega
  ·rw[if_neg hk,List.length_cons,List.length_cons]; omega
theorem RelO.some_of {v:V} {o:Option Value} (r:RelO (some v) o):∃u,o=some u∧RelV v u:=by
 cases o with
 | none=>exact(show False from r).elim
 | some u=>exact⟨u,rfl,r⟩
theorem RelO.none_of {o:Option Value} (r:RelO none o):o=none:=by
 cases o with
 | none=>rfl
 | some u=>exact(show False from r).elim
theorem Zwx {v:V} {u:Value} (r:RelV v u):PySem.W.handedIn u=true:=by
 cases v with
 | non=>cases (show u=Value.none from r); rfl
 | bl b=>cases (show u=Value.bool b from r); rfl
 | int i=>obtain⟨t,e⟩:=(show ∃t,u=Value.int i t from r); cases e; rfl
 | str x=>obtain⟨t,e⟩:=(show ∃t,u=Value.str x t from r); cases e; rfl
 | byt b=>obtain⟨t,e⟩:=(show ∃t,u=Value.bytes b t from r); cases e; rfl
 | flt b=>obtain⟨t,e⟩:=(show ∃t,u=Value.float b t from r); cases e; rfl
 | ref a=>cases (show u=Value.ref a from r); rfl
 | ty n=>cases (show u=Value.type n from r); rfl
section
variable {P:Program} {w:World} {H H':Hp} {h h':Heap} {a C dx:Addr} {fs fs':List (Str×V)}
theorem Zpa (hok:HOk P w H h) (e:H a=some (.ins C dx fs)):∃mA,ObjM h a dx C mA∧(∀f,RelO (fs.lookup f) (mA f))∧PySem.Within mA (fs.map (·.1))∧fs.length≤1000∧H dx=some (.own a):=by
 obtain⟨d,z,ne,ob,mA,n,r,q⟩:=(show Zc7 P w H h a (.ins C dx fs) from hok a _ e);exact⟨mA,⟨ob,n,ne⟩,r,q,z,d⟩
end
structure Cls (K:PySem.W.Frag) (C:Addr):Prop where
 pg:PySem.W.plainGet K C Str.empty=true
 hd:PySem.W.hasDictIn K C=true
 po:PySem.W.plainOver K C=true
 sa:PySem.W.findIn K (.ref C) "__setattr__" = some (some (.builtin "object.__setattr__"))
theorem Cls.get {K:PySem.W.Frag} {C:Addr} (c:Cls K C) (f:Str):PySem.W.plainGet K C f=true:=c.pg
def Zbo (K:PySem.W.Frag) (C:Addr) (f:Str):Prop:=PySem.W.findIn K (.ref C) f=some none
theorem Zbo.taker {K:PySem.W.Frag} {C:Addr} {f:Str} (n:Zbo K C f):PySem.W.takerIn K C f=some none:=by
 unfold PySem.W.takerIn;rw[show PySem.W.findIn K (.ref C) f=some none from n];rfl
structure Meth (K:PySem.W.Frag) (C:Addr) (m:Str) (f:Addr):Prop where
 at_:PySem.W.findIn K (.ref C) m=some (some (.ref f))
 fn:PySem.W.isFn K (.ref f)=true
 kp:PySem.W.keepIn K (.ref f)=true
section
variable {X:Cx} {pj:List (Addr×Obj)} {σ:St} {H:Hp} {s:Shared} {a C dx:Addr} {fs:List (Str×V)} {f:Str} {v:V} {A:Around} {E:Value→Shared→Prop}
theorem Zu7 {b:Bool} {Q:Value→Shared→Prop} (I:Inv X pj σ H s) (e:H a=some (.ins C dx fs)) (c:Cls X.K C) (n:Zbo X.K C f) (l:fs.lookup f=some v)
  (h:∀u s',Inv X pj σ H s'→RelV v u→Q u s'):wpAny (model X.prog X.w) A (getAttr (.ref a) f b) Q E s:=by
 obtain⟨mA,O,r,_,_,_⟩:=Zpa I.hok e;obtain⟨u,hu,ru⟩:=RelO.some_of (v:=v) (o:=mA f) (by rw[←l]; exact r f);exact ZA5 I.kIn O (c.get f) c.hd n hu (Zwx ru) (h u _ (I.tok _) ru)
theorem ZkH {m:Str} {g:Addr} {pl:Sem Bool} {Q:Value×List Value→Shared→Prop} (I:Inv X pj σ H s) (e:H a=some (.ins C dx fs)) (c:Cls X.K C) (k:Meth X.K C m g) (l:fs.lookup m=none)
  (h:Q (.ref g,[.ref a]) s):wpAny (model X.prog X.w) A (getMethod (.ref a) m pl) Q E s:=by
 obtain⟨mA,O,r,_,_,_⟩:=Zpa I.hok e;have hn:mA m=none:=RelO.none_of (by rw[←l]; exact r m);exact Zyx I.kIn O (c.get m) k.at_ k.fn hn h
theorem ZvN {y:V} {u:Value} {Q:Unit→Shared→Prop} (I:Inv X pj σ H s) (e:H a=some (.ins C dx fs)) (c:Cls X.K C) (n:Zbo X.K C f) (hl:fs.length < 1000) (ry:RelV y u)
  (h:∀s',Inv X pj σ (upd H a (.ins C dx (putF f y fs))) s'→Q () s'):wpAny (model X.prog X.w) A (setAttr (.ref a) f u) Q E s:=by
 obtain⟨mA,O,r,wi,_,ho⟩:=Zpa I.hok e
 have hz:(fs.map (·.1)).length≤sizeLine:=by rw[List.length_map,sizeLine_eq]; omega
 refine ZCe I.kIn O c.sa c.po n.taker c.hd wi hz fun h' O' sb=>h _ ?_;have hd:∃o,h'.get? dx=some o:=let ⟨o,_,_,e',_⟩:=O'.ns; ⟨o,e'⟩;refine I.write (x:=a) (e:=dx) (by rw[e]; exact True.intro) (.inr ho) (fun b q hb z=>(sb.2 b hb).trans z) hd ?_;refine⟨by rw[ZaF O.ne]; exact ho,?_,O.ne,O'.obj,_,O'.ns,fun g=>?_,fun g hg=>?_⟩
 ·have:=Zm2 f y fs; omega
 ·show RelO ((putF f y fs).lookup g) (if g=f then some u else mA g)
  rw[Zar]
  by_cases q:g=f
  ·rw[if_pos q,if_pos q]; exact ry
  ·rw[if_neg q,if_neg q]; exact r g
 ·by_cases q:g=f
  ·rw[q]; exact(ZmU f y fs).1
  ·refine(ZmU f y fs).2 g (wi g fun z=>hg ?_)
   show(if g=f then some u else mA g)=none;rw[if_neg q]; exact z
theorem Inv.made (I:Inv X pj σ H s):Inv X pj σ (upd (upd H s.heap.objs.size (.own (s.heap.objs.size+1))) (s.heap.objs.size+1) (.ins C s.heap.objs.size []))
  { s with heap:=(s.heap.push PySem.W.emptyDict).push (PySem.W.instObj C s.heap.objs.size) }:=by
 have e1:(s.heap.push PySem.W.emptyDict).get? s.heap.objs.size=some PySem.W.emptyDict:=Heap.get?_push_size s.heap rfl
 have e2:((s.heap.push PySem.W.emptyDict).push (PySem.W.instObj C s.heap.objs.size)).get? (s.heap.objs.size+1)=some (PySem.W.instObj C s.heap.objs.size):=by
  have:=Heap.get?_push_size (s.heap.push PySem.W.emptyDict) (o:=PySem.W.instObj C s.heap.objs.size) rfl
  rwa [Heap.size_push]at this
 have e3:(s.heap.push PySem.W.emptyDict).Ns s.heap.objs.size (fun _=>none):=⟨PySem.W.emptyDict,#[],_,e1,rfl,(fun e he=>absurd he (by simp)),fun _=>rfl⟩;have I1:=I.laid (a:=s.heap.objs.size) (o:=.own (s.heap.objs.size+1)) (h':=s.heap.push PySem.W.emptyDict) (t':=s.toks) (fun b u q=>Heap.get?_push_of_some _ q) (Nat.le_refl _) ⟨_,e1⟩;refine I1.laid (a:=s.heap.objs.size+1) (o:=.ins C s.heap.objs.size []) (t':=s.toks) (fun b u q=>Heap.get?_push_of_some _ q) (Nat.le_of_eq (Heap.size_push _ _)) ?_;have ne:s.heap.objs.size≠s.heap.objs.size+1:=Nat.ne_of_lt (Nat.lt_succ_self _);refine⟨by rw[ZaF ne,Zax],Nat.zero_le _,ne,e2,fun _=>none,(Heap.Ns1.of_empty e3).at fun o q=>Heap.get?_push_of_some _ q,fun _=>True.intro,fun y hy=>absurd rfl hy⟩
theorem ZAX {prog:Program} {w:World} {env:Env} {e:Expr} {f:Str} {pos:Pos} {s:Shared} {Q:Value→Shared→Prop} (hb:attributeBase e f env (eval e env)=eval e env)
  (h:wpAny (model prog w) A (eval e env) (fun o s₁=>wpAny (model prog w) A (getAttr o f true) Q E s₁) E s):wpAny (model prog w) A (eval (.Attribute e f pos) env) Q E s:=
 Attribute_any_ h (by rw[arm_eval_Attribute,hb])
end
abbrev tFld (K:PySem.W.Frag) (ta:TE) (f:Str):TE:=fun σ H Q=>ta σ H fun x H1=>∃a C dx fs v,x=.ref a∧H1 a=some (.ins C dx fs)∧Cls K C∧Zbo K C f∧fs.lookup f=some v∧Q v H1
abbrev sFld (K:PySem.W.Frag) (ta tv:TE) (f:Str):TS:=fun D σ H=>tv σ H fun y H1=>ta σ H1 fun x H2=>∃a C dx fs,x=.ref a∧H2 a=some (.ins C dx fs)∧Cls K C∧Zbo K C f∧fs.length < 1000∧
 D.nx σ (upd H2 a (.ins C dx (putF f y fs)))
section
variable {X:Cx} {o e value:Expr} {f:Str} {pos pos' tpos:Pos} {ta tv:TE}
theorem Zbi (he:PE X e ta) (hb:attributeBase e f X.env (eval e X.env)=eval e X.env):PE X (.Attribute e f pos) (tFld X.K ta f):=by
 intro pj s σ H Q I h;refine ZAX hb (thn (he pj s σ H _ I h) fun u s1 ⟨x,H1,I1,rx,a,C,dx,fs,v,ex,ea,c,n,l,q⟩=>?_);subst ex;obtain rfl:u=Value.ref a:=rx;exact Zu7 I1 ea c n l fun u' s2 I2 ru=>⟨v,H1,I2,ru,q⟩
theorem Zb9 (ha:PE X o ta) (hv:PE X value tv) (hs:swapsWith value (some (.Attribute o f pos')) pos.line X.env=pure false):PS X (.Assign [.Attribute o f pos'] value pos) (sFld X.K ta tv f):=by
 intro pj s σ H D I h;refine plainObj_wpAny_Assign_Attribute (thn (hv pj s σ H _ I h) fun u s1 ⟨y,H1,I1,ry,q⟩=>thn (ha pj s1 σ H1 _ I1 q) fun ov s2 ⟨x,H2,I2,rx,a,C,dx,fs,ex,ea,c,n,l,q2⟩=>?_) hs;subst ex;obtain rfl:ov=Value.ref a:=rx;exact ZvN I2 ea c n l ry fun s3 I3=>⟨σ,_,I3,q2⟩
end
section
variable {X:Cx} {pj:List (Addr×Obj)} {σ:St} {H:Hp} {s:Shared} {A:Around} {E:Value→Shared→Prop} {Q:Value→Shared→Prop} {c:Value} {b:Bool}
inductive TyOf (K:PySem.W.Frag) (H:Hp):V→Value→Prop where
 | non:TyOf K H .non (.type "NoneType")
 | bl (x:Bool):TyOf K H (.bl x) (.type "bool")
 | int (i:Int):TyOf K H (.int i) (.type "int")
 | str (x:Str):TyOf K H (.str x) (.type "str")
 | flt (x:UInt64):TyOf K H (.flt x) (.type "float")
 | lst {a:Addr} {xs:List V} (e:H a=some (.lst xs)):TyOf K H (.ref a) (.type "list")
 | frz {a:Addr} {o:Obj} {xs:List V} (e:H a=some (.frz o (.lst xs))):TyOf K H (.ref a) (.type "list")
 | tup {a:Addr} {xs:List V} (e:H a=some (.tup xs)):TyOf K H (.ref a) (.type "tuple")
 | dK {a:Addr} {kvs:List (Key×V)} (e:H a=some (.dK kvs)):TyOf K H (.ref a) (.type "dict")
 | dT {a:Addr} {kvs:List (List Key×V)} (e:H a=some (.dT kvs)):TyOf K H (.ref a) (.type "dict")
 | ins {a C dx:Addr} {fs:List (Str×V)} (e:H a=some (.ins C dx fs)) (cl:Cls K C) (ha:PySem.W.findIn K (.ref C) "__class__" = some (some (.builtin "object.__class__")))
   (hn:PySem.W.specialIn K (.builtin "object.__class__") "__get__" = some (some (.builtin "getset_descriptor.__get__"))) (htk:PySem.W.takesIn K (.builtin "object.__class__")=some true)
   (hm:PySem.W.mroIn K C (.type "object")=some true):TyOf K H (.ref a) (.ref C)
theorem ZqX {x:V} {u t:Value} (I:Inv X pj σ H s) (rx:RelV x u) (ty:TyOf X.K H x t) (e:PySem.W.kitOne X.K t c=some b) (h:∀tk,Q (.bool b) { s with toks:=tk }) :
  wpAny (model X.prog X.w) A (call (.builtin "isinstance") [u,c]) Q E s:=by
 cases ty with
 | non=>cases (show u=Value.none from rx); exact PySem.W.kia_one PySem.W.kitx_none I.kIn True.intro e (fun z=>nomatch z) h
 | bl y=>cases (show u=Value.bool y from rx); exact PySem.W.kia_one PySem.W.kitx_bool I.kIn True.intro e (fun z=>nomatch z) h
 | int i=>obtain⟨t,q⟩:=(show ∃t,u=Value.int i t from rx); cases q; exact PySem.W.kia_one PySem.W.kitx_int I.kIn True.intro e (fun z=>nomatch z) h
 | str y=>obtain⟨t,q⟩:=(show ∃t,u=Value.str y t from rx); cases q; exact PySem.W.kia_one PySem.W.kitx_str I.kIn True.intro e (fun z=>nomatch z) h
 | flt y=>obtain⟨t,q⟩:=(show ∃t,u=Value.float y t from rx); cases q; exact PySem.W.kia_one PySem.W.kitx_float I.kIn True.intro e (fun z=>nomatch z) h
 | @lst a xs ea=>
  cases (show u=Value.ref a from rx)
  obtain⟨_,_,n,_,h1⟩:=(show Zc7 X.prog X.w H s.heap a (.lst xs) from I.hok a _ ea);exact PySem.W.kia_one PySem.W.kitx_list I.kIn ⟨_,h1,rfl⟩ e (fun z=>nomatch z) h
 | @frz a ob xs ea=>
  cases (show u=Value.ref a from rx)
  obtain⟨_,_,_,n,_,h1⟩:=(show Zc7 X.prog X.w H s.heap a (.frz ob (.lst xs)) from I.hok a _ ea);exact PySem.W.kia_one PySem.W.kitx_list I.kIn ⟨_,h1,rfl⟩ e (fun z=>nomatch z) h
 | @tup a xs ea=>
  cases (show u=Value.ref a from rx)
  obtain⟨_,_,_,p⟩:=(show Zc7 X.prog X.w H s.heap a (.tup xs) from I.hok a _ ea);obtain⟨o,h1,h2,_⟩:=p;exact PySem.W.kia_one PySem.W.kitx_tuple I.kIn ⟨o,h1,h2⟩ e (fun z=>nomatch z) h
 | @dK a kvs ea=>
  cases (show u=Value.ref a from rx)
  obtain⟨_,_,vs,_,p⟩:=(show Zc7 X.prog X.w H s.heap a (.dK kvs) from I.hok a _ ea);obtain⟨o,es,ep,h1,h2,_⟩:=p;exact PySem.W.kia_one PySem.W.kitx_dict I.kIn ⟨o,h1,h2.1⟩ e (fun z=>nomatch z) h
 | @dT a kvs ea=>
  cases (show u=Value.ref a from rx)
  obtain⟨_,_,xs,_,o,es,ep,h1,h2,_⟩:=(show Zc7 X.prog X.w H s.heap a (.dT kvs) from I.hok a _ ea);exact PySem.W.kia_one PySem.W.kitx_dict I.kIn ⟨o,h1,h2.1⟩ e (fun z=>nomatch z) h
 | @ins a C dx fs ea cl ha hn htk hm=>
  cases (show u=Value.ref a from rx)
  obtain⟨mA,O,_⟩:=Zpa I.hok ea;obtain⟨od,J,_⟩:=O.look;exact PySem.W.kia_one (PySem.W.kitx_own (cl.get _) cl.hd ha hn htk hm) I.kIn J e (fun z=>nomatch z) h
end
end L2
namespace L2
open PySem PySem.Spec PyProof.Rows
structure Room (k:Nat) (A:Around):Prop where
 hd:A.handled=none
 dp:A.depth+3 * k+5 < recursionLimit
 un:A.units+16 * k+200 < cLine
theorem Room.mono {j k:Nat} {A:Around} (r:Room k A) (h:j≤k):Room j A:=⟨r.hd,by have:=r.dp; omega,by have:=r.un; omega⟩
theorem Room.deeper {k:Nat} {A:Around} (r:Room (k+1) A) (env:Env):Room k (A.deeper env):=
 ⟨r.hd,by have:=r.dp; show A.depth+1+3 * k+5 < _; omega,by have:=r.un; show A.units+3+16 * k+200 < _; omega⟩
theorem Zvw {A:Around} {C:Addr} {us:List Value} {kw:List (Str×Value)}:(A.under (.builtin "type.__call__" ⟨.ref C::us,kw⟩)).depth=A.depth+1:=by
 first | rfl | simp[Around.under,Code.weight,Code.isCreation,Code.isGuard,Code.isCaller,Code.frames,Code.isFrame,guardIds]
theorem Zvx {A:Around} {C:Addr} {us:List Value} {kw:List (Str×Value)}:(A.under (.builtin "type.__call__" ⟨.ref C::us,kw⟩)).units=A.units+1:=by
 first | rfl | simp[Around.under,Code.cUnits,Code.frames,Code.isFrame]
theorem Room.make {k:Nat} {A:Around} (r:Room (k+1) A) (C:Addr) (us:List Value) (kw:List (Str×Value)):Room k (A.under (.builtin "type.__call__" ⟨.ref C::us,kw⟩)):=
 ⟨r.hd,by have:=r.dp; rw[Zvw]; omega,by have:=r.un; rw[Zvx]; omega⟩
theorem Room.depth {k:Nat} {A:Around} (r:Room k A):A.depth < recursionLimit:=by have:=r.dp; omega
theorem Room.units {k:Nat} {A:Around} (r:Room k A):A.units+64 < cLine:=by have:=r.un; omega
abbrev tNil:TA:=fun _ H Q=>Q [] H
abbrev Zla (ta:TE) (tr:TA):TA:=fun σ H Q=>ta σ H fun x H1=>tr σ H1 fun xs H2=>Q (x::xs) H2
section
variable {X:Cx} {e:Expr} {es:List Expr} {te:TE} {t:TA} {pos:Pos}
theorem Zad:PA X [] tNil:=fun _ _ _ _ H Q I h=>Calls.spliced_nil ⟨[],H,I,.nil,h⟩
theorem Zaa (ha:PE X e te) (hr:PA X es t) (hs:starEach (e::es) X.env=(false,eval e X.env)::starEach es X.env:=by rfl):PA X (e::es) (Zla te t):=by
 intro pos pj s σ H Q I h;rw[hs];show wpAny _ _ (spliced ((false,eval e X.env)::backTo pos (starEach es X.env))) _ _ s;refine Calls.spliced_cons (thn (ha pj s σ H _ I h) fun u s1 ⟨x,H1,I1,r1,q1⟩=>?_);exact thn (hr pos pj s1 σ H1 _ I1 q1) fun us s2 ⟨xs,H2,I2,r2,q2⟩=>⟨x::xs,H2,I2,.cons r1 r2,q2⟩
def tTup (t:TA):TE:=fun σ H Q=>t σ H fun xs H1=>xs.length≤sizeLine∧∀p,H1 p=none→Q (.ref p) (upd H1 p (.tup xs))
def tLst (t:TA):TE:=fun σ H Q=>t σ H fun xs H1=>xs.length≤sizeLine∧∀p,H1 p=none→Q (.ref p) (upd H1 p (.lst xs))
theorem Zc0 {x1} (h:PA X es t):PE X (.Tuple es x1 pos) (tTup t):=by
 intro pj s σ H Q I hq;refine wpAny_Tuple_spliced (thn (h pos pj s σ H _ I hq) fun us s1 ⟨xs,H1,I1,r,z,q⟩=>⟨by rw[←r.length]; exact z,?_⟩);have hf:H1 s1.heap.objs.size=none:=I1.hok.fresh (Nat.le_refl _);refine⟨.ref s1.heap.objs.size,upd H1 s1.heap.objs.size (.tup xs),I1.laid (t':=s1.toks) (fun b u e=>Heap.get?_push_of_some _ e) (Nat.le_refl _) ?_,rfl,q _ hf⟩;exact⟨z,us,r,⟨_,Heap.get?_push_size _ rfl,rfl,_,rfl⟩⟩
theorem ZaO (h:PA X es t):PE X (.List es pos) (tLst t):=by
 intro pj s σ H Q I hq;refine wpAny_List_spliced (thn (h pos pj s σ H _ I hq) fun us s1 ⟨xs,H1,I1,r,z,q⟩=>⟨by rw[←r.length]; exact z,?_⟩);have hf:H1 s1.heap.objs.size=none:=I1.hok.fresh (Nat.le_refl _);refine⟨.ref s1.heap.objs.size,upd H1 s1.heap.objs.size (.lst xs),I1.laid (t':=s1.toks) (fun b u e=>Heap.get?_push_of_some _ e) (Nat.le_refl _) ?_,rfl,q _ hf⟩;exact⟨z,us,0,r,Heap.get?_push_size _ rfl⟩
end
abbrev Sp:=List V→Hp→VK→XK→Prop
abbrev CXT:=List Env→Hp→Shared→XK→Value→Shared→Prop
structure Env0 (P:Program) (w:World) (K:PySem.W.Frag) (mg:Str→Option Value) (base:Heap) (A:Around) (outer:List Env) (s:Shared) (H:Hp):Prop where
 frames:A.frames=some outer
 mod:Mod K mg base
 bs:∀b o,base.get? b=some o→s.heap.get? b=some o∧H b=none
 bsz:base.objs.size≤s.heap.objs.size
 funs:s.heap.FunFrames base outer
 frf:∀b∈frs outer,H b=none
 hok:HOk P w H s.heap
 bare:AllBare s.gens
def CE (outer:List Env) (P:Program) (w:World) (H:Hp) (s:Shared) (Q:VK) (u:Value) (s':Shared):Prop:=
 ∃v H',s'.os=s.os∧AllBare s'.gens∧Un (frs outer) [] H H' s.heap s'.heap∧HOk P w H' s'.heap∧RelV v u∧Q v H'
def CR (CX:CXT) (outer:List Env) (P:Program) (w:World) (H:Hp) (s:Shared) (Q:VK) (E:XK) (r:Result) (s':Shared):Prop:=
 match r with
 | .ok (.ret u)=>CE outer P w H s Q u s'
 | .ok _=>False
 | .error e=>CX outer H s E e s'
structure FnOk (P:Program) (w:World) (K:PySem.W.Frag) (mg:Str→Option Value) (base:Heap) (CX:CXT) (k:Nat) (f:Addr) (fd:FuncData) (ps:List Str) (sp:Sp):Prop where
 len:∀vs H Q E,sp vs H Q E→vs.length=ps.length
 run:∀(A:Around) (outer:List Env) (s:Shared) (H:Hp) (args:Args) (us:List Value) (vs:List V) (Q:VK) (E:XK),Room k A→Env0 P w K mg base A outer s H→BindsTo s fd args (ps.zip us)→Vals vs us→sp vs H Q E→
  codeAny (model P w) A (.call (.ref f) args) (CR CX outer P w H s Q E) s
theorem FnOk.mono {P:Program} {w:World} {K:PySem.W.Frag} {mg:Str→Option Value} {base:Heap} {CX:CXT} {j k:Nat} {f:Addr} {fd:FuncData} {ps:List Str} {sp:Sp} (F:FnOk P w K mg base CX j f fd ps sp) (h:j≤k) :
  FnOk P w K mg base CX k f fd ps sp:=⟨F.len,fun A outer s H args us vs Q E hr=>F.run A outer s H args us vs Q E (hr.mono h)⟩
theorem Env0.make {P:Program} {w:World} {K:PySem.W.Frag} {mg:Str→Option Value} {base:Heap} {A:Around} {outer:List Env} {s:Shared} {H:Hp} (e:Env0 P w K mg base A outer s H) (C:Addr) (us:List Value) (kw:List (Str×Value)) :
  Env0 P w K mg base (A.under (.builtin "type.__call__" ⟨.ref C::us,kw⟩)) outer s H:=⟨by first | exact e.frames | (simpa [Around.under,Code.envs,Code.isFrame,pushEnvs] using e.frames),e.mod,e.bs,e.bsz,e.funs,e.frf,e.hok,e.bare⟩
section
variable {X:Cx} {pj:List (Addr×Obj)} {σ:St} {H:Hp} {s s':Shared}
theorem Inv.env0 (I:Inv X pj σ H s):Env0 X.prog X.w X.K X.mg X.base X.A X.stack s H:=
 ⟨I.ok.frames,I.ok.mod,I.bs,Nat.le_trans I.ok.bsz I.sz,I.stack,I.stkFree,I.hok,I.bare⟩
theorem Inv.after {Q:VK} {u:Value} (I:Inv X pj σ H s) (h:CE X.stack X.prog X.w H s Q u s'):EP X pj σ Q u s':=by
 obtain⟨v,H',os,bare,un,hok,r,q⟩:=h;obtain⟨hh,g,d,t,os'⟩:=s';obtain rfl:os'=s.os:=os;exact⟨v,H',I.call (h':=hh) (g':=g) (d':=d) (t':=t) (ch:=[]) un hok bare (fun b z=>absurd z (by simp)),r,q⟩
end
def ZCA (sp:Sp) (dvs:List V) (E:XK) (t:TA):TE:=fun σ H Q=>t σ H fun vs H1=>sp (vs++dvs) H1 Q E
def ZzC (C:Addr) (sp:Sp) (dvs:List V) (E:XK) (t:TA):TE:=fun σ H Q=>t σ H fun vs H1=>∀x dx,H1 x=none→H1 dx=none→dx≠x→
 sp (.ref x::(vs++dvs)) (upd (upd H1 dx (.own x)) x (.ins C dx [])) (fun v H2=>v=.non∧Q (.ref x) H2) E
def ZaG (K:PySem.W.Frag) (fd:FuncData) (ps:List Str) (ds:List Value):Prop:=
 ∀(s:Shared) (us:List Value),K.In s.heap→(us++ds).length=ps.length→BindsTo s fd ⟨us,[]⟩ (ps.zip (us++ds))
theorem ZaG.all {K:PySem.W.Frag} {fd:FuncData} {ps:List Str} (h:∀us:List Value,us.length=ps.length→bindArgs fd ⟨us,[]⟩=pure (ps.zip us)):ZaG K fd ps []:=fun s us _ hl=>by
 rw[List.append_nil]at hl ⊢;exact .of_eq (h us hl)
def Zi6 (CX:CXT) (X:Cx) (E:XK):Prop:=∀(pj:List (Addr×Obj)) (σ:St) (H:Hp) (s:Shared) (e:Value) (s':Shared),Inv X pj σ H s→CX X.stack H s E e s'→X.xe e s'
section
variable {X:Cx} {CX:CXT} {k:Nat} {f C:Addr} {fd:FuncData} {ps:List Str} {sp:Sp} {dvs:List V} {ds:List Value} {E:XK} {x m:Str} {p pos apos:Pos} {e o:Expr} {es:List Expr} {ta:TE} {t:TA}
theorem Zur {pj:List (Addr×Obj)} {σ:St} {H:Hp} {s:Shared} {Q:VK} {us:List Value} {vs:List V} (F:FnOk X.prog X.w X.K X.mg X.base CX k f fd ps sp) (hr:Room k X.A) (hb:ZaG X.K fd ps ds) (hd:Vals dvs ds) (hx:Zi6 CX X E)
  (I:Inv X pj σ H s) (r:Vals vs us) (h:sp (vs++dvs) H Q E):wpAny (model X.prog X.w) X.A (call (.ref f) us) (EP X pj σ Q) X.xe s:=by
 have r2:Vals (vs++dvs) (us++ds):=r.append hd
 have hl:(us++ds).length=ps.length:=by rw[←r2.length]; exact F.len _ _ _ _ h
 refine wpAny_call (codeAny_mono (F.run X.A X.stack s H ⟨us,[]⟩ (us++ds) (vs++dvs) Q E hr I.env0 (hb s us I.kIn hl) r2 h) fun r s' hq=>?_)
 cases r with
 | error e=>exact hx pj σ H s e s' I hq
 | ok fl=>
  cases fl with
  | ret u=>exact I.after hq
  | next=>exact False.elim hq
  | brk=>exact False.elim hq
  | cont=>exact False.elim hq
theorem Zti (F:FnOk X.prog X.w X.K X.mg X.base CX k f fd ps sp) (hr:Room k X.A) (hg:Gl X x) (hm:X.mg x=some (.ref f)) (hk:PySem.W.keepIn X.K (.ref f)=true) (hb:ZaG X.K fd ps ds) (hd:Vals dvs ds) (hx:Zi6 CX X E)
  (ha:PA X (e::es) t) (hdb:(x == ("__debug__" : Str))=false:=by decide) (he:starEach (e::es) X.env=(false,eval e X.env)::starEach es X.env:=by rfl) (hpl:(backTo pos (starEach es X.env)).any (·.1)=false:=by rfl) :
  PE X (.Call (.Name x p) (e::es) [] pos) (ZCA sp dvs E t):=by
 intro pj s σ H Q I h;refine wpAny_Call_Name_kw (Zm0 I hg hm ?_ hdb);refine PySem.W.callWith_K (h₀:=X.base) I.ok.mod.kin hk (thn (ha pos pj s σ H _ I h) fun us s1 ⟨vs,H1,I1,r,q⟩=>⟨I1.kIn,?_⟩) he hpl;exact Zur F hr hb hd hx I1 r q
structure Mk (K:PySem.W.Frag) (C f:Addr):Prop where
 makes:PySem.W.makesIn K C=true
 init:PySem.W.findIn K (.ref C) "__init__" = some (some (.ref f))
 fn:PySem.W.isFn K (.ref f)=true
 kp:PySem.W.keepIn K (.ref C)=true
theorem Zus {pj:List (Addr×Obj)} {σ:St} {H:Hp} {s:Shared} {Q:VK} {us:List Value} {vs:List V} (M:Mk X.K C f) (F:FnOk X.prog X.w X.K X.mg X.base CX k f fd ps sp) (hr:Room (k+1) X.A) (hb:ZaG X.K fd ps ds) (hd:Vals dvs ds)
  (hx:Zi6 CX X E) (I:Inv X pj σ H s) (r:Vals vs us)
  (h:∀x dx,H x=none→H dx=none→dx≠x→sp (.ref x::(vs++dvs)) (upd (upd H dx (.own x)) x (.ins C dx [])) (fun v H2=>v=.non∧Q (.ref x) H2) E) :
  wpAny (model X.prog X.w) X.A (call (.ref C) us) (EP X pj σ Q) X.xe s:=by
 have hq:=h (s.heap.objs.size+1) s.heap.objs.size (I.hok.fresh (Nat.le_succ _)) (I.hok.fresh (Nat.le_refl _)) (Nat.ne_of_lt (Nat.lt_succ_self _));have I2:=Inv.made (C:=C) I;have r2:Vals (V.ref (s.heap.objs.size+1)::(vs++dvs)) (Value.ref (s.heap.objs.size+1)::(us++ds)):=.cons rfl (r.append hd)
 have hl:(Value.ref (s.heap.objs.size+1)::us++ds).length=ps.length:=by
  have e:=r2.length;rw[F.len _ _ _ _ hq]at e;exact e.symm
 refine wpAny_call (ZyS (f:=f) I.kIn M.makes M.init (beq_iff_eq.mp M.fn) (codeAny_mono (F.run _ X.stack _ _ ⟨Value.ref (s.heap.objs.size+1)::us,[]⟩ (Value.ref (s.heap.objs.size+1)::(us++ds)) _ _ E (hr.make C us [])
  (I2.env0.make C us []) (hb _ (Value.ref (s.heap.objs.size+1)::us) I2.kIn hl) r2 hq) fun r s' hq'=>?_))
 cases r with
 | error e=>exact hx pj σ _ _ e s' I2 hq'
 | ok fl=>
  cases fl with
  | ret u=>
   obtain⟨v,H',I3,rv,ev,q3⟩:=I2.after hq';subst ev;exact⟨rv,⟨V.ref (s.heap.objs.size+1),H',I3,rfl,q3⟩⟩
  | next=>exact False.elim hq'
  | brk=>exact False.elim hq'
  | cont=>exact False.elim hq'
theorem ZBZ (M:Mk X.K C f) (F:FnOk X.prog X.w X.K X.mg X.base CX k f fd ps sp) (hr:Room (k+1) X.A) (hg:Gl X x) (hm:X.mg x=some (.ref C)) (hb:ZaG X.K fd ps ds) (hd:Vals dvs ds) (hx:Zi6 CX X E)
  (ha:PA X (e::es) t) (hdb:(x == ("__debug__" : Str))=false:=by decide) (he:starEach (e::es) X.env=(false,eval e X.env)::starEach es X.env:=by rfl) (hpl:(backTo pos (starEach es X.env)).any (·.1)=false:=by rfl) :
  PE X (.Call (.Name x p) (e::es) [] pos) (ZzC C sp dvs E t):=by
 intro pj s σ H Q I h;refine wpAny_Call_Name_kw (Zm0 I hg hm ?_ hdb);refine PySem.W.callWith_K (h₀:=X.base) I.ok.mod.kin M.kp (thn (ha pos pj s σ H _ I h) fun us s1 ⟨vs,H1,I1,r,q⟩=>⟨I1.kIn,?_⟩) he hpl;exact Zus M F hr hb hd hx I1 r q
theorem Zza (M:Mk X.K C f) (F:FnOk X.prog X.w X.K X.mg X.base CX k f fd ps sp) (hr:Room (k+1) X.A) (hg:Gl X x) (hm:X.mg x=some (.ref C)) (hb:ZaG X.K fd ps ds) (hd:Vals dvs ds) (hx:Zi6 CX X E)
  (hdb:(x == ("__debug__" : Str))=false:=by decide):PE X (.Call (.Name x p) [] [] pos) (ZzC C sp dvs E tNil):=by
 intro pj s σ H Q I h;refine wpAny_Call_Name_kw (Zm0 I hg hm ?_ hdb);exact PySem.W.callWith_K0 I.kIn M.kp (Zus (us:=[]) M F hr hb hd hx I .nil h)
end
section
variable {X:Cx} {CX:CXT} {k:Nat} {f C:Addr} {fd:FuncData} {ps ks:List Str} {sp:Sp} {E:XK} {x m:Str} {p pos apos kpos:Pos} {e o:Expr} {es:List Expr} {kws:List Keyword} {te ta:TE} {t tk:TA} {nm:Option Str}
variable {g:List Value→List Value→List Value} {gV:List V→List V→List V}
end
structure FnScope (N P:List Str) (sc:Scope):Prop where
 kind:sc.kind=.function
 co:sc.isCoroutine=false
 gen:sc.isGenerator=false
 nd:N.Nodup
 pre:N.take P.length=P
 par:∀x∈P,sc.names.lookup x=some .local∨sc.names.lookup x=some .cell
 nofree:∀y∈sc.names,y.2≠.free
theorem Zqt {kindOf:Str→Option NameKind} {x:Str}:∀{binds:List (Str×Value)} {m:Str→Option Value},(∀v,(x,v)∉binds)→bindL kindOf binds m x=m x
 | [],_,_=>rfl
 | (n,v)::r,m,h=>by
  unfold bindL;rw[Zqt fun w hw=>h w (List.mem_cons_of_mem _ hw)]
  split
  ·have:x≠n:=by rintro rfl; exact h v List.mem_cons_self
   simp[this]
  ·rfl
theorem Zqr {kindOf:Str→Option NameKind} {x:Str}:∀{binds:List (Str×Value)} {m:Str→Option Value},(∀v,(x,v)∉binds)→bindC kindOf binds m x=m x
 | [],_,_=>rfl
 | (n,v)::r,m,h=>by
  unfold bindC;rw[Zqr fun w hw=>h w (List.mem_cons_of_mem _ hw)]
  split
  ·rfl
  ·have:x≠n:=by rintro rfl; exact h v List.mem_cons_self
   simp[this]
theorem Zqs {kindOf:Str→Option NameKind} {x:Str} {v:Value}:∀{P:List Str} {vs:List Value} {i:Nat} {m:Str→Option Value},P.Nodup→P[i]?=some x→vs[i]?=some v→kindOf x=some .local→
  bindL kindOf (P.zip vs) m x=some v
 | [],_,_,_,_,h,_,_=>by simp at h
 | _::_,[],_,_,_,_,h,_=>by simp at h
 | p::P,w::vs,0,m,nd,h1,h2,hk=>by
  simp at h1 h2; subst h1; subst h2;show bindL kindOf ((p,w)::P.zip vs) m p=_;unfold bindL;rw[Zqt fun v hv=>(List.nodup_cons.mp nd).1 (List.of_mem_zip hv).1,if_pos hk];simp
 | p::P,w::vs,i+1,m,nd,h1,h2,hk=>by
  show bindL kindOf ((p,w)::P.zip vs) m x=_;unfold bindL;exact Zqs (i:=i) (List.nodup_cons.mp nd).2 (by simpa using h1) (by simpa using h2) hk
theorem Zqq {kindOf:Str→Option NameKind} {x:Str} {v:Value}:∀{P:List Str} {vs:List Value} {i:Nat} {m:Str→Option Value},P.Nodup→P[i]?=some x→vs[i]?=some v→kindOf x≠some .local→
  bindC kindOf (P.zip vs) m x=some v
 | [],_,_,_,_,h,_,_=>by simp at h
 | _::_,[],_,_,_,_,h,_=>by simp at h
 | p::P,w::vs,0,m,nd,h1,h2,hk=>by
  simp at h1 h2; subst h1; subst h2;show bindC kindOf ((p,w)::P.zip vs) m p=_;unfold bindC;rw[Zqr fun v hv=>(List.nodup_cons.mp nd).1 (List.of_mem_zip hv).1,if_neg hk];simp
 | p::P,w::vs,i+1,m,nd,h1,h2,hk=>by
  show bindC kindOf ((p,w)::P.zip vs) m x=_;unfold bindC;exact Zqq (i:=i) (List.nodup_cons.mp nd).2 (by simpa using h1) (by simpa using h2) hk
def start (N:List Str) (vs:List V):St:=vs.map some++List.replicate (N.length - vs.length) none
def cxOf (CX:CXT) (P:Program) (w:World) (K:PySem.W.Frag) (mg:Str→Option Value) (base:Heap) (N:List Str) (qual:Str) (scope:Scope) (f:Addr) (cd:Value) (A:Around) (outer:List Env) (s:Shared) (H:Hp) (E:XK):Cx where
 prog:=P
 w:=w
 K:=K
 mg:=mg
 base:=base
 A:=A.deeper (envOfC qual scope s.heap.objs.size f cd)
 N:=N
 s₀:=s
 H₀:=H
 env:=envOfC qual scope s.heap.objs.size f cd
 outer:=outer
 stack:=envOfC qual scope s.heap.objs.size f cd::outer
 ex:=[]
 calm:=true
 fn:=fun _=>true
 pn:=[]
 xe:=fun e s'=>wpAny (model P w) (A.deeper (envOfC qual scope s.heap.objs.size f cd)) (leaving (envOfC qual scope s.heap.objs.size f cd) e) (fun _ s''=>CX outer H s E e s'') (fun e' s''=>CX outer H s E e' s'') s'
theorem ZtL {sc:Scope} {n:Nat} {x:Str} (h:sc.names.lookup x=some .cell):∃c,(cellsFrom n sc.names []).lookup x=some c:=by
 have q:=PySem.W.cellsFrom_some sc.names n [] (.inl h);exact Option.isSome_iff_exists.mp q
theorem ZwG {CX:CXT} {P:Program} {w:World} {K:PySem.W.Frag} {mg:Str→Option Value} {base:Heap} {N ps:List Str} {qual:Str} {scope:Scope} {f:Addr} {cd:Value} {A:Around} {outer:List Env} {s s1:Shared} {H:Hp} {E:XK} {us:List Value} {vs:List V}
  (S:FnScope N ps scope) (hd:A.handled=none) (e0:Env0 P w K mg base A outer s H) (hl:vs.length=ps.length) (r:Vals vs us)
  (x:InCallC s s.heap.objs.size (bindL (envOfC qual scope s.heap.objs.size f cd).kindOf (ps.zip us) fun _=>none) (cellsFrom (s.heap.objs.size+1) scope.names []) (bindC (envOfC qual scope s.heap.objs.size f cd).kindOf (ps.zip us) fun _=>none) s1) :
  Inv (cxOf CX P w K mg base N qual scope f cd A outer s H E) [] (start N vs) H s1:=by
 have hpl:ps.length≤N.length:=by have:=congrArg List.length S.pre; rw[List.length_take]at this; omega
 obtain⟨h1,tk,rfl,hk⟩:=x.done;have noA:∀b:Addr,b∉(cxOf CX P w K mg base N qual scope f cd A outer s H E).ex:=fun b z=>absurd (show b∈([]:List Addr) from z) (by simp)
 refine⟨⟨e0.mod,S.kind,rfl,rfl,Nat.le_refl _,fun y z c h1 h2=>?_,fun y hy=>?_,fun y c _ h=>?_,fun _=>hd,Around.frames_deeper e0.frames,.inr ⟨rfl,rfl⟩,fun b z=>absurd z (noA b),e0.bs,e0.bsz,fun b _ _=>noA b,fun b z=>absurd z (noA b),e0.funs,e0.frf⟩,
  rfl,e0.bare,Un.kept hk,⟨_,x.toInCall.ns,fun i y v h1 h2 h3=>?_⟩,fun y c h=>⟨_,x.cell y c h⟩,e0.hok.fresh (Nat.le_refl _),fun y c h=>?_,fun p hp=>absurd (show p∈([]:List (Addr×Obj)) from hp) (by simp),e0.hok.kept hk,?_⟩
 ·exact name_of_addr x.apart (PySem.mem_of_lookup h1) (PySem.mem_of_lookup h2)
 ·have hy:scope.names.lookup y=some .cell∨scope.names.lookup y=some .free:=hy
  rcases hy with hy | hy
  ·exact ZtL hy
  ·exact absurd rfl (S.nofree _ (PySem.mem_of_lookup hy))
 ·exact Nat.le_of_lt (x.above y c (PySem.mem_of_lookup h))
 ·have hi:i < vs.length:=by
   unfold start at h2
   by_cases hi:i < vs.length
   ·exact hi
   ·rw[List.getElem?_append_right (by simpa using hi)]at h2
    rw[List.getElem?_replicate]at h2
    split at h2 <;> cases h2
  have ha:vs[i]?=some v:=by
   unfold start at h2;rw[List.getElem?_append_left (by simpa using hi),List.getElem?_map]at h2
   cases e:vs[i]? with
   | none=>rw[e]at h2; cases h2
   | some a=>rw[e]at h2; cases h2; rfl
  obtain⟨u,hu,rv⟩:=r.get ha
  have hp:ps[i]?=some y:=by
   rw[←S.pre,List.getElem?_take_of_lt (by omega)]; exact h1
  have ndP:ps.Nodup:=by rw[←S.pre]; exact S.nd.sublist (List.take_sublist _ _)
  refine⟨u,rv,?_⟩
  rcases S.par y (List.mem_of_getElem? hp) with k | k
  ·exact .inl ⟨k,Zqs ndP hp hu k⟩
  ·obtain⟨c,e⟩:=ZtL (n:=s.heap.objs.size+1) k
   refine .inr ⟨.inl k,c,e,?_⟩;have q:=x.cell y c e;rw[Zqq ndP hp hu (by show scope.names.lookup y≠_; rw[k]; decide)]at q;exact q
 ·exact e0.hok.fresh (Nat.le_of_lt (x.above y c (PySem.mem_of_lookup h)))
 ·unfold start
  show _=N.length;rw[List.length_append,List.length_map,List.length_replicate];omega
theorem ZC2 {CX:CXT} {P:Program} {w:World} {K:PySem.W.Frag} {mg:Str→Option Value} {base:Heap} {k:Nat} {f:Addr} {name qual:Str} {params:Arguments} {body:List Stmt} {scope:Scope} {dV kV doc pm cdv ct oc:Value} {an od:Option Addr}
  {osl:Array (Option Value)} {N ps:List Str} {sp:Sp} (lk:K.lookup f=some ⟨oc,od,.func (PySem.W.fnOf name qual params body scope dV kV doc pm an cdv ct),osl⟩) (hcd:PySem.W.codeIn K cdv qual=true) (S:FnScope N ps scope)
  (len:∀vs H Q E,sp vs H Q E→vs.length=ps.length)
  (hbody:∀(A:Around) (outer:List Env) (s:Shared) (H:Hp) (vs:List V) (Q:VK) (E:XK),Room k (A.deeper (envOfC qual scope s.heap.objs.size f cdv))→sp vs H Q E→
   ∃t,PSs (cxOf CX P w K mg base N qual scope f cdv A outer s H E) body t∧t { nx:=fun _ H'=>Q .non H',rt:=Q } (start N vs) H) :
  FnOk P w K mg base CX (k+1) f (PySem.W.fnOf name qual params body scope dV kV doc pm an cdv ct) ps sp:=by
 refine⟨len,fun A outer s H args us vs Q E hr e0 hb r hsp=>?_⟩;have hl:=len _ _ _ _ hsp;have KX:K.In s.heap:=e0.mod.kin.keeps fun b o e=>(e0.bs b o e).1;have lim:s.heap.NoLimit:=e0.mod.nolimit.keeps fun b o e=>(e0.bs b o e).1
 have hkind:∀y∈ps.zip us,scope.names.lookup y.1=some .local∨(scope.names.lookup y.1=some .cell∧((cellsFrom (s.heap.objs.size+1) scope.names []).lookup y.1).isSome=true):=fun⟨n,v⟩ hy=>by
  rcases S.par n (List.of_mem_zip hy).1 with q | q
  ·exact .inl q
  ·exact .inr ⟨q,PySem.W.cellsFrom_some _ _ _ (.inl q)⟩
 refine codeAny_call_function hr.depth (KX _ _ lk) rfl S.co S.gen rfl (PySem.W.codeRec_of KX hcd) (hb _ _ _ _ ?_);refine wpAny_newFunctionEnv_cells S.kind hkind fun env he s1 x=>?_;subst he;refine⟨lim.keeps x.toInCall.keep,codeAny_func ?_⟩;obtain⟨t,ht,hq⟩:=hbody A outer s H vs Q E (hr.deeper _) hsp;have I:Inv (cxOf CX P w K mg base N qual scope f cdv A outer s H E) [] (start N vs) H s1:=ZwG S hr.hd e0 hl r x;refine wpAny_mono (ht [] s1 (start N vs) H _ I hq) (fun fl s' hs=>?_) fun e s' hs=>hs
 have fin:∀{σ':St} {H':Hp} {v:V} {u:Value},Inv (cxOf CX P w K mg base N qual scope f cdv A outer s H E) [] σ' H' s'→RelV v u→Q v H'→CE outer P w H s Q u s':=
  fun {σ' H' v u} J rv q=>⟨v,H',J.os,J.bare,J.base,J.hok,rv,q⟩
 cases fl with
 | ret u=>
  obtain⟨v,σ',H',J,rv,q⟩:=hs;exact fin J rv q
 | next=>
  obtain⟨σ',H',J,q⟩:=hs;exact fin (v:=V.non) (u:=Value.none) J rfl q
 | brk=>
  obtain⟨_,_,_,q⟩:=hs;exact False.elim q
 | cont=>
  obtain⟨_,_,_,q⟩:=hs;exact False.elim q
end L2
namespace L2
open PySem PySem.Spec PyProof.Rows
section
variable {X:Cx} {x:Str} {p pos:Pos} {e:Expr} {es:List Expr} {t:TA} {id T:String} {r:List V→Hp→VK→Prop}
abbrev tCB (r:List V→Hp→VK→Prop) (t:TA):TE:=fun σ H Q=>t σ H fun vs H1=>r vs H1 Q
theorem Zaw (hc:ZhL X (.builtin id) r) (hg:Gl X x) (hm:X.mg x=none) (hv:bootBuiltins x=some (.builtin id)) (ha:PA X (e::es) t) (hn:x≠"__name__":=by decide) (hdb:(x == ("__debug__" : Str))=false:=by decide)
  (he:starEach (e::es) X.env=(false,eval e X.env)::starEach es X.env:=by rfl) (hpl:(backTo pos (starEach es X.env)).any (·.1)=false:=by rfl):PE X (.Call (.Name x p) (e::es) [] pos) (tCB r t):=by
 intro pj s σ H Q I h;refine wpAny_Call_Name_kw (Zlx I hg hm hv ?_ hn hdb);exact PyProof.Rows.callWith_builtin1 (thn (ha pos pj s σ H _ I h) fun us s1 ⟨vs,H1,I1,r1,q1⟩=>hc pj s1 σ H1 vs us Q I1 r1 q1) he hpl
theorem Zbb (hc:ZhL X (.type T) r) (hg:Gl X x) (hm:X.mg x=none) (hv:bootBuiltins x=some (.type T)) (ha:PA X (e::es) t) (hn:x≠"__name__":=by decide) (hdb:(x == ("__debug__" : Str))=false:=by decide)
  (he:starEach (e::es) X.env=(false,eval e X.env)::starEach es X.env:=by rfl) (hpl:(backTo pos (starEach es X.env)).any (·.1)=false:=by rfl):PE X (.Call (.Name x p) (e::es) [] pos) (tCB r t):=by
 intro pj s σ H Q I h;refine wpAny_Call_Name_kw (Zlx I hg hm hv ?_ hn hdb);exact PyProof.Rows.callWith_type1 (thn (ha pos pj s σ H _ I h) fun us s1 ⟨vs,H1,I1,r1,q1⟩=>hc pj s1 σ H1 vs us Q I1 r1 q1) he hpl
end
end L2
namespace HT
open PySem PyProof.Rows
section
open PySem.SeqAt
open PySem.AutoSeq1 (wpAny_loadPart')
open PySem.MeetsSeq PySem.MeetsSeq2 PySem.MeetsSeq3
end
section
variable {prog:Program} {w:World} {A:Around} {E:Value→Shared→Prop} {s:Shared}
def sIx (n d:Nat):Option Int→Nat
 | none=>d
 | some v=>if v < 0 then(v+(n:Int)).toNat else min v.toNat n
theorem sIx_none (n d:Nat):sIx n d none=d:=rfl
theorem sIx_nat (n d k:Nat):sIx n d (some (k:Int))=min k n:=by
 show(if (k:Int) < 0 then((k:Int)+(n:Int)).toNat else min (k:Int).toNat n)=min k n;rw[if_neg (by omega),Int.toNat_natCast]
theorem ZEx (n d:Nat) (hd:d≤n) (o:Option Int):sIx n d o≤n:=by
 cases o with
 | none=>exact hd
 | some v=>
  show(if v < 0 then(v+(n:Int)).toNat else min v.toNat n)≤n
  by_cases hv:v < 0
  ·rw[if_pos hv]; omega
  ·rw[if_neg hv]; exact Nat.min_le_right _ _
theorem Zwd (v:Int) (n d:Nat):(if v < 0 then max (v+(n:Int)) 0 else min v (n:Int))=((sIx n d (some v):Nat):Int):=by
 show(if v < 0 then max (v+(n:Int)) 0 else min v (n:Int))=(((if v < 0 then(v+(n:Int)).toNat else min v.toNat n):Nat):Int)
 by_cases hv:v < 0
 ·simp only [if_pos hv]; omega
 ·simp only [if_neg hv]; omega
theorem ZuV (lo hi:Option Int) (n:Nat):Builtin.Slice.sliceAdjust lo hi 1 (n:Int)=(((sIx n 0 lo:Nat):Int),((sIx n n hi:Nat):Int)):=by
 have h1 : ¬((1:Int) < 0):=by omega
 unfold Builtin.Slice.sliceAdjust;simp only [h1,if_false];refine Prod.ext ?_ ?_
 ·cases lo with
  | none=>rfl
  | some v=>exact Zwd v n 0
 ·cases hi with
  | none=>rfl
  | some v=>exact Zwd v n n
theorem ZvL (i j:Nat):Builtin.Slice.slicePlaces (i:Int) (j:Int) 1=j - i:=by
 unfold Builtin.Slice.slicePlaces
 have h1:(1:Int) > 0:=by omega
 simp only [h1,if_true,Int.ediv_one]
 split <;> omega
theorem ZoI {v:Value} {o:Option Int} {Q:Option Int→Shared→Prop} (p:IsPart v o) (h:Q o s):wpAny (model prog w) A (Builtin.Slice.slicePartIndex v) Q E s:=by
 cases p with
 | none=>exact slicePart_none h
 | int i t=>exact slicePart_int h
theorem ZlZ {sl:Addr} {vl vu:Value} {lo hi:Option Int} {n:Nat} {Q:Int×Int×Nat→Shared→Prop} (hs:s.heap.IsSliceOf sl vl vu .none) (pl:IsPart vl lo) (pu:IsPart vu hi)
  (h:Q (((sIx n 0 lo:Nat):Int),1,sIx n n hi - sIx n 0 lo) s):wpAny (model prog w) A (Builtin.Slice.sliceApplied (.ref sl) (pure (n:Int))) Q E s:=by
 obtain⟨os,hos,hcs,hds⟩:=id hs;unfold Builtin.Slice.sliceApplied Builtin.Slice.sliceFields;refine wpAny_bind (wpAny_bind (wpAny_field hos hds (x:=vl) rfl (wpAny_bind (wpAny_field hos hds (x:=vu) rfl (wpAny_bind (wpAny_field hos hds (x:=.none) rfl (wpAny_pure ?_)))))));refine wpAny_bind (slicePart_none ?_);show wpAny _ _ (if ((1:Int) == 0)=true then _ else _) _ _ s;rw[if_neg (by decide)];refine wpAny_bind (ZoI pl (wpAny_bind (ZoI pu (wpAny_bind (wpAny_pure ?_)))));show wpAny _ _ (match Builtin.Slice.sliceAdjust lo hi 1 (n:Int) with | (lo,hi)=>pure (lo,(1:Int),Builtin.Slice.slicePlaces lo hi 1)) _ _ s;rw[ZuV lo hi n];show wpAny _ _ (pure (((sIx n 0 lo:Nat):Int),(1:Int),Builtin.Slice.slicePlaces ((sIx n 0 lo:Nat):Int) ((sIx n n hi:Nat):Int) 1)) _ _ s;rw[ZvL];exact wpAny_pure h
theorem Zzd (xs:Array Value) (i k:Nat):((List.range k).filterMap fun(m:Nat)=>xs[((i:Int)+(m:Int) * 1).toNat]?).toArray=((xs.toList.drop i).take k).toArray:=by
 have e:(fun(m:Nat)=>xs[((i:Int)+(m:Int) * 1).toNat]?)=fun m=>xs[i+m]?:=by
  funext m
  have:((i:Int)+(m:Int) * 1).toNat=i+m:=by omega
  rw[this]
 rw[e];have:=pick_run xs i k;rw[List.filterMap_map]at this;have e2:((fun x=>xs[x]?) ∘ fun x=>i+x)=fun m=>xs[i+m]?:=rfl;rw[e2]at this;rw[this]
theorem getItem_tuple_cut {t sl:Addr} {items:Array Value} {vl vu:Value} {lo hi:Option Int} {Q:Value→Shared→Prop} (ht:IsTup s.heap t items) (hs:s.heap.IsSliceOf sl vl vu .none) (pl:IsPart vl lo) (pu:IsPart vu hi)
  (hw : ¬(sIx items.size 0 lo=0∧sIx items.size items.size hi=items.size))
  (h:Q (.ref s.heap.objs.size) { s with heap:=s.heap.push { cls:=.type "tuple",data:=.seq ((items.toList.drop (sIx items.size 0 lo)).take (sIx items.size items.size hi - sIx items.size 0 lo)).toArray } })
  (hsz:items.size≤sizeLine):wpAny (model prog w) A (getItem (.ref t) (.ref sl)) Q E s:=by
 have htake:sizeOk (.seq ((items.toList.drop (sIx items.size 0 lo)).take (sIx items.size items.size hi - sIx items.size 0 lo)).toArray):=by
  show((items.toList.drop (sIx items.size 0 lo)).take (sIx items.size items.size hi - sIx items.size 0 lo)).toArray.size≤sizeLine;rw[List.size_toArray,List.length_take,List.length_drop,Array.length_toList];omega
 have hj:sIx items.size items.size hi≤items.size:=ZEx _ _ (Nat.le_refl _) hi;obtain⟨os,hos,hcs,hds⟩:=id hs;have hTs:s.TypeIs (.ref sl) "slice":=⟨os,hos,hcs⟩;unfold getItem
 try with_reducible refine wpAny_holding ?_
 first | refine wpAny_bind (wpAny_pure ?_) | skip
 refine wpAny_bind (wpAny_sequenceKey ht.typeIs (by decide) ?_)
 refine wpAny_bind (wpAny_callSpecial?_slot (name:=Str.ofString "__getitem__") ht.typeIs PyProof.Rows.slot_tuple_getitem
  (wpAny_call_entry PyProof.Rows.slot_tuple_getitem ht.typeIs entry_tuple_getitem ?_ (args_tuple_getitem _ _)))
 show wpAny _ _ (Builtin.Tuple.tupleItemsOf (.ref t) >>= _) _ _ s;refine wpAny_bind (tupleItemsOf_ ht ?_);refine wpAny_bind (wpAny_typeOf hTs ?_);rw[if_pos (by decide)];refine wpAny_bind (ZlZ hs pl pu ?_)
 have hno : ¬((((sIx items.size 0 lo:Nat):Int) == 0 && (1:Int) == 1 && (sIx items.size items.size hi - sIx items.size 0 lo) == items.size)=true):=by
  intro q;rw[Bool.and_eq_true,Bool.and_eq_true]at q;have q1:((sIx items.size 0 lo:Nat):Int)=0:=eq_of_beq q.1.1;have q2:sIx items.size items.size hi - sIx items.size 0 lo=items.size:=eq_of_beq q.2;exact hw ⟨by omega,by omega⟩
 show wpAny _ _ (if (((sIx items.size 0 lo:Nat):Int) == 0 && (1:Int) == 1 && (sIx items.size items.size hi - sIx items.size 0 lo) == items.size)=true then _ else _) _ _ s;rw[if_neg hno,Zzd]
 first
  | exact wpAny_bind (m:=Builtin.Tuple.tupleExact _) (wpAny_newObj_type (wpAny_pure ⟨_,rfl,wpAny_pure h⟩) htake)
  | exact wpAny_bind (m:=Builtin.Tuple.tupleExact _) (wpAny_newObj_type (wpAny_bind (wpAny_pure (wpAny_pure ⟨_,rfl,wpAny_pure h⟩))) htake)
  | exact wpAny_bind (wpAny_bind (m:=Builtin.Tuple.tupleExact _) (wpAny_newObj_type (wpAny_pure (wpAny_pure ⟨_,rfl,wpAny_pure h⟩)) htake))
  | exact wpAny_bind (wpAny_bind (m:=Builtin.Tuple.tupleExact _) (wpAny_newObj_type (wpAny_pure ⟨_,rfl,wpAny_pure h⟩) htake))
end
end HT
namespace L2
open PySem PySem.Spec PyProof.Rows
abbrev TO:=St→Hp→(Option Int→Hp→Prop)→Prop
def PO (X:Cx) (e:Option Expr) (t:TO):Prop:=
 ∀(pj:List (Addr×Obj)) (s:Shared) (σ:St) (H:Hp) (Q:Option Int→Hp→Prop),Inv X pj σ H s→t σ H Q→
  wpAny (model X.prog X.w) X.A (evalPart e X.env) (fun u s'=>∃o H',Inv X pj σ H' s'∧IsPart u o∧Q o H') X.xe s
abbrev Ztx:TO:=fun _ H Q=>Q none H
abbrev ZCC (t:TE):TO:=fun σ H Q=>t σ H fun x H1=>∃i,x=.int i∧Q (some i) H1
section
variable {X:Cx} {e:Expr} {te:TE} {lo hi:Option Expr} {tl th:TO} {pos p2:Pos}
theorem Zb5:PO X none Ztx:=by
 intro pj s σ H Q I h;rw[evalPart_none];exact wpAny_pure ⟨none,H,I,.none,h⟩
theorem Zbn (h:PE X e te):PO X (some e) (ZCC te):=by
 intro pj s σ H Q I hw;rw[evalPart_some];refine thn (h pj s σ H _ I hw) fun u s1 ⟨x,H1,I1,r1,q1⟩=>?_;obtain⟨i,rfl,q⟩:=q1;obtain⟨t,rfl⟩:=r1;exact⟨some i,H1,I1,.int i t,q⟩
def SlR (X:Cx) (r:V→Option Int→Option Int→Hp→VK→Prop):Prop:=
 ∀(pj:List (Addr×Obj)) (s:Shared) (σ:St) (H:Hp) (x:V) (v vl vu:Value) (lo hi:Option Int) (sl:Addr) (Q:VK),Inv X pj σ H s→RelV x v→s.heap.IsSliceOf sl vl vu .none→IsPart vl lo→IsPart vu hi→r x lo hi H Q→
  ∃T id,typeLookup (.type T) "__getitem__" = pure (some (.builtin id))∧s.TypeIs v T∧wpAny (model X.prog X.w) X.A (getItem v (.ref sl)) (EP X pj σ Q) X.xe s
theorem SlR.or {r r':V→Option Int→Option Int→Hp→VK→Prop} (h:SlR X r) (h':SlR X r'):SlR X (fun x lo hi H Q=>r x lo hi H Q∨r' x lo hi H Q):=by
 intro pj s σ H x v vl vu lo hi sl Q I rx hs pl pu q
 rcases q with q | q
 ·exact h pj s σ H x v vl vu lo hi sl Q I rx hs pl pu q
 ·exact h' pj s σ H x v vl vu lo hi sl Q I rx hs pl pu q
abbrev tSl (r:V→Option Int→Option Int→Hp→VK→Prop) (te:TE) (tl th:TO):TE:=fun σ H Q=>te σ H fun x H1=>tl σ H1 fun l H2=>th σ H2 fun u H3=>r x l u H3 Q
theorem Za9 {r:V→Option Int→Option Int→Hp→VK→Prop} (hr:SlR X r) (he:PE X e te) (hl:PO X lo tl) (hu:PO X hi th):PE X (.Subscript e (.Slice lo hi none p2) pos) (tSl r te tl th):=by
 intro pj s σ H Q I h;refine Subscript_ (thn (he pj s σ H _ I h) fun v s1 ⟨x,H1,I1,r1,q1⟩=>?_);refine wpAny_Slice (thn (hl pj s1 σ H1 _ I1 q1) fun vl s2 ⟨l,H2,I2,pl,q2⟩=>thn (hu pj s2 σ H2 _ I2 q2) fun vu s3 ⟨u,H3,I3,pu,q3⟩=>?_);rw[evalPart_none];refine wpAny_pure ?_;have I4:Inv X pj σ H3 { s3 with heap:=s3.heap.push { cls:=.type "slice",data:=.fields #[vl,vu,.none] } }:=I3.kept (t':=s3.toks) fun b ob q=>Heap.get?_push_of_some _ q;obtain⟨T,id,hT,ht,hg⟩:=hr pj { s3 with heap:=s3.heap.push { cls:=.type "slice",data:=.fields #[vl,vu,.none] } } σ H3 x v vl vu l u s3.heap.objs.size Q I4 r1 (Heap.IsSliceOf.new ..) pl pu q3;show wpAny (model X.prog X.w) X.A (subscriptTail e (.Slice lo hi none p2) v (.ref s3.heap.objs.size)) (EP X pj σ Q) X.xe { s3 with heap:=s3.heap.push { cls:=.type "slice",data:=.fields #[vl,vu,.none] } };exact tail_any (ops:=[.ref s3.heap.objs.size,v]) ht hT hg (by with_unfolding_all rfl)
def cutV (xs:List V) (lo hi:Option Int):List V:=(xs.drop (HT.sIx xs.length 0 lo)).take (HT.sIx xs.length xs.length hi - HT.sIx xs.length 0 lo)
theorem ZmD (xs:List V) (lo hi:Option Int):(cutV xs lo hi).length≤xs.length:=by
 unfold cutV;rw[List.length_take,List.length_drop];omega
def rSlT (K:PySem.W.Frag):V→Option Int→Option Int→Hp→VK→Prop:=fun x lo hi H Q=>∃a xs,x=.ref a∧SqT K H a xs∧
 ¬(HT.sIx xs.length 0 lo=0∧HT.sIx xs.length xs.length hi=xs.length)∧∀p,H p=none→Q (.ref p) (upd H p (.tup (cutV xs lo hi)))
theorem ZEE:SlR X (rSlT X.K):=by
 intro pj s σ H x v vl vu lo hi sl Q I rx hs pl pu h;obtain⟨a,xs,rfl,hx,hw,q⟩:=h
 cases rx
 obtain⟨its,r,ht,hz⟩:=I.tuple hx
 have hlen:its.toArray.size=xs.length:=by rw[List.size_toArray]; exact r.length.symm
 refine⟨"tuple",_,PyProof.Rows.slot_tuple_getitem.lookup,ht.typeIs,?_⟩;refine HT.getItem_tuple_cut ht hs pl pu (by rw[hlen]; exact hw) ?_ (by rw[hlen]; exact hz);rw[hlen];refine⟨.ref s.heap.objs.size,_,I.laid (t':=s.toks) (o:=.tup (cutV xs lo hi)) (fun b ob q=>Heap.get?_push_of_some _ q) (Nat.le_refl _) ?_,rfl,q _ (I.hok.fresh (Nat.le_refl _))⟩;exact⟨Nat.le_trans (ZmD xs lo hi) hz,_,(r.drop (HT.sIx xs.length 0 lo)).take (HT.sIx xs.length xs.length hi - HT.sIx xs.length 0 lo),IsTup.new _ _⟩
end
end L2
namespace L2
open PySem PySem.Spec PyProof.Rows
def ixN (n:Nat) (i:Int):Option Nat:=if 0≤i then(if i < n then some i.toNat else none) else if -(n:Int)≤i then some (i+n).toNat else none
def atI {α:Type} (xs:List α) (i:Int):Option α:=(ixN xs.length i).bind fun j=>xs[j]?
theorem ZwH {n:Nat} {i:Int} {j:Nat} (h:ixN n i=some j):seqIndex? i n=some j∧j < n∧-(n:Int)≤i∧i < n:=by
 unfold ixN at h
 by_cases h0:0≤i
 ·rw[if_pos h0]at h
  by_cases h1:i < n
  ·rw[if_pos h1]at h
   have e:i.toNat=j:=Option.some.inj h;exact⟨by rw[seqIndex_of h0 h1,e],by omega,by omega,h1⟩
  ·rw[if_neg h1]at h; cases h
 ·rw[if_neg h0]at h
  by_cases h1 : -(n:Int)≤i
  ·rw[if_pos h1]at h
   have e:(i+n).toNat=j:=Option.some.inj h;exact⟨by rw[seqIndex_neg (by omega) h1,e],by omega,h1,by omega⟩
  ·rw[if_neg h1]at h; cases h
theorem Zsk {α:Type} {xs:List α} {i:Int} {v:α} (h:atI xs i=some v):∃j,seqIndex? i xs.length=some j∧xs[j]?=some v∧j < xs.length∧-(xs.length:Int)≤i∧i < xs.length:=by
 unfold atI at h
 cases e:ixN xs.length i with
 | none=>rw[e]at h; cases h
 | some j=>
  rw[e]at h;obtain⟨h1,h2,h3,h4⟩:=ZwH e;exact⟨j,h1,h,h2,h3,h4⟩
theorem ZgY {α:Type} {xs:List α} {j:Nat} {v:α} (h:xs[j]?=some v):atI xs (j:Int)=some v:=by
 have hj:j < xs.length:=(List.getElem?_eq_some_iff.mp h).1
 have e:ixN xs.length (j:Int)=some j:=by
  unfold ixN;rw[if_pos (by omega),if_pos (by omega)]; simp
 unfold atI; rw[e]; exact h
def ZAQ (b:Expr):Prop:=∀o i,subscripted b false o i=operate [o,i] (getItem o i)
def IxR (X:Cx) (r:R2):Prop:=
 ∀(value slice:Expr) (pj:List (Addr×Obj)) (s:Shared) (σ:St) (H:Hp) (x y:V) (v u:Value) (Q:VK),Inv X pj σ H s→RelV x v→RelV y u→r x y H Q→
  subscripted slice false v u=operate [v,u] (getItem v u)→wpAny (model X.prog X.w) X.A (subscriptTail value slice v u) (EP X pj σ Q) X.xe s
def MtR (X:Cx) (id:String) (r:V→List V→Hp→VK→Prop):Prop:=
 ∀(pj:List (Addr×Obj)) (s:Shared) (σ:St) (H:Hp) (x:V) (xs:List V) (v:Value) (us:List Value) (Q:VK),Inv X pj σ H s→RelV x v→Vals xs us→r x xs H Q→
  wpAny (model X.prog X.w) X.A (call (.builtin id) (v::us)) (EP X pj σ Q) X.xe s
section
variable {X:Cx} {a b:Expr} {ta tb:TE} {pos:Pos}
theorem IxR.or {r r':R2} (h:IxR X r) (h':IxR X r'):IxR X (fun x y H Q=>r x y H Q∨r' x y H Q):=by
 intro value slice pj s σ H x y v u Q I rx ry q hs
 rcases q with q | q
 ·exact h value slice pj s σ H x y v u Q I rx ry q hs
 ·exact h' value slice pj s σ H x y v u Q I rx ry q hs
theorem Zav {r:R2} (hr:IxR X r) (ha:PE X a ta) (hb:PE X b tb) (hs:ZAQ b):PE X (.Subscript a b pos) (tOp r ta tb):=by
 intro pj s σ H Q I h;exact Subscript_ (binT ha hb I h fun v u s2 x y H2 I2 rx ry q=>hr a b pj s2 σ H2 x y v u Q I2 rx ry q (hs _ _))
def rIxL (K:PySem.W.Frag):R2:=fun x y H Q=>∃p xs i v,x=.ref p∧y=.int i∧SqL K H p xs∧atI xs i=some v∧Q v H
def rIxT (K:PySem.W.Frag):R2:=fun x y H Q=>∃p xs i v,x=.ref p∧y=.int i∧SqT K H p xs∧atI xs i=some v∧Q v H
def rIxS:R2:=fun x y H Q=>∃z i c,x=.str z∧y=.int i∧z.length≤sizeLine∧atI z.cps.toList i=some c∧Q (.str ⟨#[c]⟩) H
theorem ZBo:IxR X (rIxL X.K):=by
 intro value slice pj s σ H x y v u Q I rx ry h hs;obtain⟨p,xs,i,z,rfl,rfl,hq,he,q⟩:=h
 cases rx
 obtain⟨t,rfl⟩:=ry;obtain⟨its,r,pl,hz⟩:=I.list hq;obtain⟨j,h1,h2,h3,h4,h5⟩:=Zsk he;obtain⟨w,ew,rw'⟩:=r.get h2;have hl:=r.length;have hn:=Zou;have fin:EP X pj σ Q w s:=⟨z,H,I,rw',q⟩
 by_cases h0:0≤i
 ·have hj:i.toNat=j:=by
   rw[seqIndex_of h0 h5]at h1;exact Option.some.inj h1
  exact item_listR pl.isList h0 (by omega) (by rw[hj]; simpa using ew) fin hs
 ·have hj:(i+(its.toArray.size:Int)).toNat=j:=by
   rw[seqIndex_neg (by omega) h4]at h1;rw[List.size_toArray,←hl];exact Option.some.inj h1
  exact subscriptTail_builtinR (x:=w) pl.isList.typeIs slot_list_getitem.lookup
   (wpAny_getItem_list_neg (Q:=fun r s'=>r=w∧EP X pj σ Q r s') pl.isList (by omega) (by rw[List.size_toArray] <;> omega) (by omega) (by rw[hj]; simpa using ew) ⟨rfl,fin⟩) hs
theorem ZDB:IxR X (rIxT X.K):=by
 intro value slice pj s σ H x y v u Q I rx ry h hs;obtain⟨p,xs,i,z,rfl,rfl,hq,he,q⟩:=h
 cases rx
 obtain⟨t,rfl⟩:=ry;obtain⟨its,r,pl,hz⟩:=I.tuple hq;obtain⟨j,h1,h2,h3,h4,h5⟩:=Zsk he;obtain⟨w,ew,rw'⟩:=r.get h2;have hl:=r.length;have hn:=Zou;have fin:EP X pj σ Q w s:=⟨z,H,I,rw',q⟩
 exact subscriptTail_builtinR (x:=w) pl.typeIs slot_tuple_getitem.lookup
  (getItem_tuple (j:=j) (Q:=fun r s'=>r=w∧EP X pj σ Q r s') pl (by omega) (by omega) (by rw[List.size_toArray,←hl]; exact h1) (by simpa using ew) ⟨rfl,fin⟩) hs
theorem ZDA:IxR X rIxS:=by
 intro value slice pj s σ H x y v u Q I rx ry h hs;obtain⟨z,i,c,rfl,rfl,hz,he,q⟩:=h;obtain⟨t,rfl⟩:=rx;obtain⟨t',rfl⟩:=ry;obtain⟨j,h1,h2,h3,h4,h5⟩:=Zsk he
 have hl:z.cps.toList.length=z.length:=by simp[Str.length]
 rw[hl]at h1 h4 h5;have hn:=Zou
 exact tail_any (typeIs_str s z t) slot_str_getitem.lookup (getItem_str (c:=c) (by
  have e1:decide (i < -(2 ^ 63:Int))=false:=decide_eq_false (by omega);have e2:decide (i ≥ 2 ^ 63)=false:=decide_eq_false (by omega)
  rw[e1,e2,Bool.or_false]) (by rw[h1]; simpa using h2) ⟨.str ⟨#[c]⟩,H,I.tok _,⟨_,rfl⟩,q⟩) hs
def rIx (K:PySem.W.Frag):R2:=fun x y H Q=>rIxL K x y H Q∨rIxT K x y H Q∨rIxS x y H Q
theorem Zam:IxR X (rIx X.K):=ZBo.or (ZDB.or ZDA)
theorem Zvy (its:List Value) (n j:Nat) (u:Value):Obj.mapSeq (·.setIfInBounds j u) { cls:=.type "list",data:=.seq its.toArray n } = { cls:=.type "list",data:=.seq (its.set j u).toArray n }:=by
 simp[Obj.mapSeq]
theorem Inv.lst {pj:List (Addr×Obj)} {σ:St} {H:Hp} {s:Shared} {p:Addr} {xs:List V} (I:Inv X pj σ H s) (h:H p=some (.lst xs)) :
  ∃(its:List Value) (n:Nat),Vals xs its∧s.heap.get? p=some { cls:=.type "list",data:=.seq its.toArray n }∧xs.length≤sizeLine:=by
 obtain⟨z,its,n,r,e⟩:=I.hok p _ h;exact⟨its,n,r,e,z⟩
theorem Inv.lstUpd {pj:List (Addr×Obj)} {σ:St} {H:Hp} {s:Shared} {p:Addr} {xs ys:List V} {its its':List Value} {n n':Nat} {f:Obj→Obj} (I:Inv X pj σ H s) (h:H p=some (.lst xs))
  (ho:s.heap.get? p=some { cls:=.type "list",data:=.seq its.toArray n }) (hf:f { cls:=.type "list",data:=.seq its.toArray n } = { cls:=.type "list",data:=.seq its'.toArray n' }) (r:Vals ys its') (hz:ys.length≤sizeLine) (t:Nat) :
  Inv X pj σ (upd H p (.lst ys)) { s with heap:=s.heap.update p f,toks:=t }:=by
 have e:(s.heap.update p f).get? p=some { cls:=.type "list",data:=.seq its'.toArray n' }:=by
  rw[Heap.get?_update_self f ho (by rw[hf] <;> rfl),hf]
 refine I.write (x:=p) (e:=p) (by rw[h]; trivial) (.inl rfl) (fun b u hb q=>(Heap.get?_update_other _ _ (Ne.symm hb)).trans q) ⟨_,e⟩ ?_;exact⟨hz,its',n',r,e⟩
def ZEo:V→V→V→Hp→(Hp→Prop)→Prop:=fun o i v H Q=>∃p xs k j,o=.ref p∧i=.int k∧H p=some (.lst xs)∧ixN xs.length k=some j∧Q (upd H p (.lst (xs.set j v)))
theorem Zzo:PSet X ZEo:=by
 intro pj s σ H o i v ov iv u Q I ro ri rv h;obtain⟨p,xs,k,j,rfl,rfl,hp,hj,q⟩:=h
 cases ro
 obtain⟨t,rfl⟩:=ri;obtain⟨its,n,r,ho,hz⟩:=I.lst hp;obtain⟨h1,h2,h3,h4⟩:=ZwH hj;have hl:=r.length;have hn:=Zou
 have I':Inv X pj σ (upd H p (.lst (xs.set j v))) { s with heap:=s.heap.update p (Obj.mapSeq (·.setIfInBounds j u)) }:=
  I.lstUpd hp ho (Zvy its n j u) (r.set rv j) (by rw[List.length_set]; exact hz) s.toks
 by_cases h0:0≤k
 ·have hk:k.toNat=j:=by
   rw[seqIndex_of h0 h4]at h1;exact Option.some.inj h1
  exact PySem.W.ki_setAt ho h0 (by omega) (by rw[List.size_toArray,←hl]; exact h4) (by rw[hk]; exact⟨_,I',q⟩)
 ·have hk:(k+(its.toArray.size:Int)).toNat=j:=by
   rw[seqIndex_neg (by omega) h3]at h1;rw[List.size_toArray,←hl];exact Option.some.inj h1
  exact PySem.W.ki_setBack ho (by omega) (by rw[List.size_toArray,←hl]; exact h3) (by omega) (by rw[hk]; exact⟨_,I',q⟩)
theorem ZrP (lo hi:Option Int) (n:Nat):(sliceBounds lo hi none n).1=((HT.sIx n 0 lo:Nat):Int)∧(sliceBounds lo hi none n).2.1=((HT.sIx n n hi:Nat):Int)∧(sliceBounds lo hi none n).2.2=1:=by
 refine⟨?_,?_,rfl⟩
 ·cases lo with
  | none=>simp[sliceBounds,HT.sIx]
  | some i=>
   simp only [sliceBounds,HT.sIx,Option.getD_none,show(1:Int) > 0 by decide,if_true]
   by_cases h:i < 0
   ·simp only [h,if_true] <;> omega
   ·simp only [h,if_false] <;> omega
 ·cases hi with
  | none=>simp[sliceBounds,HT.sIx]
  | some i=>
   simp only [sliceBounds,HT.sIx,Option.getD_none,show(1:Int) > 0 by decide,if_true]
   by_cases h:i < 0
   ·simp only [h,if_true] <;> omega
   ·simp only [h,if_false] <;> omega
theorem ZpT (its:List Value) (lo hi:Option Int):slicePick its.toArray lo hi none=((its.drop (HT.sIx its.length 0 lo)).take (HT.sIx its.length its.length hi - HT.sIx its.length 0 lo)).toArray:=by
 obtain⟨h1,h2,h3⟩:=ZrP lo hi its.toArray.size;unfold slicePick;rw[h1,h2,h3]
 simp only [sliceRange_one,pick_run,List.size_toArray] <;> rfl
def rSlL (K:PySem.W.Frag):V→Option Int→Option Int→Hp→VK→Prop:=fun x lo hi H Q=>∃a xs,x=.ref a∧SqL K H a xs∧∀p,H p=none→Q (.ref p) (upd H p (.lst (cutV xs lo hi)))
theorem ZCf:SlR X (rSlL X.K):=by
 intro pj s σ H x v vl vu lo hi sl Q I rx hs pl pu h;obtain⟨a,xs,rfl,hx,q⟩:=h
 cases rx
 obtain⟨its,r,ht,hz⟩:=I.list hx;have hlen:=r.length;refine⟨"list",_,slot_list_getitem.lookup,ht.isList.typeIs,?_⟩;refine wpAny_getItem_list_slice ht.isList hs pl pu .none (by simp) ?_ (by rw[List.size_toArray] <;> omega);rw[ZpT,←hlen];refine⟨.ref s.heap.objs.size,_,I.laid (t':=s.toks) (o:=.lst (cutV xs lo hi)) (fun b ob q=>Heap.get?_push_of_some _ q) (Nat.le_refl _) ?_,rfl,q _ (I.hok.fresh (Nat.le_refl _))⟩;exact⟨Nat.le_trans (ZmD xs lo hi) hz,_,0,(r.drop (HT.sIx xs.length 0 lo)).take (HT.sIx xs.length xs.length hi - HT.sIx xs.length 0 lo),Heap.get?_push_size _ rfl⟩
def ZqF:V→Bool
 | .non=>true
 | .bl _=>true
 | .int _=>true
 | .str _=>true
 | _=>false
def eqV:V→V→Bool
 | .non,.non=>true
 | .bl a,.bl b=>a == b
 | .bl a,.int b=>(if a then 1 else 0) == b
 | .int a,.bl b=>a == (if b then 1 else 0)
 | .int a,.int b=>a == b
 | .str a,.str b=>a == b
 | _,_=>false
theorem ZCZ {A:Around} {s:Shared} {y x:V} {u v:Value} (ry:RelV y u) (rx:RelV x v) (fy:ZqF y=true) (fx:ZqF x=true):SeqAt.EqAt A s u v (eqV y x):=by
 cases y with
 | non=>
  cases ry
  cases x with
  | non=>cases rx; exact SeqAt.EqAt.same _
  | bl b=>cases rx; exact SeqAt.EqAt.none_bool b
  | int b=>obtain⟨t,rfl⟩:=rx; exact SeqAt.EqAt.none_int b t
  | str b=>obtain⟨t,rfl⟩:=rx; exact SeqAt.EqAt.none_str b t
  | _=>exact absurd (show false=true from fx) Bool.false_ne_true
 | bl a=>
  cases ry
  cases x with
  | non=>cases rx; exact SeqAt.EqAt.bool_none a
  | bl b=>cases rx; exact SeqAt.EqAt.bool_bool a b
  | int b=>obtain⟨t,rfl⟩:=rx; exact SeqAt.EqAt.bool_int a b t
  | str b=>obtain⟨t,rfl⟩:=rx; exact SeqAt.EqAt.bool_str a b t
  | _=>exact absurd (show false=true from fx) Bool.false_ne_true
 | int a=>
  obtain⟨t',rfl⟩:=ry
  cases x with
  | non=>cases rx; exact SeqAt.EqAt.int_none a t'
  | bl b=>cases rx; exact SeqAt.EqAt.int_bool a t' b
  | int b=>obtain⟨t,rfl⟩:=rx; exact SeqAt.EqAt.int_int a t' b t
  | str b=>obtain⟨t,rfl⟩:=rx; exact SeqAt.EqAt.int_str a t' b t
  | _=>exact absurd (show false=true from fx) Bool.false_ne_true
 | str a=>
  obtain⟨t',rfl⟩:=ry
  cases x with
  | non=>cases rx; exact SeqAt.EqAt.str_none a t'
  | bl b=>cases rx; exact SeqAt.EqAt.str_bool a t' b
  | int b=>obtain⟨t,rfl⟩:=rx; exact SeqAt.EqAt.str_int a t' b t
  | str b=>obtain⟨t,rfl⟩:=rx; exact SeqAt.EqAt.str_str a t' b t
  | _=>exact absurd (show false=true from fx) Bool.false_ne_true
 | _=>exact absurd (show false=true from fy) Bool.false_ne_true
def eqU (x:V) (u:Value):Bool:=match u with
 | .none=>eqV .non x
 | .bool b=>eqV (.bl b) x
 | .int i _=>eqV (.int i) x
 | .str z _=>eqV (.str z) x
 | _=>false
theorem ZzP {x y:V} {u:Value} (r:RelV y u) (f:ZqF y=true):eqU x u=eqV y x:=by
 cases y with
 | non=>cases r; rfl
 | bl b=>cases r; rfl
 | int i=>obtain⟨t,rfl⟩:=r; rfl
 | str z=>obtain⟨t,rfl⟩:=r; rfl
 | _=>exact absurd (show false=true from f) Bool.false_ne_true
theorem Zmk {x:V}:∀{xs:List V} {us:List Value},Vals xs us→xs.all ZqF=true→us.any (eqU x)=xs.any fun y=>eqV y x
 | _,_,.nil,_=>rfl
 | y::xs,u::us,.cons r t,f=>by
  rw[List.all_cons,Bool.and_eq_true]at f;rw[List.any_cons,List.any_cons,ZzP r f.1,Zmk t f.2]
theorem Zkg {A:Around} {s:Shared} {x:V} {v:Value} (rx:RelV x v) (fx:ZqF x=true):∀{xs:List V} {us:List Value},Vals xs us→xs.all ZqF=true→∀u∈us,SeqAt.EqAt A s u v (eqU x u)
 | _,_,.nil,_=>fun u hu=>by cases hu
 | y::xs,u::us,.cons r t,f=>fun u' hu=>by
  rw[List.all_cons,Bool.and_eq_true]at f
  rcases List.mem_cons.mp hu with rfl | hu
  ·rw[ZzP r f.1]; exact ZCZ r rx f.1 fx
  ·exact Zkg rx fx t f.2 u' hu
def inV (x:V) (xs:List V):Bool:=xs.any fun y=>eqV y x
def rIn (K:PySem.W.Frag) (neg:Bool):R2:=fun x y H Q=>∃p xs,y=.ref p∧(SqL K H p xs∨SqT K H p xs)∧ZqF x=true∧xs.all ZqF=true∧Q (.bl (if neg then !inV x xs else inV x xs)) H
theorem Zxk:OpR X (compareOp .In) (rIn X.K false):=by
 intro pj s σ H x y v u Q I rx ry h;obtain⟨p,xs,rfl,hq,fx,fs,q⟩:=h
 cases ry
 rcases hq with hq | hq
 ·obtain⟨its,r,pl,hz⟩:=I.list hq
  refine SeqAt.in_listAt (eqU x) pl.isList (fun w hw=>Zkg rx fx r fs w (by simpa using hw)) ⟨.bl _,H,I,rfl,?_⟩;rw[show its.toArray.any (eqU x)=its.any (eqU x) by simp,Zmk r fs];exact q
 ·obtain⟨its,r,pl,hz⟩:=I.tuple hq
  refine SeqAt.in_tupleAt (eqU x) pl (fun w hw=>Zkg rx fx r fs w (by simpa using hw)) ⟨.bl _,H,I,rfl,?_⟩;rw[show its.toArray.any (eqU x)=its.any (eqU x) by simp,Zmk r fs];exact q
theorem ZrA:OpR X (compareOp .NotIn) (rIn X.K true):=by
 intro pj s σ H x y v u Q I rx ry h;obtain⟨p,xs,rfl,hq,fx,fs,q⟩:=h
 cases ry
 rcases hq with hq | hq
 ·obtain⟨its,r,pl,hz⟩:=I.list hq
  refine SeqAt.notIn_listAt (eqU x) pl.isList (fun w hw=>Zkg rx fx r fs w (by simpa using hw)) ⟨.bl _,H,I,rfl,?_⟩;rw[show its.toArray.any (eqU x)=its.any (eqU x) by simp,Zmk r fs];exact q
 ·obtain⟨its,r,pl,hz⟩:=I.tuple hq
  refine SeqAt.notIn_tupleAt (eqU x) pl (fun w hw=>Zkg rx fx r fs w (by simpa using hw)) ⟨.bl _,H,I,rfl,?_⟩;rw[show its.toArray.any (eqU x)=its.any (eqU x) by simp,Zmk r fs];exact q
theorem Zqw:ZhL X (.type "list") (fun xs H Q=>∃p ys,xs=[.ref p]∧(SqL X.K H p ys∨SqT X.K H p ys)∧∀l,H l=none→Q (.ref l) (upd H l (.lst ys))):=by
 intro pj s σ H xs us Q I r h;obtain⟨p,ys,rfl,hq,q⟩:=h;obtain⟨u,rfl,rx⟩:=ZrX r
 cases rx
 have fin:∀(its:List Value),Vals ys its→ys.length≤sizeLine→∀(h':Heap) (c':Nat),(∀b o',s.heap.get? b=some o'→h'.get? b=some o')→
   h'.get? s.heap.objs.size=some { cls:=.type "list",dict:=none,data:=.seq its.toArray c',slots:=#[] }→EP X pj σ Q (.ref s.heap.objs.size) { s with heap:=h' }:=fun its r' hz h' c' kp e=>
  ⟨.ref s.heap.objs.size,_,I.laid (t':=s.toks) kp (Nat.le_refl _) (show Zc7 X.prog X.w _ h' _ (.lst ys) from⟨hz,its,c',r',e⟩),rfl,q _ (I.hok.fresh (Nat.le_refl _))⟩
 rcases hq with hq | hq
 ·obtain⟨its,r',pl,hz⟩:=I.list hq
  have hlen:=r'.length;obtain⟨o,ho,hc,n,hd⟩:=pl.isList;exact call_list_seq p (.inl rfl) ho hc hd (fun h' c' kp e=>fin its r' hz h' c' kp e) (by simp only [List.size_toArray] <;> omega)
 ·obtain⟨its,r',pl,hz⟩:=I.tuple hq
  have hlen:=r'.length;obtain⟨o,ho,hc,n,hd⟩:=pl;exact call_list_seq p (.inr rfl) ho hc hd (fun h' c' kp e=>fin its r' hz h' c' kp e) (by simp only [List.size_toArray] <;> omega)
theorem ZoX:ZhL X (.type "tuple") (fun xs H Q=>∃p ys,xs=[.ref p]∧((SqL X.K H p ys∧∀l,H l=none→Q (.ref l) (upd H l (.tup ys)))∨(SqT X.K H p ys∧Q (.ref p) H))):=by
 intro pj s σ H xs us Q I r h;obtain⟨p,ys,rfl,h⟩:=h;obtain⟨u,rfl,rx⟩:=ZrX r
 cases rx
 rcases h with⟨hq,q⟩ | ⟨hq,q⟩
 ·obtain⟨its,r',pl,hz⟩:=I.list hq
  have hlen:=r'.length;refine call_tuple_list pl.isList (fun h' kp=>?_) (by simp only [List.size_toArray] <;> omega);have I1:Inv X pj σ H { s with heap:=h' }:=I.kept (t':=s.toks) kp
  have I2:Inv X pj σ (upd H h'.objs.size (.tup ys)) { s with heap:=h'.push { cls:=.type "tuple",data:=.seq its.toArray } }:=
   I1.laid (t':=s.toks) (fun b o e=>Heap.get?_push_of_some _ e) (Nat.le_refl _) (show Zc7 X.prog X.w _ _ _ (.tup ys) from⟨hz,its,r',IsTup.new _ _⟩)
  exact⟨.ref h'.objs.size,_,I2,rfl,q _ (I1.hok.fresh (Nat.le_refl _))⟩
 ·obtain⟨its,r',pl,hz⟩:=I.tuple hq
  exact call_tuple_same pl ⟨.ref p,H,I,rfl,q⟩
def tyV (K:PySem.W.Frag) (T:String) (x:V) (H:Hp):Prop:=match x with
 | .str _=>T = "str"
 | .int _=>T = "int"
 | .ref p=>(T = "list"∧∃xs,SqL K H p xs)∨(T = "tuple"∧∃o,K.lookup p=some o∧o.cls=.type "tuple"∧o.dict=none)∨
   (T = "dict"∧((∃kvs,H p=some (.dK kvs))∨∃kvs,H p=some (.dT kvs)))∨(T = "set"∧∃S n,H p=some (.set S n))
 | _=>False
theorem Zx7 {pj:List (Addr×Obj)} {σ:St} {H:Hp} {s:Shared} {T:String} {x:V} {v:Value} (I:Inv X pj σ H s) (r:RelV x v) (ty:tyV X.K T x H) :
  s.TypeIs v T∧∀a,v=.ref a→∃ob,s.heap.get? a=some ob∧ob.dict=none:=by
 cases x with
 | str z=>
  obtain⟨t,rfl⟩:=r
  cases (show T = "str" from ty)
  exact⟨typeIs_str s z t,fun _ e=>nomatch e⟩
 | int i=>
  obtain⟨t,rfl⟩:=r
  cases (show T = "int" from ty)
  exact⟨typeIs_int s i t,fun _ e=>nomatch e⟩
 | ref p=>
  cases r
  rcases ty with⟨rfl,xs,hq⟩ | ⟨rfl,o,hk,hc,hd⟩ | ⟨rfl,hk⟩ | ⟨rfl,S,n,hk⟩
  ·obtain⟨its,_,pl,_⟩:=I.list hq
   refine⟨pl.isList.typeIs,fun a e=>?_⟩
   cases e
   obtain⟨o,n,e,c,hd,_⟩:=pl;exact⟨o,e,hd⟩
  ·refine⟨⟨o,I.kIn p o hk,hc⟩,fun a e=>?_⟩
   cases e
   exact⟨o,I.kIn _ o hk,hd⟩
  ·have z:∃o,s.heap.get? p=some o∧o.ExactDict:=by
    rcases hk with⟨kvs,hk⟩ | ⟨kvs,hk⟩
    ·obtain⟨_,_,_,_,o,_,_,e,ex,_⟩:=I.hok p _ hk
     exact⟨o,e,ex⟩
    ·obtain⟨_,_,_,_,o,_,_,e,ex,_⟩:=I.hok p _ hk
     exact⟨o,e,ex⟩
   obtain⟨o,e,ex⟩:=z;refine⟨⟨o,e,ex.1⟩,fun a e2=>?_⟩
   cases e2
   exact⟨o,e,ex.2.1⟩
  ·obtain⟨o,_,_,_,e,ex,_⟩:=I.hok p _ hk
   refine⟨⟨o,e,ex.1⟩,fun a e2=>?_⟩
   cases e2
   exact⟨o,e,ex.2.1⟩
 | _=>exact False.elim ty
abbrev tBM0 (K:PySem.W.Frag) (T:String) (r:V→List V→Hp→VK→Prop) (to:TE):TE:=fun σ H Q=>to σ H fun x H1=>tyV K T x H1∧r x [] H1 Q
abbrev tBM (K:PySem.W.Frag) (T:String) (r:V→List V→Hp→VK→Prop) (to:TE) (t:TA):TE:=fun σ H Q=>to σ H fun x H1=>tyV K T x H1∧t σ H1 fun xs H2=>r x xs H2 Q
variable {o e:Expr} {es:List Expr} {to:TE} {t:TA} {name:Str} {apos cpos:Pos} {T id:String} {r:V→List V→Hp→VK→Prop}
theorem Zxp (pa:PlainAttrs T) (slot:Slot T name id) (hty:typeOf (.builtin id)=pure (.type "method_descriptor")) (hm:MtR X id r) (ho:PE X o to)
  (hbase:attributeBase o name X.env (eval o X.env)=eval o X.env:=by rfl) (hline:(apos.endLine == cpos.line)=true:=by rfl):PE X (.Call (.Attribute o name apos) [] [] cpos) (tBM0 X.K T r to):=by
 intro pj s σ H Q I h;refine wpAny_Call_method0_late hbase hline (thn (ho pj s σ H _ I h) fun v s1 ⟨x,H1,I1,r1,ty,q1⟩=>?_);obtain⟨h1,h2⟩:=Zx7 I1 r1 ty;exact⟨T,id,pa,slot,hty,h1,h2,Calls.callWith_builtin rfl (PySem.evalArgs_none (hm pj s1 σ H1 x [] v [] Q I1 r1 .nil q1))⟩
theorem ZcB (pa:PlainAttrs T) (slot:Slot T name id) (hty:typeOf (.builtin id)=pure (.type "method_descriptor")) (hm:MtR X id r) (ho:PE X o to) (ha:PA X (e::es) t)
  (hbase:attributeBase o name X.env (eval o X.env)=eval o X.env:=by rfl)
  (hfew:((backTo cpos (starEach (e::es) X.env)).all (fun x=>!x.1) && (backToKw cpos (keywordEach [] X.env)).all (fun x=>x.1.isSome)
   && decide ((e::es).length+([]:List Keyword).length+(if ([]:List Keyword).isEmpty then 0 else 1) < 30))=true:=by rfl)
  (hline:(apos.endLine == cpos.line)=true:=by rfl) (hs:starEach (e::es) X.env=(false,eval e X.env)::starEach es X.env:=by rfl) (hplain:(backTo cpos (starEach es X.env)).any (·.1)=false:=by rfl) :
  PE X (.Call (.Attribute o name apos) (e::es) [] cpos) (tBM X.K T r to t):=by
 intro pj s σ H Q I h;refine wpAny_Call_method_late hbase hfew hline rfl (thn (ho pj s σ H _ I h) fun v s1 ⟨x,H1,I1,r1,ty,q1⟩=>?_);obtain⟨h1,h2⟩:=Zx7 I1 r1 ty;refine⟨T,id,pa,slot,hty,h1,h2,?_⟩;have hA:=ha cpos pj s1 σ H1 _ I1 q1;rw[hs]at hA ⊢;refine Calls.callWith_builtin (by show(false || (backTo cpos (starEach es X.env)).any (·.1))=false; rw[hplain] <;> rfl) (Calls.evalArgs_plain ?_);exact thn hA fun us s2 ⟨vs,H2,I2,r2,q2⟩=>hm pj s2 σ H2 x vs v us Q I2 r1 r2 q2
end
end L2
namespace L2
open PySem PySem.Spec PyProof.Rows
def MtM (X:Cx) (id:String) (r:V→List V→Hp→VK→Prop):Prop:=
 ∀(pj:List (Addr×Obj)) (s:Shared) (σ:St) (H:Hp) (x:V) (xs:List V) (v:Value) (us:List Value) (Q:VK),Inv X pj σ H s→RelV x v→Vals xs us→r x xs H Q→
  wpAny (model X.prog X.w) X.A (call (.builtin id) (v::us)) (EP X pj σ Q) X.xe s
theorem Vals.one:∀{x:V} {us:List Value},Vals [x] us→∃u,us=[u]∧RelV x u
 | _,_,.cons r .nil=>⟨_,rfl,r⟩
theorem Vals.zero:∀{us:List Value},Vals [] us→us=[]
 | _,.nil=>rfl
theorem Vals.dropLast {xs:List V} {us:List Value} (h:Vals xs us):Vals xs.dropLast us.dropLast:=by
 induction h with
 | nil=>exact .nil
 | cons r t ih=>
  cases t with
  | nil=>exact .nil
  | cons q t'=>exact .cons r ih
theorem Vals.eraseIdx:∀{xs:List V} {us:List Value} (i:Nat),Vals xs us→Vals (xs.eraseIdx i) (us.eraseIdx i)
 | _,_,_,.nil=>.nil
 | _,_,0,.cons _ t=>t
 | _,_,i+1,.cons r t=>.cons r (Vals.eraseIdx i t)
theorem Zu5 {α:Type} (l:List α):l.eraseIdx (l.length - 1)=l.dropLast:=by
 induction l with
 | nil=>rfl
 | cons a r ih=>
  cases r with
  | nil=>rfl
  | cons b r=>
   have e:(a::b::r).length - 1=((b::r).length - 1)+1:=by
    have h1:(a::b::r).length=r.length+2:=rfl;have h2:(b::r).length=r.length+1:=rfl;omega
   rw[e,List.eraseIdx_cons_succ,ih]
   all_goals rfl
theorem Zrk {α:Type}:∀(l:List α) (i:Nat),(l.eraseIdx i).length≤l.length
 | [],_=>Nat.le_refl _
 | _::_,0=>Nat.le_succ _
 | _::r,i+1=>Nat.succ_le_succ (Zrk r i)
section
variable {X:Cx} {pj:List (Addr×Obj)} {σ:St} {H:Hp} {s:Shared} {l b:Addr} {xs ys zs:List V}
theorem Inv.lset {its its':List Value} {n:Nat} {f:Array Value→Array Value} {t':Nat} (I:Inv X pj σ H s) (hH:H l=some (.lst xs))
  (e:s.heap.get? l=some { cls:=.type "list",data:=.seq its.toArray n }) (hf:f its.toArray=its'.toArray) (hv:Vals ys its') (hz:ys.length≤sizeLine) :
  Inv X pj σ (upd H l (.lst ys)) { s with heap:=s.heap.update l (Obj.mapSeq f),toks:=t' }:=by
 have q:=PySem.IsL.update e f;rw[hf]at q;refine I.write (x:=l) (e:=l) (by rw[hH]; exact trivial) (.inl rfl) (fun b' u hb hu=>(Heap.get?_update_other s.heap (Obj.mapSeq f) (Ne.symm hb)).trans hu) ⟨_,q⟩ ?_;exact⟨hz,its',_,hv,q⟩
theorem Inv.lnew {its:List Value} {t':Nat} (I:Inv X pj σ H s) (hv:Vals ys its) (hz:ys.length≤sizeLine) :
  Inv X pj σ (upd H s.heap.objs.size (.lst ys)) { s with heap:=s.heap.push { cls:=.type "list",data:=.seq its.toArray },toks:=t' }:=
 I.laid (fun _ _ q=>Heap.get?_push_of_some _ q) (Nat.le_refl _) ⟨hz,its,0,hv,Heap.get?_push_size _ rfl⟩
theorem Inv.fresh (I:Inv X pj σ H s):H s.heap.objs.size=none:=I.hok.fresh (Nat.le_refl _)
theorem Inv.lstM (I:Inv X pj σ H s) (hH:H l=some (.lst xs)):xs.length≤sizeLine∧∃(its:List Value) (n:Nat),Vals xs its∧xs.length=its.length∧s.heap.get? l=some { cls:=.type "list",data:=.seq its.toArray n }:=by
 obtain⟨z,its,n,r,e⟩:=I.hok l _ hH;exact⟨z,its,n,r,r.length,e⟩
end
section
variable {X:Cx}
def ZpH:V→List V→Hp→VK→Prop:=fun x vs H Q=>∃l xs y,x=.ref l∧vs=[y]∧H l=some (.lst xs)∧xs.length < sizeLine∧Q .non (upd H l (.lst (xs++[y])))
theorem ZaK:MtM X "list.append" ZpH:=by
 intro pj s σ H x vs v us Q I rx rv h;obtain⟨l,xs,y,rfl,rfl,hH,hz,q⟩:=h
 cases rx
 obtain⟨u,rfl,ru⟩:=rv.one;obtain⟨z,its,n,r,hl,e⟩:=I.lstM hH;refine call_meets F.slot_list_append ⟨_,e,rfl⟩ F.entry_list_append (F.args_list_append_2 _ _) (PySem.list_append l its.toArray n u (by rw[List.size_toArray]; omega)) ⟨e,?_⟩;refine⟨.non,_,I.lset (its':=its++[u]) hH e (by simp) (r.append (.cons ru .nil)) ?_,rfl,q⟩;rw[List.length_append,List.length_singleton];omega
def rPop:V→List V→Hp→VK→Prop:=fun x vs H Q=>∃l xs y,x=.ref l∧vs=[]∧H l=some (.lst xs)∧xs[xs.length - 1]?=some y∧Q y (upd H l (.lst xs.dropLast))
theorem ZDQ:MtM X "list.pop" rPop:=by
 intro pj s σ H x vs v us Q I rx rv h;obtain⟨l,xs,y,rfl,rfl,hH,hy,q⟩:=h
 cases rx
 have hus:=rv.zero;subst hus;obtain⟨z,its,n,r,hl,e⟩:=I.lstM hH;obtain⟨u,hu,ru⟩:=r.get hy
 have hy':its.toArray[its.toArray.size - 1]?=some u:=by
  show its.toArray[its.length - 1]?=some u;rw[←Array.getElem?_toList,←hl];exact hu
 refine call_meets F.slot_list_pop ⟨_,e,rfl⟩ F.entry_list_pop (F.args_list_pop_1 _) (MeetsSeq.list_pop_last l its.toArray n u hy' (by rw[List.size_toArray]; omega)) ⟨e,?_⟩;refine⟨y,_,I.lset (its':=its.dropLast) hH e ?_ r.dropLast ?_,ru,q⟩
 ·show its.toArray.eraseIdxIfInBounds (its.toArray.size - 1)=its.dropLast.toArray
  rw[List.size_toArray,List.eraseIdxIfInBounds_toArray,Zu5]
 ·rw[List.length_dropLast]
  omega
def ZAA:V→List V→Hp→VK→Prop:=fun x vs H Q=>∃l xs i k y,x=.ref l∧vs=[.int i]∧H l=some (.lst xs)∧-(2 ^ 63)≤i∧i < 2 ^ 63∧seqIndex? i xs.length=some k∧xs[k]?=some y∧Q y (upd H l (.lst (xs.eraseIdx k)))
theorem Zuc:MtM X "list.pop" ZAA:=by
 intro pj s σ H x vs v us Q I rx rv h;obtain⟨l,xs,i,k,y,rfl,rfl,hH,h1,h2,hk,hy,q⟩:=h
 cases rx
 obtain⟨u,rfl,ru⟩:=rv.one;obtain⟨t,rfl⟩:=ru;obtain⟨z,its,n,r,hl,e⟩:=I.lstM hH;obtain⟨w,hw,rw'⟩:=r.get hy
 refine call_meets F.slot_list_pop ⟨_,e,rfl⟩ F.entry_list_pop (F.args_list_pop_2 _ _)
  (MeetsSeq.list_pop_at l its.toArray n i t k w (fitsIndex_both h1 h2) (by rw[List.size_toArray,←hl]; exact hk) (by rw[←Array.getElem?_toList]; exact hw) (by rw[List.size_toArray]; omega)) ⟨e,?_⟩
 refine⟨y,_,I.lset (its':=its.eraseIdx k) hH e ?_ (r.eraseIdx k) ?_,rw',q⟩
 ·show its.toArray.eraseIdxIfInBounds k=(its.eraseIdx k).toArray
  rw[List.eraseIdxIfInBounds_toArray]
 ·have:=Zrk xs k
  omega
def ZxB:V→List V→Hp→VK→Prop:=fun x vs H Q=>∃l xs,x=.ref l∧vs=[]∧H l=some (.lst xs)∧Q .non (upd H l (.lst []))
theorem ZyW:MtM X "list.clear" ZxB:=by
 intro pj s σ H x vs v us Q I rx rv h;obtain⟨l,xs,rfl,rfl,hH,q⟩:=h
 cases rx
 have hus:=rv.zero;subst hus;obtain⟨z,its,n,r,hl,e⟩:=I.lstM hH;refine call_meets F.slot_list_clear ⟨_,e,rfl⟩ F.entry_list_clear (F.args_list_clear_1 _) (AutoSeq1.list_clear_list_0 l its.toArray n (by rw[List.size_toArray]; omega)) ⟨e,?_⟩;exact⟨.non,_,I.lset (its':=[]) (ys:=[]) hH e rfl .nil (Nat.zero_le _),rfl,q⟩
def rCat:R2:=fun x y H Q=>∃l b xs zs,x=.ref l∧y=.ref b∧H l=some (.lst xs)∧H b=some (.lst zs)∧xs.length+zs.length≤sizeLine∧∀p,H p=none→Q (.ref p) (upd H p (.lst (xs++zs)))
theorem ZDY:OpR X (binaryOp .Add) rCat:=by
 intro pj s σ H x y v u Q I rx ry h;obtain⟨l,b,xs,zs,rfl,rfl,hH,hB,hz,q⟩:=h
 cases rx
 cases ry
 obtain⟨z,its,n,r,hl,e⟩:=I.lstM hH;obtain⟨z2,its2,n2,r2,hl2,e2⟩:=I.lstM hB;refine PySem.P.add_list e e2 ?_ (by rw[List.size_toArray,List.size_toArray]; omega)
 have ea:its.toArray++its2.toArray=(its++its2).toArray:=by simp
 rw[ea];exact⟨.ref _,_,I.lnew (t':=s.toks) (r.append r2) (by rw[List.length_append]; omega),rfl,q _ I.fresh⟩
end
section
variable {prog:Program} {w:World} {A:Around} {E:Value→Shared→Prop} {s:Shared}
end
section
variable {X:Cx}
end
end L2
namespace L2
open PySem PySem.Spec PyProof.Rows
section
variable {κ:Type} [DecidableEq κ]
def valV (kvs:List (κ×V)) (k:κ):Option V:=(kvs.find? fun kv=>decide (kv.1=k)).map (·.2)
def putK (kvs:List (κ×V)) (k:κ) (v:V):List (κ×V):=
 if (kvs.any fun kv=>decide (kv.1=k))=true then kvs.map (fun kv=>if kv.1=k then(kv.1,v) else kv) else kvs++[(k,v)]
theorem ZpY {p:κ×V} {r:List (κ×V)} {k:κ} (e:p.1=k):valV (p::r) k=some p.2:=by simp[valV,List.find?_cons,e]
theorem ZpX {p:κ×V} {r:List (κ×V)} {k:κ} (e : ¬p.1=k):valV (p::r) k=valV r k:=by simp[valV,List.find?_cons,e]
theorem ZuD (k:κ):∀kvs:List (κ×V),(kvs.any fun kv=>decide (kv.1=k))=(valV kvs k).isSome
 | []=>rfl
 | p::r=>by
  rw[List.any_cons]
  by_cases e:p.1=k
  ·simp only [ZpY e,decide_eq_true e,Bool.true_or,Option.isSome_some]
  ·rw[ZpX e,decide_eq_false e,Bool.false_or]; exact ZuD k r
theorem Zjs (kvs:List (κ×V)) (k:κ) (v:V):(putK kvs k v).length≤kvs.length+1:=by
 unfold putK
 split
 ·rw[List.length_map]; omega
 ·rw[List.length_append,List.length_cons,List.length_nil]; omega
theorem RelO.isSome_eq {o:Option V} {u:Option Value} (r:RelO o u):o.isSome=u.isSome:=by
 cases o with
 | none=>cases u with
  | none=>rfl
  | some _=>exact(show False from r).elim
 | some _=>cases u with
  | none=>exact(show False from r).elim
  | some _=>rfl
theorem RelO.getD {o:Option V} {u:Option Value} {d:V} {d':Value} (r:RelO o u) (rd:RelV d d'):RelV (o.getD d) (u.getD d'):=by
 cases o with
 | none=>cases u with
  | none=>exact rd
  | some _=>exact(show False from r).elim
 | some _=>cases u with
  | none=>exact(show False from r).elim
  | some _=>exact r
theorem KV.val {kvs:List (κ×V)} {vs:List (κ×Value)} (r:KV kvs vs) (k:κ):RelO (valV kvs k) (valueAt vs k):=by
 unfold KV at r
 induction r with
 | nil=>exact True.intro
 | @cons p q ps qs h t ih=>
  obtain⟨h1,h2⟩:=h
  by_cases e:p.1=k
  ·have e':q.1=k:=h1.symm.trans e
   have b:valueAt (q::qs) k=some q.2:=by simp[valueAt,List.find?_cons,e']
   rw[ZpY e,b]; exact h2
  ·have e' : ¬q.1=k:=fun z=>e (h1.trans z)
   have b:valueAt (q::qs) k=valueAt qs k:=by simp[valueAt,List.find?_cons,e']
   rw[ZpX e,b]; exact ih
theorem KV.any {kvs:List (κ×V)} {vs:List (κ×Value)} (r:KV kvs vs) (k:κ):(kvs.any fun kv=>decide (kv.1=k))=vs.any fun kv=>decide (kv.1=k):=by
 unfold KV at r
 induction r with
 | nil=>rfl
 | cons h t ih=>rw[List.any_cons,List.any_cons,ih,h.1]
theorem KV.repl {kvs:List (κ×V)} {vs:List (κ×Value)} (r:KV kvs vs) (k:κ) {y:V} {u:Value} (ry:RelV y u) :
  KV (kvs.map fun kv=>if kv.1=k then(kv.1,y) else kv) (vs.map fun kv=>if kv.1=k then(kv.1,u) else kv):=by
 unfold KV at r ⊢
 induction r with
 | nil=>exact .nil
 | @cons p q ps qs h t ih=>
  rw[List.map_cons,List.map_cons];refine .cons ?_ ih;obtain⟨h1,h2⟩:=h
  by_cases e:p.1=k
  ·rw[if_pos e,if_pos (h1.symm.trans e)]; exact⟨h1,ry⟩
  ·rw[if_neg e,if_neg (fun z=>e (h1.trans z))]; exact⟨h1,h2⟩
theorem KV.put {kvs:List (κ×V)} {vs:List (κ×Value)} (r:KV kvs vs) (k:κ) {y:V} {u:Value} (ry:RelV y u):KV (putK kvs k y) (stored vs k u):=by
 unfold putK stored;rw[r.any k]
 by_cases e:(vs.any fun kv=>decide (kv.1=k))=true
 ·rw[if_pos e,if_pos e]; exact r.repl k ry
 ·rw[if_neg e,if_neg e]; exact Paired.snoc r ⟨rfl,ry⟩
theorem KV.length {kvs:List (κ×V)} {vs:List (κ×Value)} (r:KV kvs vs):kvs.length=vs.length:=Paired.length r
end
theorem ZwM {P:Program} {w:World} {k:Key} {u:Value} (r:RelV (kV k) u):(Zcl P w).is k u=true:=by
 cases k with
 | inl i=>obtain⟨t,e⟩:=(show ∃t,u=Value.int i t from r); subst e; exact Zs4 P w i t
 | inr x=>obtain⟨t,e⟩:=(show ∃t,u=Value.str x t from r); subst e; exact Zs5 P w x t
theorem ZqY {P:Program} {w:World}:∀{ks:List Key} {us:List Value},Vals (ks.map kV) us→ItemsAre (Zcl P w) ks us
 | [],_,r=>by rw[List.map_nil]at r; cases r; exact .nil
 | k::ks,_,r=>by
  rw[List.map_cons]at r
  cases r with
  | cons h t=>exact .cons (ZwM h) (ZqY t)
abbrev KT (H:Hp):List (List Key×V)→List (List Key×Addr×Value)→Prop:=Paired fun p q=>p.1=q.1∧H q.2.1=some (.tup (p.1.map kV))∧RelV p.2 q.2.2
theorem KT.val {H:Hp} {kvs:List (List Key×V)} {xs:List (List Key×Addr×Value)} (r:KT H kvs xs) (k:List Key):RelO (valV kvs k) ((atKey xs k).map (·.2)):=by
 induction r with
 | nil=>exact True.intro
 | @cons p q ps qs h t ih=>
  obtain⟨h1,_,h2⟩:=h
  by_cases e:p.1=k
  ·have e':q.1=k:=h1.symm.trans e
   have b:atKey (q::qs) k=some q.2:=by simp[atKey,List.find?_cons,e']
   rw[ZpY e,b]; exact h2
  ·have e' : ¬q.1=k:=fun z=>e (h1.trans z)
   have b:atKey (q::qs) k=atKey qs k:=by simp[atKey,List.find?_cons,e']
   rw[ZpX e,b]; exact ih
theorem KT.repl {H:Hp} {kvs:List (List Key×V)} {xs:List (List Key×Addr×Value)} (r:KT H kvs xs) (k:List Key) {y:V} {u:Value} (ry:RelV y u) :
  KT H (kvs.map fun kv=>if kv.1=k then(kv.1,y) else kv) (xs.map (putAt k u)):=by
 induction r with
 | nil=>exact .nil
 | @cons p q ps qs h t ih=>
  rw[List.map_cons,List.map_cons];refine .cons ?_ ih;obtain⟨h1,h2,h3⟩:=h;unfold putAt
  by_cases e:p.1=k
  ·rw[if_pos e,if_pos (h1.symm.trans e)]; exact⟨h1,h2,ry⟩
  ·rw[if_neg e,if_neg (fun z=>e (h1.trans z))]; exact⟨h1,h2,h3⟩
theorem KT.put {H:Hp} {kvs:List (List Key×V)} {xs:List (List Key×Addr×Value)} (r:KT H kvs xs) (k:List Key) {b:Addr} {y:V} {u:Value} (hb:H b=some (.tup (k.map kV))) (ry:RelV y u) :
  KT H (putK kvs k y) (storedH xs k b u):=by
 have e:(kvs.any fun kv=>decide (kv.1=k))=(atKey xs k).isSome:=by
  rw[ZuD,(r.val k).isSome_eq,Option.isSome_map]
 unfold putK storedH;rw[e]
 by_cases q:(atKey xs k).isSome=true
 ·rw[if_pos q,if_pos q]; exact r.repl k ry
 ·rw[if_neg q,if_neg q]; exact Paired.snoc r ⟨rfl,hb,ry⟩
theorem KT.keeps {H H':Hp} {kvs:List (List Key×V)} {xs:List (List Key×Addr×Value)} (r:KT H kvs xs) (ht:∀b ys,H b=some (.tup ys)→H' b=some (.tup ys)):KT H' kvs xs:=
 Paired.mapP r fun _ _ z=>⟨z.1,ht _ _ z.2.1,z.2.2⟩
section
variable {P:Program} {w:World} {H:Hp} {h:Heap} {a:Addr}
theorem ZEq {u:HO} (ok:HOk P w H h) (e:Rd H a u):Zc7 P w H h a u:=e.ok ok
theorem Zwo {kvs:List (Key×V)} (ok:HOk P w H h) (e:Rd H a (.dK kvs)):kvs.length≤sizeLine∧(a == sysModules)=false∧∃vs,KV kvs vs∧h.DictOf (Zcl P w) a vs:=
 show Zc7 P w H h a (.dK kvs) from ZEq ok e
theorem ZCX {kvs:List (Key×V)} (ok:HOk P w H h) (e:H a=some (.dK kvs)):kvs.length≤sizeLine∧(a == sysModules)=false∧∃vs,KV kvs vs∧h.DictOf (Zcl P w) a vs:=Zwo ok (.inl e)
theorem Zt3 {ks:List Key} (ok:HOk P w H h) (e:H a=some (.tup (ks.map kV))):(tupleKind (Zcl P w)).is h ks a:=by
 obtain⟨_,its,r,o,h1,h2,n,h3⟩:=(show Zc7 P w H h a (.tup (ks.map kV)) from ok a _ e);exact⟨o,its.toArray,n,h1,h2,h3,by simpa using ZqY r⟩
theorem Zwp {kvs:List (List Key×V)} (ok:HOk P w H h) (e:Rd H a (.dT kvs)):kvs.length≤sizeLine∧(a == sysModules)=false∧
  ∃xs,KT H kvs xs∧h.DictOfH (tupleKind (Zcl P w)) a xs:=by
 obtain⟨z,y,xs,r,o,es,ep,h1,h2,h3,h4,h5⟩:=(show Zc7 P w H h a (.dT kvs) from ZEq ok e);refine⟨z,y,xs,r,o,es,ep,h1,h2,h3,h4,fun x hx=>?_,h5⟩
 have all:∀{l:List (List Key×V)} {m:List (List Key×Addr×Value)},KT H l m→∀x∈m,(tupleKind (Zcl P w)).is h x.1 x.2.1:=by
  intro l m q
  induction q with
  | nil=>intro x hx; exact nomatch hx
  | @cons p q ps qs hq t ih=>
   intro x hx
   rcases List.mem_cons.mp hx with e | hx
   ·subst e
    exact Zt3 ok (by rw[←hq.1]; exact hq.2.1)
   ·exact ih x hx
 exact all r x hx
theorem ZE9 {kvs:List (List Key×V)} (ok:HOk P w H h) (e:H a=some (.dT kvs)):kvs.length≤sizeLine∧(a == sysModules)=false∧
  ∃xs,KT H kvs xs∧h.DictOfH (tupleKind (Zcl P w)) a xs:=Zwp ok (.inl e)
end
def DGet (H:Hp) (a:Addr) (y:V) (r:Option V):Prop:=
 (∃kvs k,Rd H a (.dK kvs)∧y=kV k∧r=valV kvs k)∨∃kvs k b,Rd H a (.dT kvs)∧y=.ref b∧H b=some (.tup (k.map kV))∧r=valV kvs k
def DPut (H:Hp) (a:Addr) (y v:V) (H':Hp):Prop:=
 (∃kvs k,H a=some (.dK kvs)∧y=kV k∧kvs.length < sizeLine∧H'=upd H a (.dK (putK kvs k v)))∨
 ∃kvs k b,H a=some (.dT kvs)∧y=.ref b∧H b=some (.tup (k.map kV))∧kvs.length < sizeLine∧H'=upd H a (.dT (putK kvs k v))
theorem DGet.k {H:Hp} {a:Addr} {kvs:List (Key×V)} {k:Key} (e:H a=some (.dK kvs)):DGet H a (kV k) (valV kvs k):=.inl ⟨kvs,k,.inl e,rfl,rfl⟩
theorem DPut.k {H:Hp} {a:Addr} {kvs:List (Key×V)} {k:Key} {v:V} (e:H a=some (.dK kvs)) (hl:kvs.length < sizeLine):DPut H a (kV k) v (upd H a (.dK (putK kvs k v))):=.inl ⟨kvs,k,e,rfl,hl,rfl⟩
section
variable {X:Cx} {pj:List (Addr×Obj)} {σ:St} {H:Hp} {s:Shared} {a:Addr} {y v:V} {u r:Value} {o:Option V} {A:Around} {E:Value→Shared→Prop}
theorem Inv.big (I:Inv X pj σ H s):sysModules < s.heap.objs.size:=by
 have h:mainGlobals < s.heap.objs.size:=(I.mod.glob.keeps I.bk).lt;exact Nat.lt_trans (by decide) h
theorem Zwi {Q:Value→Shared→Prop} (hu:A.units+1 < cLine) (I:Inv X pj σ H s) (g:DGet H a y (some v)) (ry:RelV y u) (h:∀w' s',Inv X pj σ H s'→RelV v w'→Q w' s') :
  wpAny (model X.prog X.w) A (getItem (.ref a) u) Q E s:=by
 rcases g with⟨kvs,k,e,ey,l⟩ | ⟨kvs,k,b,e,ey,eb,l⟩
 ·subst ey
  obtain⟨z,hd,vs,rel,dd⟩:=Zwo I.hok e;obtain⟨w',hw,rw'⟩:=RelO.some_of (v:=v) (o:=valueAt vs k) (by rw[l]; exact rel.val k);exact wpAny_getItem_of (ZwM ry) dd.mapOf hw (h w' _ (I.tok _) rw')
 ·subst ey
  cases (show u=Value.ref b from ry)
  obtain⟨z,hd,xs,rel,dd⟩:=Zwp I.hok e;obtain⟨w',hw,rw'⟩:=RelO.some_of (v:=v) (o:=(atKey xs k).map (·.2)) (by rw[l]; exact rel.val k);obtain⟨p,hp,hp2⟩:=Option.map_eq_some_iff.mp hw;refine wpAny_getItem_heap (tupleKind_room_in1 hu) (Zt3 I.hok eb) dd hp ?_;rw[hp2];exact h w' _ (I.tok _) rw'
theorem Zso {h':Heap} {t':Nat} {ob:HO} (I:Inv X pj σ H s) (mu:Mut (H a)) (hs:Heap.SameBut a s.heap h') (he:∃q,h'.get? a=some q) (new:Zc7 X.prog X.w (upd H a ob) h' a ob) :
  Inv X pj σ (upd H a ob) { s with heap:=h',toks:=t' }:=
 I.write (x:=a) (e:=a) mu (.inl rfl) (fun b q hb z=>(hs.2 b hb).trans z) he new
theorem ZzO {P:Program} {w:World} {H':Hp} {h':Heap} {kvs:List (Key×V)} {vs:List (Key×Value)} (z:kvs.length≤sizeLine) (hd:(a == sysModules)=false) (rel:KV kvs vs) (dd:h'.DictOf (Zcl P w) a vs) :
  Zc7 P w H' h' a (.dK kvs):=⟨z,hd,vs,rel,dd⟩
theorem Zwj {H':Hp} {Q:Unit→Shared→Prop} (hu:A.units+1 < cLine) (I:Inv X pj σ H s) (g:DPut H a y v H') (ry:RelV y u) (rv:RelV v r) (h:∀s',Inv X pj σ H' s'→Q () s') :
  wpAny (model X.prog X.w) A (setItem (.ref a) u r) Q E s:=by
 rcases g with⟨kvs,k,e,ey,l,eH⟩ | ⟨kvs,k,b,e,ey,eb,l,eH⟩
 ·subst ey eH
  obtain⟨z,hd,vs,rel,dd⟩:=ZCX I.hok e
  have hz:vs.length≤sizeLine:=by rw[←rel.length]; exact z
  have hl:(putK kvs k v).length≤sizeLine:=by have:=Zjs kvs k v; omega
  refine wpAny_setItem_pairs (hsz:=hz) (ZwM ry) dd fun h' dd' hs=>h _ ?_;have he:∃q,h'.get? a=some q:=let ⟨q,_,_,hq,_⟩:=dd'; ⟨q,hq⟩;exact Zso I (by rw[e]; exact True.intro) hs he (ZzO hl hd (rel.put k rv) dd')
 ·subst ey eH
  cases (show u=Value.ref b from ry)
  obtain⟨z,hd,xs,rel,dd⟩:=ZE9 I.hok e
  have hz:xs.length≤sizeLine:=by rw[←Paired.length rel]; exact z
  have hl:(putK kvs k v).length≤sizeLine:=by have:=Zjs kvs k v; omega
  refine wpAny_setItem_heap (hsz:=hz) (tupleKind_room_in1 hu) (Zt3 I.hok eb) dd fun h' dd' hs=>h _ ?_;obtain⟨q,es,ep,hq,h2,h3,h4,_,h5⟩:=dd';refine Zso I (by rw[e]; exact True.intro) hs ⟨q,hq⟩ ⟨hl,hd,_,(rel.put k eb rv).keeps fun c ys ec=>?_,q,es,ep,hq,h2,h3,h4,h5⟩;rw[ZaF (Zcm ec e (fun z=>nomatch z))];exact ec
end
section
variable {X:Cx} {pj:List (Addr×Obj)} {σ:St} {H:Hp} {s:Shared} {a:Addr} {kvs:List (Key×V)} {k:Key} {u:Value} {A:Around} {E:Value→Shared→Prop}
end
def NoSl (i:Expr):Prop:=∀ov iv,subscripted i false ov iv=operate [ov,iv] (getItem ov iv)
theorem ZCx {prog:Program} {w:World} {A:Around} {E:Value→Shared→Prop} {s:Shared} {env:Env} {value slice:Expr} {pos:Pos} {T id:String} {Q:Value→Shared→Prop}
  (hl:typeLookup (.type T) "__getitem__" = pure (some (.builtin id))) (hs:NoSl slice)
  (h:wpAny (model prog w) A (eval value env) (fun o s₁=>wpAny (model prog w) A (eval slice env) (fun i s₂=>s₂.TypeIs o T∧wpAny (model prog w) A (getItem o i) Q E s₂) E s₁) E s) :
  wpAny (model prog w) A (eval (.Subscript value slice pos) env) Q E s:=by
 refine Subscript_ (wpAny_mono h (fun o s₁ h₁=>wpAny_mono h₁ (fun i s₂ h₂=>?_) fun _ _ x=>x) fun _ _ x=>x);obtain⟨hT,h₂⟩:=h₂;unfold subscriptTail;refine wpAny_bind ?_;rw[getitemInPython_of_ne hT.not_modules];refine wpAny_bind (wpAny_specialOf hT hl ?_)
 have fin:wpAny (model prog w) A (subscripted slice false o i) (fun r s₃=>wpAny (model prog w) A (letTemporaryGo value o r >>= fun _=>pure r) Q E s₃) E s₂:=by
  rw[hs o i];exact wpAny_operating (wpAny_mono h₂ (fun r s₃ h₃=>wpAny_bind (wpAny_letTemporaryGo (wpAny_pure h₃))) fun _ _ x=>x)
 first
  | exact wpAny_pure (wpAny_bind fin)
  | exact wpAny_bind (wpAny_pure (wpAny_bind fin))
  | exact wpAny_bind fin
theorem Zsp {X:Cx} {pj:List (Addr×Obj)} {σ:St} {H:Hp} {s:Shared} {a:Addr} {y:V} {o:Option V} (I:Inv X pj σ H s) (g:DGet H a y o):s.TypeIs (.ref a) "dict":=by
 rcases g with⟨kvs,k,e,_,_⟩ | ⟨kvs,k,b,e,_,_,_⟩
 ·obtain⟨_,_,vs,_,dd⟩:=Zwo I.hok e
  exact dd.typeIs
 ·obtain⟨_,_,xs,_,dd⟩:=Zwp I.hok e
  exact dd.typeIs
def ZER (td ty:TE):TE:=fun σ H Q=>td σ H fun x H1=>ty σ H1 fun y H2=>∃a v,x=.ref a∧DGet H2 a y (some v)∧Q v H2
def ZEw (td ty tv:TE):TS:=fun D σ H=>tv σ H fun v H1=>td σ H1 fun x H2=>ty σ H2 fun y H3=>∃a H4,x=.ref a∧DPut H3 a y v H4∧D.nx σ H4
section
variable {X:Cx} {o i e value:Expr} {pos pos' tpos:Pos} {td ty tv:TE}
theorem Zpy (hu:X.A.units+1 < cLine) (ho:PE X o td) (hi:PE X i ty) (hs:NoSl i):PE X (.Subscript o i pos) (ZER td ty):=by
 intro pj s σ H Q I h;refine ZCx PySem.F.slot_dict_getitem.lookup hs (thn (ho pj s σ H _ I h) fun u s1 ⟨x,H1,I1,rx,q1⟩=>thn (hi pj s1 σ H1 _ I1 q1) fun iv s2 ⟨y,H2,I2,ry,a,v,ex,g,q2⟩=>?_);subst ex;obtain rfl:u=Value.ref a:=rx;exact⟨Zsp I2 g,Zwi hu I2 g ry fun w' s3 I3 rw'=>⟨v,H2,I3,rw',q2⟩⟩
theorem ZB8 (hu:X.A.units+1 < cLine) (ho:PE X o td) (hi:PE X i ty) (hv:PE X value tv) (hs:swapsWith value (some (.Subscript o i pos')) pos.line X.env=pure false) :
  PS X (.Assign [.Subscript o i pos'] value pos) (ZEw td ty tv):=by
 intro pj s σ H D I h;refine wpAny_Assign_Subscript (thn (hv pj s σ H _ I h) fun r s1 ⟨v,H1,I1,rv,q1⟩=>thn (ho pj s1 σ H1 _ I1 q1) fun u s2 ⟨x,H2,I2,rx,q2⟩=>thn (hi pj s2 σ H2 _ I2 q2) fun iv s3 ⟨y,H3,I3,ry,a,H4,ex,g,q3⟩=>?_) hs;subst ex;obtain rfl:u=Value.ref a:=rx;exact Zwj hu I3 g ry rv fun s4 I4=>⟨σ,H4,I4,q3⟩
end
theorem ZtP {P:Program} {w:World} {H:Hp} (h:Heap) (hb:sysModules < h.objs.size):Zc7 P w H (h.push { cls:=.type "dict",data:=.dict #[] }) h.objs.size (.dK []):=
 ⟨Nat.zero_le _,beq_eq_false_iff_ne.mpr (Ne.symm (Nat.ne_of_lt hb)),[],.nil,Heap.DictOf.new h⟩
def ZAG:TE:=fun _ H Q=>∀p,H p=none→Q (.ref p) (upd H p (.dK []))
section
variable {X:Cx} {pos:Pos}
theorem Zy9:PE X (.Dict [] [] pos) ZAG:=fun pj s σ H Q I h=>
 wpAny_Dict_empty ⟨.ref s.heap.objs.size,_,I.laid (a:=s.heap.objs.size) (o:=.dK []) (t':=s.toks) (fun _ _ q=>Heap.get?_push_of_some _ q) (Nat.le_refl _) (ZtP s.heap I.big),rfl,h _ (I.hok.fresh (Nat.le_refl _))⟩
end
def ZoJ:List (TE×TE)→St→Hp→(List (V×V)→Hp→Prop)→Prop
 | [],_,H,Q=>Q [] H
 | (tk,tv)::r,σ,H,Q=>tk σ H fun x H1=>tv σ H1 fun y H2=>ZoJ r σ H2 fun ps H3=>Q ((x,y)::ps) H3
abbrev VV:List (V×V)→List (Value×Value)→Prop:=Paired fun p q=>RelV p.1 q.1∧RelV p.2 q.2
def PPs (X:Cx) (pos:Pos) (keys:List (Option Expr)) (values:List Expr) (trs:List (TE×TE)):Prop:=
 ∀(pj:List (Addr×Obj)) (s:Shared) (σ:St) (H:Hp) (Q:List (V×V)→Hp→Prop),Inv X pj σ H s→ZoJ trs σ H Q→
  wpAny (model X.prog X.w) X.A (evalPairs (pairTrees keys values X.env pos)) (fun vs s'=>∃ps H',Inv X pj σ H' s'∧VV ps vs∧Q ps H') X.xe s
theorem ZpD {X:Cx} {pos:Pos}:PPs X pos [] [] []:=fun pj s σ H Q I h=>pairTrees_nil_walk ⟨[],H,I,.nil,h⟩
theorem Zb6 {X:Cx} {pos:Pos} {k v:Expr} {ks:List (Option Expr)} {vs:List Expr} {tk tv:TE} {trs:List (TE×TE)} (hk:PE X k tk) (hv:PE X v tv) (hr:PPs X pos ks vs trs) :
  PPs X pos (some k::ks) (v::vs) ((tk,tv)::trs):=fun pj s σ H Q I h=>
 pairTrees_cons_walk (thn (hk pj s σ H _ I h) fun u s1 ⟨x,H1,I1,rx,q1⟩=>thn (hv pj s1 σ H1 _ I1 q1) fun w2 s2 ⟨y,H2,I2,ry,q2⟩=>
  thn (hr pj s2 σ H2 _ I2 q2) fun ws s3 ⟨ps,H3,I3,rel,q3⟩=>⟨(x,y)::ps,H3,I3,.cons ⟨rx,ry⟩ rel,q3⟩)
def Zie (kvs more:List (Key×V)):List (Key×V):=more.foldl (fun acc kv=>putK acc kv.1 kv.2) kvs
theorem KV.merge:∀{more:List (Key×V)} {rs:List (Key×Value)} {kvs:List (Key×V)} {vs:List (Key×Value)},KV more rs→KV kvs vs→KV (Zie kvs more) (merged vs rs):=by
 intro more rs kvs vs r;unfold KV at r
 induction r generalizing kvs vs with
 | nil=>intro q; exact q
 | @cons p q ps qs h t ih=>
  intro r0
  have e:KV (putK kvs p.1 p.2) (stored vs q.1 q.2):=by
   have:=r0.put p.1 h.2;rw[←h.1]; exact this
  exact ih e
theorem Zj8:∀(more kvs:List (Key×V)),(Zie kvs more).length≤kvs.length+more.length
 | [],kvs=>by show kvs.length≤kvs.length+0; omega
 | p::r,kvs=>by
  have h1:=Zj8 r (putK kvs p.1 p.2);have h2:=Zjs kvs p.1 p.2;show(Zie (putK kvs p.1 p.2) r).length≤_;rw[List.length_cons]; omega
theorem Zok {P:Program} {w:World}:∀{kvs:List (Key×V)} {ws:List (Value×Value)},VV (kvs.map fun kv=>(kV kv.1,kv.2)) ws→∃rs,Carries (Zcl P w) ws rs∧KV kvs rs
 | [],_,r=>by rw[List.map_nil]at r; cases r; exact⟨[],True.intro,.nil⟩
 | p::kvs,_,r=>by
  rw[List.map_cons]at r
  cases r with
  | @cons a b as bs h t=>
   obtain⟨rs,c,q⟩:=Zok (P:=P) (w:=w) t;obtain⟨b1,b2⟩:=b;exact⟨(p.1,b2)::rs,⟨ZwM h.1,rfl,c⟩,.cons ⟨rfl,h.2⟩ q⟩
def ZES (trs:List (TE×TE)):TE:=fun σ H Q=>∀p,H p=none→ZoJ trs σ (upd H p (.dK [])) fun ps H2=>H2 p=some (.dK [])∧∃kvs:List (Key×V),ps=kvs.map (fun kv=>(kV kv.1,kv.2))∧kvs.length≤15∧Q (.ref p) (upd H2 p (.dK (Zie [] kvs)))
theorem Zpz {X:Cx} {pos:Pos} {keys:List (Option Expr)} {values:List Expr} {trs:List (TE×TE)} (h:PPs X pos keys values trs) (hall:keys.all (·.isSome)=true) (hl:keys.length=values.length) (h0:keys≠[])
  (h15:keys.length≤15):PE X (.Dict keys values pos) (ZES trs):=by
 intro pj s σ H Q I q;have hn:=I.hok.fresh (Nat.le_refl s.heap.objs.size);have I1:=I.laid (a:=s.heap.objs.size) (o:=.dK []) (h':=s.heap.push { cls:=.type "dict",data:=.dict #[] }) (t':=s.toks) (fun _ _ q=>Heap.get?_push_of_some _ q) (Nat.le_refl _) (ZtP s.heap I.big);refine wpAny_Dict_walk (knd:=Zcl X.prog X.w) hall hl h0 h15 (thn (h pj _ σ _ _ I1 (q _ hn)) fun ws s2 ⟨ps,H2,I2,rel,e,kvs,ep,lk,q2⟩=>?_);subst ep;obtain⟨rs,c,rk⟩:=Zok (P:=X.prog) (w:=X.w) rel;obtain⟨z,hd,vs0,r0,dd⟩:=ZCX I2.hok e
 cases r0
 refine⟨rs,c,dd,fun h' dd' hs=>⟨.ref s.heap.objs.size,_,?_,rfl,q2⟩⟩
 have hz:(Zie [] kvs).length≤sizeLine:=by
  have h1:=Zj8 kvs [];rw[List.length_nil]at h1;rw[sizeLine_eq]; omega
 have he:∃q,h'.get? s.heap.objs.size=some q:=let ⟨q,_,_,hq,_⟩:=dd'; ⟨q,hq⟩;exact Zso I2 (by rw[e]; exact True.intro) hs he (ZzO hz hd (rk.merge .nil) dd')
structure M2 (X:Cx) (o:Expr) (m:Str) (apos:Pos) (e f:Expr) (cpos:Pos):Prop where
 base:attributeBase o m X.env (eval o X.env)=eval o X.env
 few:((backTo cpos (starEach [e,f] X.env)).all (fun x=>!x.1) && (backToKw cpos (keywordEach [] X.env)).all (fun x=>x.1.isSome)
  && decide (([e,f]:List Expr).length+([]:List Keyword).length+(if ([]:List Keyword).isEmpty then 0 else 1) < 30))=true
 line:(apos.endLine == cpos.line)=true
 trees:backTo cpos (starEach [e,f] X.env)=[(false,eval e X.env),(false,eval f X.env)]
def IsD (H:Hp) (a:Addr):Prop:=(∃kvs,Rd H a (.dK kvs))∨∃kvs,Rd H a (.dT kvs)
theorem ZDz {X:Cx} {pj:List (Addr×Obj)} {σ:St} {H:Hp} {s:Shared} {a:Addr} (I:Inv X pj σ H s) (d:IsD H a) :
  s.TypeIs (.ref a) "dict"∧(∀b,Value.ref a=.ref b→∃ob,s.heap.get? b=some ob∧ob.dict=none)∧(a == sysModules)=false:=by
 rcases d with⟨kvs,e⟩ | ⟨kvs,e⟩
 ·obtain⟨_,hd,vs,_,dd⟩:=Zwo I.hok e
  refine⟨dd.typeIs,fun b q=>?_,hd⟩
  cases q
  obtain⟨ob,_,_,h1,h2,_⟩:=dd;exact⟨ob,h1,h2.2.1⟩
 ·obtain⟨_,hd,xs,_,dd⟩:=Zwp I.hok e
  refine⟨dd.typeIs,fun b q=>?_,hd⟩
  cases q
  obtain⟨ob,_,_,h1,h2,_⟩:=dd;exact⟨ob,h1,h2.2.1⟩
section
variable {X:Cx} {pj:List (Addr×Obj)} {σ:St} {H:Hp} {s:Shared} {a:Addr} {y d:V} {u r:Value} {o:Option V} {A:Around} {E:Value→Shared→Prop}
theorem ZCW {Q:Value→Shared→Prop} (hu:A.units+1 < cLine) (I:Inv X pj σ H s) (g:DGet H a y o) (ry:RelV y u) (rd:RelV d r) (h:∀w' s',Inv X pj σ H s'→RelV (o.getD d) w'→Q w' s') :
  wpAny (model X.prog X.w) A (call (.builtin "dict.get") [.ref a,u,r]) Q E s:=by
 rcases g with⟨kvs,k,e,ey,l⟩ | ⟨kvs,k,b,e,ey,eb,l⟩
 ·subst ey
  obtain⟨z,hd,vs,rel,dd⟩:=Zwo I.hok e;refine call_meetsIn PySem.F.slot_dict_get dd.typeIs PySem.F.entry_dict_get (PySem.F.args_dict_get_3 _ _ _) (meets_dict_get_default (Zcl X.prog X.w) a (ZwM ry) hd r) ⟨_,dd.mapOf,h _ _ (I.tok _) ?_⟩;rw[l];exact(rel.val k).getD rd
 ·subst ey
  cases (show u=Value.ref b from ry)
  obtain⟨z,hd,xs,rel,dd⟩:=Zwp I.hok e;refine call_meetsIn PySem.F.slot_dict_get dd.typeIs PySem.F.entry_dict_get (PySem.F.args_dict_get_3 _ _ _) (meetsH_dict_get_default (tupleKind (Zcl X.prog X.w)) a b hd r) ⟨tupleKind_room_in1 hu,k,xs,Zt3 I.hok eb,dd,h _ _ (I.tok _) ?_⟩;rw[l];exact(rel.val k).getD rd
end
def ZAF (td ty tx:TE):TE:=fun σ H Q=>td σ H fun x H1=>∃a,x=.ref a∧IsD H1 a∧ty σ H1 fun y H2=>tx σ H2 fun z H3=>∃o,DGet H3 a y o∧Q (o.getD z) H3
section
variable {X:Cx} {o e f:Expr} {apos cpos:Pos} {td ty tx:TE}
theorem Zl8 (hu:X.A.units+1 < cLine) (ho:PE X o td) (he:PE X e ty) (hf:PE X f tx) (m:M2 X o "get" apos e f cpos):PE X (.Call (.Attribute o "get" apos) [e,f] [] cpos) (ZAF td ty tx):=by
 intro pj s σ H Q I h;refine wpAny_Call_method m.base m.few m.line PySem.F.plainAttrs_dict PySem.F.slot_dict_get PySem.F.type_dict_get (thn (ho pj s σ H _ I h) fun u s1 ⟨x,H1,I1,rx,a,ex,d,q1⟩=>?_);subst ex;obtain rfl:u=Value.ref a:=rx;obtain⟨t1,t2,_⟩:=ZDz I1 d;refine⟨t1,t2,?_⟩;rw[m.trees]
 refine Calls.callWith_builtin rfl (Calls.evalArgs_plain (Calls.spliced_cons (thn (he pj s1 σ H1 _ I1 q1) fun iv s2 ⟨y,H2,I2,ry,q2⟩=>
  Calls.spliced_cons (thn (hf pj s2 σ H2 _ I2 q2) fun fv s3 ⟨z,H3,I3,rz,ov,g,q3⟩=>Calls.spliced_nil ?_))))
 exact ZCW hu I3 g ry rz fun w' s4 I4 rw'=>⟨_,H3,I4,rw',q3⟩
end
section
variable {X:Cx} {pj:List (Addr×Obj)} {σ:St} {H:Hp} {s:Shared} {a:Addr} {kvs:List (Key×V)} {A:Around} {E:Value→Shared→Prop}
end
section
variable {X:Cx} {pj:List (Addr×Obj)} {σ:St} {H:Hp} {s:Shared} {a:Addr} {y:V} {u:Value} {A:Around} {E:Value→Shared→Prop}
end
end L2
namespace Att
open PySem PySem.W PySem.Calls PyProof.Rows
theorem ZmQ {P:Params} {h:Heap}:∀(ns:List Int) (vs:List Value),WellAll P h vs (ns.map WData.int)→IntsAre vs ns:=by
 intro ns
 induction ns with
 | nil=>
  intro vs w;rw[List.map_nil]at w
  cases w
  exact .nil
 | cons n ns ih=>
  intro vs w;rw[List.map_cons]at w
  cases w with
  | cons a b=>
   cases a
   exact .cons _ _ (ih _ b)
theorem ZxL {l:OpenLaw} {n:Nat} (hn:l.most=some n) {P:Params} {h:Heap} {args:List WData} {vals:List Value}
  (hpre:l.row.toRowW.claim.pre args=true) (hwl:WellAll P h vals args) :
  ∃a vs ns,vals=[Value.ref a]∧args=[WData.list (ns.map WData.int)]∧h.get? a=some { cls:=.type "list",data:=.seq vs.toArray }∧IntsAre vs ns∧ns.length≤n:=by
 have hsh:WShape.hasAll [] args [.list .int]=true:=(pre_splitW hpre).1;have hc:l.pre.holds [] { args:=args } = true:=(pre_splitW hpre).2;obtain⟨d,r,rfl,h1,h2⟩:=hasAllW_cons hsh;obtain rfl:=hasAllW_nil h2;obtain⟨xs,rfl,h3⟩:=hasW_list h1;obtain⟨ns,rfl⟩:=items_int h3
 have hlen:ns.length≤n:=by
  unfold OpenLaw.pre at hc
  have h4:(WTm.not (.lt (.lit (.int (n:Int))) (.len (.arg 0)))).holds [] { args:=[.list (ns.map .int)] } = true:=by
   have h4:=(holds_andW hc).1;rw[hn]at h4;exact h4
  have h5:=condW_of h4 (w_not (w_lt w_lit (w_len_list (w_arg rfl))));rw[List.length_map]at h5;refine Nat.le_of_not_lt fun q=>?_
  have q':(n:Int) < ((ns.length:Nat):Int):=by omega
  first
   | (rw[decide_eq_true q']at h5; exact absurd h5 (by decide))
   | (simp at h5; omega)
 cases hwl with
 | cons w1 w2=>
  cases w2
  cases w1 with
  | list ho hall=>exact⟨_,_,ns,rfl,rfl,ho,ZmQ ns _ hall,hlen⟩
theorem Zxy (l:OpenLaw) (args:List WData):l.row.toRowW.claim.post args (.bool true) args=true:=
 postW_of (r:=l.row.toRowW) (X:=(true == true))
  (show WShape.has [] (.bool true) .bool=true by first | rfl | decide | simp[WShape.has,WShape.arms,WShape.armsAll])
  (show(WTm.eq .res (.lit (.bool true))).value [] { args:=args,res:=some (.bool true),after:=args } = some (.bool (true == true)) from w_eq_bool (w_res rfl) w_lit) rfl
theorem attach_call {l:OpenLaw} {n:Nat} {q:Program} {loose:List Str} {XP:(Str→Option Value)→Heap→Prop} {YP:World→Heap→Prop} {d:DefRec}
  (hn:l.most=some n) (hdf:d.params.defaults=[])
  (call:∀(w:World) (s₀ s₁:Shared) (mg mb:Str→Option Value) (fa:Addr) (o:Obj) (pm cd doc:Value) (a:Addr) (vs:List Value) (ns:List Int),
   Ground q loose [] XP w s₀ mg mb s₁.heap→YP w s₁.heap→
   s₁.heap.get? fa=some o→o.data=.func (docDef d.name d.params d.body d.scope pm cd doc)→s₁.heap.CodeRec cd d.name→mg d.name=some (.ref fa)→
   s₁.heap.get? a=some { cls:=.type "list",data:=.seq vs.toArray }→IntsAre vs ns→ns.length≤n→s₁.gens = #[]→
   codeAny (model l.prog w) callerA (.call (.ref fa) ⟨[.ref a],[]⟩) (fun r s'=>r=.ok (.ret (.bool true))∧OldK s₁.heap s'.heap∧s'.os=s₁.os∧AllBare s'.gens) s₁) :
  WalkO q loose XP YP l.row.toRowW d [] (fun f vs=>PySem.call f vs):=by
 intro w s₀ s₁ mg mb G Y fa o pm cd doc dV kV ho hd hcd hD hmg hg args vals as hpre hlay hrd hwl hlo;obtain rfl:dV=.none:=Dflts.none hD hdf;obtain rfl:kV=.none:=Dflts.noKw hD;obtain⟨a,vs,ns,rfl,rfl,hobj,hints,hlen⟩:=ZxL hn hpre hwl;refine enter_call (codeAny_mono (call w s₀ s₁ mg mb fa o pm cd doc a vs ns G Y ho (fd_plain hd) hcd hmg hobj hints hlen hg) fun r s' hq=>?_);obtain⟨rfl,h2,h3,h4⟩:=hq;exact⟨.inl ⟨.bool true,.bool true,[],rfl,fun _=>rfl,.bool true,Zxy l _,fun _=>⟨List.Pairwise.nil,fun _ hm=>(nomatch hm)⟩⟩,h2,h3,h4⟩
section
variable {prog:Program} {w:World} {A:Around} {E:Value→Shared→Prop} {s:Shared} {K:Frag}
end
end Att
namespace L2
open PySem PySem.Spec PyProof.Rows
theorem ZrY:∀{vs:List Value} {ns:List Int},IntsAre vs ns→Vals (ns.map V.int) vs
 | _,_,.nil=>.nil
 | _,_,.cons n t h=>.cons ⟨t,rfl⟩ (ZrY h)
def Only (H:Hp):Prop:=∀b,H b=none∨∃o xs,H b=some (.frz o (.lst xs))
theorem ZyN {P:Program} {w:World} {K:PySem.W.Frag} {mg mb:Str→Option Value} {CX:CXT} {k:Nat} {fa a:Addr} {fd:FuncData} {x:Str} {sp:Sp} {s₁:Shared} {vs:List Value} {ns:List Int}
  (KX:K.In s₁.heap) (hns:s₁.heap.Ns mainGlobals mg) (hb:s₁.heap.Ns builtinsNs mb) (hbb:∀x:Str,x≠"__name__"→mb x=bootBuiltins x) (hlim:s₁.heap.NoLimit) (hg:s₁.gens = #[])
  (ha:s₁.heap.get? a=some { cls:=.type "list",data:=.seq vs.toArray }) (hi:IntsAre vs ns) (hl:ns.length≤sizeLine) (hr:Room k callerA)
  (F:∀base:Heap,K.In base→base.Ns mainGlobals mg→FnOk P w K mg base CX k fa fd [x] sp) (hbind:∀(s:Shared) (u:Value),BindsTo s fd ⟨[u],[]⟩ [(x,u)])
  (hsp:∀H:Hp,Only H→SqL K H a (ns.map V.int)→sp [.ref a] H (fun v _=>v=.bl true) fun _ _ _=>False)
  (hCX:∀H e s',CX [] H s₁ (fun _ _ _=>False) e s'→False) :
  codeAny (model P w) callerA (.call (.ref fa) ⟨[.ref a],[]⟩) (fun r s'=>r=.ok (.ret (.bool true))∧OldK s₁.heap s'.heap∧s'.os=s₁.os∧AllBare s'.gens) s₁:=by
 have rv:=ZrY hi;have lenV:=hi.length
 have core:∀H:Hp,Only H→SqL K H a (ns.map V.int)→HOk P w H s₁.heap→(∀b,H b≠none→b=a)→(H a≠none→K.lookup a=none)→
   codeAny (model P w) callerA (.call (.ref fa) ⟨[.ref a],[]⟩) (fun r s'=>r=.ok (.ret (.bool true))∧OldK s₁.heap s'.heap∧s'.os=s₁.os∧AllBare s'.gens) s₁:=by
  intro H hO hS hok hA hK;have base_of:∀{b:Addr} {o:Obj},s₁.heap.get? b=some o→H b=none→(hidT s₁.heap H).get? b=some o:=fun e n=>ZyA e n
  have noA:∀{b:Addr} {o:Obj} {es:Array DictEntry} {ep:Nat},s₁.heap.get? b=some o→o.data=.dict es ep→H b=none:=fun {b o es ep} e d=>by
   cases q:H b with
   | none=>rfl
   | some u=>
    have e':b=a:=hA b (by rw[q]; simp);subst e';rw[ha]at e; cases e;have d':Data.seq vs.toArray _=Data.dict es ep:=d
    cases d'
  have nsK:∀{b:Addr} {m:Str→Option Value},s₁.heap.Ns b m→(hidT s₁.heap H).Ns b m:=fun {b m} ⟨o,es,ep,e,d,r⟩=>⟨o,es,ep,base_of e (noA e d),d,r⟩
  have hKb:K.In (hidT s₁.heap H):=fun b o e=>base_of (KX b o e) (by
   cases q:H b with
   | none=>rfl
   | some u=>
    have e':b=a:=hA b (by rw[q]; simp);subst e'
    rw[hK (by rw[q]; simp)]at e; cases e)
  have hM:Mod K mg (hidT s₁.heap H):=⟨hKb,nsK hns,⟨mb,nsK hb,hbb⟩,let ⟨mc,h1,h2⟩:=hlim; ⟨mc,nsK h1,h2⟩⟩;have e0:Env0 P w K mg (hidT s₁.heap H) callerA [] s₁ H:=⟨rfl,hM,fun b o e=>ZBL e,Nat.le_of_eq (Zwz _ _),trivial,fun b hb=>absurd (show b∈([]:List Addr) from hb) (by simp),hok,.of_eq hg⟩;refine codeAny_mono ((F _ hKb (nsK hns)).run callerA [] s₁ H ⟨[.ref a],[]⟩ [.ref a] [.ref a] _ _ hr e0 (hbind s₁ (.ref a)) (.cons rfl .nil) (hsp H hO hS)) fun r s' h=>?_
  cases r with
  | error e=>exact(hCX H e s' h).elim
  | ok fl=>
   cases fl with
   | next=>exact False.elim h
   | brk=>exact False.elim h
   | cont=>exact False.elim h
   | ret u=>
    obtain⟨v,H',os,bare,un,hok',r',q⟩:=h;have q':v=.bl true:=q;subst q';obtain rfl:u=Value.bool true:=r';refine⟨rfl,OldK.of_keep fun b o e=>?_,os,bare⟩
    cases q:H b with
    | none=>exact un.keep b o e q (by intro z; exact absurd (show b∈([]:List Addr) from z) (by simp)) (by simp)
    | some u=>
     rcases hO b with z | ⟨ob,xs,z⟩
     ·rw[q]at z; cases z
     ·have z2:=un.frzs b ob _ z
      obtain⟨e1,_⟩:=hok b _ z;obtain⟨e2,_⟩:=hok' b _ z2;rw[e]at e1; cases e1;exact e2
 cases hk:K.lookup a with
 | some o=>
  have e:=KX a o hk;rw[ha]at e
  cases e
  refine core (fun _=>none) (fun _=>.inl rfl) (.inr ⟨_,vs.toArray,_,hk,rfl,rfl,rfl,by rw[List.size_toArray,lenV]; exact hl,by simpa using rv⟩) (fun b u z=>by have z':(none:Option HO)=some u:=z; cases z') (fun b z=>absurd rfl z) fun z=>absurd rfl z
 | none=>
  refine core (fun b=>if b=a then some (.frz { cls:=.type "list",data:=.seq vs.toArray } (.lst (ns.map V.int))) else none) (fun b=>?_) (.inl (.inr ⟨{ cls:=.type "list",data:=.seq vs.toArray },if_pos rfl⟩)) (fun b u z=>?_) (fun b z=>?_) fun _=>hk
  ·by_cases hb:b=a
   ·exact .inr ⟨_,_,if_pos hb⟩
   ·exact .inl (if_neg hb)
  ·by_cases hb:b=a
   ·have z':=(if_pos hb).symm.trans z
    cases z'
    subst hb;exact⟨ha,by rw[List.length_map]; exact hl,vs,_,rv,ha⟩
   ·have z':=(if_neg hb).symm.trans z
    cases z'
  ·by_cases hb:b=a
   ·exact hb
   ·exact absurd (if_neg hb) z
end L2
namespace L2
open PySem PySem.Spec PyProof.Rows
abbrev KOf {K:PySem.W.Frag} {h:Heap} (_:K.In h):PySem.W.Frag:=K
theorem ZCD {l:PySem.W.OpenLaw} {n k:Nat} {q:Program} {loose:List Str} {XP:(Str→Option Value)→Heap→Prop} {YP:World→Heap→Prop} {d:DefRec} {K:Params→PySem.W.Frag} {CX:World→CXT} {sp:World→Sp} {x:Str}
  (hn:l.most=some n) (hn2:n≤sizeLine) (hdf:d.params.defaults=[]) (hr:Room k callerA)
  (hY:∀(w:World) (h:Heap),YP w h→(K w.params).In h)
  (F:∀(w:World) (mg:Str→Option Value) (fa:Addr) (h:Heap),(K w.params).In h→h.Ns mainGlobals mg→mg d.name=some (.ref fa)→
   ∃fd:FuncData,(∀(s:Shared) (u:Value),BindsTo s fd ⟨[u],[]⟩ [(x,u)])∧
    ∀base:Heap,(K w.params).In base→base.Ns mainGlobals mg→FnOk l.prog w (K w.params) mg base (CX w) k fa fd [x] (sp w))
  (hsp:∀(w:World) (H:Hp) (a:Addr) (ns:List Int),ns.length≤n→Only H→SqL (K w.params) H a (ns.map V.int)→sp w [.ref a] H (fun v _=>v=.bl true) fun _ _ _=>False)
  (hCX:∀(w:World) (H:Hp) (s:Shared) (e:Value) (s':Shared),CX w [] H s (fun _ _ _=>False) e s'→False) :
  PySem.W.WalkO q loose XP YP l.row.toRowW d [] (fun f vs=>PySem.call f vs):=by
 refine Att.attach_call hn hdf fun w s₀ s₁ mg mb fa o pm cd doc a vs ns G Y ho hd hcd hmg hobj hints hlen hg=>?_;have KX:=hY w _ Y;obtain⟨fd,hb,hF⟩:=F w mg fa _ KX G.T.g hmg;exact ZyN KX G.T.g G.T.b G.T.builtins G.T.nolimit hg hobj hints (Nat.le_trans hlen hn2) hr hF hb (fun H hO hS=>hsp w H a ns hlen hO hS) fun H e s'=>hCX w H s₁ e s'
theorem walk_ofK {l:PySem.W.OpenLaw} {n k:Nat} {q:Program} {loose:List Str} {XP:(Str→Option Value)→Heap→Prop} {YP:World→Heap→Prop} {d:DefRec} {K:Params→PySem.W.Frag} {CX:CXT} {sp:PySem.W.Frag→Sp} {x:Str}
  (hn:l.most=some n) (hn2:n≤sizeLine) (hdf:d.params.defaults=[]) (hr:Room k callerA)
  (hY:∀(w:World) (h:Heap),YP w h→(K w.params).In h)
  (F:∀(w:World) (mg:Str→Option Value) (fa:Addr) (h:Heap),(K w.params).In h→h.Ns mainGlobals mg→mg d.name=some (.ref fa)→
   ∃fd:FuncData,(∀(s:Shared) (u:Value),BindsTo s fd ⟨[u],[]⟩ [(x,u)])∧
    ∀base:Heap,(K w.params).In base→base.Ns mainGlobals mg→FnOk l.prog w (K w.params) mg base CX k fa fd [x] (sp (K w.params)))
  (hsp:∀(K:PySem.W.Frag) (H:Hp) (a:Addr) (ns:List Int),ns.length≤n→Only H→SqL K H a (ns.map V.int)→sp K [.ref a] H (fun v _=>v=.bl true) fun _ _ _=>False)
  (hCX:∀(H:Hp) (s:Shared) (e:Value) (s':Shared),CX [] H s (fun _ _ _=>False) e s'→False) :
  PySem.W.WalkO q loose XP YP l.row.toRowW d [] (fun f vs=>PySem.call f vs):=
 ZCD (K:=K) (CX:=fun _=>CX) (sp:=fun w=>sp (K w.params)) hn hn2 hdf hr hY F (fun w H a ns h1 h2 h3=>hsp (K w.params) H a ns h1 h2 h3) fun _ H s e s'=>hCX H s e s'
end L2
namespace L2
open PySem PySem.Spec PyProof.Rows
def Za2 (s:Stmt) (j:Nat):Stmt:=match s with
 | .ClassDef _ _ _ body _ _ _ _ _ _ _=>body.getD j (.Pass ⟨0,0,0,0⟩)
 | _=>.Pass ⟨0,0,0,0⟩
def Zjm (s:Stmt):Arguments:=match s with
 | .FunctionDef _ a _ _ _ _ _ _ _ _=>a
 | _=>{ posonlyargs:=[],args:=[],vararg:=none,kwonlyargs:=[],kw_defaults:=[],kwarg:=none,defaults:=[] }
def ZfO (s:Stmt):List Stmt:=match s with
 | .FunctionDef _ _ b _ _ _ _ _ _ _=>b
 | _=>[]
def Zah (s:Stmt):Scope:=match s with
 | .FunctionDef _ _ _ _ _ _ sc _ _ _=>sc
 | _=>{ kind:=.function,names:=[],isGenerator:=false,isCoroutine:=false }
abbrev CX0:CXT:=fun _ _ _ _ _ _=>False
abbrev E0:XK:=fun _ _ _=>False
theorem Zxo {X:Cx}:Zi6 CX0 X E0:=fun _ _ _ _ _ _ _ h=>h.elim
structure Fun (K:PySem.W.Frag) (x qual:Str) (st:Stmt) (f:Addr) (fd:FuncData):Prop where
 ex:∃(oc:Value) (od:Option Addr) (kV doc pm:Value) (an:Option Addr) (cdv ct:Value) (osl:Array (Option Value)),
  fd=PySem.W.fnOf x qual (Zjm st) (ZfO st) (Zah st) .none kV doc pm an cdv ct∧K.lookup f=some ⟨oc,od,.func fd,osl⟩ ∧PySem.W.codeIn K cdv qual=true
 kp:PySem.W.keepIn K (.ref f)=true
section
variable {P:Program} {w:World} {K:PySem.W.Frag} {mg:Str→Option Value} {base:Heap}
theorem Fun.ok {x qual:Str} {st:Stmt} {f:Addr} {fd:FuncData} {N ps:List Str} {k:Nat} {sp:Sp} (F:Fun K x qual st f fd) (S:FnScope N ps (Zah st)) (len:∀vs H Q E,sp vs H Q E→vs.length=ps.length)
  (hbody:∀(cdv:Value) (A:Around) (outer:List Env) (s:Shared) (H:Hp) (vs:List V) (Q:VK) (E:XK),Room k (A.deeper (envOfC qual (Zah st) s.heap.objs.size f cdv))→sp vs H Q E→
   ∃t,PSs (cxOf CX0 P w K mg base N qual (Zah st) f cdv A outer s H E).nox (ZfO st) t∧t { nx:=fun _ H'=>Q .non H',rt:=Q } (start N vs) H):FnOk P w K mg base CX0 (k+1) f fd ps sp:=by
 obtain⟨oc,od,kV,doc,pm,an,cdv,ct,osl,rfl,lk,hcd⟩:=F.ex;refine ZC2 lk hcd S len fun A outer s H vs Q E hr hsp=>?_;obtain⟨t,h,q⟩:=hbody cdv A outer s H vs Q E hr hsp;exact⟨t,h.nox,q⟩
theorem Fun.binds {x qual:Str} {st:Stmt} {f:Addr} {fd:FuncData} {ps:List Str} (F:Fun K x qual st f fd)
  (h:∀(kV doc pm:Value) (an:Option Addr) (cdv ct:Value) (us:List Value),us.length=ps.length→bindArgs (PySem.W.fnOf x qual (Zjm st) (ZfO st) (Zah st) .none kV doc pm an cdv ct) ⟨us,[]⟩=pure (ps.zip us)):ZaG K fd ps []:=by
 obtain⟨oc,od,kV,doc,pm,an,cdv,ct,osl,rfl,lk,hcd⟩:=F.ex;exact .all (h kV doc pm an cdv ct)
theorem ZzQ {x qual:Str} {st:Stmt} {f:Addr} {oc:Value} {od an:Option Addr} {osl:Array (Option Value)} {kV doc pm cdv ct:Value} (l:K.lookup f=some ⟨oc,od,.func (PySem.W.fnOf x qual (Zjm st) (ZfO st) (Zah st) .none kV doc pm an cdv ct),osl⟩)
  (c:PySem.W.codeIn K cdv qual=true) (k:PySem.W.keepIn K (.ref f)=true):Fun K x qual st f (PySem.W.fnOf x qual (Zjm st) (ZfO st) (Zah st) .none kV doc pm an cdv ct):=⟨⟨oc,od,kV,doc,pm,an,cdv,ct,osl,rfl,l,c⟩,k⟩
end
section
variable {X:Cx}
theorem pv (i:Nat) {x:Str} {pos:Pos} (hN:X.N[i]?=some x:=by rfl) (hv:Vis X.env.scope x:=by first | exact Or.inl rfl | exact Or.inr (Or.inl rfl) | exact Or.inr (Or.inr rfl)) (hd:(x == ("__debug__" : Str))=false:=by decide)
  (hcd:(x == ("__classdict__" : Str))=false:=by decide):PE X (.Name x pos) (tVar i):=ZEa hN hv hd hcd
end
abbrev Same (H H':Hp):Prop:=∀b o,H b=some o→H' b=some o
theorem Same.refl (H:Hp):Same H H:=fun _ _ h=>h
theorem Same.trans {H H1 H2:Hp} (a:Same H H1) (b:Same H1 H2):Same H H2:=fun c o h=>b c o (a c o h)
theorem Same.free {H H':Hp} (e:Same H H') {l:Addr} (h:H' l=Option.none):H l=Option.none:=by
 cases q:H l with
 | none=>rfl
 | some o=>
  rw[e l o q]at h
  cases h
theorem Same.seq {K:PySem.W.Frag} {H H':Hp} {a:Addr} {xs:List V} (e:Same H H') (h:SqL K H a xs):SqL K H' a xs:=by
 rcases h with(h | ⟨o,h⟩) | h
 ·exact .inl (.inl (e _ _ h))
 ·exact .inl (.inr ⟨o,e _ _ h⟩)
 ·exact .inr h
section
variable {X:Cx}
end
section
variable {κ:Type} [DecidableEq κ]
end
end L2
namespace EM
def bits (f:Nat→Bool):Nat→Nat
 | 0=>0
 | n+1=>bits f n+(if f n then 2 ^ n else 0)
theorem Zkz (f:Nat→Bool):∀n,bits f n < 2 ^ n
 | 0=>by simp[bits]
 | n+1=>by
  have h:=Zkz f n;simp only [bits]
  have e:(2:Nat) ^ (n+1)=2 ^ n+2 ^ n:=by rw[Nat.pow_succ]; omega
  split <;> omega
theorem ZaP (f:Nat→Bool) (i:Nat):∀n,(bits f n).testBit i=(decide (i < n) && f i)
 | 0=>by simp[bits]
 | n+1=>by
  have ih:=ZaP f i n;have hl:=Zkz f n;simp only [bits]
  by_cases hf:f n=true
  ·rw[if_pos hf,Nat.add_comm]
   rcases Nat.lt_trichotomy i n with h | h | h
   ·rw[Nat.testBit_two_pow_add_gt h,ih]
    simp[h,Nat.lt_succ_of_lt h]
   ·subst h
    rw[Nat.testBit_two_pow_add_eq,ih];simp[hf]
   ·have:(2:Nat) ^ n+bits f n < 2 ^ i:=by
     have e:(2:Nat) ^ (n+1)=2 ^ n+2 ^ n:=by rw[Nat.pow_succ]; omega
     have:(2:Nat) ^ (n+1)≤2 ^ i:=Nat.pow_le_pow_right (by decide) h;omega
    rw[Nat.testBit_lt_two_pow this]
    have : ¬i < n+1:=by omega
    simp[this]
  ·rw[if_neg hf,Nat.add_zero,ih]
   by_cases h:i=n
   ·subst h
    have:f i=false:=by simpa using hf
    simp[this]
   ·have:(i < n+1) ↔ (i < n):=by omega
    simp[this]
theorem Zl0 {f g:Nat→Bool} {n:Nat} (h:∀i,i < n→f i=g i):bits f n=bits g n:=by
 apply Nat.eq_of_testBit_eq;intro i;rw[ZaP,ZaP]
 by_cases hi:i < n
 ·simp[hi,h i hi]
 ·simp[hi]
theorem Zyp (f g:Nat→Bool) (n:Nat):bits f n &&& bits g n=bits (fun i=>f i && g i) n:=by
 apply Nat.eq_of_testBit_eq;intro i;rw[Nat.testBit_and,ZaP,ZaP,ZaP]
 cases decide (i < n) <;> simp
theorem ZAY (f g:Nat→Bool) (n:Nat):bits f n ||| bits g n=bits (fun i=>f i || g i) n:=by
 apply Nat.eq_of_testBit_eq;intro i;rw[Nat.testBit_or,ZaP,ZaP,ZaP]
 cases decide (i < n) <;> simp
theorem ZtK (f g:Nat→Bool) (n:Nat):bits f n ^^^ bits g n=bits (fun i=>xor (f i) (g i)) n:=by
 apply Nat.eq_of_testBit_eq;intro i;rw[Nat.testBit_xor,ZaP,ZaP,ZaP]
 cases decide (i < n) <;> simp
theorem Zmw (n:Nat):bits (fun _=>true) n=2 ^ n - 1:=by
 apply Nat.eq_of_testBit_eq;intro i;rw[ZaP,Nat.testBit_two_pow_sub_one];simp
theorem Zky (n:Nat):bits (fun _=>false) n=0:=by
 apply Nat.eq_of_testBit_eq;intro i;rw[ZaP];simp
theorem Zsl (f:Nat→Bool) (n:Nat) (h:f n=true):bits f n ||| 2 ^ n=bits f (n+1):=by
 have e:=Nat.two_pow_add_eq_or_of_lt (Zkz f n) 1;rw[Nat.mul_one]at e;rw[Nat.or_comm,←e];simp only [bits,h,if_true];omega
theorem Zv3 (f:Nat→Bool) (n:Nat) (h:f n=false):bits f (n+1)=bits f n:=by
 simp[bits,h]
theorem Zs2 (s k:Nat):s.testBit k=decide (s / 2 ^ k % 2=1):=Nat.testBit_eq_decide_div_mod_eq
theorem Zpx:∀(n x y:Nat),x < n→(x ||| y)=(x &&& y)+(x ^^^ y)
 | 0,x,y,h=>absurd h (by omega)
 | n+1,x,y,h=>by
  by_cases hx:x=0
  ·subst hx; simp
  ·have ih:=Zpx n (x / 2) (y / 2) (by omega)
   have e1:=Nat.div_add_mod (x ||| y) 2;have e2:=Nat.div_add_mod (x &&& y) 2;have e3:=Nat.div_add_mod (x ^^^ y) 2;rw[Nat.or_div_two]at e1;rw[Nat.and_div_two]at e2;rw[Nat.xor_div_two]at e3;have m1:(x ||| y) % 2=(x % 2 ||| y % 2):=Nat.or_mod_two_pow (n:=1);have m2:(x &&& y) % 2=(x % 2 &&& y % 2):=Nat.and_mod_two_pow (n:=1);have m3:(x ^^^ y) % 2=(x % 2 ^^^ y % 2):=Nat.xor_mod_two_pow (n:=1)
   have m4:(x % 2 ||| y % 2)=(x % 2 &&& y % 2)+(x % 2 ^^^ y % 2):=by
    rcases Nat.mod_two_eq_zero_or_one x with a | a <;> rcases Nat.mod_two_eq_zero_or_one y with b | b <;> rw[a,b] <;> rfl
   omega
end EM
namespace EM
inductive W3 where
 | a | e | o
 deriving DecidableEq
inductive Fm where
 | lamp (k:Nat)
 | sure (b:Bool)
 | neg (f:Fm)
 | join (w:W3) (fs:List Fm)
def comb:W3→List Bool→Bool
 | .a,bs=>bs.all id
 | .o,bs=>bs.any id
 | .e,bs=>bs.foldl xor false
mutual
def Fm.holds (s:Nat):Fm→Bool
 | .lamp k=>s.testBit k
 | .sure b=>b
 | .neg f=>!(f.holds s)
 | .join w fs=>comb w (Fm.holdsL s fs)
def Fm.holdsL (s:Nat):List Fm→List Bool
 | []=>[]
 | f::fs=>f.holds s::Fm.holdsL s fs
end
theorem ZqL (s:Nat):∀fs:List Fm,Fm.holdsL s fs=fs.map (Fm.holds s)
 | []=>by simp[Fm.holdsL]
 | f::fs=>by simp[Fm.holdsL,ZqL s fs]
theorem ZcW (s:Nat) (w:W3) (fs:List Fm):(Fm.join w fs).holds s=comb w (fs.map (Fm.holds s)):=by
 simp[Fm.holds,ZqL]
theorem ZmB (bs:List Bool) (b:Bool):comb .e (bs++[b])=xor (comb .e bs) b:=by simp[comb]
theorem ZmA (bs:List Bool) (b:Bool):comb .a (bs++[b])=(comb .a bs && b):=by simp[comb]
theorem ZmC (bs:List Bool) (b:Bool):comb .o (bs++[b])=(comb .o bs || b):=by simp[comb]
def Fm.crowd (f:Fm) (n:Nat):Nat:=bits (fun s=>f.holds s) n
def ZuX:W3→Nat→Nat→Nat
 | .a,x,y=>x &&& y
 | .o,x,y=>x ||| y
 | .e,x,y=>x ^^^ y
def Zx8:W3→Bool
 | .a=>true
 | _=>false
def b2:W3→Bool→Bool→Bool
 | .a,x,y=>x && y
 | .o,x,y=>x || y
 | .e,x,y=>xor x y
theorem Zyr (w:W3):comb w []=Zx8 w:=by cases w <;> rfl
theorem Zwe (w:W3) (bs:List Bool) (b:Bool):comb w (bs++[b])=b2 w (comb w bs) b:=by
 cases w
 ·exact ZmA bs b
 ·exact ZmB bs b
 ·exact ZmC bs b
theorem ZuY (w:W3) (f g:Nat→Bool) (n:Nat):ZuX w (bits f n) (bits g n)=bits (fun i=>b2 w (f i) (g i)) n:=by
 cases w
 ·exact Zyp f g n
 ·exact ZtK f g n
 ·exact ZAY f g n
theorem Zgw (w:W3) (n:Nat):(Fm.join w []).crowd n=bits (fun _=>Zx8 w) n:=by
 unfold Fm.crowd;apply Zl0;intro i _;rw[ZcW,List.map_nil,Zyr]
theorem ZdW (w:W3) (fs:List Fm) (f:Fm) (n:Nat):(Fm.join w (fs++[f])).crowd n=ZuX w ((Fm.join w fs).crowd n) (f.crowd n):=by
 unfold Fm.crowd;rw[ZuY];apply Zl0;intro i _;rw[ZcW,ZcW,List.map_append,List.map_cons,List.map_nil,Zwe]
theorem ZnK (w:W3) (f:Fm) (n:Nat):(Fm.join w [f]).crowd n=f.crowd n:=by
 unfold Fm.crowd;apply Zl0;intro i _;rw[ZcW]
 cases w <;> simp[comb]
theorem Zqy (f:Fm) (n:Nat):(Fm.neg f).crowd n=(2 ^ n - 1) ^^^ f.crowd n:=by
 unfold Fm.crowd;rw[←Zmw,ZtK];apply Zl0;intro i _;simp[Fm.holds]
theorem Zon (b:Bool) (n:Nat):(Fm.sure b).crowd n=if b then 2 ^ n - 1 else 0:=by
 unfold Fm.crowd
 cases b
 ·simp only [Fm.holds]; exact Zky n
 ·simp only [Fm.holds]; exact Zmw n
end EM
namespace L2
open PySem PySem.Spec PyProof.Rows
section
variable {σ:St} {H:Hp} {Q:VK} {D:Ends} {K:PySem.W.Frag} {BQ:Bool→Hp→Prop}
theorem ZDw {i:Nat} {v:V} (h:σ[i]?=some (some v)) (k:Q v H):tVar i σ H Q:=⟨v,h,k⟩
theorem i_c {v:V} (k:Q v H):tC v σ H Q:=k
theorem i_op {r:R2} {ta tb:TE} (h:ta σ H fun x H1=>tb σ H1 fun y H2=>r x y H2 Q):tOp r ta tb σ H Q:=h
theorem i_un {r:V→Hp→VK→Prop} {ta:TE} (h:ta σ H fun x H1=>r x H1 Q):tUn r ta σ H Q:=h
theorem ZDr {g:Int→Int→V} {i j:Int} (h:Q (g i j) H):rI0 g (.int i) (.int j) H Q:=⟨i,j,rfl,rfl,h⟩
theorem i_rI {C:Int→Int→Prop} {g:Int→Int→V} {i j:Int} (c:C i j) (h:Q (g i j) H):rI C g (.int i) (.int j) H Q:=⟨i,j,rfl,rfl,c,h⟩
theorem i_rU {g:Int→V} {i:Int} (h:Q (g i) H):rU g (.int i) H Q:=⟨i,rfl,h⟩
theorem ZBe {i j:Int} (h:Q (.bl (decide (i=j))) H):rEq (.int i) (.int j) H Q:=by
 refine⟨rfl,?_⟩
 have e:decide (V.int i=V.int j)=decide (i=j):=by simp
 rw[e]; exact h
theorem ZBf {i j:Str} (h:Q (.bl (decide (i=j))) H):rEq (.str i) (.str j) H Q:=by
 refine⟨rfl,?_⟩
 have e:decide (V.str i=V.str j)=decide (i=j):=by simp
 rw[e]; exact h
theorem ZBj {i j:Int} (h:Q (.bl (!decide (i=j))) H):rNe (.int i) (.int j) H Q:=by
 refine⟨rfl,?_⟩
 have e:decide (V.int i=V.int j)=decide (i=j):=by simp
 rw[e]; exact h
theorem ZBk {i j:Str} (h:Q (.bl (!decide (i=j))) H):rNe (.str i) (.str j) H Q:=by
 refine⟨rfl,?_⟩
 have e:decide (V.str i=V.str j)=decide (i=j):=by simp
 rw[e]; exact h
theorem ZAf {t:TE} (h:t σ H fun x H'=>∃k,x=.bl k∧BQ k H'):ZEY t σ H BQ:=h
theorem ZDd {b:Bool} {R:Bool→Prop} (h:R b):∃k,V.bl b=V.bl k∧R k:=⟨b,rfl,h⟩
theorem ZC7 {t u:TT} (h:t σ H fun c H1=>if c=true then u σ H1 BQ else BQ false H1):tAnd t u σ H BQ:=h
theorem i_or {t u:TT} (h:t σ H fun c H1=>if c=true then BQ true H1 else u σ H1 BQ):tOr t u σ H BQ:=h
theorem ZDq {t:TT} (h:t σ H fun c H1=>BQ (!c) H1):tNot t σ H BQ:=h
theorem ZzS {t u:TE} (h:t σ H fun x H1=>∃c,x=.bl c∧if c=true then u σ H1 Q else Q (.bl false) H1):ZEQ t u σ H Q:=h
theorem i_if {t:TT} {ta tb:TE} (h:t σ H fun c H1=>if c=true then ta σ H1 Q else tb σ H1 Q):tIf t ta tb σ H Q:=h
theorem ZhM {t u:TS} (h:t { D with nx:=u D } σ H):tSeq t u D σ H:=h
theorem ZAa (h:D.nx σ H):ZEV D σ H:=h
theorem ZzV {te:TE} (h:te σ H fun _ H1=>D.nx σ H1):ZCB te D σ H:=h
theorem ZDt {te:TE} (h:te σ H D.rt):tRet te D σ H:=h
theorem ZDg {c:TT} {t u:TS} (h:c σ H fun b H1=>if b=true then t D σ H1 else u D σ H1):tIfS c t u D σ H:=h
theorem ZC8 {te:TE} {g:TG} (h:te σ H fun x H1=>g x σ H1 D.nx):tAsg te g D σ H:=h
theorem Zz7 {i:Nat} {v:V} {R:St→Hp→Prop} (h:R (σ.set i (some v)) H):ZmJ i v σ H R:=h
theorem ZDn {R:List V→Hp→Prop} (h:R [] H):tNil σ H R:=h
theorem ZzT {ta:TE} {tr:TA} {R:List V→Hp→Prop} (h:ta σ H fun x H1=>tr σ H1 fun xs H2=>R (x::xs) H2):Zla ta tr σ H R:=h
theorem i_cb {r:List V→Hp→VK→Prop} {t:TA} (h:t σ H fun vs H1=>r vs H1 Q):tCB r t σ H Q:=h
def NewL (xs:List V) (H:Hp) (Q:VK):Prop:=xs.length≤sizeLine∧∀p,H p=none→Q (.ref p) (upd H p (.lst xs))
def NewT (xs:List V) (H:Hp) (Q:VK):Prop:=xs.length≤sizeLine∧∀p,H p=none→Q (.ref p) (upd H p (.tup xs))
theorem ZDv {t:TA} (h:t σ H fun xs H1=>NewT xs H1 Q):tTup t σ H Q:=h
theorem ZDk {t:TA} (h:t σ H fun xs H1=>NewL xs H1 Q):tLst t σ H Q:=h
theorem i_bm {T:String} {r:V→List V→Hp→VK→Prop} {to:TE} {t:TA} (h:to σ H fun x H1=>tyV K T x H1∧t σ H1 fun xs H2=>r x xs H2 Q):tBM K T r to t σ H Q:=h
theorem ZC9 {T:String} {r:V→List V→Hp→VK→Prop} {to:TE} (h:to σ H fun x H1=>tyV K T x H1∧r x [] H1 Q):tBM0 K T r to σ H Q:=h
theorem ZDf {ta:TE} {f:Str} (h:ta σ H fun x H1=>∃a C dx fs v,x=.ref a∧H1 a=some (.ins C dx fs)∧Cls K C∧Zbo K C f∧fs.lookup f=some v∧Q v H1):tFld K ta f σ H Q:=h
theorem ZAe {ta tv:TE} {f:Str} (h:tv σ H fun y H1=>ta σ H1 fun x H2=>∃a C dx fs,x=.ref a∧H2 a=some (.ins C dx fs)∧Cls K C∧Zbo K C f∧fs.length < 1000∧D.nx σ (upd H2 a (.ins C dx (putF f y fs)))):sFld K ta tv f D σ H:=h
theorem i_sl {r:V→Option Int→Option Int→Hp→VK→Prop} {te:TE} {tl th:TO} (h:te σ H fun x H1=>tl σ H1 fun l H2=>th σ H2 fun u H3=>r x l u H3 Q):tSl r te tl th σ H Q:=h
theorem ZAd {t:TE} {R:Option Int→Hp→Prop} (h:t σ H fun x H1=>∃i,x=.int i∧R (some i) H1):ZCC t σ H R:=h
theorem ZDe {b:Int} {R:Int→Prop} (h:R b):∃k,V.int b=V.int k∧R k:=⟨b,rfl,h⟩
theorem ZtY {R:Option Int→Hp→Prop} (h:R none H):Ztx σ H R:=h
theorem ZAg {b:Bool} {R:Bool→Prop} (h:R b):∃k,TruV K (.bl b) H k∧R k:=⟨b,rfl,h⟩
theorem Zb7 {c A B:Prop} [Decidable c] (h1:c→A) (h2 : ¬c→B):if decide c=true then A else B:=by
 by_cases h:c
 ·rw[if_pos (decide_eq_true h)]; exact h1 h
 ·rw[if_neg (by simp[h])]; exact h2 h
theorem ZnR {b:Bool} {A B:Prop} (h1:b=true→A) (h2:b=false→B):if b=true then A else B:=by
 cases b
 ·rw[if_neg Bool.false_ne_true]; exact h2 rfl
 ·rw[if_pos rfl]; exact h1 rfl
theorem ZbT {b:Bool} {A B:Prop} (h:b=true) (k:A):if b=true then A else B:=by rw[if_pos h]; exact k
theorem ZaI {b:Bool} {A B:Prop} (h:b=false) (k:B):if b=true then A else B:=by rw[if_neg (by rw[h]; exact Bool.false_ne_true)]; exact k
end
def ZAN (lo:Int) (n:Nat) (g:TG) (tb:TS) (D:Ends) (σ:St) (H:Hp):Prop:=
 ∃W:Nat→Nat→St→Hp→Prop,(∃m,W 0 m σ H)∧∀i m σ H,W i m σ H→
   ((Itr lo n).stop i H∧D.nx σ H)∨((Itr lo n).go i H∧∃N:St→Hp→Prop,(∀σ' H',N σ' H'→∃m',m' < m∧W (i+1) m' σ' H')∧∀x H',(Itr lo n).yld i H x H'→g x σ H' fun σ2 H2=>tb { D with nx:=N,ct:=N,bk:=D.nx } σ2 H2)
def ZCE (K:PySem.W.Frag) (a:Addr) (g:TG) (tb:TS) (D:Ends) (σ:St) (H:Hp):Prop:=
 ∃W:Nat→Nat→St→Hp→Prop,(∃m,W 0 m σ H)∧∀i m σ H,W i m σ H→
   ((Itl K a).stop i H∧D.nx σ H)∨((Itl K a).go i H∧∃N:St→Hp→Prop,(∀σ' H',N σ' H'→∃m',m' < m∧W (i+1) m' σ' H')∧∀x H',(Itl K a).yld i H x H'→g x σ H' fun σ2 H2=>tb { D with nx:=N,ct:=N,bk:=D.nx } σ2 H2)
def ZCF (K:PySem.W.Frag) (a:Addr) (g:TG) (tb:TS) (D:Ends) (σ:St) (H:Hp):Prop:=
 ∃W:Nat→Nat→St→Hp→Prop,(∃m,W 0 m σ H)∧∀i m σ H,W i m σ H→
   ((Itt K a).stop i H∧D.nx σ H)∨((Itt K a).go i H∧∃N:St→Hp→Prop,(∀σ' H',N σ' H'→∃m',m' < m∧W (i+1) m' σ' H')∧∀x H',(Itt K a).yld i H x H'→g x σ H' fun σ2 H2=>tb { D with nx:=N,ct:=N,bk:=D.nx } σ2 H2)
section
variable {σ:St} {H:Hp} {D:Ends} {K:PySem.W.Frag} {g:TG} {tb:TS}
theorem ZwD {ta:TA} (h:ta σ H fun vs H1=>∃j:Int,vs=[.int j]∧-(2 ^ 62)≤j∧j < 2 ^ 62∧ZAN 0 j.toNat g tb D σ H1):tFor (ZBb ta) g tb D σ H:=h
theorem ZFm {lo:Int} {n:Nat} (Pv:Nat→St→Hp→Prop) (h0:Pv 0 σ H) (hs:∀i σ H,i < n→Pv i σ H→g (.int (lo+i)) σ H fun σ2 H2=>tb { D with nx:=Pv (i+1),ct:=Pv (i+1),bk:=D.nx } σ2 H2) (hd:∀σ H,Pv n σ H→D.nx σ H):ZAN lo n g tb D σ H:=ZqH Pv h0 hs hd
theorem Zly {n:Nat} (Pv:Nat→St→Hp→Prop) (h0:Pv 0 σ H) (hs:∀(i:Nat) σ H,i < n→Pv i σ H→g (.int (i:Int)) σ H fun σ2 H2=>tb { D with nx:=Pv (i+1),ct:=Pv (i+1),bk:=D.nx } σ2 H2) (hd:∀σ H,Pv n σ H→D.nx σ H):ZAN 0 n g tb D σ H:=ZqH Pv h0 (fun i σ H hi p=>by rw[Int.zero_add]; exact hs i σ H hi p) hd
theorem ZFl {a:Addr} {xs:List V} (Pv:Nat→St→Hp→Prop) (h0:Pv 0 σ H) (hl:∀i σ H,i≤xs.length→Pv i σ H→SqL K H a xs) (hs:∀i x σ H,xs[i]?=some x→Pv i σ H→g x σ H fun σ2 H2=>tb { D with nx:=Pv (i+1),ct:=Pv (i+1),bk:=D.nx } σ2 H2) (hd:∀σ H,Pv xs.length σ H→D.nx σ H):ZCE K a g tb D σ H:=Zyw Pv h0 hl hs hd
theorem ZFn {a:Addr} {xs:List V} (Pv:Nat→St→Hp→Prop) (h0:Pv 0 σ H) (hl:∀i σ H,i≤xs.length→Pv i σ H→SqT K H a xs) (hs:∀i x σ H,xs[i]?=some x→Pv i σ H→g x σ H fun σ2 H2=>tb { D with nx:=Pv (i+1),ct:=Pv (i+1),bk:=D.nx } σ2 H2) (hd:∀σ H,Pv xs.length σ H→D.nx σ H):ZCF K a g tb D σ H:=ZA0 Pv h0 hl hs hd
end
def Its (x:Str):It:=⟨fun i _=>i < x.cps.size,fun i H v H'=>H'=H∧∃c,x.cps[i]?=some c∧v=.str ⟨#[c]⟩,fun i _=>x.cps.size≤i⟩
theorem Zx5 {P:Program} {w:World} {K:PySem.W.Frag} {tg:Expr} (x:Str) (t:Tok) (it:Addr):Turn P w K tg (Its x) [it] it (fun i h=>h.IsStrIter it "str_ascii_iterator" x t i) where
 mem:=by simp
 obj:=fun i h st b hb=>by
  have e:b=it:=by simpa using hb
  subst e;obtain⟨o,e,c,d⟩:=st;exact⟨o,e,fun v z=>by rw[d]at z; cases z⟩
 keep:=fun i h h' st k=>let ⟨o,ho,r⟩:=st; ⟨o,k it (by simp) o ho,r⟩
 item:=by
  intro X hP hw hK hc i pj s σ H E I hf st hg;subst hP hw hK;obtain⟨f0,f1,f2,f3,f4,f5⟩:=hf it (by simp);have hg:i < x.cps.size:=hg;refine wpAny_pyNext_ascii_item st (c:=x.cps[i]) (by simp[hg]) fun h' st' sb=>?_;have I1:Inv X pj σ H { s with heap:=h',toks:=s.toks+1 }:=I.turned (fun b o hb e=>(sb.2 b hb).trans e) f0 f1 f3 f4 f5;obtain⟨o,e,c,d⟩:=id st';exact⟨_,rfl,Zu8 (s:={ s with heap:=h',toks:=s.toks+1 }) e c d (by decide) ⟨.str ⟨#[x.cps[i]]⟩,H,I1,⟨_,rfl⟩,⟨rfl,_,by simp[hg],rfl⟩,st',fun b hb=>(hf b hb).1⟩⟩
 done:=by
  intro X hP hw hK hc i pj s σ H E I hf st hg;subst hP hw hK;obtain⟨f0,f1,f2,f3,f4,f5⟩:=hf it (by simp);have hg:x.cps.size≤i:=hg;exact wpAny_pyNext_ascii_end (I.ok.hd hc) st (by simp[hg]) fun h' eb=>⟨rfl,I.turned (t':=s.toks) (fun b o hb e=>eb b o hb e) f0 f1 f3 f4 f5⟩
 self:=fun _ _ _ _ _ st h=>wpAny_pyIter_striter_ascii st h
theorem Zx6 {P:Program} {w:World} {K:PySem.W.Frag} {tg:Expr} (x:Str) (t:Tok) (it:Addr):Turn P w K tg (Its x) [it] it (fun i h=>h.IsStrIter it "str_iterator" x t i) where
 mem:=by simp
 obj:=fun i h st b hb=>by
  have e:b=it:=by simpa using hb
  subst e;obtain⟨o,e,c,d⟩:=st;exact⟨o,e,fun v z=>by rw[d]at z; cases z⟩
 keep:=fun i h h' st k=>let ⟨o,ho,r⟩:=st; ⟨o,k it (by simp) o ho,r⟩
 item:=by
  intro X hP hw hK hc i pj s σ H E I hf st hg;subst hP hw hK;obtain⟨f0,f1,f2,f3,f4,f5⟩:=hf it (by simp);have hg:i < x.cps.size:=hg;refine wpAny_pyNext_wide_item st (c:=x.cps[i]) (by simp[hg]) fun h' st' sb=>?_;have I1:Inv X pj σ H { s with heap:=h',toks:=s.toks+1 }:=I.turned (fun b o hb e=>(sb.2 b hb).trans e) f0 f1 f3 f4 f5;obtain⟨o,e,c,d⟩:=id st';exact⟨_,rfl,Zu8 (s:={ s with heap:=h',toks:=s.toks+1 }) e c d (by decide) ⟨.str ⟨#[x.cps[i]]⟩,H,I1,⟨_,rfl⟩,⟨rfl,_,by simp[hg],rfl⟩,st',fun b hb=>(hf b hb).1⟩⟩
 done:=by
  intro X hP hw hK hc i pj s σ H E I hf st hg;subst hP hw hK;obtain⟨f0,f1,f2,f3,f4,f5⟩:=hf it (by simp);have hg:x.cps.size≤i:=hg;exact wpAny_pyNext_wide_end (I.ok.hd hc) st (by simp[hg]) fun h' eb=>⟨rfl,I.turned (t':=s.toks) (fun b o hb e=>eb b o hb e) f0 f1 f3 f4 f5⟩
 self:=fun _ _ _ _ _ st h=>wpAny_pyIter_striter_wide st h
def iSeq (K:PySem.W.Frag) (tl:TE):TI:=fun σ H R=>tl σ H fun x H1=>(∃a xs,x=.ref a∧SqL K H1 a xs∧R (Itl K a) H1)∨(∃a xs,x=.ref a∧SqT K H1 a xs∧R (Itt K a) H1)∨(∃z,x=.str z∧R (Its z) H1)
theorem Za6 {X:Cx} {tg:Expr} {l:Expr} {tl:TE} (hl:PE X l tl):PI X tg l (iSeq X.K tl):=by
 intro pj s σ H R I h;refine thn (hl pj s σ H _ I h) fun v s1 ⟨x,H1,I1,r1,q1⟩=>?_
 have fp:∀b∈[s1.heap.objs.size],FpOk X pj H1 b:=fun b hb=>by
  have e:b=s1.heap.objs.size:=by simpa using hb
  subst e;exact I1.fpOk (Nat.le_refl _) (I1.hok.fresh (Nat.le_refl _))
 rcases q1 with⟨a,xs,e,hq,q⟩ | ⟨a,xs,e,hq,q⟩ | ⟨z,e,q⟩
 ·subst e
  cases r1
  obtain⟨its,rv,p,hz⟩:=I1.list hq;refine wpAny_pyIter_list p.isList ?_;exact⟨s1.heap.objs.size,[s1.heap.objs.size],_,_,H1,rfl,I1.kept (t':=s1.toks) fun b o e=>Heap.get?_push_of_some _ e,Zx4 a _,⟨_,Heap.get?_push_size _ rfl,rfl,rfl⟩,fp,q⟩
 ·subst e
  cases r1
  obtain⟨its,rv,p,hz⟩:=I1.tuple hq;refine wpAny_pyIter_tuple (show s1.heap.IsTuple a its.toArray from p) ?_;exact⟨s1.heap.objs.size,[s1.heap.objs.size],_,_,H1,rfl,I1.kept (t':=s1.toks) fun b o e=>Heap.get?_push_of_some _ e,ZvR a _,⟨_,Heap.get?_push_size _ rfl,rfl,rfl⟩,fp,q⟩
 ·subst e
  obtain⟨t,rfl⟩:=r1
  cases ha:z.cps.all (· < 128) with
  | false=>
   refine wpAny_pyIter_wide ha ?_;exact⟨s1.heap.objs.size,[s1.heap.objs.size],_,_,H1,rfl,I1.kept (t':=s1.toks) fun b o e=>Heap.get?_push_of_some _ e,Zx6 z t _,⟨_,Heap.get?_push_size _ rfl,rfl,rfl⟩,fp,q⟩
  | true=>
   refine wpAny_pyIter_ascii ha ?_;exact⟨s1.heap.objs.size,[s1.heap.objs.size],_,_,H1,rfl,I1.kept (t':=s1.toks) fun b o e=>Heap.get?_push_of_some _ e,Zx5 z t _,⟨_,Heap.get?_push_size _ rfl,rfl,rfl⟩,fp,q⟩
def ZE6 (x:Str) (g:TG) (tb:TS) (D:Ends) (σ:St) (H:Hp):Prop:=
 ∃W:Nat→Nat→St→Hp→Prop,(∃m,W 0 m σ H)∧∀i m σ H,W i m σ H→
   ((Its x).stop i H∧D.nx σ H)∨((Its x).go i H∧∃N:St→Hp→Prop,(∀σ' H',N σ' H'→∃m',m' < m∧W (i+1) m' σ' H')∧∀x' H',(Its x).yld i H x' H'→g x' σ H' fun σ2 H2=>tb { D with nx:=N,ct:=N,bk:=D.nx } σ2 H2)
def SeqW (K:PySem.W.Frag) (x:V) (g:TG) (tb:TS) (D:Ends) (σ:St) (H1:Hp):Prop:=
 (∃a xs,x=.ref a∧SqL K H1 a xs∧ZCE K a g tb D σ H1)∨(∃a xs,x=.ref a∧SqT K H1 a xs∧ZCF K a g tb D σ H1)∨(∃z,x=.str z∧ZE6 z g tb D σ H1)
section
variable {σ:St} {H:Hp} {D:Ends} {K:PySem.W.Frag} {g:TG} {tb:TS}
theorem Zz0 {tl:TE} (h:tl σ H fun x H1=>SeqW K x g tb D σ H1):tFor (iSeq K tl) g tb D σ H:=h
theorem seqL {a:Addr} {xs:List V} (Pv:Nat→St→Hp→Prop) (h0:Pv 0 σ H) (hl:∀i σ H,i≤xs.length→Pv i σ H→SqL K H a xs) (hs:∀i x σ H,xs[i]?=some x→Pv i σ H→g x σ H fun σ2 H2=>tb { D with nx:=Pv (i+1),ct:=Pv (i+1),bk:=D.nx } σ2 H2) (hd:∀σ H,Pv xs.length σ H→D.nx σ H):SeqW K (.ref a) g tb D σ H:=.inl ⟨a,xs,rfl,hl 0 σ H (Nat.zero_le _) h0,ZFl Pv h0 hl hs hd⟩
theorem seqT {a:Addr} {xs:List V} (Pv:Nat→St→Hp→Prop) (h0:Pv 0 σ H) (hl:∀i σ H,i≤xs.length→Pv i σ H→SqT K H a xs) (hs:∀i x σ H,xs[i]?=some x→Pv i σ H→g x σ H fun σ2 H2=>tb { D with nx:=Pv (i+1),ct:=Pv (i+1),bk:=D.nx } σ2 H2) (hd:∀σ H,Pv xs.length σ H→D.nx σ H):SeqW K (.ref a) g tb D σ H:=.inr (.inl ⟨a,xs,rfl,hl 0 σ H (Nat.zero_le _) h0,ZFn Pv h0 hl hs hd⟩)
theorem seqX {x:Str} (Pv:Nat→St→Hp→Prop) (h0:Pv 0 σ H) (hs:∀(i:Nat) (c:Nat) σ H,x.cps[i]?=some c→Pv i σ H→g (.str ⟨#[c]⟩) σ H fun σ2 H2=>tb { D with nx:=Pv (i+1),ct:=Pv (i+1),bk:=D.nx } σ2 H2) (hd:∀σ H,Pv x.cps.size σ H→D.nx σ H):SeqW K (.str x) g tb D σ H:=by
 refine .inr (.inr ⟨x,rfl,fun i m σ H=>m=x.cps.size - i∧i≤x.cps.size∧Pv i σ H,⟨x.cps.size,by simp,Nat.zero_le _,h0⟩,?_⟩);rintro i m σ H ⟨rfl,hi,p⟩
 by_cases hlt:i < x.cps.size
 ·refine .inr ⟨hlt,Pv (i+1),fun σ' H' p'=>⟨x.cps.size - (i+1),by omega,rfl,hlt,p'⟩,fun x' H' y=>?_⟩
  obtain⟨e,c,hc,y⟩:=y;subst e y;exact hs i c σ _ hc p
 ·have e:i=x.cps.size:=by omega
  subst e;exact .inl ⟨Nat.le_refl _,hd σ H p⟩
end
section
variable (P:Program) (w:World) (K:PySem.W.Frag) (mg:Str→Option Value) (base:Heap)
def FnS (k:Nat) (x:Str) (ps:List Str) (sp:Sp):Prop:=∃f fd,FnOk P w K mg base CX0 k f fd ps sp∧ZaG K fd ps []∧PySem.W.keepIn K (.ref f)=true∧mg x=some (.ref f)
def MeS (k:Nat) (C:Addr) (m:Str) (ps:List Str) (sp:Sp):Prop:=Cls K C∧∃f fd,FnOk P w K mg base CX0 k f fd ps sp∧ZaG K fd ps []∧Meth K C m f
def MkS (k:Nat) (x:Str) (C:Addr) (ps:List Str) (sp:Sp):Prop:=mg x=some (.ref C)∧∃f fd,Mk K C f∧FnOk P w K mg base CX0 k f fd ps sp∧ZaG K fd ps []
end
theorem MeS.up {P:Program} {w:World} {K:PySem.W.Frag} {mg:Str→Option Value} {base:Heap} {j k:Nat} {C:Addr} {m:Str} {ps:List Str} {sp:Sp} (h:MeS P w K mg base j C m ps sp) (hk:j≤k):MeS P w K mg base k C m ps sp:=by
 obtain⟨c,f,fd,F,b,hm⟩:=h;exact⟨c,f,fd,F.mono hk,b,hm⟩
abbrev tFn (sp:Sp) (t:TA):TE:=fun σ H Q=>t σ H fun vs H1=>sp vs H1 Q E0
def MkG (C:Addr) (sp:Sp) (vs:List V) (H1:Hp) (Q:VK):Prop:=∀x dx,H1 x=none→H1 dx=none→dx≠x→
 sp (.ref x::vs) (upd (upd H1 dx (.own x)) x (.ins C dx [])) (fun v H2=>v=.non∧Q (.ref x) H2) E0
abbrev tMk (C:Addr) (sp:Sp) (t:TA):TE:=fun σ H Q=>t σ H fun vs H1=>MkG C sp vs H1 Q
abbrev tDy (D:Addr→Prop) (m:Str) (sp:Sp) (ta:TE) (t:TA):TE:=fun σ H Q=>ta σ H fun x H1=>∃a C dx fs,x=.ref a∧H1 a=some (.ins C dx fs)∧D C∧fs.lookup m=none∧
 t σ H1 fun vs H2=>H2 a=some (.ins C dx fs)∧sp (x::vs) H2 Q E0
def spAt (sp:Sp) (C:Addr):Sp:=fun vs H Q E=>sp vs H Q E∧∃a dx fs r,vs=V.ref a::r∧H a=some (.ins C dx fs)
theorem i_fn {sp:Sp} {t:TA} {σ:St} {H:Hp} {Q:VK} (h:t σ H fun vs H1=>sp vs H1 Q E0):tFn sp t σ H Q:=h
theorem i_mk {C:Addr} {sp:Sp} {t:TA} {σ:St} {H:Hp} {Q:VK} (h:t σ H fun vs H1=>MkG C sp vs H1 Q):tMk C sp t σ H Q:=h
theorem i_dy {D:Addr→Prop} {m:Str} {sp:Sp} {ta:TE} {t:TA} {σ:St} {H:Hp} {Q:VK} (h:ta σ H fun x H1=>∃a C dx fs,x=.ref a∧H1 a=some (.ins C dx fs)∧D C∧fs.lookup m=none∧
 t σ H1 fun vs H2=>H2 a=some (.ins C dx fs)∧sp (x::vs) H2 Q E0):tDy D m sp ta t σ H Q:=h
theorem ZrU (sp:Sp) (t:TA):ZCA sp [] E0 t=tFn sp t:=by
 funext σ H Q
 unfold ZCA tFn
 have e:(fun(vs:List V) (H1:Hp)=>sp (vs++[]) H1 Q E0)=fun vs H1=>sp vs H1 Q E0:=by
  funext vs H1; rw[List.append_nil]
 rw[e]
theorem ZrV (C:Addr) (sp:Sp) (t:TA):ZzC C sp [] E0 t=tMk C sp t:=by
 funext σ H Q
 unfold ZzC tMk MkG
 congr 1
 funext vs H1
 rw[List.append_nil]
section
variable {X:Cx} {k k':Nat} {x m:Str} {C:Addr} {ps:List Str} {sp:Sp} {e o:Expr} {es:List Expr} {ta:TE} {t:TA} {p pos apos:Pos}
theorem ZaE (G:FnS X.prog X.w X.K X.mg X.base k x ps sp) (hr:Room k' X.A) (ha:PA X (e::es) t) (hk:k≤k':=by omega) (hg:Gl X x:=by rfl) (hdb:(x == ("__debug__" : Str))=false:=by decide)
  (he:starEach (e::es) X.env=(false,eval e X.env)::starEach es X.env:=by rfl) (hpl:(backTo pos (starEach es X.env)).any (·.1)=false:=by rfl):PE X (.Call (.Name x p) (e::es) [] pos) (tFn sp t):=by
 obtain⟨f,fd,F,hb,kp,hm⟩:=G;rw[←ZrU];exact Zti F (hr.mono hk) hg hm kp hb .nil Zxo ha hdb he hpl
theorem Zn2 (G:MkS X.prog X.w X.K X.mg X.base k x C ps sp) (hr:Room k' X.A) (ha:PA X (e::es) t) (hk:k+1≤k':=by omega) (hg:Gl X x:=by rfl) (hdb:(x == ("__debug__" : Str))=false:=by decide)
  (he:starEach (e::es) X.env=(false,eval e X.env)::starEach es X.env:=by rfl) (hpl:(backTo pos (starEach es X.env)).any (·.1)=false:=by rfl):PE X (.Call (.Name x p) (e::es) [] pos) (tMk C sp t):=by
 obtain⟨hm,f,fd,M,F,hb⟩:=G;rw[←ZrV];exact ZBZ M F (hr.mono hk) hg hm hb .nil Zxo ha hdb he hpl
theorem ZAx (G:MkS X.prog X.w X.K X.mg X.base k x C ps sp) (hr:Room k' X.A) (hk:k+1≤k':=by omega) (hg:Gl X x:=by rfl) (hdb:(x == ("__debug__" : Str))=false:=by decide):PE X (.Call (.Name x p) [] [] pos) (tMk C sp tNil):=by
 obtain⟨hm,f,fd,M,F,hb⟩:=G;rw[←ZrV];exact Zza M F (hr.mono hk) hg hm hb .nil Zxo hdb
theorem ZfS {pl:Sem Bool} {D:Addr→Prop} (hD:∀C,D C→MeS X.prog X.w X.K X.mg X.base k C m ps (spAt sp C)) (hr:Room k' X.A) (ho:PE X o ta) (ha:PA X (e::es) t) (hk:k≤k':=by omega)
  (hst:starEach (e::es) X.env=(false,eval e X.env)::starEach es X.env:=by rfl) (hpl:(backTo pos (starEach es X.env)).any (·.1)=false:=by rfl)
  (ht:eval (.Call (.Attribute o m apos) (e::es) [] pos) X.env=(do
   let ov ←eval o X.env
   standAt apos.atName
   let (f,first) ←holding [ov] (getMethod ov m pl)
   callWith pos f first (backTo pos (starEach (e::es) X.env)) (backToKw pos (keywordEach [] X.env))):=by rfl) :
  PE X (.Call (.Attribute o m apos) (e::es) [] pos) (tDy D m sp ta t):=by
 intro pj s σ H Q I h;refine PySem.W.methodCall_KW (pl:=pl) (thn (ho pj s σ H _ I h) fun u s1 ⟨x,H1,I1,rx,a,C,dx,fs,ex,ea,hC,l,q⟩=>?_) ht;subst ex;obtain rfl:u=Value.ref a:=rx;obtain⟨c,f,fd,F,hb,hm⟩:=hD C hC;refine ZkH I1 ea c hm l ?_;refine PySem.W.callWith_K (first:=[.ref a]) (h₀:=X.base) I.ok.mod.kin hm.kp (thn (ha pos pj s1 σ H1 _ I1 q) fun us s2 ⟨vs,H2,I2,r,eb,q2⟩=>⟨I2.kIn,?_⟩) hst hpl;exact Zur (us:=.ref a::us) (vs:=.ref a::vs) (dvs:=[]) (E:=E0) F (hr.mono hk) hb .nil Zxo I2 (.cons rfl r) (by rw[List.append_nil]; exact⟨q2,a,dx,fs,vs,rfl,eb⟩)
theorem Zxq {pl:Sem Bool} {D:Addr→Prop} (hD:∀C,D C→MeS X.prog X.w X.K X.mg X.base k C m ps (spAt sp C)) (hr:Room k' X.A) (ho:PE X o ta) (hk:k≤k':=by omega)
  (ht:eval (.Call (.Attribute o m apos) [] [] pos) X.env=(do
   let ov ←eval o X.env
   standAt apos.atName
   let (f,first) ←holding [ov] (getMethod ov m pl)
   callWith pos f first (backTo pos (starEach [] X.env)) (backToKw pos (keywordEach [] X.env))):=by rfl) :
  PE X (.Call (.Attribute o m apos) [] [] pos) (tDy D m sp ta tNil):=by
 intro pj s σ H Q I h;refine PySem.W.methodCall_KW (pl:=pl) (thn (ho pj s σ H _ I h) fun u s1 ⟨x,H1,I1,rx,a,C,dx,fs,ex,ea,hC,l,eb,q⟩=>?_) ht;subst ex;obtain rfl:u=Value.ref a:=rx;obtain⟨c,f,fd,F,hb,hm⟩:=hD C hC;refine ZkH I1 ea c hm l ?_;exact PySem.W.callWith_K0 (first:=[.ref a]) I1.kIn hm.kp (Zur (us:=[.ref a]) (vs:=[.ref a]) (dvs:=[]) (E:=E0) F (hr.mono hk) hb .nil Zxo I1 (.cons rfl .nil) (by rw[List.append_nil]; exact⟨q,a,dx,fs,[],rfl,eb⟩))
theorem ss (i:Nat) {x:Str} {e:Expr} {te:TE} {pos pos':Pos} (hN:X.N.Nodup) (he:PE X e te) (hi:X.N[i]?=some x:=by rfl) (hx:Loc X.env.scope x:=by first | exact Or.inl rfl | exact Or.inr rfl)
  (hs:swapsWith e (some (.Name x pos')) pos.line X.env=pure false:=by rfl) (hf:X.fn x=true∨X.env.scope.names.lookup x=some .local:=by first | exact .inl rfl | exact .inr rfl):PS X (.Assign [.Name x pos'] e pos) (tAsg te (ZmJ i)):=
 ZEi hN hi hx he hs hf
theorem sg (i:Nat) {x:Str} {pos:Pos} (hN:X.N.Nodup) (hi:X.N[i]?=some x:=by rfl) (hx:Loc X.env.scope x:=by first | exact Or.inl rfl | exact Or.inr rfl) (hf:X.fn x=true∨X.env.scope.names.lookup x=some .local:=by first | exact .inl rfl | exact .inr rfl):PG X (.Name x pos) (ZmJ i):=Zxv hN hi hx hf
def rIsi (K:PySem.W.Frag):List V→Hp→VK→Prop:=fun xs H Q=>∃x t b,TyOf K H x t∧((∃n,xs=[x,.ty n]∧PySem.W.kitOne K t (.type n)=some b)∨(∃c,xs=[x,.ref c]∧PySem.W.kitOne K t (.ref c)=some b))∧Q (.bl b) H
theorem ZiI:ZhL X (.builtin "isinstance") (rIsi X.K):=by
 intro pj s σ H xs us Q I r h;obtain⟨x,t,b,ty,h,q⟩:=h
 rcases h with⟨n,rfl,e⟩ | ⟨c,rfl,e⟩
 ·obtain⟨u,v,rfl,ru,rv⟩:=ZzE r
  obtain rfl:v=Value.type n:=rv;exact ZqX I ru ty e fun tk=>⟨.bl b,H,I.tok tk,rfl,q⟩
 ·obtain⟨u,v,rfl,ru,rv⟩:=ZzE r
  obtain rfl:v=Value.ref c:=rv;exact ZqX I ru ty e fun tk=>⟨.bl b,H,I.tok tk,rfl,q⟩
theorem Zz4 {K:PySem.W.Frag} {x:V} {n:String} {t:Value} {b:Bool} {H:Hp} {Q:VK} (ty:TyOf K H x t) (e:PySem.W.kitOne K t (.type n)=some b) (h:Q (.bl b) H):rIsi K [x,.ty n] H Q:=⟨x,t,b,ty,.inl ⟨n,rfl,e⟩,h⟩
theorem ZDi {K:PySem.W.Frag} {x:V} {c:Addr} {t:Value} {b:Bool} {H:Hp} {Q:VK} (ty:TyOf K H x t) (e:PySem.W.kitOne K t (.ref c)=some b) (h:Q (.bl b) H):rIsi K [x,.ref c] H Q:=⟨x,t,b,ty,.inr ⟨c,rfl,e⟩,h⟩
def ZpG:R2:=fun x y H Q=>rI0 (fun i j=>V.int (i+j)) x y H Q∨(∃i j,x=.str i∧y=.str j∧i.length+j.length≤sizeLine∧Q (.str (i++j)) H)∨rCat x y H Q
theorem Zay:OpR X (binaryOp .Add) ZpG:=OpR.or ZDX (OpR.or ZvE ZDY)
theorem ZzR {i j:Int} {H:Hp} {Q:VK} (h:Q (.int (i+j)) H):ZpG (.int i) (.int j) H Q:=.inl ⟨i,j,rfl,rfl,h⟩
theorem Zlv {i j:Str} {H:Hp} {Q:VK} (z:i.length+j.length≤sizeLine) (h:Q (.str (i++j)) H):ZpG (.str i) (.str j) H Q:=.inr (.inl ⟨i,j,rfl,rfl,z,h⟩)
theorem ZC6 {l b:Addr} {xs zs:List V} {H:Hp} {Q:VK} (h1:H l=some (.lst xs)) (h2:H b=some (.lst zs)) (z:xs.length+zs.length≤sizeLine) (h:∀p,H p=none→Q (.ref p) (upd H p (.lst (xs++zs)))):ZpG (.ref l) (.ref b) H Q:=.inr (.inr ⟨l,b,xs,zs,rfl,rfl,h1,h2,z,h⟩)
end
section
variable {X:Cx} {K:PySem.W.Frag} {H:Hp} {Q:VK} {a:Expr} {ta:TE} {pos:Pos}
theorem Za4:bootBuiltins "len" = some (.builtin "len"):=by decide +kernel
theorem ZcN:bootBuiltins "isinstance" = some (.builtin "isinstance"):=by decide +kernel
theorem ZzJ:bootBuiltins "max" = some (.builtin "max"):=by decide +kernel
theorem ZCQ:bootBuiltins "min" = some (.builtin "min"):=by decide +kernel
theorem Zqv:bootBuiltins "sum" = some (.builtin "sum"):=by decide +kernel
theorem ZCP:bootBuiltins "all" = some (.builtin "all"):=by decide +kernel
theorem ZhH:bootBuiltins "int" = some (.type "int"):=by decide +kernel
theorem Zv4:bootBuiltins "bool" = some (.type "bool"):=by decide +kernel
theorem Zsn:bootBuiltins "list" = some (.type "list"):=by decide +kernel
theorem ZgZ:bootBuiltins "tuple" = some (.type "tuple"):=by decide +kernel
theorem Zqu:bootBuiltins "enumerate" = some (.type "enumerate"):=by decide +kernel
theorem ZCR:bootBuiltins "zip" = some (.type "zip"):=by decide +kernel
def GC (mg:Str→Option Value) (x:Str) (v:V):Prop:=∃u,mg x=some u∧RelV v u
theorem Zn1 {x:Str} {v:V} (hg:Gl X x) (h:GC X.mg x v) (hd:(x == ("__debug__" : Str))=false:=by decide):PE X (.Name x pos) (tC v):=by
 obtain⟨u,e,r⟩:=h;exact Zxt hg e r hd
abbrev ZEX (K:PySem.W.Frag) (ta:TE):TE:=fun σ H Q=>ta σ H fun x H1=>∃k,TruV K x H1 k∧Q (.bl (!k)) H1
theorem ZpA (ha:PE X a ta):PE X (.UnaryOp .Not a pos) (ZEX X.K ta):=by
 intro pj s σ H Q I h;refine UnaryOp_ (thn (ha pj s σ H _ I h) fun v s1 ⟨x,H1,I1,r1,q1⟩=>?_);exact not_of (thn (ZAI pj s1 σ H1 x v (fun k H2=>Q (.bl (!k)) H2) I1 r1 q1) fun b s2 ⟨H2,I2,q2⟩=>⟨.bl (!b),H2,I2,rfl,q2⟩)
theorem ZAc {σ:St} (h:ta σ H fun x H1=>∃k,TruV K x H1 k∧Q (.bl (!k)) H1):ZEX K ta σ H Q:=h
def rLen (K:PySem.W.Frag):List V→Hp→VK→Prop:=fun xs H Q=>∃x n,xs=[x]∧LenV K x H n∧Q (.int n) H
theorem Zaz:ZhL X (.builtin "len") (rLen X.K):=Zyq
theorem Zz5 {p:Addr} {xs:List V} (h:SqL K H p xs) (k:Q (.int xs.length) H):rLen K [.ref p] H Q:=⟨_,_,rfl,.inl ⟨xs,h,rfl⟩,k⟩
theorem ZqS {p:Addr} {xs:List V} (h:H p=some (.lst xs)) (k:Q (.int xs.length) H):rLen K [.ref p] H Q:=⟨_,_,rfl,.inl ⟨xs,SqL.of h,rfl⟩,k⟩
theorem Zz6 {p:Addr} {xs:List V} (h:H p=some (.tup xs)) (k:Q (.int xs.length) H):rLen K [.ref p] H Q:=⟨_,_,rfl,.inr ⟨xs,SqT.of h,rfl⟩,k⟩
theorem ZDj {x:Str} (z:x.length≤sizeLine) (k:Q (.int x.length) H):rLen K [.str x] H Q:=⟨_,_,rfl,⟨z,rfl⟩,k⟩
def ZEl:List V→Hp→VK→Prop:=fun xs H Q=>∃i j,xs=[.int i,.int j]∧Q (.int (if j > i then j else i)) H
def ZEm:List V→Hp→VK→Prop:=fun xs H Q=>∃i j,xs=[.int i,.int j]∧Q (.int (if j < i then j else i)) H
theorem Zqx (hc:X.calm=true):ZhL X (.builtin "max") ZEl:=Zv7 hc
theorem Zv9 (hc:X.calm=true):ZhL X (.builtin "min") ZEm:=Zv8 hc
theorem ZBh {i j:Int} (h:Q (.int (max i j)) H):ZEl [.int i,.int j] H Q:=by
 refine⟨i,j,rfl,?_⟩
 have e:(if j > i then j else i)=max i j:=by split <;> omega
 rw[e]; exact h
theorem ZDl {i j:Int} (h:Q (.int (min i j)) H):ZEm [.int i,.int j] H Q:=by
 refine⟨i,j,rfl,?_⟩
 have e:(if j < i then j else i)=min i j:=by split <;> omega
 rw[e]; exact h
def ZEk:List V→Hp→VK→Prop:=fun xs H Q=>(∃i,xs=[.int i]∧Q (.int i) H)∨∃k,xs=[.bl k]∧Q (.int (if k then 1 else 0)) H
theorem Zc8:ZhL X (.type "int") ZEk:=Zv6
theorem Zz3 {b:Bool} (h:Q (.int (if b then 1 else 0)) H):ZEk [.bl b] H Q:=.inr ⟨b,rfl,h⟩
def ZxE (K:PySem.W.Frag):List V→Hp→VK→Prop:=fun xs H Q=>∃p ys,xs=[.ref p]∧(SqL K H p ys∨SqT K H p ys)∧∀l,H l=none→Q (.ref l) (upd H l (.lst ys))
theorem ZuZ:ZhL X (.type "list") (ZxE X.K):=Zqw
def ZAB (K:PySem.W.Frag):List V→Hp→VK→Prop:=fun xs H Q=>∃p ys,xs=[.ref p]∧((SqL K H p ys∧∀l,H l=none→Q (.ref l) (upd H l (.tup ys)))∨(SqT K H p ys∧Q (.ref p) H))
theorem Zdg:ZhL X (.type "tuple") (ZAB X.K):=ZoX
theorem ZmO {p:Addr} {ys:List V} (h:H p=some (.lst ys)) (k:∀l,H l=none→Q (.ref l) (upd H l (.tup ys))):ZAB K [.ref p] H Q:=⟨p,ys,rfl,.inl ⟨SqL.of h,k⟩⟩
theorem ZFe {p:Addr} {xs:List V} {j:Nat} {v:V} (h:SqL K H p xs) (e:xs[j]?=some v) (k:Q v H):rIx K (.ref p) (.int (j:Int)) H Q:=.inl ⟨p,xs,j,v,rfl,rfl,h,ZgY e,k⟩
theorem ZbJ {p:Addr} {xs:List V} {j:Nat} {v:V} (h:H p=some (.lst xs)) (e:xs[j]?=some v) (k:Q v H):rIx K (.ref p) (.int (j:Int)) H Q:=.inl ⟨p,xs,j,v,rfl,rfl,SqL.of h,ZgY e,k⟩
theorem ZtX {p:Addr} {xs:List V} {i:Int} {v:V} (h:H p=some (.lst xs)) (e:atI xs i=some v) (k:Q v H):rIx K (.ref p) (.int i) H Q:=.inl ⟨p,xs,i,v,rfl,rfl,SqL.of h,e,k⟩
theorem Za8 {p:Addr} {xs:List V} {i:Int} {v:V} (h:H p=some (.tup xs)) (e:atI xs i=some v) (k:Q v H):rIx K (.ref p) (.int i) H Q:=.inr (.inl ⟨p,xs,i,v,rfl,rfl,SqT.of h,e,k⟩)
theorem Zve {x:Str} {i:Int} {c:Nat} (z:x.length≤sizeLine) (e:atI x.cps.toList i=some c) (k:Q (.str ⟨#[c]⟩) H):rIx K (.str x) (.int i) H Q:=.inr (.inr ⟨x,i,c,rfl,rfl,z,e,k⟩)
def rSlG (K:PySem.W.Frag):V→Option Int→Option Int→Hp→VK→Prop:=fun x lo hi H Q=>rSlL K x lo hi H Q∨rSlT K x lo hi H Q
theorem ZEC:SlR X (rSlG X.K):=SlR.or ZCf ZEE
theorem ZFh {p:Addr} {xs:List V} {lo hi:Option Int} (h:SqL K H p xs) (k:∀l,H l=none→Q (.ref l) (upd H l (.lst (cutV xs lo hi)))):rSlG K (.ref p) lo hi H Q:=.inl ⟨p,xs,rfl,h,k⟩
theorem ZFg {p:Addr} {xs:List V} {lo hi:Option Int} (h:H p=some (.lst xs)) (k:∀l,H l=none→Q (.ref l) (upd H l (.lst (cutV xs lo hi)))):rSlG K (.ref p) lo hi H Q:=.inl ⟨p,xs,rfl,SqL.of h,k⟩
def ZCa:R2:=rI CMul fun i j=>V.int (i * j)
theorem ZcA:OpR X (binaryOp .Mult) ZCa:=ZD2
theorem Zgm {i j:Int} (c:CMul i j) (h:Q (.int (i * j)) H):ZCa (.int i) (.int j) H Q:=⟨i,j,rfl,rfl,c,h⟩
def rInG (K:PySem.W.Frag):R2:=fun x y H Q=>(∃i j,x=.str i∧y=.str j∧Q (.bl (!(Builtin.Str.occurrences j i 0 j.length 1).isEmpty)) H)∨rIn K false x y H Q
def Ztm (K:PySem.W.Frag):R2:=fun x y H Q=>(∃i j,x=.str i∧y=.str j∧Q (.bl (!(!(Builtin.Str.occurrences j i 0 j.length 1).isEmpty))) H)∨rIn K true x y H Q
theorem Zni:OpR X (compareOp .In) (rInG X.K):=OpR.or Zxl Zxk
theorem ZgU:OpR X (compareOp .NotIn) (Ztm X.K):=OpR.or ZrB ZrA
theorem ZyB {l:Addr} {xs:List V} {y:V} (h:H l=some (.lst xs)) (z:xs.length < sizeLine) (k:Q .non (upd H l (.lst (xs++[y])))):ZpH (.ref l) [y] H Q:=⟨l,xs,y,rfl,rfl,h,z,k⟩
theorem ZBd {l:Addr} {xs:List V} (h:H l=some (.lst xs)) (k:Q .non (upd H l (.lst []))):ZxB (.ref l) [] H Q:=⟨l,xs,rfl,rfl,h,k⟩
theorem ZFf {l:Addr} {xs:List V} {y:V} (h:H l=some (.lst (xs++[y]))) (k:Q y (upd H l (.lst xs))):rPop (.ref l) [] H Q:=⟨l,xs++[y],y,rfl,rfl,h,by simp,by rw[List.dropLast_concat]; exact k⟩
theorem tyL {l:Addr} {xs:List V} (h:H l=some (.lst xs)):tyV K "list" (.ref l) H:=.inl ⟨rfl,xs,SqL.of h⟩
end
theorem Zc4 {n:Nat} (h:n≤1000000):n≤sizeLine:=Nat.le_trans h (by decide)
theorem Zut {n:Nat} (h:n < 1000000):n < sizeLine:=Nat.lt_of_lt_of_le h (by decide)
theorem Zgz {l:List Addr} (h:l.Nodup) {i j:Nat} {a b:Addr} (ha:l[i]?=some a) (hb:l[j]?=some b) (hij:i≠j):a≠b:=by
 intro e;subst e;obtain⟨h1,e1⟩:=List.getElem?_eq_some_iff.mp ha;obtain⟨h2,e2⟩:=List.getElem?_eq_some_iff.mp hb;exact hij ((List.getElem_inj h).mp (e1.trans e2.symm))
theorem Zt4 (K:PySem.W.Frag) (n:String):PySem.W.kitOne K (.type n) (.type n)=some true:=by
 unfold PySem.W.kitOne;rw[if_pos (by simp)]
theorem Zcp {H:Hp} {p:Addr} (h:H p=none) (o:HO):Same H (upd H p o):=fun b u q=>by rw[ZaF (Zag q h)]; exact q
theorem ZgV {H:Hp} {p q:Addr} (hp:H p=none) (hq:H q=none) (o u:HO):Same H (upd (upd H q u) p o):=fun b v e=>by rw[ZaF (Zag e hp),ZaF (Zag e hq)]; exact e
theorem ZyK {K:PySem.W.Frag} {t c:String} {b:Bool} (h1:t≠c) (h2:PySem.W.kitMeta c=true) (h3:(PySem.fastBuiltinMro t).map (·.contains (Value.type c))=some b):PySem.W.kitOne K (.type t) (.type c)=some b:=by
 unfold PySem.W.kitOne;rw[if_neg (by simp[h1])];unfold PySem.W.kitCls
 dsimp only
 rw[if_pos h2];exact h3
theorem ZwS (K:PySem.W.Frag) (D:Addr):PySem.W.kitOne K (.ref D) (.ref D)=some true:=by
 unfold PySem.W.kitOne;rw[if_pos (by simp)]
theorem Zlw (K:PySem.W.Frag):PySem.W.kitOne K (.type "int") (.type "bool")=some false:=ZyK (by decide) (by decide +kernel) (by decide +kernel)
def ZpU (C:Addr) (f:Str):Sp:=fun vs H Q _=>∃p dx v,vs=[.ref p,v]∧H p=some (.ins C dx [])∧Q .non (upd H p (.ins C dx [(f,v)]))
theorem Zo9 {C:Addr} {f:Str} {v:V} {H:Hp} {Q:VK} (h:∀(x dx:Addr) (H':Hp),Same H H'→H x=none→H' x=some (.ins C dx [(f,v)])→Q (.ref x) H') :
  MkG C (ZpU C f) [v] H Q:=by
 intro x dx hx hdx ne;refine⟨x,dx,v,rfl,Zax,rfl,?_⟩;rw[Ztz];exact h x dx _ (ZgV hx hdx _ _) hx Zax
theorem lk1 (f:Str) (v:V):List.lookup f [(f,v)]=some v:=by
 have h:=Zar f f v [];rw[if_pos rfl]at h;exact h
theorem lk0 {f g:Str} (v:V) (h : ¬g=f):List.lookup g [(f,v)]=none:=by
 have e:=Zar f g v [];rw[if_neg h]at e;exact e
structure Bt (mg:Str→Option Value):Prop where
 len:mg "len" = none
 range:mg "range" = none
 isinstance:mg "isinstance" = none
 int:mg "int" = none
 bool:mg "bool" = none
 str:mg "str" = none
 list:mg "list" = none
 tuple:mg "tuple" = none
 dict:mg "dict" = none
 set:mg "set" = none
 sorted:mg "sorted" = none
 max:mg "max" = none
 min:mg "min" = none
 sum:mg "sum" = none
 any:mg "any" = none
 all:mg "all" = none
 abs:mg "abs" = none
 reversed:mg "reversed" = none
 enumerate:mg "enumerate" = none
 zip:mg "zip" = none
def Ext (H H':Hp):Prop:=∀b o,H b=some o→(∀xs,o≠.lst xs)→H' b=some o
theorem Ext.refl (H:Hp):Ext H H:=fun _ _ h _=>h
theorem Ext.trans {H H1 H2:Hp} (a:Ext H H1) (b:Ext H1 H2):Ext H H2:=fun c o h n=>b c o (a c o h n) n
theorem Ext.of {H H':Hp} (a:Same H H'):Ext H H':=fun b o h _=>a b o h
theorem Zwh {xs:List V} {k:Nat} (h:k≤xs.length):cutV xs none (some (k:Int))=xs.take k:=by
 unfold cutV;rw[HT.sIx_none,HT.sIx_nat,Nat.min_eq_left h];simp
theorem ZdX {xs:List V} {k:Nat} (h:k≤xs.length):cutV xs (some (k:Int)) none=xs.drop k:=by
 unfold cutV;rw[HT.sIx_none,HT.sIx_nat,Nat.min_eq_left h];rw[List.take_of_length_le (by rw[List.length_drop]; omega)]
theorem Zwg (xs:List V) (i j:Nat):cutV xs (some (i:Int)) (some (j:Int))=(xs.drop i).take (j - i):=by
 unfold cutV;rw[HT.sIx_nat,HT.sIx_nat]
 by_cases hi:i≤xs.length
 ·rw[Nat.min_eq_left hi]
  by_cases hj:j≤xs.length
  ·rw[Nat.min_eq_left hj]
  ·rw[Nat.min_eq_right (by omega),List.take_of_length_le (by rw[List.length_drop]; omega),List.take_of_length_le (by rw[List.length_drop]; omega)]
 ·rw[Nat.min_eq_right (show xs.length≤i by omega),List.drop_eq_nil_of_le (Nat.le_refl _),List.drop_eq_nil_of_le (show xs.length≤i by omega)]
  simp
theorem Zs3 (ns:List Int) (i j:Nat):((ns.map V.int).drop i).take j=((ns.drop i).take j).map V.int:=by
 rw[List.map_take,List.map_drop]
theorem ZgG {α:Type} {l:List α} (h:l≠[]):∃r x,l=r++[x]:=⟨l.dropLast,l.getLast h,(List.dropLast_concat_getLast h).symm⟩
section
variable {K:PySem.W.Frag} {H:Hp} {Q:VK}
theorem ZbW {xs:List V} (z:xs.length≤1000000) (h:∀(p:Addr) (H':Hp),Same H H'→H p=none→H' p=some (.lst xs)→Q (.ref p) H'):NewL xs H Q:=
 ⟨Zc4 z,fun p hp=>h p _ (Zcp hp _) hp Zax⟩
theorem ZfY {xs:List V} (z:xs.length≤1000000) (h:∀(p:Addr) (H':Hp),Same H H'→H p=none→H' p=some (.tup xs)→Q (.ref p) H'):NewT xs H Q:=
 ⟨Zc4 z,fun p hp=>h p _ (Zcp hp _) hp Zax⟩
theorem j_sl {p:Addr} {xs ys:List V} {lo hi:Option Int} (h:SqL K H p xs) (e:cutV xs lo hi=ys) (k:∀(l:Addr) (H':Hp),Same H H'→H l=none→H' l=some (.lst ys)→Q (.ref l) H'):rSlG K (.ref p) lo hi H Q:=
 ZFh h fun l hl=>by rw[e]; exact k l _ (Zcp hl _) hl Zax
theorem ZkN {l b:Addr} {xs zs:List V} (h1:H l=some (.lst xs)) (h2:H b=some (.lst zs)) (z:xs.length+zs.length≤1000000) (h:∀(p:Addr) (H':Hp),Same H H'→H p=none→H' p=some (.lst (xs++zs))→Q (.ref p) H'):ZpG (.ref l) (.ref b) H Q:=
 ZC6 h1 h2 (Zc4 z) fun p hp=>h p _ (Zcp hp _) hp Zax
theorem ZDC {p:Addr} {ys:List V} (h:SqL K H p ys∨SqT K H p ys) (k:∀(l:Addr) (H':Hp),Same H H'→H l=none→H' l=some (.lst ys)→Q (.ref l) H'):ZxE K [.ref p] H Q:=
 ⟨p,ys,rfl,h,fun l hl=>k l _ (Zcp hl _) hl Zax⟩
def But (l:Addr) (H H':Hp):Prop:=∀b o,b≠l→H b=some o→H' b=some o
theorem But.ext {l:Addr} {H H':Hp} {xs:List V} (h:H l=some (.lst xs)) (s:But l H H'):Ext H H':=fun b o e n=>s b o (Zcm e h (n xs)) e
theorem But.same {l:Addr} {H0 H H':Hp} (s:But l H H') (h0:H0 l=none) (s0:Same H0 H):Same H0 H':=fun b o e=>s b o (Zag e h0) (s0 b o e)
theorem Zg0 {l:Addr} {H:Hp} {o:HO}:But l H (upd H l o):=fun b u n e=>by rw[ZaF n]; exact e
theorem Za5 {l:Addr} {xs:List V} {y:V} (h:H l=some (.lst xs)) (z:xs.length < 1000000) (k:∀H':Hp,But l H H'→H' l=some (.lst (xs++[y]))→Q .non H'):ZpH (.ref l) [y] H Q:=ZyB h (Zut z) (k _ Zg0 Zax)
theorem ZBp {l:Addr} {xs:List V} (h:H l=some (.lst xs)) (k:∀H':Hp,But l H H'→H' l=some (.lst [])→Q .non H'):ZxB (.ref l) [] H Q:=ZBd h (k _ Zg0 Zax)
theorem ZFj {l:Addr} {xs:List V} {y:V} (h:H l=some (.lst (xs++[y]))) (k:∀H':Hp,But l H H'→H' l=some (.lst xs)→Q y H'):rPop (.ref l) [] H Q:=ZFf h (k _ Zg0 Zax)
end
theorem Zz2 {to ti:TE} {t:TSet} {v:V} {σ:St} {H:Hp} {R:St→Hp→Prop} (h:to σ H fun o H1=>ti σ H1 fun i H2=>t o i v H2 fun H3=>R σ H3):gSub to ti t v σ H R:=h
theorem ZBn {n j:Nat} (h:j < n):ixN n (j:Int)=some j:=by
 unfold ixN;rw[if_pos (by omega),if_pos (by omega)]; simp
theorem ZFk {H:Hp} {p:Addr} {xs:List V} {j:Nat} {v:V} {R:Hp→Prop} (h:H p=some (.lst xs)) (hj:j < xs.length) (k:∀H':Hp,But p H H'→H' p=some (.lst (xs.set j v))→R H'):ZEo (.ref p) (.int (j:Int)) v H R:=
 ⟨p,xs,j,j,rfl,rfl,h,ZBn hj,k _ Zg0 Zax⟩
end L2
namespace L2
open PySem PySem.Spec PyProof.Rows
def Zeh (X:Cx) (x:Str) (ns:List Str) (scope:Scope) (cl:List (Str×Addr)) (s:Shared) (H:Hp) (ex:List Addr):Cx where
 prog:=X.prog
 w:=X.w
 K:=X.K
 mg:=X.mg
 base:=X.base
 A:=X.A
 N:=x::ns
 s₀:=s
 H₀:=H
 env:=compEnvC scope cl s.heap.objs.size X.env
 outer:=X.stack
 stack:=X.stack
 ex:=ex
 fn:=fun _=>false
 calm:=X.calm
 pn:=[]
 xe:=fun _ _=>False
def subS (σ:St) (ix:List Nat):St:=ix.map fun k=>(σ[k]?).join
def Zn7 (sc:Scope) (N:List Str) (x:Str) (ns:List Str) (ix:List Nat) (scope:Scope):Prop:=
 scope.kind=.function∧(∀y∈scope.names,y.2≠.cell∧(y.2=.local→scope.names.lookup y.1=some .local)∧(y.2=.free→sc.names.lookup y.1=some .cell∨sc.names.lookup y.1=some .free))∧
 scope.names.lookup x=some .local∧(∀y∈ns,scope.names.lookup y=some .free)∧(ix.map fun k=>N[k]?)=ns.map some∧(x::ns).Nodup
instance (sc:Scope) (N:List Str) (x:Str) (ns:List Str) (ix:List Nat) (scope:Scope):Decidable (Zn7 sc N x ns ix scope):=by unfold Zn7; infer_instance
def ZnE (J:It) (ix:List Nat) (tc:TT) (te:TE) (σ:St) (Q:VK) (H1:Hp):Prop:=∀acc,H1 acc=none→∃W:Nat→Nat→List V→Hp→Prop,(∃m,W 0 m [] (upd H1 acc (.lst [])))∧
 ∀i m ys H,W i m ys H→(J.stop i H∧Q (.ref acc) H)∨(J.go i H∧∀x H',J.yld i H x H'→tc (some x::subS σ ix) H' fun b H2=>
  if b=true then te (some x::subS σ ix) H2 fun y H3=>H3 acc=some (.lst ys)∧ys.length < sizeLine∧∃m',m' < m∧W (i+1) m' (ys++[y]) (upd H3 acc (.lst (ys++[y]))) else ∃m',m' < m∧W (i+1) m' ys H2)
def ZzB (wi:TI) (ix:List Nat) (tc:TT) (te:TE):TE:=fun σ H Q=>wi σ H fun J H1=>ZnE J ix tc te σ Q H1
theorem ZgQ {α β:Type} [BEq α] [LawfulBEq α]:∀{l:List (α×β)} {a:α} {b:β},l.lookup a=some b→(a,b)∈l
 | [],_,_,h=>by simp at h
 | (k,v)::r,a,b,h=>by
  rw[List.lookup_cons]at h
  cases e:a == k with
  | true=>
   rw[e]at h
   have:a=k:=by simpa using e
   subst this
   cases h
   exact List.mem_cons_self
  | false=>
   rw[e]at h;exact List.mem_cons_of_mem _ (ZgQ h)
theorem ZkB {env:Env}:∀(names:List (Str×NameKind)) (acc:List (Str×Addr)),(∀y∈names,y.2=.free→∃c,env.cells.lookup y.1=some c)→(∀y c,acc.lookup y=some c→env.cells.lookup y=some c)→
  ∃cl,(forIn names acc fun x r=>match x with | (name,kind)=>if (kind == NameKind.free)=true then(do let a ←cellOf env name; pure (ForInStep.yield ((name,a)::r))) else pure (ForInStep.yield r):Sem (List (Str×Addr)))=pure cl∧
   (∀y c,cl.lookup y=some c→env.cells.lookup y=some c)∧(∀y,(∃c,acc.lookup y=some c)→∃c,cl.lookup y=some c)∧∀y∈names,y.2=.free→∃c,cl.lookup y.1=some c
 | [],acc,_,ha=>⟨acc,rfl,ha,fun _ h=>h,fun _ h=>nomatch h⟩
 | (name,kind)::r,acc,hn,ha=>by
  cases hk:kind == NameKind.free with
  | false=>
   obtain⟨cl,e,h1,h2,h3⟩:=ZkB r acc (fun y hy=>hn y (List.mem_cons_of_mem _ hy)) ha;refine⟨cl,?_,h1,h2,fun y hy hf=>?_⟩
   ·rw[List.forIn_cons]
    simp only [hk,Bool.false_eq_true,if_false];exact e
   ·rcases List.mem_cons.mp hy with rfl | hy
    ·have:kind=.free:=hf
     subst this;simp at hk
    ·exact h3 y hy hf
  | true=>
   have hkf:kind=.free:=by simpa using hk
   obtain⟨c,hc⟩:=hn (name,kind) List.mem_cons_self hkf;have hc:env.cells.lookup name=some c:=hc
   obtain⟨cl,e,h1,h2,h3⟩:=ZkB r ((name,c)::acc) (fun y hy=>hn y (List.mem_cons_of_mem _ hy)) (fun y c' hy=>by
    rw[List.lookup_cons]at hy
    cases e:y == name with
    | true=>
     rw[e]at hy
     have:y=name:=by simpa using e
     subst this
     cases hy
     exact hc
    | false=>
     rw[e]at hy
     exact ha y c' hy)
   refine⟨cl,?_,h1,fun y hy=>h2 y ?_,fun y hy hf=>?_⟩
   ·rw[List.forIn_cons]
    simp only [hk,if_true]
    have:cellOf env name=pure c:=by unfold cellOf; rw[hc]
    rw[this];exact e
   ·obtain⟨c',hc'⟩:=hy
    rw[List.lookup_cons]
    cases y == name
    ·exact⟨c',hc'⟩
    ·exact⟨c,rfl⟩
   ·rcases List.mem_cons.mp hy with rfl | hy
    ·exact h2 _ ⟨c,by rw[List.lookup_cons]; simp⟩
    ·exact h3 y hy hf
theorem Zol {env:Env} (scope:Scope) (h:∀y∈scope.names,y.2=.free→∃c,env.cells.lookup y.1=some c) :
  ∃cl,closureFor scope env=pure cl∧(∀y c,cl.lookup y=some c→env.cells.lookup y=some c)∧∀y∈scope.names,y.2=.free→∃c,cl.lookup y.1=some c:=by
 obtain⟨cl,e,h1,_,h3⟩:=ZkB (env:=env) scope.names [] h (fun _ _ z=>by simp at z);refine⟨cl,?_,h1,h3⟩;show((forIn scope.names [] fun x r=>match x with | (name,kind)=>if (kind == NameKind.free)=true then(do let a ←cellOf env name; pure (ForInStep.yield ((name,a)::r))) else pure (ForInStep.yield r):Sem (List (Str×Addr))) >>= fun s=>pure s)=pure cl;rw[e];rfl
theorem ZlO {env:Env}:∀(names:List (Str×NameKind)) (y:Str),(names.map fun(n,k)=>if (k == NameKind.free && env.scope.kind == .function && env.kindOf n == some .cell) then(n,NameKind.cell) else(n,k)).lookup y =
  (names.lookup y).map fun k=>if (k == NameKind.free && env.scope.kind == .function && env.kindOf y == some .cell)=true then NameKind.cell else k
 | [],y=>by simp
 | (n,k)::r,y=>by
  have ih:=ZlO (env:=env) r y;rw[List.map_cons,List.lookup_cons]
  cases e:y == n with
  | true=>
   have ey:y=n:=by simpa using e
   subst ey
   by_cases hc:(k == NameKind.free && env.scope.kind == .function && env.kindOf y == some .cell)=true
   ·simp only [hc,if_true,List.lookup_cons,beq_self_eq_true,Option.map_some]
   ·simp only [hc,if_false,List.lookup_cons,beq_self_eq_true,Option.map_some,Bool.false_eq_true]
  | false=>
   by_cases hc:(k == NameKind.free && env.scope.kind == .function && env.kindOf n == some .cell)=true
   ·simp only [hc,if_true,List.lookup_cons,e]; exact ih
   ·simp only [hc,if_false,List.lookup_cons,e,Bool.false_eq_true]; exact ih
section
variable {X:Cx} {pj:List (Addr×Obj)} {σ:St} {H:Hp} {s:Shared} {cl:List (Str×Addr)} {x:Str} {ns:List Str} {ix:List Nat} {sc scope:Scope} {N:List Str} {fp:List Addr}
theorem ZA1 (I:Inv X pj σ H s) (f:∀b∈fp,FpOk X pj H b) (hlt:∀b∈fp,b < s.heap.objs.size) (hcl:∀y c,cl.lookup y=some c→X.env.cells.lookup y=some c) {H':Hp} (hn:∀b∈fp,H' b=none):∀b∈fp,FpOk (Zeh X x ns scope cl s H fp) [] H' b:=fun b hb=>by
 obtain⟨f0,f1,f2,f3,f4,f5⟩:=f b hb;refine⟨hn b hb,Nat.ne_of_lt (hlt b hb),fun z=>?_,.inl hb,fun y c e=>f4 y c (hcl y c e),fun p hp=>?_⟩
 ·rcases List.mem_cons.mp (I.stkSub b z) with z | z
  ·exact f1 z
  ·exact f2 z
 ·exact absurd (show p∈([]:List (Addr×Obj)) from hp) (by simp)
theorem ZyF {h1:Heap} {m:Str→Option Value} {t':Nat} (I:Inv X pj σ H s) (hsc:X.env.scope=sc) (hN:X.N=N) (C:Zn7 sc N x ns ix scope) (hcl:∀y c,cl.lookup y=some c→X.env.cells.lookup y=some c)
  (hcla:∀y∈scope.names,y.2=.free→∃c,cl.lookup y.1=some c) (f:∀b∈fp,FpOk X pj H b) (hlt:∀b∈fp,b < s.heap.objs.size) (hn:h1.Ns s.heap.objs.size m) (hk:∀b o,s.heap.get? b=some o→h1.get? b=some o) :
  Inv (Zeh X x ns scope cl s H fp) [] (none::subS σ ix) H { s with heap:=h1,toks:=t' }:=by
 obtain⟨c1,c2,c3,c4,c5,c6⟩:=C;have kind:∀y,(relabel scope X.env).names.lookup y=(scope.names.lookup y).map fun k=>if (k == NameKind.free && X.env.scope.kind == .function && X.env.kindOf y == some .cell)=true then NameKind.cell else k:=fun y=>ZlO scope.names y
 have fr:∀y,((relabel scope X.env).names.lookup y=some .cell∨(relabel scope X.env).names.lookup y=some .free)→scope.names.lookup y=some .free:=fun y h=>by
  rw[kind y]at h
  cases e:scope.names.lookup y with
  | none=>rw[e]at h; simp at h
  | some k=>
   rw[e]at h;have hm:=ZgQ e
   cases k with
   | free=>rfl
   | cell=>exact absurd rfl (c2 _ hm).1
   | «local»=>simp at h
   | globalExplicit=>simp at h
   | globalImplicit=>simp at h
 have fr':∀y,scope.names.lookup y=some .free→(relabel scope X.env).names.lookup y=some .cell∨(relabel scope X.env).names.lookup y=some .free:=fun y h=>by
  rw[kind y,h]
  by_cases hc:(NameKind.free == NameKind.free && X.env.scope.kind == .function && X.env.kindOf y == some .cell)=true
  ·left; rw[Option.map_some,if_pos hc]
  ·right; rw[Option.map_some,if_neg hc]
 have noC:∀p:Addr×Obj,p∉(Zeh X x ns scope cl s H fp).pn++[]:=fun p hp=>absurd (show p∈([]:List (Addr×Obj)) from hp) (by simp)
 have lenE:ix.length=ns.length:=by
  have:=congrArg List.length c5
  rwa [List.length_map,List.length_map]at this
 refine⟨⟨I.ok.mod,c1,I.ok.glob,I.ok.blt,Nat.le_refl _,fun y z c h1 h2=>I.ok.inj y z c (hcl y c h1) (hcl z c h2),fun y hy=>?_,fun y c hy=>absurd hy (by simp[Zeh]),I.ok.hd,I.ok.frames,.inl rfl,fun b hb=>?_,I.bs,
  Nat.le_trans I.ok.bsz I.sz,fun b o e hb=>?_,fun b hb=>?_,I.stack,I.stkFree⟩,rfl,I.bare,Un.kept hk,⟨m,hn,fun i y v e1 e2 e3=>?_⟩,fun y c e=>?_,I.hok.fresh (Nat.le_refl _),fun y c e=>I.freeC y c (hcl y c e),fun p hp=>absurd hp (noC p),I.hok.kept hk,?_⟩
 ·exact hcla _ (ZgQ (fr y hy)) rfl
 ·obtain⟨f0,f1,f2,f3,f4,f5⟩:=f b hb
  exact⟨Nat.ne_of_lt (hlt b hb),fun y c e=>f4 y c (hcl y c e)⟩
 ·obtain⟨f0,f1,f2,f3,f4,f5⟩:=f b hb
  rcases f3 with z | z
  ·exact I.ok.noex b o e z
  ·exact absurd (Nat.lt_of_lt_of_le (Heap.lt_size (I.ok.bs b o e).1) z) (Nat.lt_irrefl _)
 ·obtain⟨f0,f1,f2,f3,f4,f5⟩:=f b hb
  intro z
  rcases List.mem_cons.mp (I.stkSub b z) with z | z
  ·exact f1 z
  ·exact f2 z
 ·cases i with
  | zero=>cases e2
  | succ j=>
   have e1':ns[j]?=some y:=e1;have e2':(ix.map fun k=>(σ[k]?).join)[j]?=some (some v):=e2;have e5:=congrArg (fun l=>l[j]?) c5;simp only [List.getElem?_map,e1',Option.map_some]at e5 e2'
   cases ek:ix[j]? with
   | none=>rw[ek]at e5; cases e5
   | some k=>
    rw[ek]at e5 e2'
    have eN:N[k]?=some y:=by simpa using e5
    have eσ:(σ[k]?).join=some v:=by simpa using e2'
    have eσ':σ[k]?=some (some v):=by
     cases q:σ[k]? with
     | none=>rw[q]at eσ; cases eσ
     | some w=>rw[q]at eσ; have:w=some v:=eσ; rw[this]
    have hy:=c4 y (List.mem_of_getElem? e1');have hk':=(c2 _ (ZgQ hy)).2.2 rfl;rw[←hsc]at hk';obtain⟨m0,hn0,hl⟩:=I.loc;obtain⟨u,r,l⟩:=hl k y v (by rw[hN]; exact eN) eσ' (.inr hk');refine⟨u,r,?_⟩
    rcases l with⟨kl,_⟩ | ⟨_,c,ec,z⟩
    ·exfalso
     have kl:X.env.scope.names.lookup y=some .local:=kl;rw[kl]at hk'
     rcases hk' with z | z <;> cases z
    ·obtain⟨c',ec'⟩:=hcla _ (ZgQ hy) rfl
     have ee:c'=c:=by
      have:=hcl y c' ec';rw[ec]at this;exact(Option.some.inj this).symm
     subst ee;obtain⟨o,ho,hd⟩:=z;exact .inr ⟨fr' y hy,c',ec',⟨o,hk _ _ ho,hd⟩⟩
 ·obtain⟨v,o,ho,hd⟩:=I.cell y c (hcl y c e)
  exact⟨v,o,hk _ _ ho,hd⟩
 ·show(none::subS σ ix).length=(x::ns).length
  rw[List.length_cons,List.length_cons];unfold subS;rw[List.length_map,lenE]
end
theorem ZvU {α β:Type} {M:Model} {A:Around} {a:α} {P:α→Shared→Prop} {E E':Value→Shared→Prop} {s s':Shared} {t:Sem β} {Q:β→Shared→Prop} (h:wpAny M A (pure a) P E s) (k:P a s→wpAny M A t Q E' s'):wpAny M A t Q E' s':=
 fun Γ p hi=>k (h Γ p hi) Γ p hi
def PTs (X:Cx) (ifs:List Expr) (t:TT):Prop:=
 ∀(pj:List (Addr×Obj)) (s:Shared) (σ:St) (H:Hp) (Q:Bool→Hp→Prop),Inv X pj σ H s→t σ H Q→
  wpAny (model X.prog X.w) X.A (forIn ifs true fun c r=>if r=true then do let ok ←isTrue c X.env (eval c X.env); pure (ForInStep.yield ok) else pure (ForInStep.yield r)) (TP X pj σ Q) X.xe s
abbrev ZEW:TT:=fun _ H Q=>Q true H
theorem Zhm {X:Cx}:PTs X [] ZEW:=fun _ _ _ H _ I h=>wpAny_tests_nil ⟨H,I,h⟩
theorem Zig {X:Cx} {c:Expr} {t:TT} (h:PT X c t):PTs X [c] t:=fun pj s σ H Q I q=>wpAny_tests_one (h pj s σ H Q I q)
section
variable {X:Cx} {pj:List (Addr×Obj)} {σ:St} {H:Hp} {s:Shared} {cl:List (Str×Addr)} {x:Str} {ns:List Str} {ix:List Nat} {sc scope:Scope} {N:List Str} {fp:List Addr} {elt iter:Expr} {px pos:Pos} {ifs:List Expr} {tc:TT} {te:TE} {wi:TI}
theorem ZtN {E:Value→Shared→Prop} {J:It} {it:Addr} {tn:Nat→Heap→Prop} {Q:VK} {RR:Value→Addr→Result→Shared→Prop} (hsc:X.env.scope=sc) (hN:X.N=N) (C:Zn7 sc N x ns ix scope) (hc:X.calm=true)
  (ht:∀cl s H ex,PTs (Zeh X x ns scope cl s H ex) ifs tc) (he:∀cl s H ex,PE (Zeh X x ns scope cl s H ex) elt te) (I:Inv X pj σ H s) (hcl:∀y c,cl.lookup y=some c→X.env.cells.lookup y=some c)
  (hcla:∀y∈scope.names,y.2=.free→∃c,cl.lookup y.1=some c) (T:Turn X.prog X.w X.K (.Name x px) J fp it tn) (st:tn 0 s.heap) (f:∀b∈fp,FpOk X pj H b) (h:ZnE J ix tc te σ Q H)
  (fin:∀D C m s' H',Inv X pj σ H' s'→s'.heap.Ns C m→FpOk X pj H' C→Q (.ref D) H'→RR (.ref D) C (.ok .next) s') :
  wpAny (model X.prog X.w) X.A (newList []) (fun ja s3=>wpAny (model X.prog X.w) X.A (newFunctionEnv scope X.env.globals cl [] X.env.qual none .none (some X.env)) (fun ce s4=>
   codeAny (model X.prog X.w) X.A (.compStart (.ListComp elt [⟨.Name x px,iter,ifs,0⟩] scope pos) 0 (.ref it) ja { ce with scope:=relabel scope X.env }) (RR ja ce.locals) s4) E s3) E s:=by
 have hC:=C;obtain⟨c1,c2,c3,c4,c5,c6⟩:=C;have hfr:H s.heap.objs.size=none:=I.hok.fresh (Nat.le_refl _);obtain⟨W,⟨m0,w0⟩,turn⟩:=h _ hfr;refine wpAny_newObj_type (wpAny_newFunctionEnv (fun y hy=>(c2 y hy).1) (by intro y hy; simp at hy) (fun h1 hn1 hs1=>?_) c1);have I3:=I.lnew (its:=[]) (ys:=[]) (t':=s.toks) .nil (Nat.zero_le _)
 have hlt0:∀b∈fp,b < s.heap.objs.size:=fun b hb=>by
  obtain⟨o,ho,_⟩:=T.obj _ _ st b hb;exact Heap.lt_size ho
 generalize hs3:({ s with heap:=s.heap.push { cls:=.type "list",data:=.seq ([]:List Value).toArray },toks:=s.toks }:Shared)=s3 at I3
 have e3:s3.heap=s.heap.push { cls:=.type "list",data:=.seq ([]:List Value).toArray }:=by rw[←hs3]
 have sz3:s3.heap.objs.size=s.heap.objs.size+1:=by rw[e3,Heap.size_push]
 have f3:∀b∈fp,FpOk X pj (upd H s.heap.objs.size (.lst [])) b:=fun b hb=>⟨by rw[ZaF (Nat.ne_of_lt (hlt0 b hb))]; exact(f b hb).1,(f b hb).2⟩
 have hlt:∀b∈fp,b < s3.heap.objs.size:=fun b hb=>by rw[sz3]; exact Nat.lt_succ_of_lt (hlt0 b hb)
 have hk:∀b o,s3.heap.get? b=some o→h1.get? b=some o:=fun b o e=>by
  refine(hs1.2 b ?_).trans (Heap.get?_push_of_some _ ?_)
  ·have:=Heap.lt_size e
   rw[sz3]at this;show b≠(s.heap.push _).objs.size;rw[Heap.size_push];exact Nat.ne_of_lt this
  ·rw[e3]at e; exact e
 have hn3:h1.Ns s3.heap.objs.size (fun y=>([]:List (Str×Value)).reverse.lookup y):=by rw[e3]; exact hn1
 have I4:=ZyF (t':=s3.toks+([]:List (Str×Value)).length) I3 hsc hN hC hcl hcla f3 hlt hn3 hk;have st4:tn 0 h1:=T.keep _ _ _ st fun b hb o e=>hk b o (by rw[e3]; exact Heap.get?_push_of_some _ e);have stat:∀{H':Hp},(∀b∈fp,H' b=none)→∀b∈fp,FpOk (Zeh X x ns scope cl s3 (upd H s.heap.objs.size (.lst [])) fp) [] H' b:=fun {H'} hn=>ZA1 I3 f3 hlt hcl hn
 have loop:∀s4:Shared,s4 = { s3 with heap:=h1,toks:=s3.toks+([]:List (Str×Value)).length }→
   codeAny (model X.prog X.w) X.A (.compLoop (.ListComp elt [⟨.Name x px,iter,ifs,0⟩] scope pos) 0 (.ref it) (.ref s.heap.objs.size) (compEnvC scope cl s3.heap.objs.size X.env)) (RR (.ref s.heap.objs.size) s3.heap.objs.size) s4:=by
  rintro s4 rfl;refine codeAny_compLoop_tests (fun n s'=>∃i v0 ys H',Inv (Zeh X x ns scope cl s3 (upd H s.heap.objs.size (.lst [])) fp) [] (v0::subS σ ix) H' s'∧tn i s'.heap∧(∀b∈fp,H' b=none)∧W i n ys H') ?_ m0 ⟨0,none,[],_,I4,st4,fun b hb=>(f3 b hb).1,w0⟩;rintro n s5 ⟨i,v0,ys,H5,I5,st5,fr5,w5⟩
  rcases turn i n ys H5 w5 with⟨stop,q⟩ | ⟨go,step⟩
  ·refine wpAny_mono (T.done (Zeh X x ns scope cl s3 (upd H s.heap.objs.size (.lst [])) fp) rfl rfl rfl hc i [] s5 _ H5 _ I5 (stat fr5) st5 stop) (fun r s6 hr=>?_) fun _ _ e=>e
   obtain⟨hr,I6⟩:=hr;subst hr;obtain⟨m6,hn6,_⟩:=id I6.loc;refine fin _ _ m6 s6 H5 (I3.call' I6.os I6.base I6.hok I6.bare fun b hb=>?_) hn6 (I3.fpOk (Nat.le_refl _) I6.free) q;obtain⟨g0,g1,g2,g3,g4,g5⟩:=f3 b hb;exact⟨g3,g1,g4,g5⟩
  ·refine wpAny_mono (T.item (Zeh X x ns scope cl s3 (upd H s.heap.objs.size (.lst [])) fp) rfl rfl rfl hc i [] s5 _ H5 _ I5 (stat fr5) st5 go) (fun r s6 hr=>?_) fun _ _ e=>e
   obtain⟨u,hr,h6⟩:=hr;subst hr;refine ZvU (a:=()) h6 fun q6=>?_;obtain⟨xv,H6,I6,r6,y6,st6,fr6⟩:=q6;have I6':=I6.pinned (stat fr6) (T.obj _ _ st6)
   have again:∀{m':Nat} {ys':List V} {H7:Hp} {s7:Shared},Inv (Zeh X x ns scope cl s3 (upd H s.heap.objs.size (.lst [])) fp) ([]++ZrF fp s6.heap) (some xv::subS σ ix) H7 s7→W (i+1) m' ys' H7→
     ∃i v0 ys H',Inv (Zeh X x ns scope cl s3 (upd H s.heap.objs.size (.lst [])) fp) [] (v0::subS σ ix) H' s7∧tn i s7.heap∧(∀b∈fp,H' b=none)∧W i m' ys H':=fun {m' ys' H7 s7} I7 w7=>by
    refine⟨i+1,some xv,ys',H7,I7.unpinned,T.keep _ _ _ st6 fun b hb o e=>(I7.pin (b,o) (List.mem_append_right _ (List.mem_append_right _ (ZgS hb e)))).1,fun b hb=>?_,w7⟩;obtain⟨o,e,d⟩:=T.obj _ _ st6 b hb;exact(I7.pin (b,o) (List.mem_append_right _ (List.mem_append_right _ (ZgS hb e)))).2.1
   have lx:(relabel scope X.env).names.lookup x=some .local:=lookup_relabel_local c3;refine wpAny_mono (Zxv (X:=Zeh X x ns scope cl s3 (upd H s.heap.objs.size (.lst [])) fp) (i:=0) (x:=x) (pos:=px) c6 rfl (.inl lx) (.inr lx) _ s6 _ H6 xv u (fun σ' H'=>σ'=some xv::subS σ ix∧H'=H6) I6' r6 ⟨rfl,rfl⟩) (fun _ s7 h7=>?_) fun _ _ e=>e.elim;obtain⟨σ7,H7,I7,rfl,rfl⟩:=h7;refine wpAny_mono (ht cl s3 _ fp _ s7 _ _ _ I7 (step xv _ y6)) (fun b s8 h8=>?_) fun _ _ e=>e.elim;obtain⟨H8,I8,q8⟩:=h8
   cases b with
   | false=>
    rw[if_neg Bool.false_ne_true]at q8 ⊢;obtain⟨m',hm,w8⟩:=q8;exact⟨m',hm,again I8 w8⟩
   | true=>
    rw[if_pos rfl]at q8 ⊢;refine wpAny_mono (he cl s3 _ fp _ s8 _ _ _ I8 q8) (fun uy s9 h9=>?_) fun _ _ e=>e.elim;obtain⟨y,H9,I9,r9,hacc,hz,m',hm,w9⟩:=h9;refine wpAny_mono (ZaK (X:=Zeh X x ns scope cl s3 (upd H s.heap.objs.size (.lst [])) fp) _ s9 _ H9 (.ref s.heap.objs.size) [y] _ [uy] (fun v H'=>H'=upd H9 s.heap.objs.size (.lst (ys++[y]))) I9 rfl (.cons r9 .nil) ⟨_,ys,y,rfl,rfl,hacc,hz,rfl⟩) (fun _ s10 h10=>?_) fun _ _ e=>e.elim;obtain⟨v,H10,I10,_,rfl⟩:=h10;exact⟨m',hm,again I10 w9⟩
 exact codeAny_compStart_list (loop _ rfl) (T.self _ 0 _ _ _ st4 (loop _ rfl))
theorem ZfR (hsc:X.env.scope=sc) (hN:X.N=N) (C:Zn7 sc N x ns ix scope) (hc:X.calm=true) (hi:PI X (.Name x px) iter wi) (ht:∀cl s H ex,PTs (Zeh X x ns scope cl s H ex) ifs tc) (he:∀cl s H ex,PE (Zeh X x ns scope cl s H ex) elt te)
  (hs:∀v,foldedSetIterable iter X.env v=pure v:=by intro _; rfl):PE X (.ListComp elt [⟨.Name x px,iter,ifs,0⟩] scope pos) (ZzB wi ix tc te):=by
 intro pj s σ H Q I h
 obtain⟨cl,hclos,hcl,hcla⟩:=Zol (env:=X.env) scope fun y hy hf=>I.ok.has y.1 (by
  have:=(C.2.1 y hy).2.2 hf;rw[←hsc]at this
  exact this)
 rw[eval_ListComp];refine wpAny_comprehension_free (use:=none) rfl hs hclos C.1 (fun y hy=>(C.2.1 y hy).2.1) (thn (hi pj s σ H _ I h) fun v s1 h1=>thn h1 fun itv s2 h2=>?_);obtain⟨it,fp,tn,J,H2,rfl,I2,T,st2,f2,hg⟩:=h2;refine ZtN (RR:=fun ja C=>compPost (model X.prog X.w) X.A X.xe none (EP X pj σ Q) ja C) hsc hN C hc ht he I2 hcl hcla T st2 f2 hg ?_;intro D C' m s' H' I' hn' fC q;obtain⟨g0,g1,g2,g3,g4,g5⟩:=fC;exact⟨m,hn',fun h' hs'=>⟨.ref D,H',I'.turned (t':=s'.toks) (fun b o hb e=>hs'.extBut b o hb e) g0 (Ne.symm (Ne.symm g1)) g3 g4 g5,rfl,q⟩⟩
theorem ZkX {y:Str} {py spos:Pos} (i:Nat) (hNd:X.N.Nodup) (hsc:X.env.scope=sc) (hN:X.N=N) (C:Zn7 sc N x ns ix scope) (hc:X.calm=true) (hi:PI X (.Name x px) iter wi) (ht:∀cl s H ex,PTs (Zeh X x ns scope cl s H ex) ifs tc) (he:∀cl s H ex,PE (Zeh X x ns scope cl s H ex) elt te)
  (hs:∀v,foldedSetIterable iter X.env v=pure v:=by intro _; rfl) (hy:X.N[i]?=some y:=by rfl) (hl:X.env.scope.names.lookup y=some .local:=by rfl)
  (hsw:swapsWith (.ListComp elt [⟨.Name x px,iter,ifs,0⟩] scope pos) (some (.Name y py)) spos.line X.env=pure true:=by rfl) :
  PS X (.Assign [.Name y py] (.ListComp elt [⟨.Name x px,iter,ifs,0⟩] scope pos) spos) (tAsg (ZzB wi ix tc te) (ZmJ i)):=by
 intro pj s σ H D I h
 obtain⟨cl,hclos,hcl,hcla⟩:=Zol (env:=X.env) scope fun y hy hf=>I.ok.has y.1 (by
  have:=(C.2.1 y hy).2.2 hf;rw[←hsc]at this
  exact this)
 rw[exec_Assign_Name_used _ _ _ _ hsw];refine wpAny_bind (wpAny_standAt (wpAny_bind ?_));show wpAny _ X.A (do let _ ←comprehension (.ListComp elt [⟨.Name x px,iter,ifs,0⟩] scope pos) scope X.env _ (newList []) false (eval iter X.env) (some (assign (.Name y py) X.env))) _ _ s
 refine wpAny_bind (wpAny_mono (wpAny_comprehension_free (use:=some (assign (.Name y py) X.env)) (Q:=fun _ s'=>SP X pj D .next s') rfl hs hclos C.1 (fun y hy=>(C.2.1 y hy).2.1)
  (thn (hi pj s σ H _ I h) fun v s1 h1=>thn h1 fun itv s2 h2=>?_)) (fun _ s' hq=>wpAny_pure (wpAny_pure hq)) fun _ _ e=>e)
 obtain⟨it,fp,tn,J,H2,rfl,I2,T,st2,f2,hg⟩:=h2;refine ZtN (RR:=fun ja C=>compPost (model X.prog X.w) X.A X.xe (some (assign (.Name y py) X.env)) (fun _ s'=>SP X pj D .next s') ja C) hsc hN C hc ht he I2 hcl hcla T st2 f2 hg ?_;intro D' C' m s' H' I' hn' fC q;obtain⟨g0,g1,g2,g3,g4,g5⟩:=fC;refine wpAny_assign_Name (ZrT I' hNd hy (.inl hl) (v:=.ref D') rfl (fun s'' I'' hs''=>?_) (.inr hl));obtain⟨a,sb,ha⟩:=hs''
 have hne:C'≠a:=by
  rcases ha with ha | ha
  ·rw[ha]; exact g1
  ·intro z; exact g4 y a ha z.symm
 exact⟨m,hn'.sameBut sb hne,fun h' hs'=>⟨_,H',I''.turned (t':=s''.toks) (fun b o hb e=>hs'.extBut b o hb e) g0 g1 g3 g4 g5,q⟩⟩
end
section
variable {wi:TI} {ix:List Nat} {tc:TT} {te:TE} {σ:St} {H:Hp} {Q:VK} {K:PySem.W.Frag}
theorem ZtV {ta:TA} (h:ta σ H fun vs H1=>∃j:Int,vs=[.int j]∧-(2 ^ 62)≤j∧j < 2 ^ 62∧ZnE (Itr 0 j.toNat) ix tc te σ Q H1):ZzB (ZBb ta) ix tc te σ H Q:=h
def ZE4 (K:PySem.W.Frag) (x:V) (ix:List Nat) (tc:TT) (te:TE) (σ:St) (Q:VK) (H1:Hp):Prop:=
 (∃a xs,x=.ref a∧SqL K H1 a xs∧ZnE (Itl K a) ix tc te σ Q H1)∨(∃a xs,x=.ref a∧SqT K H1 a xs∧ZnE (Itt K a) ix tc te σ Q H1)∨(∃z,x=.str z∧ZnE (Its z) ix tc te σ Q H1)
theorem ZwB {tl:TE} (h:tl σ H fun x H1=>ZE4 K x ix tc te σ Q H1):ZzB (iSeq K tl) ix tc te σ H Q:=h
theorem ZAb {BQ:Bool→Hp→Prop} (h:BQ true H):ZEW σ H BQ:=h
def Wk (J:It) (xs:List V) (H1:Hp):Prop:=∀H',Same H1 H'→(∀i,i < xs.length→J.go i H'∧∀x H2,J.yld i H' x H2→H2=H'∧xs[i]?=some x)∧J.stop xs.length H'
theorem Zgr (lo:Int) (n:Nat) (H:Hp):Wk (Itr lo n) ((List.range n).map fun i:Nat=>V.int (lo+(i:Int))) H:=fun H' _=>by
 refine⟨fun i hi=>?_,?_⟩
 ·rw[List.length_map,List.length_range]at hi
  refine⟨hi,fun x H2 y=>?_⟩;obtain⟨e,y⟩:=y;refine⟨e,?_⟩;rw[List.getElem?_map,List.getElem?_range hi,y];rfl
 ·rw[List.length_map,List.length_range]
  exact Nat.le_refl n
theorem Zlb {a:Addr} {xs:List V} (h:SqL K H a xs):Wk (Itl K a) xs H:=fun H' s=>by
 have h':=s.seq h;refine⟨fun i hi=>⟨⟨xs,xs[i],h',by simp[hi]⟩,fun x H2 y=>?_⟩,⟨xs,h',Nat.le_refl _⟩⟩;obtain⟨e,y⟩:=y;exact⟨e,y xs h'⟩
theorem Zgv {J:It} {xs:List V} (Pv:Nat→List V→Prop) (hw:Wk J xs H) (hz:xs.length≤1000000) (h0:Pv 0 [])
  (hs:∀(i:Nat) (x:V) (ys:List V) (acc:Addr) (H':Hp),xs[i]?=some x→Same H H'→H acc=none→H' acc=some (.lst ys)→Pv i ys→ys.length≤i→
   ∀R:Bool→Hp→Prop,(∀b H2,Same H' H2→(b=false→Pv (i+1) ys)→(b=true→∀R2:V→Hp→Prop,(∀y H3,Same H2 H3→Pv (i+1) (ys++[y])→R2 y H3)→te (some x::subS σ ix) H2 R2)→R b H2)→tc (some x::subS σ ix) H' R)
  (hd:∀(acc:Addr) (ys:List V) (H':Hp),H acc=none→Same H H'→H' acc=some (.lst ys)→Pv xs.length ys→Q (.ref acc) H'):ZnE J ix tc te σ Q H:=by
 intro acc hacc
 have sU:∀{H2:Hp} (o:HO),Same H H2→Same H (upd H2 acc o):=fun o s b u e=>by rw[ZaF (Zag e hacc)]; exact s b u e
 refine⟨fun i m ys H'=>m=xs.length - i∧i≤xs.length∧Same H H'∧H' acc=some (.lst ys)∧Pv i ys∧ys.length≤i,⟨xs.length,by simp,Nat.zero_le _,Zcp hacc _,Zax,h0,Nat.le_refl _⟩,?_⟩;rintro i m ys H' ⟨rfl,hi,sm,ea,pv,hy⟩
 by_cases hlt:i < xs.length
 ·obtain⟨go,yl⟩:=(hw H' sm).1 i hlt
  refine .inr ⟨go,fun x H2 y=>?_⟩;obtain⟨rfl,hx⟩:=yl x H2 y;refine hs i x ys acc _ hx sm hacc ea pv hy _ fun b H3 s3 pf pt=>?_
  cases b with
  | false=>
   rw[if_neg Bool.false_ne_true];exact⟨xs.length - (i+1),by omega,rfl,hlt,sm.trans s3,s3 _ _ ea,pf rfl,Nat.le_succ_of_le hy⟩
  | true=>
   rw[if_pos rfl];refine pt rfl _ fun y H4 s4 py=>⟨s4 _ _ (s3 _ _ ea),Zut (by omega),xs.length - (i+1),by omega,rfl,hlt,sU _ (sm.trans (s3.trans s4)),Zax,py,?_⟩;rw[List.length_append,List.length_singleton];omega
 ·have e:i=xs.length:=by omega
  subst e;exact .inl ⟨(hw H' sm).2,hd acc ys H' hacc sm ea pv⟩
end
section
variable {X:Cx} {K:PySem.W.Frag} {a o:Expr} {ta:TE} {pos:Pos}
theorem Zd4 (hK:X.K=K):IxR X (rIx K):=by subst hK; exact Zam
theorem ZkA (hK:X.K=K):ZhL X (.builtin "len") (rLen K):=by subst hK; exact Zaz
theorem ZxA (hK:X.K=K) (ha:PE X a ta) (he:∀whole,isTrue a X.env whole=(do let v ←whole; standAt a.pos; holding [v] (truthy v))):PT X a (fun σ H Q=>ta σ H fun x H'=>∃k,TruV K x H' k∧Q k H'):=by subst hK; exact ZaL ha he
end
end L2
namespace EM
theorem ZCy (x y:Nat):x - (x &&& y)=(x &&& y) ^^^ x:=by
 have h:=Zpx (x+1) (x &&& y) x (by have:=Nat.and_le_left (n:=x) (m:=y); omega)
 have e1:(x &&& y) ||| x=x:=by
  apply Nat.eq_of_testBit_eq; intro i; rw[Nat.testBit_or,Nat.testBit_and]; cases x.testBit i <;> simp
 have e2:(x &&& y) &&& x=x &&& y:=by
  apply Nat.eq_of_testBit_eq; intro i; rw[Nat.testBit_and,Nat.testBit_and]; cases x.testBit i <;> simp
 rw[e1,e2]at h;omega
theorem Znx (x y i:Nat):(x - (x &&& y)).testBit i=(x.testBit i && !y.testBit i):=by
 rw[ZCy,Nat.testBit_xor,Nat.testBit_and]
 cases x.testBit i <;> cases y.testBit i <;> rfl
theorem ZmH (p:Nat→Bool) (i:Nat):(List.range (i+1)).filter p=(List.range i).filter p++(if p i=true then [i] else []):=by
 rw[List.range_succ,List.filter_append,List.filter_cons,List.filter_nil]
end EM
namespace L2
open PySem PySem.Spec PyProof.Rows
section
variable {X:Cx} {K:PySem.W.Frag} {σ:St} {H:Hp} {Q:VK} {a:Expr} {ta:TE} {pos:Pos}
def rSlX:V→Option Int→Option Int→Hp→VK→Prop:=fun x lo hi H Q=>∃z,x=.str z∧z.length≤sizeLine∧Q (.str (Txt.slice z lo hi)) H
theorem ZED:SlR X rSlX:=by
 intro pj s σ H x v vl vu lo hi sl Q I rx hs pl pu h;obtain⟨z,rfl,hz,q⟩:=h;obtain⟨t,rfl⟩:=rx;refine⟨"str",_,F.slot_str_getitem.lookup,typeIs_str _ _ _,?_⟩;obtain⟨o,ho,hc,hd⟩:=hs
 have fin:∀(l u:Option (Int×Tok)),vl=partValue l→vu=partValue u→l.map (·.1)=lo→u.map (·.1)=hi→wpAny (model X.prog X.w) X.A (getItem (.str z t) (.ref sl)) (EP X pj σ Q) X.xe s:=fun l u e1 e2 e3 e4=>by
  subst e1 e2 e3 e4
  exact wpAny_getItem_str_slice (l:=l) (u:=u) (st:=none) ⟨o,ho,hc,hd⟩ rfl
   (post_val_or_str ⟨Nat.le_trans (Txt.slice_le z _ _) hz,fun t' k=>⟨.str _,H,I.tok k,⟨t',rfl⟩,q⟩⟩)
 have pv:∀{v:Value} {o:Option Int},IsPart v o→∃l:Option (Int×Tok),v=partValue l∧l.map (·.1)=o:=fun {v o} h=>by
  cases h <;> first | exact⟨none,rfl,rfl⟩ | exact⟨some (_,_),rfl,rfl⟩
 obtain⟨l,e1,e3⟩:=pv pl;obtain⟨u,e2,e4⟩:=pv pu;exact fin l u e1 e2 e3 e4
def rSlA (K:PySem.W.Frag):V→Option Int→Option Int→Hp→VK→Prop:=fun x lo hi H Q=>rSlG K x lo hi H Q∨rSlX x lo hi H Q
theorem Zc1:SlR X (rSlA X.K):=SlR.or ZEC ZED
theorem ZyE {z:Str} {lo hi:Option Int} (hz:z.length≤1000000) (k:Q (.str (Txt.slice z lo hi)) H):rSlA K (.str z) lo hi H Q:=.inr ⟨z,rfl,Zc4 hz,k⟩
theorem ZkO {p:Addr} {xs ys:List V} {lo hi:Option Int} (h:SqL K H p xs) (e:cutV xs lo hi=ys) (k:∀(l:Addr) (H':Hp),Same H H'→H l=none→H' l=some (.lst ys)→Q (.ref l) H'):rSlA K (.ref p) lo hi H Q:=.inl (j_sl h e k)
def ZEj:V→List V→Hp→VK→Prop:=fun x vs H Q=>∃z y,x=.str z∧vs=[.str y]∧Q (.int (Txt.find z y)) H
theorem Zw6:MtM X "str.find" ZEj:=by
 intro pj s σ H x vs v us Q I rx rv h;obtain⟨z,y,rfl,rfl,q⟩:=h;obtain⟨t,rfl⟩:=rx;obtain⟨u,rfl,t',rfl⟩:=rv.one;exact SC.find ⟨.int _,H,I.tok _,⟨_,rfl⟩,q⟩
theorem tyS {z:Str}:tyV K "str" (.str z) H:=by
 unfold tyV
 first
  | exact .inr (.inl ⟨rfl,_,rfl⟩)
  | exact .inr (.inr (.inl ⟨rfl,_,rfl⟩))
  | exact .inr (.inr ⟨rfl,_,rfl⟩)
  | simp
abbrev TJ:=St→Hp→Str→VK→Prop
def PJ (X:Cx) (es:List Expr) (t:TJ):Prop:=
 ∀(out:Str) (pj:List (Addr×Obj)) (s:Shared) (σ:St) (H:Hp) (Q:VK),Inv X pj σ H s→t σ H out Q→wpAny (model X.prog X.w) X.A (joinParts out (evalEach es X.env)) (EP X pj σ Q) X.xe s
def tJn:TJ:=fun _ H out Q=>out.length≤sizeLine∧Q (.str out) H
abbrev tJc (te:TE) (tr:TJ):TJ:=fun σ H out Q=>te σ H fun x H1=>∃y,x=.str y∧(out++y).length≤sizeLine∧tr σ H1 (out++y) Q
theorem ZAy:PJ X [] tJn:=fun out pj s σ H Q I h=>joinParts_nil ⟨.str out,H,I.tok _,⟨_,rfl⟩,h.2⟩ h.1
theorem ZpB {e:Expr} {es:List Expr} {te:TE} {tr:TJ} (he:PE X e te) (hr:PJ X es tr):PJ X (e::es) (tJc te tr):=by
 intro out pj s σ H Q I h;show wpAny _ _ (joinParts out (eval e X.env::evalEach es X.env)) _ _ s;refine joinParts_cons (thn (he pj s σ H _ I h) fun v s1 ⟨x,H1,I1,r1,y,ex,hz,q⟩=>?_);subst ex;obtain⟨t,rfl⟩:=r1;exact⟨hz,hr _ pj s1 σ H1 Q I1 q⟩
abbrev tFs (t:TJ):TE:=fun σ H Q=>t σ H Str.empty Q
theorem ZrE {e1 e2:Expr} {es:List Expr} {t:TJ} (h:PJ X (e1::e2::es) t):PE X (.JoinedStr (e1::e2::es) pos) (tFs t):=by
 intro pj s σ H Q I q;exact JoinedStr_many (h Str.empty pj s σ H Q I q)
def tFmt (ta:TE):TE:=fun σ H Q=>ta σ H fun x H1=>∃z,x=.str z∧z.length≤sizeLine∧Q (.str z) H1
theorem ZD8 (ha:PE X a ta):PE X (.FormattedValue a (-1) none pos) (tFmt ta):=by
 intro pj s σ H Q I h;refine FormattedValue_plain (thn (ha pj s σ H _ I h) fun v s1 ⟨x,H1,I1,r1,z,ex,hz,q⟩=>?_);subst ex;obtain⟨t,rfl⟩:=r1;exact formatField_str (fun t' k=>⟨.str z,H1,I1.tok k,⟨t',rfl⟩,q⟩) hz
theorem i_fs {t:TJ} (h:t σ H Str.empty Q):tFs t σ H Q:=h
theorem i_jc {te:TE} {tr:TJ} {out:Str} (h:te σ H fun x H1=>∃y,x=.str y∧(out++y).length≤sizeLine∧tr σ H1 (out++y) Q):tJc te tr σ H out Q:=h
end
end L2
namespace L2
open PySem PySem.Spec PyProof.Rows
mutual
def DV (H:Hp):PyData→V→Prop
 | .none,v=>v=.non
 | .bool b,v=>v=.bl b
 | .int i,v=>v=.int i
 | .str x,v=>v=.str x
 | .list ds,v=>∃p xs,v=.ref p∧H p=some (.lst xs)∧DVs H ds xs
 | .tuple ds,v=>∃p xs,v=.ref p∧H p=some (.tup xs)∧DVs H ds xs
 | .dict _,_=>False
def DVs (H:Hp):List PyData→List V→Prop
 | [],xs=>xs=[]
 | d::ds,xs=>∃v r,xs=v::r∧DV H d v∧DVs H ds r
end
section
variable {X:Cx} {pj:List (Addr×Obj)} {σ:St} {H:Hp} {s:Shared}
mutual
theorem Zho (I:Inv X pj σ H s):∀(d:PyData) (v:V) (u:Value),DV H d v→RelV v u→∃as,Reads s.heap u d as
 | .none,v,u,h,r=>by
  rw[DV]at h; subst h; cases r; exact⟨_,.none⟩
 | .bool b,v,u,h,r=>by
  rw[DV]at h; subst h; cases r; exact⟨_,.bool b⟩
 | .int i,v,u,h,r=>by
  rw[DV]at h; subst h; obtain⟨t,rfl⟩:=r; exact⟨_,.int i t⟩
 | .str x,v,u,h,r=>by
  rw[DV]at h; subst h; obtain⟨t,rfl⟩:=r; exact⟨_,.str x t⟩
 | .list ds,v,u,h,r=>by
  rw[DV]at h;obtain⟨p,xs,rfl,e,hs⟩:=h
  cases r
  obtain⟨z,its,n,r',e'⟩:=I.hok p _ e;obtain⟨as,ra⟩:=Znq I ds xs its hs r';exact⟨_,.list e' rfl rfl (by simpa using ra)⟩
 | .tuple ds,v,u,h,r=>by
  rw[DV]at h;obtain⟨p,xs,rfl,e,hs⟩:=h
  cases r
  obtain⟨z,its,r',o,e',hc,n,hd⟩:=I.hok p _ e;obtain⟨as,ra⟩:=Znq I ds xs its hs r';exact⟨_,.tuple e' hc hd (by simpa using ra)⟩
 | .dict _,v,u,h,r=>by rw[DV]at h; exact h.elim
theorem Znq (I:Inv X pj σ H s):∀(ds:List PyData) (xs:List V) (us:List Value),DVs H ds xs→Vals xs us→∃as,ReadsAll s.heap us ds as
 | [],xs,us,h,r=>by
  rw[DVs]at h; subst h; cases r; exact⟨_,.nil⟩
 | d::ds,xs,us,h,r=>by
  rw[DVs]at h;obtain⟨v,r0,rfl,h1,h2⟩:=h
  cases r with
  | cons r1 r2=>
   obtain⟨a1,q1⟩:=Zho I d v _ h1 r1;obtain⟨a2,q2⟩:=Znq I ds r0 _ h2 r2;exact⟨_,.cons q1 q2⟩
end
def rEqD:R2:=fun x y H Q=>∃d1 d2,DV H d1 x∧DV H d2 y∧d1.canLay0=true∧d2.canLay0=true∧d1.depth≤60∧Q (.bl (PyData.eqv d1 d2)) H
theorem ZDZ (hu:X.A.units+64 < cLine):OpR X (compareOp .Eq) rEqD:=by
 intro pj s σ H x y v u Q I rx ry h;obtain⟨d1,d2,h1,h2,c1,c2,hd,q⟩:=h;obtain⟨a1,q1⟩:=Zho I d1 x v h1 rx;obtain⟨a2,q2⟩:=Zho I d2 y u h2 ry;exact SeqAt.compareEq_reads q1 q2 c1 c2 (Nat.lt_of_le_of_lt (Nat.add_le_add_left (Nat.le_trans (Nat.min_le_left _ _) hd) _) (by omega)) ⟨.bl _,H,I,rfl,q⟩
def rEqA:R2:=fun x y H Q=>rEq x y H Q∨rEqD x y H Q
theorem ZaA (hu:X.A.units+64 < cLine):OpR X (compareOp .Eq) rEqA:=OpR.or ZFr (ZDZ hu)
def rNeD:R2:=fun x y H Q=>∃d1 d2,DV H (.list d1) x∧DV H (.list d2) y∧PyData.canLayAll0 d1=true∧PyData.canLayAll0 d2=true∧PyData.depthAll d1≤60∧Q (.bl (!PyData.eqvAll d1 d2)) H
theorem ZD3 (hu:X.A.units+64 < cLine):OpR X (compareOp .NotEq) rNeD:=by
 intro pj s σ H x y v u Q I rx ry h;obtain⟨d1,d2,h1,h2,c1,c2,hd,q⟩:=h;obtain⟨a1,q1⟩:=Zho I (.list d1) x v h1 rx;obtain⟨a2,q2⟩:=Zho I (.list d2) y u h2 ry
 cases q1 with
 | @list b1 o vs n _ as1 g1 g2 g3 g4=>
  cases q2 with
  | @list b2 o' vs' n' _ as2 k1 k2 k3 k4=>
   have hl:s.heap.IsList _ vs:=⟨_,g1,g2,_,g3⟩;have hl':s.heap.IsList _ vs':=⟨_,k1,k2,_,k3⟩
   have n1:vs.size=d1.length:=by simpa using SeqAt.ReadsAll.length _ _ _ g4
   have n2:vs'.size=d2.length:=by simpa using SeqAt.ReadsAll.length _ _ _ k4
   have fin:EP X pj σ Q (.bool (!PyData.eqvAll d1 d2)) s:=⟨.bl _,H,I,rfl,q⟩
   by_cases hz:vs.size=vs'.size
   ·refine SeqAt.RcNeAt.lists hl hl' hz (by omega) (e:=SeqAt.pairEq d1 d2) (fun j j1 j2=>?_) _ _ _ _ ?_
    ·have:=SeqAt.eqAt_readsAll d1 d2 X.A.in1 s vs.toList vs'.toList _ _ g4 k4 c1 c2 (by
      have:X.A.in1.units=X.A.units+1∨X.A.in1.units=X.A.units:=by first | exact .inl rfl | exact .inr rfl
      have h3:=Nat.min_le_left (PyData.depthAll d1) (PyData.depthAll d2)
      omega) j (by simpa using j1) (by simpa using j2)
     simpa using this
    ·have e:=SeqAt.eqvAll_eq d1 d2
     rw[←n1,←n2,←hz,Nat.min_self,beq_self_eq_true,Bool.and_true]at e;rw[e]; exact fin
   ·refine SeqAt.RcNeAt.lists_lengths hl hl' (by simpa using hz) (by omega) _ _ _ _ ?_
    have e:=SeqAt.eqvAll_eq d1 d2
    have hb:(d1.length == d2.length)=false:=by
     rw[←n1,←n2]; simpa using hz
    rw[hb,Bool.and_false]at e;rw[←e]at fin;exact fin
def rNeT:R2:=fun x y H Q=>∃d1 d2,DV H (.tuple d1) x∧DV H (.tuple d2) y∧PyData.canLayAll0 d1=true∧PyData.canLayAll0 d2=true∧PyData.depthAll d1≤60∧Q (.bl (!PyData.eqvAll d1 d2)) H
theorem ZD4 (hu:X.A.units+64 < cLine):OpR X (compareOp .NotEq) rNeT:=by
 intro pj s σ H x y v u Q I rx ry h;obtain⟨d1,d2,h1,h2,c1,c2,hd,q⟩:=h;obtain⟨a1,q1⟩:=Zho I (.tuple d1) x v h1 rx;obtain⟨a2,q2⟩:=Zho I (.tuple d2) y u h2 ry
 cases q1 with
 | @tuple b1 o vs n _ as1 g1 g2 g3 g4=>
  cases q2 with
  | @tuple b2 o' vs' n' _ as2 k1 k2 k3 k4=>
   have hl:s.heap.IsTuple _ vs:=⟨_,g1,g2,_,g3⟩;have hl':s.heap.IsTuple _ vs':=⟨_,k1,k2,_,k3⟩
   have n1:vs.size=d1.length:=by simpa using SeqAt.ReadsAll.length _ _ _ g4
   have n2:vs'.size=d2.length:=by simpa using SeqAt.ReadsAll.length _ _ _ k4
   refine SeqAt.RcNeAt.tuples hl hl' (by omega) (e:=SeqAt.pairEq d1 d2) (fun j j1 j2=>?_) _ _ _ _ ?_
   ·have:=SeqAt.eqAt_readsAll d1 d2 X.A.in1 s vs.toList vs'.toList _ _ g4 k4 c1 c2 (by
     have:X.A.in1.units=X.A.units+1∨X.A.in1.units=X.A.units:=by first | exact .inl rfl | exact .inr rfl
     have h3:=Nat.min_le_left (PyData.depthAll d1) (PyData.depthAll d2)
     omega) j (by simpa using j1) (by simpa using j2)
    simpa using this
   ·rw[n1,n2,SeqAt.eqvAll_eq d1 d2]
    exact⟨.bl _,H,I,rfl,q⟩
def rNeA:R2:=fun x y H Q=>rNe x y H Q∨rNeD x y H Q∨rNeT x y H Q
theorem Zje (hu:X.A.units+64 < cLine):OpR X (compareOp .NotEq) rNeA:=OpR.or ZFs (OpR.or (ZD3 hu) (ZD4 hu))
end
theorem ZmG:∀a b:List Str,PyData.eqvAll (a.map .str) (b.map .str)=decide (a=b)
 | [],[]=>rfl
 | [],_::_=>by simp[PyData.eqvAll]
 | _::_,[]=>by simp[PyData.eqvAll]
 | x::a,y::b=>by
  simp only [List.map_cons,PyData.eqvAll,PyData.eqv,ZmG a b,List.cons.injEq]
  by_cases h:x=y
  ·subst h; simp
  ·simp[h]
theorem ZtO:∀a:List Str,PyData.depthAll (a.map .str)≤60
 | []=>by simp[PyData.depthAll]
 | _::a=>by
  have:=ZtO a;simp only [List.map_cons,PyData.depthAll,PyData.depth]; omega
theorem Zo1 (H:Hp):∀a:List Str,DVs H (a.map .str) (a.map V.str)
 | []=>by rw[List.map_nil,DVs]; rfl
 | x::a=>by
  rw[List.map_cons,DVs];exact⟨.str x,a.map V.str,rfl,by rw[DV],Zo1 H a⟩
section
variable {K:PySem.W.Frag} {H:Hp} {Q:VK}
theorem ZzW {i j:Int} (h:Q (.bl (decide (i=j))) H):rEqA (.int i) (.int j) H Q:=.inl (ZBe h)
theorem ZzX {i j:Str} (h:Q (.bl (decide (i=j))) H):rEqA (.str i) (.str j) H Q:=.inl (ZBf h)
theorem Zz8 {i j:Int} (h:Q (.bl (!decide (i=j))) H):rNeA (.int i) (.int j) H Q:=.inl (ZBj h)
theorem Zz9 {i j:Str} (h:Q (.bl (!decide (i=j))) H):rNeA (.str i) (.str j) H Q:=.inl (ZBk h)
end
end L2
namespace PySem
open Sem (wp)
section
variable {prog:Program} {w:World} {A:Around} {s:Shared} {R:Result→Shared→Prop}
variable {I:Addr} {fp wr:List Addr} {G:Array GenState→Array GenState→Prop} {n:Nat} {P:Nat→Value→Prop} {St:Nat→Shared→Prop}
end
section
variable {prog:Program} {w:World} {A:Around} {E:Value→Shared→Prop} {s:Shared}
variable {I:Addr} {fp wr:List Addr} {G:Array GenState→Array GenState→Prop} {n:Nat} {P:Nat→Value→Prop} {St:Nat→Shared→Prop}
end
end PySem
namespace L2
open PySem PySem.Spec PyProof.Rows
section
variable {X:Cx} {tg:Expr}
def rSum (K:PySem.W.Frag):List V→Hp→VK→Prop:=fun xs H Q=>∃(p:Addr) (ns:List Int),xs=[.ref p]∧SqL K H p (ns.map V.int)∧Q (.int ns.sum) H
theorem ZqW:∀{ns:List Int} {us:List Value},Vals (ns.map V.int) us→∃xs:List (Int×Tok),us=xs.map (fun x=>Value.int x.1 x.2)∧xs.map (·.1)=ns
 | [],_,r=>by
  cases r
  exact⟨[],rfl,rfl⟩
 | n::ns,_,r=>by
  cases r with
  | cons r rr=>
   obtain⟨t,rfl⟩:=r;obtain⟨xs,rfl,e⟩:=ZqW rr;exact⟨(n,t)::xs,rfl,by rw[List.map_cons,e]⟩
theorem ZhZ (hc:X.calm=true):ZhL X (.builtin "sum") (rSum X.K):=by
 intro pj s σ H xs us Q I r h;obtain⟨p,ns,rfl,hq,q⟩:=h
 cases r with
 | cons r rr=>
  cases rr
  cases r
  obtain⟨its,rv,pl,hz⟩:=I.list hq;obtain⟨zs,e,en⟩:=ZqW rv
  have pl':s.heap.IsList p (intItems zs.toArray):=by
   have e':intItems zs.toArray=its.toArray:=by rw[e]; simp[intItems]
   rw[e']; exact pl.isList
  refine sum_intListG (I.ok.hd hc) pl' fun h' tk t' k=>⟨.int ns.sum,H,I.kept k,⟨t',?_⟩,q⟩;rw[preSum_eq,List.take_of_length_le (by simp),←en]
theorem Zny:∀{xs xs':List V} {us us':List Value},Vals xs us→Vals xs' us'→Vals (xs++xs') (us++us')
 | _,_,_,_,.nil,r=>r
 | _,_,_,_,.cons h r,r'=>.cons h (Zny r r')
end
section
variable {σ:St} {H:Hp} {Q:VK} {D:Ends} {K:PySem.W.Frag} {g:TG} {tb:TS} {ix:List Nat} {tc:TT} {te:TE}
theorem ZDu {p:Addr} {ns:List Int} (h:SqL K H p (ns.map V.int)) (q:Q (.int ns.sum) H):rSum K [.ref p] H Q:=⟨p,ns,rfl,h,q⟩
end
end L2
namespace PySem
open Sem (wp)
open AutoSeq1 (wpAny_loadPart')
theorem Zrr (a:Addr) (vs:Array Value) (m:Nat) (dc:Option Addr) (sc:Array (Option Value)):Meets (Builtin.«enumerate.__new__» ⟨[.type "enumerate",.ref a],[]⟩) (fun _ R z=>
    z.heap.get? a=some { cls:=.type "tuple",dict:=dc,data:=.seq vs m,slots:=sc }∧
    R (.ok (.ret (.ref (z.heap.push { cls:=.type "tuple_iterator",data:=.fields #[.ref a,.int 0 0] }).objs.size)))
      { z with heap:=(z.heap.push { cls:=.type "tuple_iterator",data:=.fields #[.ref a,.int 0 0] }).push { cls:=.type "enumerate",data:=.fields #[.none,.bool false,.ref z.heap.objs.size,rawInt 0,.none,.none] } }):=
  .of_wp fun pr wo ar R z hz=>by
    obtain⟨hp,gg,dd,tt,ss⟩:=z;obtain⟨ha,hR⟩:=hz;have hsubE:=sub_enumerate;have hT:Heap.IsTuple (Shared.heap ⟨hp,gg,dd,tt,ss⟩) a vs:=⟨_,ha,rfl,m,rfl⟩
    wp_walk using wpAny_loadPart' ha
    refine wpAny_stack_any fun stk=>wpAny_pure ?_
    split
    · rename_i cc _ _ _ _ _
      cases (cc == Value.type "enumerate") <;>
        (wp_walk using wpAny_loadPart' ha,wpAny_pyIter_tuple hT
         exact⟨_,rfl,hR⟩)
    · wp_walk using wpAny_loadPart' ha,wpAny_pyIter_tuple hT
      exact⟨_,rfl,hR⟩
section
variable {prog:Program} {w:World} {A:Around} {E:Value→Shared→Prop} {s:Shared}
theorem ZoW {a:Addr} {vs:Array Value} {Q:Value→Shared→Prop} (hT:s.heap.IsTuple a vs)
  (q:∀h',IsEnum h' (s.heap.objs.size+1) s.heap.objs.size 0 .none→h'.IsTupleIter s.heap.objs.size a 0→(∀b o,s.heap.get? b=some o→h'.get? b=some o)→Q (.ref (s.heap.objs.size+1)) { s with heap:=h' }) :
  wpAny (model prog w) A (call (.type "enumerate") [.ref a]) Q E s:=by
 obtain⟨⟨c,dc,dt,sc⟩,ha,hc,m,hd⟩:=hT
 replace hc:c=.type "tuple":=hc
 replace hd:dt=.seq vs m:=hd
 subst hc hd;refine callType_new F.called_enumerate (by decide) (F.typeCall_enumerate_1 _) (F.newCall_enumerate_1 _) (fun z=>F.args_object_init_2 z _) F.entry_enumerate_new (Zrr a vs m dc sc) ⟨ha,?_⟩;have hz:(s.heap.push { cls:=.type "tuple_iterator",data:=.fields #[.ref a,.int 0 0] }).objs.size=s.heap.objs.size+1:=Heap.size_push ..;show _∧_;rw[hz]
 have he:IsEnum ((s.heap.push { cls:=.type "tuple_iterator",data:=.fields #[.ref a,.int 0 0] }).push { cls:=.type "enumerate",data:=.fields #[.none,.bool false,.ref s.heap.objs.size,rawInt 0,.none,.none] }) (s.heap.objs.size+1) s.heap.objs.size 0 .none:=by
  have e:=Heap.get?_push_size (s.heap.push { cls:=.type "tuple_iterator",data:=.fields #[.ref a,.int 0 0] }) (o:={ cls:=.type "enumerate",data:=.fields #[.none,.bool false,.ref s.heap.objs.size,rawInt 0,.none,.none] }) rfl;rw[hz]at e;exact e
 exact⟨⟨_,he,rfl⟩,q _ he ⟨_,Heap.get?_push_of_some _ (Heap.get?_push_size _ rfl),rfl,rfl⟩ fun b o e=>Heap.get?_push_of_some _ (Heap.get?_push_of_some _ e)⟩
theorem Znc {it t:Addr} {i:Nat} {vs} {x:Value} {Q:Value→Shared→Prop} (hi:s.heap.IsTupleIter it t i) (ht:s.heap.IsTuple t vs) (hx:vs[i]?=some x)
  (q:∀h',h'.IsTupleIter it t (i+1)→Heap.SameBut it s.heap h'→Q x { s with heap:=h' }):wpAny (model prog w) A (Builtin.SmallTypes.nextOf (.ref it)) Q E s:=by
 obtain⟨o,ho,hc,hd⟩:=id hi;obtain⟨ot,hot,_,nt,hdt⟩:=ht;unfold Builtin.SmallTypes.nextOf;refine wpAny_bind (wpAny_callSpecial?_slot (name:=Str.ofString "__next__") hi.typeIs F.slot_tuple_iterator_next (wpAny_call_entry F.slot_tuple_iterator_next hi.typeIs F.entry_tuple_iterator_next ?_ (F.args_tuple_iterator_next_1 _)));show wpAny _ _ (field (.ref it) 0 >>= _) _ _ s;refine wpAny_bind (wpAny_field ho hd (x:=.ref t) rfl ?_);show wpAny _ _ (if (Value.ref t == Value.none)=true then _ else _) _ _ s;rw[if_neg (show ¬((Value.ref t == Value.none)=true) from Bool.false_ne_true)];show wpAny _ _ (field (.ref it) 1 >>= _) _ _ s;refine wpAny_bind (wpAny_field ho hd (x:=.int i 0) rfl ?_);show wpAny _ _ (seqItems? (.ref t) >>= _) _ _ s;refine wpAny_bind (wpAny_seqItems hot hdt ?_);simp only [Int.toNat_natCast,hx];refine wpAny_bind (wpAny_setField ho hd (by simp) (wpAny_pure ⟨x,rfl,wpAny_pure (q _ ?_ (Heap.SameBut.update ..))⟩));exact⟨_,Heap.get?_update_self _ ho (Obj.isFreed_of_fields (Obj.data_mapFields hd _)),(Obj.cls_mapFields ..).trans hc,by rw[Obj.data_mapFields hd]; simp[rawInt]⟩
theorem ZnY {it t:Addr} {i:Nat} {vs} {Q:Value→Shared→Prop} (hh:A.handled=none) (hi:s.heap.IsTupleIter it t i) (ht:s.heap.IsTuple t vs) (hx:vs[i]?=none)
  (q:∀h' e,Heap.ExtBut it s.heap h'→(∃o,h'.get? e=some o∧o.cls=.type "StopIteration")→E (.ref e) { s with heap:=h' }):wpAny (model prog w) A (Builtin.SmallTypes.nextOf (.ref it)) Q E s:=by
 obtain⟨o,ho,hc,hd⟩:=id hi;obtain⟨ot,hot,_,nt,hdt⟩:=ht;unfold Builtin.SmallTypes.nextOf;refine wpAny_bind (wpAny_callSpecial?_slot (name:=Str.ofString "__next__") hi.typeIs F.slot_tuple_iterator_next (wpAny_call_entry F.slot_tuple_iterator_next hi.typeIs F.entry_tuple_iterator_next ?_ (F.args_tuple_iterator_next_1 _)));show wpAny _ _ (field (.ref it) 0 >>= _) _ _ s;refine wpAny_bind (wpAny_field ho hd (x:=.ref t) rfl ?_);show wpAny _ _ (if (Value.ref t == Value.none)=true then _ else _) _ _ s;rw[if_neg (show ¬((Value.ref t == Value.none)=true) from Bool.false_ne_true)];show wpAny _ _ (field (.ref it) 1 >>= _) _ _ s;refine wpAny_bind (wpAny_field ho hd (x:=.int i 0) rfl ?_);show wpAny _ _ (seqItems? (.ref t) >>= _) _ _ s;refine wpAny_bind (wpAny_seqItems hot hdt ?_);simp only [Int.toNat_natCast,hx];refine wpAny_bind (wpAny_rule (wpAny_bind (wpAny_setField ho hd (by simp) ?_)));show wpAny _ _ (newExc (.type "StopIteration") [] >>= _) _ _ _;refine wpAny_bind ?_;simp only [newExc,newTuple];refine wpAny_bind (wpAny_newObj_type ?_ (by size_fits));refine wpAny_bind (m:=firstArgMember _ _) (wpAny_of_eq (a:=Value.none) (by first | rfl | (simp only [firstArgMember]; rfl)) ?_);refine wpAny_newObj_type ?_ (by size_fits);simp only [raiseNew];refine wpAny_bind (wpAny_handled ?_)
 first | rw[show A.in1.handled=none from hh] | rw[hh]
 refine wpAny_bind (wpAny_pure (wpAny_throw ?_));exact q _ _ (((Heap.SameBut.update ..).extBut.push _).push _) ⟨_,Heap.get?_push_size _ rfl,rfl⟩
end
theorem Draws.tup {prog:Program} {w:World} {A:Around} (hh:A.handled=none) (it t:Addr) (hne:t≠it) (vs:Array Value):Draws prog w A it [it,t] vs.size (fun i v=>vs[i]?=some v) (fun i h=>h.IsTupleIter it t i∧h.IsTuple t vs) where
 live:=fun _ _ z=>let ⟨o,ho,_⟩:=z.1; ⟨o,ho⟩
 frame:=fun _ _ _ z hk=>⟨(let ⟨o,ho,r⟩:=z.1; ⟨o,hk it (by simp) o ho,r⟩),(let ⟨o,ho,r⟩:=z.2; ⟨o,hk t (by simp) o ho,r⟩)⟩
 item:=fun i s Q E hi z q=>Znc z.1 z.2 (x:=vs[i]) (by simp[hi]) fun h' hi' hs'=>q _ h' s.toks (by simp[hi]) ⟨hi',z.2.extBut hs'.extBut hne⟩ hs'
 done:=fun s Q E z q=>ZnY hh z.1 z.2 (by simp) q
theorem Zzg {h:Heap} {o o':Obj} {b:Addr} (e:(h.push o).get? b=some o'):b=h.objs.size∧o'=o∨h.get? b=some o':=by
 obtain⟨e1,e2⟩:=Heap.get?_some_iff.mp e
 have e1:(h.objs.push o)[b]?=some o':=by simpa [Heap.push] using e1
 rw[Array.getElem?_push]at e1
 split at e1
 ·rename_i z
  exact .inl ⟨z,(Option.some.inj e1).symm⟩
 ·exact .inr (Heap.get?_some_iff.mpr ⟨e1,e2⟩)
end PySem
namespace L2
open PySem PySem.Spec PyProof.Rows
section
variable {X:Cx} {pj:List (Addr×Obj)} {σ:List (Option V)} {H:Hp} {s:Shared} {h':Heap}
theorem Inv.turnedL {t':Nat} {ch:List Addr} (I:Inv X pj σ H s) (k:∀b o,b∉ch→s.heap.get? b=some o→h'.get? b=some o) (hf:∀b∈ch,FpOk X pj H b):Inv X pj σ H { s with heap:=h',toks:=t' }:=by
 have nit:∀b u,H b=some u→b∉ch:=fun b u e z=>by rw[(hf b z).1]at e; cases e
 have hL:X.env.locals∉ch:=fun z=>(hf _ z).2.1 rfl;refine I.step (g':=s.gens) (d':=s.drawn) (ch:=ch) (fun b hb=>?_) (fun b o _ _ hc e _=>k b o hc e) (fun b o _ _ hc e _=>⟨o.slots,k b o hc e⟩) (fun _ _ _ _ n=>n) (fun b o hc e=>⟨o,k b o hc e⟩) (fun _ _ e=>e) (fun _ _ _ e=>e) (fun b ps e=>⟨#[],by rw[e]; simp⟩) (fun m hm=>?_) (fun b u e=>?_) I.bare
 ·obtain⟨f0,f1,f2,f3,f4,f5⟩:=hf b hb
  exact⟨f3,f1,f4,f5⟩
 ·obtain⟨o,es,ep,ho,r⟩:=hm
  exact⟨o,es,ep,k _ o hL ho,r⟩
 ·refine(I.hok b u e).stay (fun c v hc q=>k c v ?_ q) (fun _ q=>q) fun _ _ q=>q
  rcases hc with z | z
  ·rw[z]; exact nit b u e
  ·exact nit c _ z
theorem Inv.pairTurn {t':Nat} {ch:List Addr} {x y:V} {u v:Value} (I:Inv X pj σ H s) (rx:RelV x u) (ry:RelV y v) (hf:∀b∈ch,FpOk X pj H b) (hch:∀b∈ch,b≠s.heap.objs.size)
  (k:∀b o,b∉ch→s.heap.get? b=some o→h'.get? b=some o) (hT:h'.get? s.heap.objs.size=some { cls:=.type "tuple",data:=.seq #[u,v] }) :
  Inv X pj σ (upd H s.heap.objs.size (.tup [x,y])) { s with heap:=h',toks:=t' }:=by
 have I1:Inv X pj σ (upd H s.heap.objs.size (.tup [x,y])) { s with heap:=s.heap.push { cls:=.type "tuple",data:=.seq #[u,v] } }:=
  I.laid (t':=s.toks) (fun b o e=>Heap.get?_push_of_some _ e) (Nat.le_refl _) (show Zc7 X.prog X.w _ _ _ (.tup [x,y]) from⟨Nat.le_of_ble_eq_true rfl,[u,v],.cons rx (.cons ry .nil),IsTup.new _ _⟩)
 refine Inv.turnedL (s:={ s with heap:=s.heap.push { cls:=.type "tuple",data:=.seq #[u,v] } }) (ch:=ch) I1 (fun b o hb e=>?_) fun b hb=>?_
 ·rcases Zzg e with⟨e1,e2⟩ | e
  ·rw[e1,e2]; exact hT
  ·exact k b o hb e
 ·obtain⟨f0,f1,f2,f3,f4,f5⟩:=hf b hb
  exact⟨by rw[ZaF (hch b hb)]; exact f0,f1,f2,f3,f4,f5⟩
end
def Ite (sq:Hp→Prop) (xs:List V):It:=⟨fun i H=>i < xs.length∧sq H,fun i H x H'=>∃T v,xs[i]?=some v∧H T=none∧x=.ref T∧H'=upd H T (.tup [.int (i:Int),v]),fun i H=>i=xs.length∧sq H⟩
theorem ZrW {P:Program} {w:World} {K:PySem.W.Frag} {elts:List Expr} {kk:Nat} {ps:Pos} {sq:Hp→Prop} {xs:List V} {e it:Addr} {stI:Nat→Heap→Prop} (hei:e≠it)
  (hobj:∀i h,stI i h→∃o,h.get? it=some o∧∀v,o.data≠.cell v) (hkeep:∀i h h',stI i h→(∀o,h.get? it=some o→h'.get? it=some o)→stI i h')
  (hD:∀(X:Cx),X.prog=P→X.w=w→X.K=K→X.calm=true→∀(pj:List (Addr×Obj)) (σ:St) (H:Hp) (s:Shared) (i:Nat),Inv X pj σ H s→sq H→(∃old,IsEnum s.heap e it i old)→stI i s.heap→
   ∃(its:List Value) (fp:List Addr) (S:Nat→Heap→Prop),Vals xs its∧Draws P w X.A.in1 it fp its.length (fun j v=>its[j]?=some v) S∧S i s.heap∧(∀j h,S j h→stI j h)∧e∉fp) :
  Turn P w K (.Tuple elts kk ps) (Ite sq xs) [e,it] e (fun i h=>(∃old,IsEnum h e it i old)∧stI i h) where
 mem:=by simp
 obj:=fun i h st b hb=>by
  obtain⟨⟨old,he⟩,hs⟩:=st
  rcases List.mem_cons.mp hb with rfl | hb
  ·exact⟨_,he,fun v z=>by cases z⟩
  ·rw[List.mem_singleton.mp hb]; exact hobj i h hs
 keep:=fun i h h' st k=>by
  obtain⟨⟨old,he⟩,hs⟩:=st;exact⟨⟨old,k e (by simp) _ he⟩,hkeep i h h' hs fun o z=>k it (by simp) o z⟩
 item:=by
  intro X hP hw hK hc i pj s σ H E I hf st hg;obtain⟨⟨old,he⟩,hs⟩:=st;obtain⟨its,fp,S,rv,D,hS,hst,hef⟩:=hD X hP hw hK hc pj σ H s i I hg.2 ⟨old,he⟩ hs;subst hP hw hK
  have hi:i < its.length:=by rw[←rv.length]; exact hg.1
  refine wpAny_pyNext_enum_itemD D he hS hi hei hef fun u h1 tk hu ho hs1 hT hsz hk=>?_;have hel:e < s.heap.objs.size:=Heap.lt_size he
  have hil:it < s.heap.objs.size:=by obtain⟨o,q,_⟩:=hobj i _ hs; exact Heap.lt_size q
  refine⟨_,rfl,wpAny_letOwnedTupleGo_enum ho fun h2 he2 hs2=>?_⟩;obtain⟨v,hv⟩ : ∃v,xs[i]?=some v:=⟨xs[i]'hg.1,List.getElem?_eq_getElem hg.1⟩;obtain⟨u',hu',ru⟩:=rv.get hv;have eu:u'=u:=Option.some.inj (hu'.symm.trans hu);subst eu
  have I2:Inv X pj σ (upd H s.heap.objs.size (.tup [.int (i:Int),v])) { s with heap:=h2,toks:=tk+1 }:=
   I.pairTurn (ch:=[e,it]) (u:=.int i tk) ⟨tk,rfl⟩ ru hf (fun b hb=>by
    rcases List.mem_cons.mp hb with rfl | hb
    ·exact Nat.ne_of_lt hel
    ·rw[List.mem_singleton.mp hb]; exact Nat.ne_of_lt hil) (fun b o hb z=>by
    have hb1:b≠e:=fun q=>hb (by simp[q]);have hb2:b≠it:=fun q=>hb (by simp[q])
    exact(hs2.2 b hb1).trans (hk b o hb1 hb2 z)) ((hs2.2 _ (Nat.ne_of_gt hel)).trans hT)
  refine⟨.ref s.heap.objs.size,_,I2,rfl,⟨_,v,hv,I.hok.fresh (Nat.le_refl _),rfl,rfl⟩,⟨⟨_,by simpa using he2⟩,hst _ _ (D.frame _ _ _ hs1 fun b hb o z=>(hs2.2 b fun q=>hef (q ▸ hb)).trans z)⟩,fun b hb=>?_⟩
  have hne:b≠s.heap.objs.size:=by
   rcases List.mem_cons.mp hb with rfl | hb
   ·exact Nat.ne_of_lt hel
   ·rw[List.mem_singleton.mp hb]; exact Nat.ne_of_lt hil
  rw[ZaF hne];exact(hf b hb).1
 done:=by
  intro X hP hw hK hc i pj s σ H E I hf st hg;obtain⟨⟨old,he⟩,hs⟩:=st;obtain⟨its,fp,S,rv,D,hS,hst,hef⟩:=hD X hP hw hK hc pj σ H s i I hg.2 ⟨old,he⟩ hs;subst hP hw hK
  have hi:i=its.length:=by rw[←rv.length]; exact hg.1
  rw[hi]at hS;obtain⟨f0,f1,f2,f3,f4,f5⟩:=hf it (by simp);exact wpAny_pyNext_enum_endD D he hS fun h1 eb=>⟨rfl,I.turned (t':=s.toks) (fun b o hb z=>eb b o hb z) f0 f1 f3 f4 f5⟩
 self:=fun _ _ _ _ _ st h=>by
  obtain⟨⟨old,he⟩,_⟩:=st;exact wpAny_pyIter_enum he h
section
variable {X:Cx}
def ZC5 (K:PySem.W.Frag) (tl:TE):TI:=fun σ H R=>tl σ H fun x H1=>(∃a xs,x=.ref a∧SqL K H1 a xs∧R (Ite (fun H=>SqL K H a xs) xs) H1)∨(∃a xs,x=.ref a∧SqT K H1 a xs∧R (Ite (fun H=>SqT K H a xs) xs) H1)
theorem Ztk {elts:List Expr} {kk:Nat} {ps:Pos} {l:Expr} {tl:TE} {p pos:Pos} (hg:Gl X "enumerate") (hm:X.mg "enumerate" = none) (ha:PE X l tl) (he:starEach [l] X.env=(false,eval l X.env)::starEach [] X.env:=by rfl) :
  PI X (.Tuple elts kk ps) (.Call (.Name "enumerate" p) [l] [] pos) (ZC5 X.K tl):=by
 intro pj s σ H R I h;refine wpAny_Call_Name_kw (Zlx I hg hm Zqu ?_)
 let R':List V→Hp→Prop:=fun vs H1=>match vs with | [x]=>((∃a xs,x=V.ref a∧SqL X.K H1 a xs∧R (Ite (fun H=>SqL X.K H a xs) xs) H1)∨(∃a xs,x=V.ref a∧SqT X.K H1 a xs∧R (Ite (fun H=>SqT X.K H a xs) xs) H1)) | _=>False
 have h':Zla tl tNil σ H R':=h;refine PyProof.Rows.callWith_type1 (thn (Zaa ha Zad he pos pj s σ H R' I h') fun us s1 ⟨vs,H1,I1,r1,q1⟩=>?_) he rfl
 have fpk:∀b∈[s1.heap.objs.size+1,s1.heap.objs.size],FpOk X pj H1 b:=fun b hb=>by
  rcases List.mem_cons.mp hb with rfl | hb
  ·exact I1.fpOk (Nat.le_succ _) (I1.hok.fresh (Nat.le_succ _))
  ·rw[List.mem_singleton.mp hb]; exact I1.fpOk (Nat.le_refl _) (I1.hok.fresh (Nat.le_refl _))
 match vs,r1,q1 with
 | [x],r1,q1=>
  obtain⟨u,rfl,rx⟩:=ZrX r1
  rcases q1 with⟨a,xs,rfl,hq,q⟩ | ⟨a,xs,rfl,hq,q⟩
  ·cases rx
   obtain⟨its,rv,pl,hz⟩:=I1.list hq;refine call_enumerate_list pl.isList fun h2 he2 hi2 hsz hk=>?_;refine wpAny_pyIter_enum he2 ⟨s1.heap.objs.size+1,_,_,_,H1,rfl,I1.kept (t':=s1.toks) hk,ZrW (e:=s1.heap.objs.size+1) (it:=s1.heap.objs.size) (stI:=fun i h=>h.IsListIter s1.heap.objs.size a i) (Nat.succ_ne_self _) ?_ ?_ ?_,⟨⟨_,he2⟩,hi2⟩,fpk,q⟩
   ·rintro i h ⟨o,e,c,d⟩
    exact⟨o,e,fun v z=>by rw[d]at z; cases z⟩
   ·exact fun i h h' z k=>z.at k
   ·intro Y hP hw hK hc pins' σ' H' s' i I' hs ⟨old,hen⟩ hit
    have hs:SqL Y.K H' a xs:=by rw[hK]; exact hs
    obtain⟨its',rv',pl',hz'⟩:=I'.list hs
    have na:a≠s1.heap.objs.size:=fun z=>by
     obtain⟨o,e,c,d⟩:=hit;obtain⟨o',e',c',d'⟩:=pl'.isList;rw[z,e]at e'
     cases e'
     rw[c]at c';exact absurd c' (by decide)
    have nb:s1.heap.objs.size+1∉[s1.heap.objs.size,a]:=fun z=>by
     rcases List.mem_cons.mp z with z | z
     ·exact Nat.succ_ne_self _ z
     ·obtain⟨o',e',c',d'⟩:=pl'.isList
      rw[←List.mem_singleton.mp z,hen]at e'
      cases e'
      have c2:Value.type "enumerate" = Value.type "list":=c';exact absurd c2 (by decide)
    have D:=Draws.list (prog:=Y.prog) (w:=Y.w) (A:=Y.A.in1) (I'.ok.hd hc) s1.heap.objs.size a na its'.toArray;rw[hP,hw]at D;exact⟨its',[s1.heap.objs.size,a],fun i h=>h.IsListIter s1.heap.objs.size a i∧h.IsList a its'.toArray,rv',by simpa using D,⟨hit,pl'.isList⟩,fun j h z=>z.1,nb⟩
  ·cases rx
   obtain⟨its,rv,pl,hz⟩:=I1.tuple hq;refine ZoW (show s1.heap.IsTuple a its.toArray from pl) fun h2 he2 hi2 hk=>?_;refine wpAny_pyIter_enum he2 ⟨s1.heap.objs.size+1,_,_,_,H1,rfl,I1.kept (t':=s1.toks) hk,ZrW (e:=s1.heap.objs.size+1) (it:=s1.heap.objs.size) (stI:=fun i h=>h.IsTupleIter s1.heap.objs.size a i) (Nat.succ_ne_self _) ?_ ?_ ?_,⟨⟨_,he2⟩,hi2⟩,fpk,q⟩
   ·rintro i h ⟨o,e,c,d⟩
    exact⟨o,e,fun v z=>by rw[d]at z; cases z⟩
   ·exact fun i h h' z k=>let ⟨o,e,r⟩:=z; ⟨o,k o e,r⟩
   ·intro Y hP hw hK hc pins' σ' H' s' i I' hs ⟨old,hen⟩ hit
    have hs:SqT Y.K H' a xs:=by rw[hK]; exact hs
    obtain⟨its',rv',pl',hz'⟩:=I'.tuple hs
    have na:a≠s1.heap.objs.size:=fun z=>by
     obtain⟨o,e,c,d⟩:=hit;obtain⟨o',e',c',d'⟩:=pl';rw[z,e]at e'
     cases e'
     rw[c]at c';exact absurd c' (by decide)
    have nb:s1.heap.objs.size+1∉[s1.heap.objs.size,a]:=fun z=>by
     rcases List.mem_cons.mp z with z | z
     ·exact Nat.succ_ne_self _ z
     ·obtain⟨o',e',c',d'⟩:=pl'
      rw[←List.mem_singleton.mp z,hen]at e'
      cases e'
      have c2:Value.type "enumerate" = Value.type "tuple":=c';exact absurd c2 (by decide)
    have D:=Draws.tup (prog:=Y.prog) (w:=Y.w) (A:=Y.A.in1) (I'.ok.hd hc) s1.heap.objs.size a na its'.toArray;rw[hP,hw]at D;exact⟨its',[s1.heap.objs.size,a],fun i h=>h.IsTupleIter s1.heap.objs.size a i∧h.IsTuple a its'.toArray,rv',by simpa using D,⟨hit,pl'⟩,fun j h z=>z.1,nb⟩
def rAll (K:PySem.W.Frag):List V→Hp→VK→Prop:=fun xs H Q=>∃(p:Addr) (bs:List Bool),xs=[.ref p]∧SqL K H p (bs.map V.bl)∧Q (.bl (bs.all id)) H
theorem Zoj:∀{bs:List Bool} {us:List Value},Vals (bs.map V.bl) us→us=bs.map Value.bool
 | [],_,r=>by cases r; rfl
 | b::bs,_,r=>by
  cases r with
  | cons r rr=>
   cases r
   rw[Zoj rr];rfl
theorem ZxF (bs:List Bool):(List.range bs.length).all (fun i=>bs.getD i false)=bs.all id:=by
 apply Bool.eq_iff_iff.mpr;rw[List.all_eq_true,List.all_eq_true]
 constructor
 ·intro h x hx
  obtain⟨i,hi,rfl⟩:=List.mem_iff_getElem.mp hx;have:=h i (List.mem_range.mpr hi);rw[List.getD_eq_getElem?_getD,List.getElem?_eq_getElem hi]at this;exact this
 ·intro h i hi
  have hi:=List.mem_range.mp hi;rw[List.getD_eq_getElem?_getD,List.getElem?_eq_getElem hi];exact h _ (List.getElem_mem hi)
theorem Zty {prog:Program} {w:World} {A:Around} (bs:List Bool):TruthOf prog w A (fun i v=>(bs.map Value.bool).toArray[i]?=some v) (fun i=>bs.getD i false):=by
 intro i v s Q E hP hQ;rw[List.getElem?_toArray,List.getElem?_map]at hP
 cases e:bs[i]? with
 | none=>rw[e]at hP; cases hP
 | some b=>
  rw[e]at hP
  cases hP
  simp only [List.getD_eq_getElem?_getD,e]at hQ;exact wpAny_truthy_bool hQ
theorem Zv5 (hc:X.calm=true):ZhL X (.builtin "all") (rAll X.K):=by
 intro pj s σ H xs us Q I r h;obtain⟨p,bs,rfl,hq,q⟩:=h;obtain⟨u,rfl,rx⟩:=ZrX r
 cases rx
 obtain⟨its,rv,pl,hz⟩:=I.list hq;have e:=Zoj rv;subst e
 have hpl:p < s.heap.objs.size:=by obtain⟨o,ho,_⟩:=pl.isList; exact Heap.lt_size ho
 have W:=Walks.list (prog:=X.prog) (w:=X.w) (A:=X.A.in1) (I.ok.hd hc) s.heap.objs.size p (Nat.ne_of_lt hpl) (bs.map Value.bool).toArray;refine call_all_walk (wpAny_pyIter_list pl.isList ⟨s.heap.objs.size,_,_,_,_,_,_,rfl,W,⟨⟨_,Heap.get?_push_size _ rfl,rfl,rfl⟩,pl.isList.push _⟩,Zty bs,fun h' tk k=>?_⟩);rw[List.size_toArray,List.length_map,ZxF];refine⟨.bl (bs.all id),H,I.kept (t':=tk) (fun b o z=>k b o ?_ (Heap.get?_push_of_some _ z)),rfl,q⟩;exact fun hm=>absurd (Heap.lt_size z) (by rw[List.mem_singleton.mp hm]; exact Nat.lt_irrefl _)
end
section
variable {σ:St} {H:Hp} {Q:VK} {D:Ends} {K:PySem.W.Frag} {g:TG} {tb:TS}
def ZAM (sq:Hp→Prop) (xs:List V) (g:TG) (tb:TS) (D:Ends) (σ:St) (H:Hp):Prop:=
 ∃W:Nat→Nat→St→Hp→Prop,(∃m,W 0 m σ H)∧∀i m σ H,W i m σ H→
   ((Ite sq xs).stop i H∧D.nx σ H)∨((Ite sq xs).go i H∧∃N:St→Hp→Prop,(∀σ' H',N σ' H'→∃m',m' < m∧W (i+1) m' σ' H')∧∀x H',(Ite sq xs).yld i H x H'→g x σ H' fun σ2 H2=>tb { D with nx:=N,ct:=N,bk:=D.nx } σ2 H2)
def SeqE (K:PySem.W.Frag) (x:V) (g:TG) (tb:TS) (D:Ends) (σ:St) (H1:Hp):Prop:=(∃a xs,x=.ref a∧SqL K H1 a xs∧ZAM (fun H=>SqL K H a xs) xs g tb D σ H1)∨(∃a xs,x=.ref a∧SqT K H1 a xs∧ZAM (fun H=>SqT K H a xs) xs g tb D σ H1)
theorem ZzZ {tl:TE} (h:tl σ H fun x H1=>SeqE K x g tb D σ H1):tFor (ZC5 K tl) g tb D σ H:=h
theorem ZDM {sq:Hp→Prop} {xs:List V} (Pv:Nat→St→Hp→Prop) (h0:Pv 0 σ H) (hl:∀i σ H,i≤xs.length→Pv i σ H→sq H)
  (hs:∀(i:Nat) (v:V) (T:Addr) σ H H',xs[i]?=some v→Pv i σ H→Same H H'→H T=none→H' T=some (.tup [.int (i:Int),v])→g (.ref T) σ H' fun σ2 H2=>tb { D with nx:=Pv (i+1),ct:=Pv (i+1),bk:=D.nx } σ2 H2) (hd:∀σ H,Pv xs.length σ H→D.nx σ H):ZAM sq xs g tb D σ H:=by
 refine⟨fun i m σ H=>m=xs.length - i∧i≤xs.length∧Pv i σ H,⟨xs.length,by simp,Nat.zero_le _,h0⟩,?_⟩;rintro i m σ H ⟨rfl,hi,p⟩
 by_cases hlt:i < xs.length
 ·refine .inr ⟨⟨hlt,hl i σ H hi p⟩,Pv (i+1),fun σ' H' p'=>⟨xs.length - (i+1),by omega,rfl,hlt,p'⟩,fun x H' y=>?_⟩
  obtain⟨T,v,hv,hT,rfl,rfl⟩:=y;exact hs i v T σ H _ hv p (Zcp hT _) hT Zax
 ·have e:i=xs.length:=by omega
  subst e;exact .inl ⟨⟨rfl,hl _ σ H hi p⟩,hd σ H p⟩
theorem ZFv {a:Addr} {xs:List V} (Pv:Nat→St→Hp→Prop) (h0:Pv 0 σ H) (hl:∀i σ H,i≤xs.length→Pv i σ H→SqL K H a xs)
  (hs:∀(i:Nat) (v:V) (T:Addr) σ H H',xs[i]?=some v→Pv i σ H→Same H H'→H T=none→H' T=some (.tup [.int (i:Int),v])→g (.ref T) σ H' fun σ2 H2=>tb { D with nx:=Pv (i+1),ct:=Pv (i+1),bk:=D.nx } σ2 H2) (hd:∀σ H,Pv xs.length σ H→D.nx σ H):SeqE K (.ref a) g tb D σ H:=.inl ⟨a,xs,rfl,hl 0 σ H (Nat.zero_le _) h0,ZDM Pv h0 hl hs hd⟩
theorem ZEA {a:Addr} {xs:List V} (Pv:Nat→St→Hp→Prop) (h0:Pv 0 σ H) (hl:∀i σ H,i≤xs.length→Pv i σ H→SqT K H a xs)
  (hs:∀(i:Nat) (v:V) (T:Addr) σ H H',xs[i]?=some v→Pv i σ H→Same H H'→H T=none→H' T=some (.tup [.int (i:Int),v])→g (.ref T) σ H' fun σ2 H2=>tb { D with nx:=Pv (i+1),ct:=Pv (i+1),bk:=D.nx } σ2 H2) (hd:∀σ H,Pv xs.length σ H→D.nx σ H):SeqE K (.ref a) g tb D σ H:=.inr ⟨a,xs,rfl,hl 0 σ H (Nat.zero_le _) h0,ZDM Pv h0 hl hs hd⟩
theorem ZsH {T:Addr} {x y:V} {i j:Nat} {R:St→Hp→Prop} (e:H T=some (.tup [x,y])) (h:R ((σ.set i (some x)).set j (some y)) H):gTup K 2 (ZA2 (ZmJ i) (ZA2 (ZmJ j) gNil)) (.ref T) σ H R:=
 ⟨T,[x,y],rfl,SqT.of e,rfl,x,[y],rfl,y,[],rfl,rfl,h⟩
theorem ZAh {i:Int} {R:Bool→Prop} (h:R (!decide (i=0))):∃k,TruV K (.int i) H k∧R k:=⟨_,rfl,h⟩
theorem ZwA {r r':R2} {ta tb tc:TE} (h:ta σ H fun x H1=>tb σ H1 fun y H2=>r x y H2 fun z H3=>∃k,z=.bl k∧(if k=true then tc σ H3 fun w' H4=>r' y w' H4 Q else Q (.bl false) H3)):ZAE r r' ta tb tc σ H Q:=h
theorem ZFc {p:Addr} {bs:List Bool} (h:SqL K H p (bs.map V.bl)) (q:Q (.bl (bs.all id)) H):rAll K [.ref p] H Q:=⟨p,bs,rfl,h,q⟩
end
end L2
namespace L2
open PySem PySem.Spec PyProof.Rows
def Itz (K:PySem.W.Frag) (a b:Addr) (xs ys:List V):It:=⟨fun i H=>(i < xs.length∧i < ys.length)∧SqL K H a xs∧SqL K H b ys,
 fun i H x H'=>∃T v u,xs[i]?=some v∧ys[i]?=some u∧H T=none∧x=.ref T∧H'=upd H T (.tup [v,u]),fun i H=>(xs.length≤i∨ys.length≤i)∧SqL K H a xs∧SqL K H b ys⟩
theorem Zfa {h:Heap} {a b:Addr} {o o':Obj} (e:h.get? a=some o) (e':h.get? b=some o') (n:o.cls≠o'.cls):a≠b:=fun z=>by
 rw[z,e']at e
 cases e
 exact n rfl
theorem Zi1 {m n:String} (h:m≠n):Value.type m≠Value.type n:=fun e=>h (by injection e)
theorem ZzD {P:Program} {w:World} {K:PySem.W.Frag} {elts:List Expr} {kk:Nat} {ps:Pos} {a b z TI TO i1 i2:Addr} {xs ys:List V} (d1:TI≠z) (d2:TO≠z) (d3:i1≠z) (d4:i2≠z) (d5:TI≠TO) (d6:TI≠i1) (d7:TI≠i2) (d8:TO≠i1) (d9:TO≠i2) (d10:i1≠i2) :
  Turn P w K (.Tuple elts kk ps) (Itz K a b xs ys) [z,TI,TO,i1,i2] z (fun i h=>IsZip h z TI TO .none∧IsPair h TI (.ref i1) (.ref i2)∧(∃u v,IsPair h TO u v)∧h.IsListIter i1 a i∧h.IsListIter i2 b i) where
 mem:=by simp
 obj:=fun i h st c hc=>by
  obtain⟨hz,hTI,⟨u,v,hTO⟩,⟨o1,e1,_,g1⟩,⟨o2,e2,_,g2⟩⟩:=st;simp at hc
  rcases hc with rfl | rfl | rfl | rfl | rfl
  ·exact⟨_,hz,fun v z=>by cases z⟩
  ·exact⟨_,hTI,fun v z=>by cases z⟩
  ·exact⟨_,hTO,fun v z=>by cases z⟩
  ·exact⟨_,e1,fun v z=>by rw[g1]at z; cases z⟩
  ·exact⟨_,e2,fun v z=>by rw[g2]at z; cases z⟩
 keep:=fun i h h' st k=>by
  obtain⟨hz,hTI,⟨u,v,hTO⟩,h1,h2⟩:=st;exact⟨k z (by simp) _ hz,k TI (by simp) _ hTI,⟨u,v,k TO (by simp) _ hTO⟩,h1.at fun o e=>k i1 (by simp) o e,h2.at fun o e=>k i2 (by simp) o e⟩
 item:=by
  intro X hP hw hK hc i pj s σ H E I hf st hg;subst hP hw hK;obtain⟨hz,hTI,⟨u0,v0,hTO⟩,h1,h2⟩:=st;obtain⟨⟨hi1,hi2⟩,hq1,hq2⟩:=hg;obtain⟨its,rv,pl,hzz⟩:=I.list hq1;obtain⟨jts,rw',pm,hzw⟩:=I.list hq2;obtain⟨x,hx⟩ : ∃v,xs[i]?=some v:=⟨xs[i]'hi1,List.getElem?_eq_getElem hi1⟩;obtain⟨y,hy⟩ : ∃v,ys[i]?=some v:=⟨ys[i]'hi2,List.getElem?_eq_getElem hi2⟩;obtain⟨u,hu,ru⟩:=rv.get hx;obtain⟨v,hv,rvv⟩:=rw'.get hy;obtain⟨oa,ea,ca,_⟩:=id pl.isList;obtain⟨ob,eb,cb,_⟩:=id pm.isList;obtain⟨o1,e1,c1,_⟩:=id h1;obtain⟨o2,e2,c2,_⟩:=id h2
  have D:ZipApart z TI TO i1 i2 a b:=⟨d1,d2,d3,d4,d5,d6,d7,d8,d9,d10,Zfa ea hz (by rw[ca]; exact Zi1 (m:="list") (n:="zip") (by decide)),Zfa ea hTO (by rw[ca]; exact Zi1 (m:="list") (n:="tuple") (by decide)),Zfa ea e1 (by rw[ca,c1]; exact Zi1 (m:="list") (n:="list_iterator") (by decide)),Zfa ea e2 (by rw[ca,c2]; exact Zi1 (m:="list") (n:="list_iterator") (by decide)),
   Zfa eb hz (by rw[cb]; exact Zi1 (m:="list") (n:="zip") (by decide)),Zfa eb hTO (by rw[cb]; exact Zi1 (m:="list") (n:="tuple") (by decide)),Zfa eb e1 (by rw[cb,c1]; exact Zi1 (m:="list") (n:="list_iterator") (by decide)),Zfa eb e2 (by rw[cb,c2]; exact Zi1 (m:="list") (n:="list_iterator") (by decide))⟩
  refine wpAny_pyNext_zip_item D hz hTI hTO h1 h2 pl.isList pm.isList (x:=u) (y:=v) (by simpa using hu) (by simpa using hv) fun h' q1 q2 q3 q4 q5 q6 hk=>?_;refine⟨_,rfl,wpAny_letOwnedTupleGo_zip q1 fun h2' hz' hs'=>?_⟩
  have lts:∀c∈[z,TI,TO,i1,i2],c≠s.heap.objs.size:=fun c hc=>by
   simp at hc
   rcases hc with rfl | rfl | rfl | rfl | rfl
   ·exact Nat.ne_of_lt (Heap.lt_size hz)
   ·exact Nat.ne_of_lt (Heap.lt_size hTI)
   ·exact Nat.ne_of_lt (Heap.lt_size hTO)
   ·exact Nat.ne_of_lt (Heap.lt_size e1)
   ·exact Nat.ne_of_lt (Heap.lt_size e2)
  have hzT:s.heap.objs.size≠z:=(lts z (by simp)).symm
  have I2:Inv X pj σ (upd H s.heap.objs.size (.tup [x,y])) { s with heap:=h2' }:=I.pairTurn (t':=s.toks) (ch:=[z,TI,TO,i1,i2]) ru rvv hf lts (fun c o hc e=>by
   have n1:c≠z:=fun q=>hc (by simp[q])
   exact hs'.extBut _ _ n1 (hk c o n1 (fun q=>hc (by simp[q])) (fun q=>hc (by simp[q])) (fun q=>hc (by simp[q])) e)) (hs'.extBut _ _ hzT q5)
  refine⟨.ref s.heap.objs.size,_,I2,rfl,⟨_,x,y,hx,hy,I.hok.fresh (Nat.le_refl _),rfl,rfl⟩,⟨hz',hs'.extBut _ _ d1 (hk _ _ d1 d5 d6 d7 hTI),⟨_,_,hs'.extBut _ _ d2 q2⟩,q3.extBut hs'.extBut d3,q4.extBut hs'.extBut d4⟩,fun c hc=>?_⟩;rw[ZaF (lts c hc)];exact(hf c hc).1
 done:=by
  intro X hP hw hK hc i pj s σ H E I hf st hg;subst hP hw hK;obtain⟨hz,hTI,⟨u0,v0,hTO⟩,h1,h2⟩:=st;obtain⟨hend,hq1,hq2⟩:=hg;obtain⟨its,rv,pl,hzz⟩:=I.list hq1;obtain⟨jts,rw',pm,hzw⟩:=I.list hq2;obtain⟨oa,ea,ca,_⟩:=id pl.isList;obtain⟨ob,eb,cb,_⟩:=id pm.isList;obtain⟨o1,e1,c1,_⟩:=id h1;obtain⟨o2,e2,c2,_⟩:=id h2;have l1:=rv.length;have l2:=rw'.length
  have D:ZipApart z TI TO i1 i2 a b:=⟨d1,d2,d3,d4,d5,d6,d7,d8,d9,d10,Zfa ea hz (by rw[ca]; exact Zi1 (m:="list") (n:="zip") (by decide)),Zfa ea hTO (by rw[ca]; exact Zi1 (m:="list") (n:="tuple") (by decide)),Zfa ea e1 (by rw[ca,c1]; exact Zi1 (m:="list") (n:="list_iterator") (by decide)),Zfa ea e2 (by rw[ca,c2]; exact Zi1 (m:="list") (n:="list_iterator") (by decide)),
   Zfa eb hz (by rw[cb]; exact Zi1 (m:="list") (n:="zip") (by decide)),Zfa eb hTO (by rw[cb]; exact Zi1 (m:="list") (n:="tuple") (by decide)),Zfa eb e1 (by rw[cb,c1]; exact Zi1 (m:="list") (n:="list_iterator") (by decide)),Zfa eb e2 (by rw[cb,c2]; exact Zi1 (m:="list") (n:="list_iterator") (by decide))⟩
  refine wpAny_pyNext_zip_end (I.ok.hd hc) D hz hTI hTO h1 h2 pl.isList pm.isList (hend.imp (fun q=>by simp; omega) fun q=>by simp; omega) fun h' hk=>⟨rfl,?_⟩;exact I.turnedL (t':=s.toks) (ch:=[z,TI,TO,i1,i2]) (fun c o hc e=>hk c o (fun q=>hc (by simp[q])) (fun q=>hc (by simp[q])) (fun q=>hc (by simp[q])) (fun q=>hc (by simp[q])) e) hf
 self:=fun _ _ _ _ _ st h=>wpAny_pyIter_zip st.1 h
section
variable {X:Cx}
def iZip (K:PySem.W.Frag) (ta:TA):TI:=fun σ H R=>ta σ H fun vs H1=>∃a b xs ys,vs=[.ref a,.ref b]∧SqL K H1 a xs∧SqL K H1 b ys∧R (Itz K a b xs ys) H1
theorem ZEe {elts:List Expr} {kk:Nat} {ps:Pos} {a b:Expr} {ta:TA} {p pos:Pos} (hg:Gl X "zip") (hm:X.mg "zip" = none) (ha:PA X [a,b] ta) (hs:starEach [a,b] X.env=[(false,eval a X.env),(false,eval b X.env)]:=by rfl) (hs2:starEach [b] X.env=[(false,eval b X.env)]:=by rfl) :
  PI X (.Tuple elts kk ps) (.Call (.Name "zip" p) [a,b] [] pos) (iZip X.K ta):=by
 intro pj s σ H R I h;refine Call_ (Zlx I hg hm ZCR (PyProof.Rows.callWith_type1 (thn (ha pos pj s σ H _ I h) fun us s1 ⟨vs,H1,I1,r1,q1⟩=>?_) (by rw[hs,hs2]) (by rw[hs2]; rfl)));obtain⟨a1,b1,xs,ys,rfl,hq1,hq2,q⟩:=q1
 cases r1 with
 | cons r rr=>
  cases rr with
  | cons r' rr=>
   cases rr
   cases r
   cases r'
   obtain⟨its,rv,pl,hzz⟩:=I1.list hq1;obtain⟨jts,rw',pm,hzw⟩:=I1.list hq2;refine call_zip_2 pl.isList pm.isList fun h' hz hTI hTO h1 h2 hsz hk=>?_;refine wpAny_pyIter_zip hz ⟨_,_,_,_,H1,rfl,I1.kept (t':=s1.toks) hk,ZzD (i1:=s1.heap.objs.size) (i2:=s1.heap.objs.size+1) (TI:=s1.heap.objs.size+2) (TO:=s1.heap.objs.size+3) (z:=s1.heap.objs.size+4) (a:=a1) (b:=b1) (xs:=xs) (ys:=ys) (by simp) (by simp) (by simp) (by simp) (by simp) (by simp) (by simp) (by simp) (by simp) (by simp),⟨hz,hTI,⟨_,_,hTO⟩,h1,h2⟩,fun c hc=>?_,q⟩
   have le:s1.heap.objs.size≤c:=by
    simp at hc
    rcases hc with rfl | rfl | rfl | rfl | rfl <;> simp
   exact I1.fpOk le (I1.hok.fresh le)
end
section
open PySem.SeqAt
open PySem.AutoSeq1 (wpAny_loadPart')
open PySem.MeetsSeq PySem.MeetsSeq2 PySem.MeetsSeq3
end
def ZAJ (i j:Int):Prop:=0 < j∧j≤18446744073709551616
theorem ZaU {X:Cx}:OpR X (binaryOp .FloorDiv) (rI ZAJ fun i j=>.int (i / j)):=opI fun i j _ _ _ _ _ hc q=>by
 have h1:(0:Int) < j:=hc.1;have h2:j≤18446744073709551616:=hc.2;refine floordiv_int (by omega) (by rw[Int.fdiv_eq_ediv_of_nonneg i (by omega)]; exact q) (.inl (PyProof.noPylong_of_log2 ?_));have h3:j.natAbs.log2 < 65:=(Nat.log2_lt (by omega)).mpr (by omega);omega
section
variable {σ:St} {H:Hp} {Q:VK} {D:Ends} {K:PySem.W.Frag} {g:TG} {tb:TS}
def ZCG (K:PySem.W.Frag) (a b:Addr) (xs ys:List V) (g:TG) (tb:TS) (D:Ends) (σ:St) (H:Hp):Prop:=
 ∃W:Nat→Nat→St→Hp→Prop,(∃m,W 0 m σ H)∧∀i m σ H,W i m σ H→
   ((Itz K a b xs ys).stop i H∧D.nx σ H)∨((Itz K a b xs ys).go i H∧∃N:St→Hp→Prop,(∀σ' H',N σ' H'→∃m',m' < m∧W (i+1) m' σ' H')∧∀x H',(Itz K a b xs ys).yld i H x H'→g x σ H' fun σ2 H2=>tb { D with nx:=N,ct:=N,bk:=D.nx } σ2 H2)
theorem Zz1 {ta:TA} (h:ta σ H fun vs H1=>∃a b xs ys,vs=[.ref a,.ref b]∧SqL K H1 a xs∧SqL K H1 b ys∧ZCG K a b xs ys g tb D σ H1):tFor (iZip K ta) g tb D σ H:=h
theorem ZFo {a b:Addr} {xs ys:List V} (n:Nat) (hn:n=min xs.length ys.length) (Pv:Nat→St→Hp→Prop) (h0:Pv 0 σ H) (hl:∀i σ H,i≤n→Pv i σ H→SqL K H a xs∧SqL K H b ys)
  (hs:∀(i:Nat) (v u:V) (T:Addr) σ H H',xs[i]?=some v→ys[i]?=some u→Pv i σ H→Same H H'→H T=none→H' T=some (.tup [v,u])→g (.ref T) σ H' fun σ2 H2=>tb { D with nx:=Pv (i+1),ct:=Pv (i+1),bk:=D.nx } σ2 H2) (hd:∀σ H,Pv n σ H→D.nx σ H):ZCG K a b xs ys g tb D σ H:=by
 refine⟨fun i m σ H=>m=n - i∧i≤n∧Pv i σ H,⟨n,by simp,Nat.zero_le _,h0⟩,?_⟩;rintro i m σ H ⟨rfl,hi,p⟩
 by_cases hlt:i < n
 ·refine .inr ⟨⟨⟨by omega,by omega⟩,hl i σ H hi p⟩,Pv (i+1),fun σ' H' p'=>⟨n - (i+1),by omega,rfl,hlt,p'⟩,fun x H' y=>?_⟩
  obtain⟨T,v,u,hv,hu,hT,rfl,rfl⟩:=y;exact hs i v u T σ H _ hv hu p (Zcp hT _) hT Zax
 ·have e:i=n:=by omega
  subst e;exact .inl ⟨⟨by omega,hl _ σ H hi p⟩,hd σ H p⟩
theorem ZoY {ix:List Nat} {tc:TT} {te:TE} {J:It} {xs:List V} (Pv:Nat→List V→Hp→Prop) (hw:Wk J xs H) (hz:xs.length≤1000000) (h0:∀H',Same H H'→Pv 0 [] H')
  (hm:∀i ys H1 H2,Ext H1 H2→Pv i ys H1→Pv i ys H2)
  (hs:∀(i:Nat) (x:V) (ys:List V) (acc:Addr) (H':Hp),xs[i]?=some x→Same H H'→H acc=none→H' acc=some (.lst ys)→Pv i ys H'→ys.length≤i→
   ∀R:Bool→Hp→Prop,(∀b H2,Same H' H2→(b=false→Pv (i+1) ys H2)→(b=true→∀R2:V→Hp→Prop,(∀y H3,Same H2 H3→Pv (i+1) (ys++[y]) H3→R2 y H3)→te (some x::subS σ ix) H2 R2)→R b H2)→tc (some x::subS σ ix) H' R)
  (hd:∀(acc:Addr) (ys:List V) (H':Hp),H acc=none→Same H H'→H' acc=some (.lst ys)→Pv xs.length ys H'→Q (.ref acc) H'):ZnE J ix tc te σ Q H:=by
 intro acc hacc
 have sU:∀{H2:Hp} (o:HO),Same H H2→Same H (upd H2 acc o):=fun o s b u e=>by rw[ZaF (Zag e hacc)]; exact s b u e
 refine⟨fun i m ys H'=>m=xs.length - i∧i≤xs.length∧Same H H'∧H' acc=some (.lst ys)∧Pv i ys H'∧ys.length≤i,⟨xs.length,by simp,Nat.zero_le _,Zcp hacc _,Zax,h0 _ (Zcp hacc _),Nat.le_refl _⟩,?_⟩;rintro i m ys H' ⟨rfl,hi,sm,ea,pv,hy⟩
 by_cases hlt:i < xs.length
 ·obtain⟨go,yl⟩:=(hw H' sm).1 i hlt
  refine .inr ⟨go,fun x H2 y=>?_⟩;obtain⟨rfl,hx⟩:=yl x H2 y;refine hs i x ys acc _ hx sm hacc ea pv hy _ fun b H3 s3 pf pt=>?_
  cases b with
  | false=>
   rw[if_neg Bool.false_ne_true];exact⟨xs.length - (i+1),by omega,rfl,hlt,sm.trans s3,s3 _ _ ea,pf rfl,Nat.le_succ_of_le hy⟩
  | true=>
   rw[if_pos rfl];refine pt rfl _ fun y H4 s4 py=>⟨s4 _ _ (s3 _ _ ea),Zut (by omega),xs.length - (i+1),by omega,rfl,hlt,sU _ (sm.trans (s3.trans s4)),Zax,hm _ _ _ _ (But.ext (l:=acc) (s4 _ _ (s3 _ _ ea)) Zg0) py,?_⟩;rw[List.length_append,List.length_singleton];omega
 ·have e:i=xs.length:=by omega
  subst e;exact .inl ⟨(hw H' sm).2,hd acc ys H' hacc sm ea pv⟩
end
end L2
namespace PySem
open Sem (wp)
theorem Obj.dict_mapFields (o:Obj) (f:Array Value→Array Value):(Obj.mapFields f o).dict=o.dict:=by unfold Obj.mapFields; split <;> rfl
def Zwu (l:List Env):List Addr:=l.filterMap (·.frame)
def Heap.Tr (h:Heap) (e:Addr) (cls:Value) (T:Addr):Prop:=∃oe vs oT ts,h.get? e=some oe∧oe.cls=cls∧oe.dict=none∧oe.data=.fields vs∧vs[1]?=some (.ref T)∧T≠e∧h.get? T=some oT∧oT.data=.fields ts∧ts[3]?=some .none
structure Heap.Gone (fs own:List Addr) (h h':Heap):Prop where
 kept:∀b o,b∉fs→b∉own→h.get? b=some o→h'.get? b=some o
 slot:∀b o,b∈fs→b∉own→h.get? b=some o→∃sl,h'.get? b=some { o with slots:=sl }
section
variable {M:Model} {A:Around} {E:Value→Shared→Prop} {s:Shared}
theorem Zm1 {base:Heap} {env:Env} {outer:List Env} {L e:Addr} {oe:Obj} {vs:Array Value} {head:Value} {nx:Bool} {Q:Unit→Shared→Prop} (hfr:A.frames=some (env::outer)) (hl:s.heap.FunFrames base (env::outer)) (hf:env.frame=some L)
  (he:s.heap.get? e=some oe) (hdi:oe.dict=none) (hd:oe.data=.fields vs) (hsz:1 < vs.size)
  (q:∀h' T,Heap.Gone (Zwu (env::outer)) [e] s.heap h'→s.heap.get? T=none→s.heap.objs.size≤T→h'.Tr e oe.cls T→Q () { s with heap:=h' }) :
  wpAny M A (do let a ←frameOf env; let pl ←entryPlaceOf L nx; let b ←EntryCells.newEntry head a .none (rawInt L) .none pl; setField (.ref e) 1 b) (fun _ s'=>wpAny M A (setFlight (.ref e) none) Q E s') E s:=by
 have hene:e∉Zwu (env::outer):=fun hm=>by
  obtain⟨_,o,ho,hnf⟩:=hl.mem hm
  rw[he]at ho; injection ho with ho; subst ho; exact hnf vs hd
 refine wpAny_bind (wpAny_frameOf_fun hfr hl hf fun h₁ hs₁=>?_);refine wpAny_bind (wpAny_entryPlaceOf fun pl hpl=>?_);unfold EntryCells.newEntry newFields;refine wpAny_bind (wpAny_newObj_type ?_ (hpl.sizeOk5 _ _ _ _ _));have he₁:h₁.get? e=some oe:=(hs₁.2.1 e hene).trans he;generalize hrec:({ cls:=.type "traceback",dict:=none,data:=.fields ([head,.ref L,.none,rawInt L,.none]++(if pl.isEmpty then List.replicate 6 Value.none else pl)).toArray }:Obj)=rec
 have hfree:rec.isFreed=false:=by subst hrec; rfl
 have hrd:rec.data=.fields ([head,.ref L,.none,rawInt L,.none]++(if pl.isEmpty then List.replicate 6 Value.none else pl)).toArray:=by subst hrec; rfl
 have he₂:=Heap.get?_push_of_some (h:=h₁) rec he₁;refine wpAny_setField he₂ hd hsz ?_;have hTe:h₁.objs.size≠e:=Nat.ne_of_gt (Heap.lt_size he₁);have hd₃:=Obj.data_mapFields hd (·.setIfInBounds 1 (Value.ref h₁.objs.size));have he₃:=Heap.get?_update_self (Obj.mapFields (·.setIfInBounds 1 (Value.ref h₁.objs.size))) he₂ (Obj.isFreed_of_fields hd₃);have hT₃:=(Heap.get?_update_other (h₁.push rec) (Obj.mapFields (·.setIfInBounds 1 (Value.ref h₁.objs.size))) (Ne.symm hTe)).trans (Heap.get?_push_size h₁ hfree);unfold setFlight;refine wpAny_bind (wpAny_field he₃ hd₃ (x:=.ref h₁.objs.size) (by simp[hsz]) ?_);rw[if_pos (show(Value.ref h₁.objs.size != Value.none)=true from by simp)];refine wpAny_setField hT₃ hrd (by simp only [List.size_toArray,List.length_append,List.length_cons,List.length_nil] <;> omega) ?_
 have keep:∀b o,b≠e→h₁.get? b=some o→(((h₁.push rec).update e (Obj.mapFields (·.setIfInBounds 1 (Value.ref h₁.objs.size)))).update h₁.objs.size (Obj.mapFields (·.setIfInBounds 3 ((none:Option Addr).elim Value.none fun f=>rawInt f)))).get? b=some o:=fun b o hbe hb=>by
  have hbT:h₁.objs.size≠b:=Nat.ne_of_gt (Heap.lt_size hb);rw[Heap.get?_update_other _ _ hbT,Heap.get?_update_other _ _ (Ne.symm hbe)];exact Heap.get?_push_of_some _ hb
 refine q _ h₁.objs.size ⟨fun b o hb ho e'=>?_,fun b o hb ho e'=>?_⟩ (Heap.get?_none_of_le (by rw[hs₁.1]; exact Nat.le_refl _)) (by rw[hs₁.1]; exact Nat.le_refl _) ?_
 ·exact keep b o (fun z=>ho (by rw[z]; exact List.mem_singleton.mpr rfl)) ((hs₁.2.1 b hb).trans e')
 ·obtain⟨sl,e2⟩:=hs₁.2.2 b o e'
  exact⟨sl,keep b _ (fun z=>ho (by rw[z]; exact List.mem_singleton.mpr rfl)) e2⟩
 ·refine⟨_,_,_,_,?_,Obj.cls_mapFields _ _,(Obj.dict_mapFields _ _).trans hdi,hd₃,by simp[hsz],hTe,Heap.get?_update_self _ hT₃ (Obj.isFreed_of_fields (Obj.data_mapFields hrd _)),Obj.data_mapFields hrd _,by first | (simp; done) | (rcases hpl with rfl | ⟨_,_,_,_,_,_,_,rfl⟩ <;> simp)⟩
  rw[Heap.get?_update_other _ _ hTe]; exact he₃
theorem Zs0 {base:Heap} {env:Env} {outer:List Env} {L e:Addr} {oe:Obj} {vs:Array Value} {Q:Unit→Shared→Prop} (hfr:A.frames=some (env::outer)) (hl:s.heap.FunFrames base (env::outer)) (hf:env.frame=some L)
  (he:s.heap.get? e=some oe) (hdi:oe.dict=none) (hd:oe.data=.fields vs) (h1:vs[1]?=some .none)
  (q:∀h' T,Heap.Gone (Zwu (env::outer)) [e] s.heap h'→s.heap.get? T=none→s.heap.objs.size≤T→h'.Tr e oe.cls T→Q () { s with heap:=h' }):wpAny M A (leaving env (.ref e)) Q E s:=by
 unfold leaving noteFrame;simp only [hf];refine wpAny_bind (wpAny_bind (wpAny_field he hd h1 ?_));rw[if_neg (by decide)];exact Zm1 hfr hl hf he hdi hd (Array.getElem?_eq_some_iff.mp h1).1 q
theorem Zxa {base:Heap} {env:Env} {outer:List Env} {L e T:Addr} {cls:Value} {Q:Unit→Shared→Prop} (hfr:A.frames=some (env::outer)) (hl:s.heap.FunFrames base (env::outer)) (hf:env.frame=some L) (ht:s.heap.Tr e cls T)
  (q:∀h' T',Heap.Gone (Zwu (env::outer)) [e,T] s.heap h'→s.heap.get? T'=none→s.heap.objs.size≤T'→h'.Tr e cls T'→Q () { s with heap:=h' }):wpAny M A (noteFrame (.ref e) env) (fun _ s'=>wpAny M A (setFlight (.ref e) none) Q E s') E s:=by
 obtain⟨oe,vs,oT,ts,he,hcls,hdi,hd,h1,hTe,hT,hdT,h3⟩:=ht;subst hcls;unfold noteFrame;simp only [hf];refine wpAny_bind (wpAny_field he hd h1 ?_);rw[if_pos (show(Value.ref T != Value.none)=true from by simp)];refine wpAny_bind (wpAny_field hT hdT h3 ?_);rw[if_neg (show ¬((Value.none == rawInt L)=true) from by simp[rawInt])];refine wpAny_bind (wpAny_setField hT hdT (Array.getElem?_eq_some_iff.mp h3).1 ?_);have other:∀b,b≠T→(s.heap.update T (Obj.mapFields (·.setIfInBounds 3 Value.none))).get? b=s.heap.get? b:=fun b hb=>Heap.get?_update_other _ _ (Ne.symm hb)
 have noRec:∀b o,s.heap.get? b=some o→(∀vs,o.data≠.fields vs)→b≠T:=fun b o hb hnf z=>by
  rw[z,hT]at hb; injection hb with hb; subst hb; exact hnf ts hdT
 have hsz:(s.heap.update T (Obj.mapFields (·.setIfInBounds 3 Value.none))).objs.size=s.heap.objs.size:=Heap.size_after_update ..;refine Zm1 (s:={ s with heap:=s.heap.update T (Obj.mapFields (·.setIfInBounds 3 Value.none)) }) hfr (hl.of_keeps fun b o hb hnf=>⟨o,(other b (noRec b o hb hnf)).trans hb,rfl⟩) hf ((other e (Ne.symm hTe)).trans he) hdi hd (Array.getElem?_eq_some_iff.mp h1).1 fun h' T' g n le tr=>?_
 have le':s.heap.objs.size≤T':=by rw[←hsz]; exact le
 refine q h' T' ⟨fun b o hb ho e'=>?_,fun b o hb ho e'=>?_⟩ (Heap.get?_none_of_le le') le' tr
 ·have hbT:b≠T:=fun z=>ho (by simp[z])
  exact g.kept b o hb (fun z=>ho (by simp[List.mem_singleton.mp z])) ((other b hbT).trans e')
 ·have hbT:b≠T:=fun z=>ho (by simp[z])
  exact g.slot b o hb (fun z=>ho (by simp[List.mem_singleton.mp z])) ((other b hbT).trans e')
theorem Zvu {base:Heap} {env:Env} {outer:List Env} {L e T:Addr} {cls:Value} {Q:Unit→Shared→Prop} (hfr:A.frames=some (env::outer)) (hl:s.heap.FunFrames base (env::outer)) (hf:env.frame=some L) (ht:s.heap.Tr e cls T)
  (q:∀h' T',Heap.Gone (Zwu (env::outer)) [e,T] s.heap h'→s.heap.get? T'=none→s.heap.objs.size≤T'→h'.Tr e cls T'→Q () { s with heap:=h' }):wpAny M A (leaving env (.ref e)) Q E s:=by
 unfold leaving;exact wpAny_bind (Zxa hfr hl hf ht q)
end
end PySem
namespace L2
open PySem PySem.Spec PyProof.Rows
section
variable {P:Program} {w:World} {H H':Hp} {h h' h1 h2:Heap} {a:Addr} {o:HO} {fs own:List Addr}
theorem Zc7.at (x:Zc7 P w H h a o):∃u,h.get? a=some u:=by
 cases o with
 | lst xs=>obtain⟨_,_,_,_,e⟩:=x; exact⟨_,e⟩
 | tup xs=>obtain⟨_,_,_,⟨_,e,_⟩⟩:=x; exact⟨_,e⟩
 | dK kvs=>obtain⟨_,_,_,_,o,_,_,e,_⟩:=x; exact⟨_,e⟩
 | dT kvs=>obtain⟨_,_,_,_,o,_,_,e,_⟩:=x; exact⟨_,e⟩
 | set S n=>obtain⟨o,_,_,_,e,_⟩:=x; exact⟨_,e⟩
 | ins C dx fs=>obtain⟨_,_,_,e,_⟩:=x; exact⟨_,e⟩
 | own y=>obtain⟨_,e⟩:=x; exact⟨_,e⟩
 | xd fs=>obtain⟨_,⟨_,_,_,e,_⟩,_⟩:=x; exact⟨_,e⟩
 | rng lo hi=>obtain⟨_,_,_,e⟩:=x; exact⟨_,e⟩
 | frz ob u=>obtain⟨e,_⟩:=x; exact⟨_,e⟩
 | tbl ps=>exact⟨_,(show h.get? a=some _ from x)⟩
 | met f y=>exact⟨_,(show h.get? a=some _ from x)⟩
 | ext φ=>obtain⟨_,⟨_,e⟩,_⟩:=x; exact⟨_,e⟩
theorem HOk.out (x:HOk P w H h) (e:h.get? a=none):H a=none:=by
 cases q:H a with
 | none=>rfl
 | some u=>obtain⟨v,z⟩:=Zc7.at (x a u q); rw[e]at z; cases z
theorem Zww (u:Un fs [] H H' h h1) (g:Heap.Gone fs own h1 h2) (hn:∀b∈own,h.get? b=none):Un fs [] H H' h h2:=by
 have no:∀b o,h.get? b=some o→b∉own:=fun b o e z=>by rw[hn b z]at e; cases e
 refine⟨fun b o e n hf hx=>g.kept b o hf (no b o e) (u.keep b o e n hf hx),fun b o e n hf hx=>?_,u.free,fun b o e hx=>?_,u.tups,u.frzs,u.tbls⟩
 ·obtain⟨sl,q⟩:=u.slot b o e n hf hx
  obtain⟨sl',q'⟩:=g.slot b _ hf (no b o e) q;exact⟨sl',q'⟩
 ·obtain⟨o',q⟩:=u.there b o e hx
  by_cases hf:b∈fs
  ·obtain⟨sl',q'⟩:=g.slot b _ hf (no b o e) q
   exact⟨_,q'⟩
  ·exact⟨_,g.kept b _ hf (no b o e) q⟩
theorem ZtT (x:HOk P w H h) (g:Heap.Gone fs own h h2) (hf:∀b∈fs,H b=none) (ho:∀b∈own,H b=none):HOk P w H h2:=fun b u e=>by
 refine(x b u e).stay (fun c v hc q=>?_) (fun _ q=>q) fun _ _ q=>q
 have hs:∃z,H c=some z:=by
  rcases hc with z | z
  ·rw[z]; exact⟨_,e⟩
  ·exact⟨_,z⟩
 obtain⟨z,hz⟩:=hs;exact g.kept c v (fun m=>by rw[hf c m]at hz; cases hz) (fun m=>by rw[ho c m]at hz; cases hz) q
end
def CX1 (P:Program) (w:World):CXT:=fun outer H s E e s'=>∃ea T C H',e=.ref ea∧s'.os=s.os∧AllBare s'.gens∧Un (frs outer) [] H H' s.heap s'.heap∧HOk P w H' s'.heap∧H' ea=none∧H' T=none∧
 s.heap.get? ea=none∧s.heap.get? T=none∧s'.heap.Tr ea (.ref C) T∧E (.ref C) none H'
def Lets (X:Cx) (E:XK):Prop:=∀(pj:List (Addr×Obj)) (σ:St) (H:Hp) (s:Shared) (h':Heap) (e C:Addr) (args:List Value),Inv X pj σ H s→Heap.MadeExcOf s.heap h' e (.ref C) args→E (.ref C) none H→X.xe (.ref e) { s with heap:=h' }
section
variable {P:Program} {w:World} {K:PySem.W.Frag} {mg:Str→Option Value} {base:Heap} {N:List Str} {qual:Str} {scope:Scope} {f:Addr} {cd:Value} {A:Around} {outer:List Env} {s:Shared} {H:Hp} {E:XK}
theorem ZBy:Lets (cxOf (CX1 P w) P w K mg base N qual scope f cd A outer s H E) E:=by
 intro pj σ H1 s1 h' e C args I hm hE;obtain⟨t,ho,_,_⟩:=hm.there;have I1:Inv (cxOf (CX1 P w) P w K mg base N qual scope f cd A outer s H E) pj σ H1 { s1 with heap:=h' }:=I.kept (t':=s1.toks) hm.keeps;show wpAny _ _ (leaving _ _) _ _ _;refine Zs0 (s:={ s1 with heap:=h' }) I.ok.frames I1.stack rfl ho rfl rfl (by simp) fun h2 T g nT _ tr=>?_;have He:H1 e=none:=I.hok.out hm.new;have HT:H1 T=none:=I1.hok.out nT;have un:Un (frs (cxOf (CX1 P w) P w K mg base N qual scope f cd A outer s H E).stack) [] H1 H1 s1.heap h2:=Zww (Un.kept hm.keeps) g (fun b hb=>by rw[List.mem_singleton.mp hb]; exact hm.new);have hk:HOk P w H1 h2:=ZtT I1.hok g I1.stkFree (fun b hb=>by rw[List.mem_singleton.mp hb]; exact He);have I2:Inv (cxOf (CX1 P w) P w K mg base N qual scope f cd A outer s H E) pj σ H1 { s1 with heap:=h2 }:=I.call (g':=s1.gens) (t':=s1.toks) (d':=s1.drawn) (ch:=[]) un hk I.bare (fun b z=>absurd z (by simp))
 have back:∀b,s1.heap.get? b=none→s.heap.get? b=none:=fun b hb=>by
  cases q:s.heap.get? b with
  | none=>rfl
  | some o=>
   obtain⟨o',z⟩:=I.base.there b o q (by show b∉[]; simp);rw[hb]at z; cases z
 have nT1:s1.heap.get? T=none:=by
  cases q:s1.heap.get? T with
  | none=>rfl
  | some o=>have z:=hm.keeps T o q; rw[show h'.get? T=none from nT]at z; cases z
 exact⟨e,T,C,H1,rfl,I.os,I.bare,I2.base,hk,He,HT,back e hm.new,back T nT1,tr,hE⟩
theorem ZD5:Zi6 (CX1 P w) (cxOf (CX1 P w) P w K mg base N qual scope f cd A outer s H E) E:=by
 intro pj σ H1 s1 e s2 I hx;obtain⟨ea,T,C,H2,rfl,os,bare,un,hok,He,HT,ne,nT,tr,hE⟩:=hx;have I2:Inv (cxOf (CX1 P w) P w K mg base N qual scope f cd A outer s H E) pj σ H2 s2:=I.call' (ch:=[]) os un hok bare (fun b z=>absurd z (by simp));show wpAny _ _ (leaving _ _) _ _ _;refine Zvu I.ok.frames I2.stack rfl tr fun h3 T' g nT' _ tr'=>?_;have HT':H2 T'=none:=hok.out nT'
 have un3:Un (frs (cxOf (CX1 P w) P w K mg base N qual scope f cd A outer s H E).stack) [] H1 H2 s1.heap h3:=Zww un g (fun b hb=>by
  rcases List.mem_cons.mp hb with z | z
  ·rw[z]; exact ne
  ·rw[List.mem_singleton.mp z]; exact nT)
 have hk:HOk P w H2 h3:=ZtT hok g I2.stkFree (fun b hb=>by
  rcases List.mem_cons.mp hb with z | z
  ·rw[z]; exact He
  ·rw[List.mem_singleton.mp z]; exact HT)
 have I3:Inv (cxOf (CX1 P w) P w K mg base N qual scope f cd A outer s H E) pj σ H2 { s2 with heap:=h3 }:=I.call' (s':={ s2 with heap:=h3 }) (ch:=[]) os un3 hk bare (fun b z=>absurd z (by simp))
 have back:∀b,s1.heap.get? b=none→s.heap.get? b=none:=fun b hb=>by
  cases q:s.heap.get? b with
  | none=>rfl
  | some o=>
   obtain⟨o',z⟩:=I.base.there b o q (by show b∉[]; simp);rw[hb]at z; cases z
 have nT1:s.heap.get? T'=none:=by
  cases q:s.heap.get? T' with
  | none=>rfl
  | some o=>
   obtain⟨o',z⟩:=I2.base.there T' o q (by show T'∉[]; simp);rw[nT']at z; cases z
 exact⟨ea,T',C,H2,rfl,I3.os,bare,I3.base,hk,He,HT',back ea ne,nT1,tr',hE⟩
end
theorem Fun.ok1 {P:Program} {w:World} {K:PySem.W.Frag} {mg:Str→Option Value} {base:Heap} {x qual:Str} {st:Stmt} {f:Addr} {fd:FuncData} {N ps:List Str} {k:Nat} {sp:Sp} (F:Fun K x qual st f fd) (S:FnScope N ps (Zah st)) (len:∀vs H Q E,sp vs H Q E→vs.length=ps.length)
  (hbody:∀(cdv:Value) (A:Around) (outer:List Env) (s:Shared) (H:Hp) (vs:List V) (Q:VK) (E:XK),Room k (A.deeper (envOfC qual (Zah st) s.heap.objs.size f cdv))→sp vs H Q E→
   ∃t,PSs (cxOf (CX1 P w) P w K mg base N qual (Zah st) f cdv A outer s H E) (ZfO st) t∧t { nx:=fun _ H'=>Q .non H',rt:=Q } (start N vs) H):FnOk P w K mg base (CX1 P w) (k+1) f fd ps sp:=by
 obtain⟨oc,od,kV,doc,pm,an,cdv,ct,osl,rfl,lk,hcd⟩:=F.ex;exact ZC2 lk hcd S len fun A outer s H vs Q E hr hsp=>hbody cdv A outer s H vs Q E hr hsp
end L2
namespace L2
open PySem PySem.Spec PyProof.Rows
abbrev vErr:List Value:=[.type "ValueError",.type "Exception",.type "BaseException",.type "object"]
abbrev ZtE (K:PySem.W.Frag) (C:Addr):Prop:=PySem.W.excIn K C vErr "ValueError.__new__" = true
theorem ZC0 {K:PySem.W.Frag} {h:Heap} {C:Addr} (X:K.In h) (q:ZtE K C):∃bm N nm qn bs hdct sn sub ab col dd k0 k1 k2 k3 k5 mN,
  h.get? C=some (excClassObj nm qn C N bs bm hdct sn sub ab col dd k0 k1 k2 k3 k5 "ValueError.__new__")∧h.Ns N mN∧mN "__init__" = none∧OwnTail h vErr bm:=by
 unfold ZtE PySem.W.excIn at q
 split at q
 ·rename_i dd cd sl ho
  split at q
  ·rename_i C' bm k0 k1 k2 k3 n k5 hm hs
   simp only [Bool.and_eq_true,beq_iff_eq,Bool.not_eq_true']at q;obtain⟨⟨⟨⟨⟨rfl,rfl⟩,hdel⟩,ht⟩,hok⟩,hni⟩:=q;obtain⟨nm,bs,mro,ns,qn,hd,sn,sub,ab,col,del⟩:=cd
   dsimp only at hm hdel hok hni
   subst hm hdel
   have hsl:sl = #[k0,k1,k2,k3,some (.builtin "ValueError.__new__"),k5]:=by
    obtain⟨l⟩:=sl;simp only at hs;rw[hs]
   subst hsl;exact⟨bm,ns,nm,qn,bs,hd,sn,sub,ab,col,dd,k0,k1,k2,k3,k5,_,X _ _ ho,.of_isNs (PySem.W.isNs_of_in X hok),PySem.W.nsMap_none_of_in X hok hni,PySem.W.tail_of_in X ht⟩
  ·cases q
 ·cases q
section
variable {X:Cx} {E:XK} {C:Addr} {x:Str} {np cpos pos:Pos} {e:Expr} {es:List Expr} {t:TA}
def ZAH (C:Addr) (E:XK) (t:TA):TS:=fun _ σ H=>t σ H fun vs H1=>vs.length≤9∧E (.ref C) none H1
theorem ZpE (hc:X.calm=true) (hl:Lets X E) (q:ZtE X.K C) (hg:Gl X x) (hm:X.mg x=some (.ref C)) (ha:PA X (e::es) t) (hdb:(x == ("__debug__" : Str))=false:=by decide)
  (he:starEach (e::es) X.env=(false,eval e X.env)::starEach es X.env:=by rfl) (hpl:(backTo cpos (starEach es X.env)).any (·.1)=false:=by rfl) :
  PS X (.Raise (some (.Call (.Name x np) (e::es) [] cpos)) none pos) (ZAH C E t):=by
 intro pj s σ H D I h;obtain⟨tl,N,nm,qn,bs,hdct,sn,sub,ab,col,dd,k0,k1,k2,k3,k5,mN,hC,hN,hni,T⟩:=ZC0 I.mod.kin q;have F:=PySem.F.excBase_ValueError
 refine wpAny_Raise_call_subU (C:=C) (nm:=nm) (q:=qn) (N:=N) (bs:=bs) (bm:=tl) (hdct:=hdct) (sn:=sn) (sub:=sub) (ab:=ab) (col:=col) (dd:=dd) (k0:=k0) (k1:=k1) (k2:=k2) (k3:=k3) (k5:=k5)
  F F.hasB F (mN:=mN) (T.hasType F.hasBase) (I.ok.hd hc) (by rw[he]; show(false || (backTo cpos (starEach es X.env)).any (·.1))=false; rw[hpl]; rfl) hni (Zm0 I hg hm ⟨rfl,?_⟩ hdb)
 have h2:=ha cpos pj s σ H _ I h;rw[he]at h2 ⊢;refine Calls.evalArgs_plain (wpAny_mono h2 (fun vs s2 h3=>?_) fun _ _ y=>y);obtain⟨us,H2,I2,r,hlen,hE⟩:=h3;refine⟨rfl,?_,I2.bk _ _ hC,hN.keeps I2.bk,T.keeps I2.bk,fun h' e hm=>hl pj σ H2 s2 h' e C vs I2 hm hE⟩;show vs.length≤sizeLine;rw[←r.length]; exact Nat.le_trans hlen (by decide)
end
section
variable {X:Cx} {k:Nat} {f C:Addr} {fd:FuncData} {ps:List Str} {sp:Sp} {dvs:List V} {ds:List Value} {x m:Str} {p pos apos:Pos} {e o:Expr} {es:List Expr} {ta:TE} {t:TA}
end
section
variable {X:Cx} {pj:List (Addr×Obj)} {σ:St} {H:Hp} {s:Shared} {ea T T' C:Addr} {h':Heap}
end
section
variable {X:Cx} {b:List Stmt} {h₀:ExceptHandler} {hs:List ExceptHandler} {tb:TSx} {th:Addr→TS} {pos:Pos} {e:Expr} {te:TEx}
end
end L2
namespace L2
open PySem PySem.Spec PyProof.Rows
structure ExcK (K:PySem.W.Frag) (C:Addr):Prop where
 own:ZtE K C
 cl:(PySem.W.clsIn K C).isSome=true
 ga:PySem.W.findIn K (.ref C) "__getattribute__" = some (some (.builtin "BaseException.__getattribute__"))
 gb:PySem.W.findIn K (.ref C) "__getattr__" = some none
 cc:PySem.W.findIn K (.ref C) "__class__" = some (some (.builtin "object.__class__"))
 mb:PySem.W.mroIn K C (.type "BaseException")=some true
 mo:PySem.W.mroIn K C (.type "object")=some true
section
variable {prog:Program} {w:World} {A:Around} {E:Value→Shared→Prop} {h:Heap} {g:Array GenState} {d:Drawn} {t:Nat} {os:OsState} {a C:Addr} {o:Obj} {K:PySem.W.Frag}
end
section
variable {X:Cx} {pj l:List (Addr×Obj)} {σ:St} {H:Hp} {s:Shared} {ea T C:Addr} {h':Heap} {oe:Obj}
end
section
variable {X:Cx} {N:Str} {C':Addr} {np pos:Pos} {b₀:Stmt} {suite:List Stmt} {rest:List ExceptHandler} {ts tr:Addr→TS}
end
theorem PS.nox {X:Cx} {st:Stmt} {t:TS} (h:PS X.nox st t):PS X st t:=fun pj s σ H D I hw=>
 wpAny_mono (h pj s σ H D (I.wish _) hw) (fun _ _ q=>q.unwish) fun _ _ z=>False.elim z
theorem PA.nox {X:Cx} {es:List Expr} {t:TA} (h:PA X.nox es t):PA X es t:=fun pos pj s σ H Q I hw=>
 wpAny_mono (h pos pj s σ H Q (I.wish _) hw) (fun _ _ ⟨v,H',I',r,q⟩=>⟨v,H',I'.unwish,r,q⟩) fun _ _ z=>False.elim z
def FnS1 (P:Program) (w:World) (K:PySem.W.Frag) (mg:Str→Option Value) (base:Heap) (k:Nat) (x:Str) (ps:List Str) (sp:Sp):Prop:=∃f fd,FnOk P w K mg base (CX1 P w) k f fd ps sp∧ZaG K fd ps []∧PySem.W.keepIn K (.ref f)=true∧mg x=some (.ref f)
section
variable {X:Cx} {k k':Nat} {x:Str} {ps:List Str} {sp:Sp} {e:Expr} {es:List Expr} {t:TA} {p pos:Pos}
theorem ZD6 {X:Cx}:Zi6 (CX1 X.prog X.w) X E0:=fun _ _ _ _ _ _ _ ⟨_,_,_,_,_,_,_,_,_,_,_,_,_,_,hE⟩=>hE.elim
theorem Zxs (G:FnS1 X.prog X.w X.K X.mg X.base k x ps sp) (hr:Room k' X.A) (ha:PA X (e::es) t) (hk:k≤k':=by omega) (hg:Gl X x:=by rfl) (hdb:(x == ("__debug__" : Str))=false:=by decide)
  (he:starEach (e::es) X.env=(false,eval e X.env)::starEach es X.env:=by rfl) (hpl:(backTo pos (starEach es X.env)).any (·.1)=false:=by rfl):PE X (.Call (.Name x p) (e::es) [] pos) (tFn sp t):=by
 obtain⟨f,fd,F,hb,kp,hm⟩:=G;rw[←ZrU];exact Zti F (hr.mono hk) hg hm kp hb .nil ZD6 ha hdb he hpl
end
section
variable {K:PySem.W.Frag} {D:Ends} {σ:St} {H:Hp} {Q:VK} {C C':Addr}
theorem ZsJ {E:XK} {t:TA} (h:t σ H fun vs H1=>vs.length≤9∧E (.ref C) none H1):ZAH C E t D σ H:=h
end
end L2
namespace L2
open PySem PySem.Spec PyProof.Rows
section
variable {X:Cx} {a:Expr} {ta:TE} {pos:Pos}
abbrev ZET (ta:TE):TE:=fun σ H Q=>ta σ H fun x H1=>∃z,x=.str z∧(reprText z).length≤sizeLine∧Q (.str (reprText z)) H1
theorem Zxr (ha:PE X a ta):PE X (.FormattedValue a 114 none pos) (ZET ta):=by
 intro pj s σ H Q I h;refine wpAny_FormattedValue_repr (thn (ha pj s σ H _ I h) fun v s1 ⟨x,H1,I1,r1,z,ex,hz,q⟩=>?_);subst ex;obtain⟨t,rfl⟩:=r1;exact wpAny_pyReprObj_str (formatField_str (fun t' k=>⟨.str _,H1,I1.tok k,⟨t',rfl⟩,q⟩) hz) hz
end
section
variable {σ:St} {H:Hp} {Q:VK} {D:Ends} {K:PySem.W.Frag} {g:TG} {tb:TS} {ta:TE}
theorem ZzY (h:ta σ H fun x H1=>∃z,x=.str z∧(reprText z).length≤sizeLine∧Q (.str (reprText z)) H1):ZET ta σ H Q:=h
end
def Asc (z:Str):Prop:=∀c∈z.cps.toList,c < 128
theorem ZaT (x y:Str):(x++y).length=x.length+y.length:=by
 show(x.cps++y.cps).size=_;rw[Array.size_append]; rfl
end L2
namespace L2
open PySem PySem.Spec PyProof.Rows
theorem ZBK {h:Heap} {a:Addr} {m m':Str→Option Value} (x:h.Ns a m) (y:h.Ns a m'):m=m':=by
 obtain⟨o,es,ep,ho,hd,_,hm⟩:=x;obtain⟨o',es',ep',ho',hd',_,hm'⟩:=y;rw[ho]at ho'
 cases ho'
 rw[hd]at hd'
 cases hd'
 funext n
 rw[←hm,←hm']
section
variable {X:Cx} {pj:List (Addr×Obj)} {σ:List (Option V)} {H H':Hp} {s:Shared} {h':Heap}
theorem ZjK {M:Model} {A:Around} {E:Value→Shared→Prop} {i:Nat} {x:Str} {v:V} {u:Value} {Q:Unit→Shared→Prop} (I:Inv X pj σ H s) (hN:X.N.Nodup) (hi:X.N[i]?=some x) (hk:X.env.scope.names.lookup x=some .local) (r:RelV v u)
  (h:∀s' m,Inv X pj (σ.set i (some v)) H s'→s'.heap.Ns X.env.locals m→m x=some u→s'.toks=s.toks+1→Heap.SameBut X.env.locals s.heap s'.heap→Q () s'):wpAny M A (storeName X.env x u) Q E s:=by
 obtain⟨m,hn,hl⟩:=id I.loc
 have hcls:(X.env.scope.kind == .class || (X.env.scope.kind == .module && X.env.locals != X.env.globals))=false:=by rw[I.ok.kind]; rfl
 have hiσ:i < σ.length:=by rw[I.len]; exact(List.getElem?_eq_some_iff.mp hi).1
 have cne:=I.cne
 have tracked:∀{a:Addr} {h':Heap},(∃o,s.heap.get? a=some o∧H a=none)→Heap.SameBut a s.heap h'→HOk X.prog X.w H h':=fun {a h'} ha hs b ob e=>by
  obtain⟨_,_,hfree⟩:=ha;refine(I.hok b ob e).stay (fun c w' hc q=>(hs.2 c ?_).trans q) (fun _ q=>q) fun _ _ q=>q;rintro rfl
  rcases hc with rfl | hc
  ·rw[hfree]at e; cases e
  ·rw[hfree]at hc; cases hc
 refine wpAny_storeName_local hk hn (fun h' hn' hs=>?_) hcls;obtain⟨oL,_,_,hoL,_⟩:=id hn;refine h _ _ ⟨I.ok,I.os,I.bare,⟨fun b o e n hb hx=>?_,fun b o e n hb hx=>?_,I.base.free,fun b o e hx=>?_,I.base.tups,I.base.frzs,I.base.tbls⟩,⟨_,hn',fun j y v' e1 e2 e3=>?_⟩,fun y c e=>?_,I.free,I.freeC,fun p hp=>?_,tracked ⟨oL,hoL,I.free⟩ hs,by simpa using I.len⟩ hn' (by simp) rfl hs
 ·exact(hs.2 b (Nat.ne_of_lt (Nat.lt_of_lt_of_le (Heap.lt_size e) I.ok.above))).trans (I.base.keep b o e n hb hx)
 ·obtain⟨sl,e1⟩:=I.base.slot b o e n hb hx
  exact⟨sl,(hs.2 b (Nat.ne_of_lt (Nat.lt_of_lt_of_le (Heap.lt_size e) I.ok.above))).trans e1⟩
 ·obtain⟨o',e1⟩:=I.base.there b o e hx
  exact⟨o',(hs.2 b (Nat.ne_of_lt (Nat.lt_of_lt_of_le (Heap.lt_size e) I.ok.above))).trans e1⟩
 ·by_cases hj:j=i
  ·subst hj
   rw[hi]at e1; cases e1;rw[List.getElem?_set_self hiσ]at e2
   cases e2
   exact⟨u,r,.inl ⟨hk,by simp⟩⟩
  ·rw[List.getElem?_set_ne (Ne.symm hj)]at e2
   obtain⟨u',r',q⟩:=hl j y v' e1 e2 e3;refine⟨u',r',?_⟩
   rcases q with⟨k,e⟩ | ⟨k,c,e,z⟩
   ·refine .inl ⟨k,?_⟩
    have:y≠x:=fun e=>hj (Zpp hN e1 (e ▸ hi));simp[this,e]
   ·exact .inr ⟨k,c,e,z.sameBut hs (cne y c e)⟩
 ·obtain⟨w',z⟩:=I.cell y c e
  exact⟨w',z.sameBut hs (cne y c e)⟩
 ·obtain⟨e,n,ne,nf,d⟩:=I.pin p hp
  exact⟨(hs.2 p.1 ne).trans e,n,ne,nf,d⟩
end
def PSp (X:Cx) (st:Stmt) (t:TS):Prop:=∀(pj:List (Addr×Obj)) (s:Shared) (σ:St) (H:Hp) (D:Ends),Inv X pj σ H s→t D σ H→wpAny (model X.prog X.w) X.A (exec st X.env) (fun f s'=>0 < s'.toks∧SP X pj D f s') X.xe s
def PSt (X:Cx) (st:Stmt) (t:TS):Prop:=∀(pj:List (Addr×Obj)) (s:Shared) (σ:St) (H:Hp) (D:Ends),Inv X pj σ H s→0 < s.toks→t D σ H→wpAny (model X.prog X.w) X.A (exec st X.env) (SP X pj D) X.xe s
def PSst (X:Cx) (b:List Stmt) (t:TS):Prop:=∀(pj:List (Addr×Obj)) (s:Shared) (σ:St) (H:Hp) (D:Ends),Inv X pj σ H s→0 < s.toks→t D σ H→wpAny (model X.prog X.w) X.A (execs b X.env) (SP X pj D) X.xe s
section
variable {X:Cx} {st:Stmt} {rest:List Stmt} {t u:TS} {pos:Pos}
theorem ZFt (h1:PSp X st t) (h2:PSst X rest u):PSs X (st::rest) (tSeq t u):=by
 intro pj s σ H D I h;refine wpAny_execs_cons (thn (h1 pj s σ H { D with nx:=u D } I h) fun f s1 q=>?_);obtain⟨tk,q⟩:=q
 cases f with
 | next=>
  obtain⟨σ',H',I',q⟩:=q;exact h2 pj s1 σ' H' D I' tk q
 | ret v=>exact q
 | brk=>exact q
 | cont=>exact q
theorem Zxz (h1:PSt X st t) (h2:PSs X rest u):PSst X (st::rest) (tSeq t u):=by
 intro pj s σ H D I tk h;refine wpAny_execs_cons (thn (h1 pj s σ H { D with nx:=u D } I tk h) fun f s1 q=>?_)
 cases f with
 | next=>
  obtain⟨σ',H',I',q⟩:=q;exact h2 pj s1 σ' H' D I' q
 | ret v=>exact q
 | brk=>exact q
 | cont=>exact q
theorem ssp (i:Nat) {x:Str} {e:Expr} {te:TE} {pos':Pos} (hN:X.N.Nodup) (he:PE X e te) (hi:X.N[i]?=some x:=by rfl) (hk:X.env.scope.names.lookup x=some .local:=by rfl) (hs:swapsWith e (some (.Name x pos')) pos.line X.env=pure false:=by rfl) :
  PSp X (.Assign [.Name x pos'] e pos) (tAsg te (ZmJ i)):=by
 intro pj s σ H D I h;refine wpAny_Assign_Name (thn (he pj s σ H _ I h) fun v s1 ⟨y,H1,I1,r1,q1⟩=>?_) hs;exact ZjK I1 hN hi hk r1 fun s2 m I2 hn hm ht _=>⟨by omega,_,H1,I2,q1⟩
end
def PEf (X:Cx) (e:Expr) (t:TE):Prop:=∀(pj:List (Addr×Obj)) (s:Shared) (σ:St) (H:Hp) (Q:VK),Inv X pj σ H s→t σ H Q→wpAny (model X.prog X.w) X.A (eval e X.env) (fun u s'=>∃z tk H',Inv X pj σ H' s'∧u=.str z tk∧s.toks≤tk∧Q (.str z) H') X.xe s
section
variable {X:Cx} {a b:Expr} {ta tb:TE} {pos:Pos}
def PJf (X:Cx) (es:List Expr) (t:TJ):Prop:=
 ∀(n:Nat) (out:Str) (pj:List (Addr×Obj)) (s:Shared) (σ:St) (H:Hp) (Q:VK),n≤s.toks→Inv X pj σ H s→t σ H out Q→wpAny (model X.prog X.w) X.A (joinParts out (evalEach es X.env)) (fun u s'=>∃z tk H',Inv X pj σ H' s'∧u=.str z tk∧n≤tk∧Q (.str z) H') X.xe s
theorem ZB3:PJf X [] tJn:=fun n out pj s σ H Q hn I h=>joinParts_nil ⟨out,_,H,I.tok _,rfl,hn,h.2⟩ h.1
theorem ZpC {e:Expr} {es:List Expr} {te:TE} {tr:TJ} (he:PE X e te) (hr:PJf X es tr):PJf X (e::es) (tJc te tr):=by
 intro n out pj s σ H Q hn I h;show wpAny _ _ (joinParts out (eval e X.env::evalEach es X.env)) _ _ s;refine joinParts_cons (wpAny_mono (wpAny_toks_of hn (he pj s σ H _ I h)) (fun v s1 hv=>?_) fun _ _ y=>y.2);obtain⟨hn1,x,H1,I1,r1,y,ex,hz,q⟩:=hv;subst ex;obtain⟨t,rfl⟩:=r1;exact⟨hz,hr n _ pj s1 σ H1 Q hn1 I1 q⟩
theorem ZvK {e1 e2:Expr} {es:List Expr} {t:TJ} (h:PJf X (e1::e2::es) t):PEf X (.JoinedStr (e1::e2::es) pos) (tFs t):=by
 intro pj s σ H Q I q;exact JoinedStr_many (h s.toks Str.empty pj s σ H Q (Nat.le_refl _) I q)
end
section
variable {X:Cx} {a b:Expr} {ta tb:TE} {pos:Pos}
def tRep (i j:Nat) (te:TE):List Nat→TS
 | []=>fun D σ H=>D.nx σ H
 | c::cs=>fun D σ H=>∃x:Str,(σ.set j (some (.str ⟨#[c]⟩)))[i]?=some (some (.str x))∧te (σ.set j (some (.str ⟨#[c]⟩))) H fun v H1=>∃z:Str,v=.str z∧(((⟨#[c]⟩ : Str) == z)=false)∧x.length+(x.length+1) * z.length≤16777216∧
   tRep i j te cs D ((σ.set j (some (.str ⟨#[c]⟩))).set i (some (.str (Txt.replace x ⟨#[c]⟩ z)))) H1
abbrev Zx3 (i j:Nat) (ti te:TE):TS:=fun D σ H=>ti σ H fun v H1=>∃z:Str,v=.str z∧z.cps.all (· < 128)=true∧tRep i j te z.cps.toList D σ H1
theorem Zzj {i:Nat} {sp mk:Str} {e2:Expr} {te:TE} {p2 p3 p4 ap cp q1:Pos} {pj:List (Addr×Obj)} {σ:St} {H:Hp} {s:Shared} {m:Str→Option Value} {c k:Nat} {x:Str} {R:St→Hp→Prop}
  (hN:X.N.Nodup) (hi:X.N[i]?=some sp) (ki:X.env.scope.names.lookup sp=some .local) (kj:X.env.scope.names.lookup mk=some .local) (he:PEf X e2 te) (di:(sp == ("__debug__" : Str))=false) (dj:(mk == ("__debug__" : Str))=false)
  (hs:swapsWith (.Call (.Attribute (.Name sp p3) "replace" ap) [.Name mk p4,e2] [] cp) (some (.Name sp p2)) q1.line X.env=pure false)
  (hbase:attributeBase (.Name sp p3) "replace" X.env (eval (.Name sp p3) X.env)=eval (.Name sp p3) X.env)
  (hfew:((backTo cp (starEach [.Name mk p4,e2] X.env)).all (fun x=>!x.1) && (backToKw cp (keywordEach [] X.env)).all (fun x=>x.1.isSome)
   && decide ([Expr.Name mk p4,e2].length+([]:List Keyword).length+(if ([]:List Keyword).isEmpty then 0 else 1) < 30))=true)
  (hline:(ap.endLine == cp.line)=true) (h1:starEach [.Name mk p4,e2] X.env=[(false,eval (.Name mk p4) X.env),(false,eval e2 X.env)])
  (I:Inv X pj σ H s) (hn:s.heap.Ns X.env.locals m) (hm:m mk=some (.str ⟨#[c]⟩ k)) (k0:k≠0) (kt:k < s.toks) (ex:σ[i]?=some (some (.str x)))
  (h:te σ H fun v H1=>∃z:Str,v=.str z∧(((⟨#[c]⟩ : Str) == z)=false)∧x.length+(x.length+1) * z.length≤16777216∧R (σ.set i (some (.str (Txt.replace x ⟨#[c]⟩ z)))) H1) :
  wpAny (model X.prog X.w) X.A (execs [.Assign [.Name sp p2] (.Call (.Attribute (.Name sp p3) "replace" ap) [.Name mk p4,e2] [] cp) q1] X.env) (fun f s'=>f=.next∧0 < s'.toks∧∃σ' H',Inv X pj σ' H' s'∧R σ' H') X.xe s:=by
 obtain⟨m',hn',hl⟩:=id I.loc;obtain rfl:=ZBK hn hn';obtain⟨u,ru,lu⟩:=hl i sp _ hi ex (.inl ki);obtain⟨t,rfl⟩:=ru
 have hu:m sp=some (.str x t):=by
  rcases lu with⟨_,z⟩ | ⟨z,_⟩
  ·exact z
  ·have z':X.env.scope.names.lookup sp=some .cell∨X.env.scope.names.lookup sp=some .free:=z
   rw[ki]at z'
   rcases z' with z' | z' <;> cases z'
 refine wpAny_execs_cons (wpAny_Assign_Name ?_ hs);refine wpAny_Call_method_late hbase hfew hline rfl (wpAny_Name (wpAny_loadName_local I.ok.kind ki hn hu ?_) di);obtain⟨t1,t2⟩:=Zx7 (T:="str") I (x:=.str x) ⟨t,rfl⟩ tyS;refine⟨"str","str.replace",F.plainAttrs_str,F.slot_str_replace,F.type_str_replace,t1,t2,?_⟩;rw[h1];refine Calls.callWith_builtin rfl (Calls.evalArgs_plain (Calls.spliced_cons (wpAny_Name (wpAny_loadName_local I.ok.kind kj hn hm ?_) dj)));refine Calls.spliced_cons (thn (he pj s σ H _ I h) fun v s1 hv=>Calls.spliced_nil ?_);obtain⟨z,tk,H1,I1,rfl,htk,z',ez,hz,hlen,q⟩:=hv
 cases ez
 refine SC.replace k0 (Nat.ne_of_gt (Nat.lt_of_lt_of_le (Nat.lt_of_le_of_lt (Nat.zero_le _) kt) htk)) (Nat.ne_of_lt (Nat.lt_of_lt_of_le kt htk)) hz hlen fun t' k'=>?_;exact ZjK (v:=.str (Txt.replace x ⟨#[c]⟩ z)) (I1.tok k') hN hi ki ⟨t',rfl⟩ fun s2 m2 I2 _ _ ht _=>wpAny_execs_nil ⟨rfl,by omega,_,H1,I2,q⟩
theorem ZB9 {i j:Nat} {sp mk:Str} {it e2:Expr} {ti te:TE} {p1 p2 p3 p4 ap cp q1 pos:Pos} (hp:PassesOwn (model X.prog X.w) X.A X.env X.xe) (hc:X.calm=true)
  (hN:X.N.Nodup) (hit:PE X it ti) (he:PEf X e2 te) (hi:X.N[i]?=some sp:=by rfl) (hj:X.N[j]?=some mk:=by rfl) (ki:X.env.scope.names.lookup sp=some .local:=by rfl) (kj:X.env.scope.names.lookup mk=some .local:=by rfl)
  (di:(sp == ("__debug__" : Str))=false:=by decide) (dj:(mk == ("__debug__" : Str))=false:=by decide)
  (hs:swapsWith (.Call (.Attribute (.Name sp p3) "replace" ap) [.Name mk p4,e2] [] cp) (some (.Name sp p2)) q1.line X.env=pure false:=by rfl)
  (hbase:attributeBase (.Name sp p3) "replace" X.env (eval (.Name sp p3) X.env)=eval (.Name sp p3) X.env:=by rfl)
  (hfew:((backTo cp (starEach [.Name mk p4,e2] X.env)).all (fun x=>!x.1) && (backToKw cp (keywordEach [] X.env)).all (fun x=>x.1.isSome)
   && decide ([Expr.Name mk p4,e2].length+([]:List Keyword).length+(if ([]:List Keyword).isEmpty then 0 else 1) < 30))=true:=by rfl)
  (hline:(ap.endLine == cp.line)=true:=by rfl) (h1:starEach [.Name mk p4,e2] X.env=[(false,eval (.Name mk p4) X.env),(false,eval e2 X.env)]:=by rfl) (hfs:∀x,foldedSetIterable it X.env x=pure x:=by intro _; rfl) :
  PSt X (.For (.Name mk p1) it [.Assign [.Name sp p2] (.Call (.Attribute (.Name sp p3) "replace" ap) [.Name mk p4,e2] [] cp) q1] [] pos) (Zx3 i j ti te):=by
 intro pj s σ H D I htk h;refine wpAny_For (wpAny_mono (wpAny_toks_of (n:=1) htk (hit pj s σ H _ I h)) (fun v s1 hv=>?_) fun _ _ y=>y.2) hfs;obtain⟨tk1,x,H1,I1,r1,z,ex,hasc,q⟩:=hv;subst ex;obtain⟨t,rfl⟩:=r1;refine wpAny_pyIter_ascii hasc ?_;have fp:FpOk X pj H1 s1.heap.objs.size:=I1.fpOk (Nat.le_refl _) (I1.hok.fresh (Nat.le_refl _));have I2:Inv X pj σ H1 { s1 with heap:=s1.heap.push { cls:=.type "str_ascii_iterator",data:=.fields #[.str z t,.int 0 0] } }:=I1.kept (t':=s1.toks) fun b o e=>Heap.get?_push_of_some _ e
 refine codeAny_forLoop_any (fun n s'=>∃k σ' H',n=z.cps.size - k∧k≤z.cps.size∧Inv X pj σ' H' s'∧s'.heap.IsStrIter s1.heap.objs.size "str_ascii_iterator" z t k∧H' s1.heap.objs.size=none∧0 < s'.toks∧tRep i j te (z.cps.toList.drop k) D σ' H') ?_ z.cps.size
  ⟨0,σ,H1,rfl,Nat.zero_le _,I2,⟨_,Heap.get?_push_size _ rfl,rfl,rfl⟩,fp.1,tk1,by rw[List.drop_zero]; exact q⟩
 rintro n s3 ⟨k,σ3,H3,rfl,hk,I3,st3,f3,tk3,w3⟩;obtain⟨g1,g2,g3,g4,g5⟩:=fp.2
 by_cases hlt:k < z.cps.size
 ·have hz:z.cps[k]?=some z.cps[k]:=by simp[hlt]
  refine wpAny_passesOwn hp (wpAny_pyNext_ascii_item st3 hz fun h' st' sb=>?_);have I4:Inv X pj σ3 H3 { s3 with heap:=h',toks:=s3.toks+1 }:=I3.turned (fun b o hb e=>(sb.2 b hb).trans e) f3 g1 g3 g4 g5;obtain⟨o,e,c,d⟩:=id st';refine Zu8 (s:={ s3 with heap:=h',toks:=s3.toks+1 }) e c d (by decide) ?_
  have hd:z.cps.toList.drop k=z.cps[k]::z.cps.toList.drop (k+1):=by
   rw[List.drop_eq_getElem_cons (by simpa using hlt)];simp
  rw[hd]at w3;obtain⟨x,ex,w4⟩:=w3;have I5:=I4.pinned (fp:=[s1.heap.objs.size]) (fun b hb=>by rw[List.mem_singleton.mp hb]; exact⟨f3,g1,g2,g3,g4,g5⟩) (fun b hb=>by rw[List.mem_singleton.mp hb]; exact⟨o,e,fun v y=>by rw[d]at y; cases y⟩);refine wpAny_assign_Name (ZjK (v:=.str ⟨#[z.cps[k]]⟩) I5 hN hj kj ⟨_,rfl⟩ fun s5 m5 I6 hn5 hm5 ht5 _=>?_);refine wpAny_passesOwn hp (wpAny_mono (Zzj hN hi ki kj he di dj hs hbase hfew hline h1 I6 hn5 hm5 (Nat.ne_of_gt tk3) (by show s3.toks < s5.toks; rw[ht5]; exact Nat.lt_succ_of_lt (Nat.lt_succ_self _)) ex w4) (fun f s7 hq=>?_) fun _ _ y=>y);obtain⟨rfl,tk7,σ7,H7,I7,w7⟩:=hq;have pe:=I7.pin (s1.heap.objs.size,o) (List.mem_append_right _ (List.mem_append_right _ (ZgS (by simp) e)));refine⟨z.cps.size - (k+1),by omega,k+1,σ7,H7,rfl,hlt,I7.unpinned,⟨o,pe.1,c,d⟩,pe.2.1,tk7,w7⟩
 ·have hk':k=z.cps.size:=by omega
  subst hk';rw[List.drop_of_length_le (by simp)]at w3;refine wpAny_passesOwn hp (wpAny_pyNext_ascii_end (I3.ok.hd hc) st3 (by simp) fun h' eb=>?_);exact wpAny_execs_nil ⟨σ3,H3,I3.turned (t':=s3.toks) (fun b o hb e=>eb b o hb e) f3 g1 g3 g4 g5,w3⟩
end
section
variable {X:Cx} {pj:List (Addr×Obj)} {σ:List (Option V)} {H:Hp} {s:Shared}
theorem ZoL:∀ls:List (Str×Tok),Vals (ls.map fun p=>V.str p.1) (strValues ls)
 | []=>.nil
 | (z,t)::ls=>.cons ⟨t,rfl⟩ (ZoL ls)
theorem Zh9 {ls:List (Str×Tok)} {k:Nat} {Q:VK} (I:Inv X pj σ H s) (q:NewL (ls.map fun p=>V.str p.1) H Q):EP X pj σ Q (.ref s.heap.objs.size) { s with heap:=s.heap.push { cls:=.type "list",data:=.seq (strValues ls).toArray },toks:=k }:=
 ⟨.ref s.heap.objs.size,upd H s.heap.objs.size (.lst _),I.laid (t':=k) (fun b u e=>Heap.get?_push_of_some _ e) (Nat.le_refl _) ⟨q.1,strValues ls,0,ZoL ls,Heap.get?_push_size _ rfl⟩,rfl,q.2 _ (I.hok.fresh (Nat.le_refl _))⟩
theorem Zid {ls:List (Str×Tok)} {ts:List Str} (h:ls.map (·.1)=ts):(ls.map fun p=>V.str p.1)=ts.map V.str:=by
 rw[←h,List.map_map]; rfl
def ZEp:V→List V→Hp→VK→Prop:=fun x vs H Q=>∃z:Str,x=.str z∧z.length≤100000∧((vs=[]∧NewL ((Txt.words z).map V.str) H Q)∨(∃c:Nat,vs=[.str ⟨#[c]⟩]∧NewL ((Txt.split z ⟨#[c]⟩).map V.str) H Q))
theorem ZyV:MtR X "str.split" ZEp:=by
 intro pj s σ H x vs v us Q I rx rv h;obtain⟨z,rfl,hz,h⟩:=h;obtain⟨t,rfl⟩:=rx;have hzs:z.length≤sizeLine:=Zc4 (by omega)
 rcases h with⟨rfl,q⟩ | ⟨c,rfl,q⟩
 ·cases rv
  have hw0:=StrLaws.sw_weight z;have hw1:=StrLaws.len_le_wsum (Builtin.Str.spaceWords z (z.length+1));refine call_meets F.slot_str_split (typeIs_str _ _ _) F.entry_str_split (F.args_str_split_1 _) (meets_str_split_space z t hzs (Zc4 (by omega))) ?_
  cases hw:Builtin.Str.spaceWords z (z.length+1) == [(0,z.length)]
  ·simp only [Bool.false_eq_true,if_false]
   rw[strsFrom_eq];have e:(numbered s.toks (wordsOf z)).map (·.1)=Txt.words z:=(numbered_texts _ _).trans (if_neg (ne_true_of_eq_false hw)).symm;exact Zh9 (ls:=numbered s.toks (wordsOf z)) I (by rw[Zid e]; exact q)
  ·simp only [if_true]
   have e:[(z,t)].map (·.1)=Txt.words z:=(if_pos hw).symm;exact Zh9 (ls:=[(z,t)]) (k:=s.toks) I (by rw[Zid e]; exact q)
 ·obtain⟨u,rfl,tu,rfl⟩:=rv.one
  have hy:((⟨#[c]⟩ : Str).length == 0)=false:=rfl
  cases h1:(decide (z.length < (⟨#[c]⟩ : Str).length) || decide (Builtin.Str.strKind z < Builtin.Str.strKind ⟨#[c]⟩))
  ·cases hf:(Builtin.Str.occurrences z ⟨#[c]⟩ 0 z.length (z.length+1)).isEmpty
   ·have e0:Txt.split z ⟨#[c]⟩=Builtin.Str.partsBetween z (Builtin.Str.occurrences z ⟨#[c]⟩ 0 z.length (z.length+1)) (⟨#[c]⟩ : Str).length:=(if_neg (ne_true_of_eq_false h1)).trans (if_neg (ne_true_of_eq_false hf))
    have hn:(Builtin.Str.partsBetween z (Builtin.Str.occurrences z ⟨#[c]⟩ 0 z.length (z.length+1)) (⟨#[c]⟩ : Str).length).length≤sizeLine:=by
     rw[←e0];have:=q.1
     rwa [List.length_map]at this
    refine call_meets F.slot_str_split (typeIs_str _ _ _) F.entry_str_split (F.args_str_split_2 _ _) (meets_str_split_sep z ⟨#[c]⟩ t tu h1 hy hf hzs hn) ?_;show wants _ _ _ { s with toks:=_,heap:=s.heap.push { cls:=.type "list",data:=.seq (strsFrom s.toks (Builtin.Str.partsBetween z (Builtin.Str.occurrences z ⟨#[c]⟩ 0 z.length (z.length+1)) (⟨#[c]⟩ : Str).length)).toArray } };rw[strsFrom_eq];have e:(numbered s.toks (Builtin.Str.partsBetween z (Builtin.Str.occurrences z ⟨#[c]⟩ 0 z.length (z.length+1)) (⟨#[c]⟩ : Str).length)).map (·.1)=Txt.split z ⟨#[c]⟩:=(numbered_texts _ _).trans e0.symm;exact Zh9 (ls:=numbered s.toks _) I (by rw[Zid e]; exact q)
   ·have e:[(z,t)].map (·.1)=Txt.split z ⟨#[c]⟩:=((if_neg (ne_true_of_eq_false h1)).trans (if_pos hf)).symm
    exact call_meets F.slot_str_split (typeIs_str _ _ _) F.entry_str_split (F.args_str_split_2 _ _) (meets_str_split_not_found z ⟨#[c]⟩ t tu h1 hy hf) (Zh9 (ls:=[(z,t)]) (k:=s.toks) I (by rw[Zid e]; exact q))
  ·have e:[(z,t)].map (·.1)=Txt.split z ⟨#[c]⟩:=(if_pos h1).symm
   exact call_meets F.slot_str_split (typeIs_str _ _ _) F.entry_str_split (F.args_str_split_2 _ _) (meets_str_split_cannot_occur z ⟨#[c]⟩ t tu h1) (Zh9 (ls:=[(z,t)]) (k:=s.toks) I (by rw[Zid e]; exact q))
def ZEn:R2:=fun x y H Q=>∃(z:Str) (n:Int),x=.str z∧y=.int n∧MulOk z n∧Q (.str (Txt.mul z n)) H
theorem ZBU:OpR X (binaryOp .Mult) ZEn:=by
 intro pj s σ H x y v u Q I rx ry h;obtain⟨z,n,rfl,rfl,hm,q⟩:=h;obtain⟨t,rfl⟩:=rx;obtain⟨t',rfl⟩:=ry;exact SB.mul hm fun t' k=>⟨.str _,H,I.tok k,⟨t',rfl⟩,q⟩
end
section
variable {σ:St} {H:Hp} {Q:VK} {D:Ends}
theorem ZtW {i j:Nat} {ti te:TE} (h:ti σ H fun v H1=>∃z:Str,v=.str z∧z.cps.all (· < 128)=true∧tRep i j te z.cps.toList D σ H1):Zx3 i j ti te D σ H:=h
theorem ZDs {i j:Nat} {te:TE} (h:D.nx σ H):tRep i j te [] D σ H:=h
theorem ZwF {i j c:Nat} {cs:List Nat} {te:TE} (x:Str) (e:(σ.set j (some (.str ⟨#[c]⟩)))[i]?=some (some (.str x))) (h:te (σ.set j (some (.str ⟨#[c]⟩))) H fun v H1=>∃z:Str,v=.str z∧(((⟨#[c]⟩ : Str) == z)=false)∧x.length+(x.length+1) * z.length≤16777216∧
   tRep i j te cs D ((σ.set j (some (.str ⟨#[c]⟩))).set i (some (.str (Txt.replace x ⟨#[c]⟩ z)))) H1):tRep i j te (c::cs) D σ H:=⟨x,e,h⟩
end
end L2
namespace L2
open PySem PySem.Spec PyProof.Rows
section
variable {ix:List Nat} {tc:TT} {te:TE} {σ:St} {H:Hp} {Q:VK}
end
def MeS1 (P:Program) (w:World) (K:PySem.W.Frag) (mg:Str→Option Value) (base:Heap) (k:Nat) (C:Addr) (m:Str) (ps:List Str) (sp:Sp):Prop:=Cls K C∧∃f fd,FnOk P w K mg base (CX1 P w) k f fd ps sp∧ZaG K fd ps []∧Meth K C m f
section
variable {X:Cx} {k k':Nat} {m:Str} {ps:List Str} {sp:Sp} {e o:Expr} {es:List Expr} {ta:TE} {t:TA} {pos apos:Pos}
end
end L2
namespace L2
open PySem PySem.Spec PyProof.Rows
theorem ZmR:∀{n:Nat} {acc:Array Value},ItemsOf (fun i v=>∃t,v=.int (0+(i:Int) * 1) t) acc n→Vals ((List.range n).map fun i:Nat=>V.int (i:Int)) acc.toList
 | 0,acc,⟨h1,_⟩=>by
  have e:acc.toList=[]:=List.length_eq_zero_iff.mp (by rw[Array.length_toList]; exact h1);rw[e];exact .nil
 | n+1,acc,⟨h1,h2⟩=>by
  have hne:acc.toList≠[]:=fun e=>by
   have:=congrArg List.length e;rw[Array.length_toList,h1]at this;exact absurd this (by simp)
  obtain⟨r,x,hr⟩:=ZgG hne
  have hl:r.length=n:=by
   have:=congrArg List.length hr;rw[Array.length_toList,h1,List.length_append,List.length_singleton]at this;omega
  have gx:acc[n]?=some x:=by
   rw[←Array.getElem?_toList,hr,←hl,List.getElem?_append_right (Nat.le_refl _),Nat.sub_self];rfl
  obtain⟨t,e⟩:=h2 n x gx
  have ih:=ZmR (n:=n) (acc:=r.toArray) ⟨by simpa using hl,fun j v hj=>h2 j v (by
   rw[List.getElem?_toArray]at hj;have hj':=(List.getElem?_eq_some_iff.mp hj).1;rw[←Array.getElem?_toList,hr,List.getElem?_append_left hj']
   exact hj)⟩
  rw[hr,List.range_succ,List.map_append];refine Zny ih (.cons ⟨t,?_⟩ .nil);rw[e];simp
abbrev ZuB (te:TE):TE:=fun σ H Q=>te σ H fun x H1=>∃j:Nat,x=.int (j:Int)∧j≤1000000∧∀l,H1 l=none→Q (.ref l) (upd H1 l (.lst ((List.range j).map fun i:Nat=>V.int (i:Int))))
section
variable {X:Cx}
theorem ZvJ {e:Expr} {te:TE} {p p2 pos pos2:Pos} (hc:X.calm=true) (hg:Gl X "list") (hm:X.mg "list" = none) (hg2:Gl X "range") (hm2:X.mg "range" = none) (ha:PE X e te)
  (he:starEach [e] X.env=(false,eval e X.env)::starEach [] X.env:=by rfl) :
  PE X (.Call (.Name "list" p) [.Call (.Name "range" p2) [e] [] pos2] [] pos) (ZuB te):=by
 intro pj s σ H Q I h;refine wpAny_Call_Name_kw (Zlx I hg hm Zsn ?_);refine PyProof.Rows.callWith_type1 ?_ rfl rfl;show wpAny _ _ (spliced ((false,eval (.Call (.Name "range" p2) [e] [] pos2) X.env)::backTo pos (starEach [] X.env))) _ _ s;refine Calls.spliced_cons ?_;refine wpAny_Call_Name_kw (Zlx I hg2 hm2 boot_range ?_)
 let R:List V→Hp→Prop:=fun vs H1=>match vs with | [x]=>(∃j:Nat,x=V.int (j:Int)∧j≤1000000∧∀l,H1 l=none→Q (.ref l) (upd H1 l (.lst ((List.range j).map fun i:Nat=>V.int (i:Int))))) | _=>False
 have h':Zla te tNil σ H R:=h;refine PyProof.Rows.callWith_type1 (thn (Zaa ha Zad he pos2 pj s σ H R I h') fun us s1 ⟨vs,H1,I1,r1,q1⟩=>?_) he rfl
 match vs,r1,q1 with
 | [x],r1,q1=>
  obtain⟨j,rfl,hj,q⟩:=q1;obtain⟨u,rfl,rx⟩:=ZrX r1;obtain⟨t,rfl⟩:=rx;refine call_range_1 ?_;refine Calls.spliced_nil ?_;have I2:Inv X pj σ H1 { s1 with heap:=s1.heap.push { cls:=.type "range",data:=.fields #[.int 0 s1.toks,.int (j:Int) t,.int 1 (s1.toks+1)] },toks:=s1.toks+1+1 }:=I1.kept fun b o e=>Heap.get?_push_of_some _ e;refine call_list_range (n:=j) (I.ok.hd hc) (IsRange.new ..) (small_one (by omega) (by omega) (by omega) (by omega)) (by rw[rangeSize_one]; split <;> omega) (by omega) fun h' tk acc c' hk hS hacc=>?_;have hf:=I2.hok.fresh (Nat.le_refl _);have va:=ZmR hacc;have hz':((List.range j).map fun i:Nat=>V.int (i:Int)).length≤sizeLine:=Zc4 (by rw[List.length_map,List.length_range]; exact hj);refine⟨.ref _,upd H1 _ (.lst ((List.range j).map fun i:Nat=>V.int (i:Int))),I2.laid (t':=tk) hk ?_ (show Zc7 X.prog X.w _ h' _ (.lst _) from⟨hz',acc.toList,c',va,hS⟩),rfl,q _ hf⟩;exact Nat.le_refl _
theorem ZqT {te:TE} {σ:St} {H:Hp} {Q:VK} (h:te σ H fun x H1=>∃j:Nat,x=.int (j:Int)∧j≤1000000∧∀l,H1 l=none→Q (.ref l) (upd H1 l (.lst ((List.range j).map fun i:Nat=>V.int (i:Int))))):ZuB te σ H Q:=h
end
section
variable {X:Cx} {x x':Str} {ns:List Str} {ix:List Nat} {sc scope:Scope} {N:List Str} {elt iter:Expr} {px px' tp pos:Pos} {tk:Nat} {ifs:List Expr} {tc:TT} {te:TE} {wi:TI}
end
section
variable {ix:List Nat} {tc:TT} {te:TE} {σ:St} {H:Hp} {Q:VK} {K:PySem.W.Frag}
theorem Zys {J:It} {xs:List V} (Pv:Nat→List V→Addr→Hp→Prop) (hw:∀H',Wk J xs H') (hz:xs.length≤1000000) (h0:∀acc,H acc=none→Pv 0 [] acc (upd H acc (.lst [])))
  (hs:∀(i:Nat) (x:V) (ys:List V) (acc:Addr) (H':Hp),xs[i]?=some x→H acc=none→Pv i ys acc H'→ys.length≤i→
   ∀R:Bool→Hp→Prop,(∀b H2,(b=false→Pv (i+1) ys acc H2)→(b=true→∀R2:V→Hp→Prop,(∀y H3,H3 acc=some (.lst ys)→(∀H4,But acc H3 H4→H4 acc=some (.lst (ys++[y]))→Pv (i+1) (ys++[y]) acc H4)→R2 y H3)→te (some x::subS σ ix) H2 R2)→R b H2)→tc (some x::subS σ ix) H' R)
  (hd:∀(acc:Addr) (ys:List V) (H':Hp),H acc=none→Pv xs.length ys acc H'→Q (.ref acc) H'):ZnE J ix tc te σ Q H:=by
 intro acc hacc;refine⟨fun i m ys H'=>m=xs.length - i∧i≤xs.length∧Pv i ys acc H'∧ys.length≤i,⟨xs.length,by simp,Nat.zero_le _,h0 acc hacc,Nat.le_refl _⟩,?_⟩;rintro i m ys H' ⟨rfl,hi,pv,hy⟩
 by_cases hlt:i < xs.length
 ·obtain⟨go,yl⟩:=(hw H' H' (Same.refl _)).1 i hlt
  refine .inr ⟨go,fun x H2 y=>?_⟩;obtain⟨rfl,hx⟩:=yl x H2 y;refine hs i x ys acc _ hx hacc pv hy _ fun b H3 pf pt=>?_
  cases b with
  | false=>
   rw[if_neg Bool.false_ne_true];exact⟨xs.length - (i+1),by omega,rfl,hlt,pf rfl,Nat.le_succ_of_le hy⟩
  | true=>
   rw[if_pos rfl];refine pt rfl _ fun y H4 ea4 py=>⟨ea4,Zut (by omega),xs.length - (i+1),by omega,rfl,hlt,py _ Zg0 Zax,?_⟩;rw[List.length_append,List.length_singleton];omega
 ·have e:i=xs.length:=by omega
  subst e;exact .inl ⟨(hw H' H' (Same.refl _)).2,hd acc ys H' hacc pv⟩
theorem ZrO {n k:Nat} (h:k < n):seqIndex? (k:Int) n=some k:=by
 have a : ¬((k:Int) < 0):=by omega
 have b:(decide (0≤(k:Int)) && decide ((k:Int) < (n:Int)))=true:=by simp; omega
 show(if (decide (0≤(if (k:Int) < 0 then(k:Int)+n else k)) && decide ((if (k:Int) < 0 then(k:Int)+n else k) < (n:Int)))=true then some (if (k:Int) < 0 then(k:Int)+n else k).toNat else none)=some k;rw[if_neg a,if_pos b,Int.toNat_natCast]
theorem ZwJ {l:Addr} {xs:List V} {y:V} {k:Nat} (h:H l=some (.lst xs)) (hk:xs[k]?=some y) (hz:xs.length≤1000000) (q:∀H':Hp,But l H H'→H' l=some (.lst (xs.eraseIdx k))→Q y H'):ZAA (.ref l) [.int (k:Int)] H Q:=by
 have hk':=(List.getElem?_eq_some_iff.mp hk).1;exact⟨l,xs,k,k,y,rfl,rfl,h,by omega,by omega,ZrO hk',hk,q _ Zg0 Zax⟩
end
section
variable {X:Cx} {k k':Nat} {m:Str} {ps:List Str} {sp:Sp} {e o:Expr} {es:List Expr} {ta:TE} {t:TA} {pos apos:Pos} {E:XK}
abbrev tDyP (D:Addr→Prop) (m:Str) (sp:Sp) (E:XK) (ta:TE) (t:TA):TE:=fun σ H Q=>ta σ H fun x H1=>∃a C dx fs,x=.ref a∧H1 a=some (.ins C dx fs)∧D C∧fs.lookup m=none∧
 t σ H1 fun vs H2=>H2 a=some (.ins C dx fs)∧sp (x::vs) H2 Q E
theorem ZD7 {pl:Sem Bool} {D:Addr→Prop} (hp:Zi6 (CX1 X.prog X.w) X E) (hD:∀C,D C→MeS1 X.prog X.w X.K X.mg X.base k C m ps (spAt sp C)) (hr:Room k' X.A) (ho:PE X o ta) (ha:PA X (e::es) t) (hk:k≤k':=by omega)
  (hst:starEach (e::es) X.env=(false,eval e X.env)::starEach es X.env:=by rfl) (hpl:(backTo pos (starEach es X.env)).any (·.1)=false:=by rfl)
  (ht:eval (.Call (.Attribute o m apos) (e::es) [] pos) X.env=(do
   let ov ←eval o X.env
   standAt apos.atName
   let (f,first) ←holding [ov] (getMethod ov m pl)
   callWith pos f first (backTo pos (starEach (e::es) X.env)) (backToKw pos (keywordEach [] X.env))):=by rfl) :
  PE X (.Call (.Attribute o m apos) (e::es) [] pos) (tDyP D m sp E ta t):=by
 intro pj s σ H Q I h;refine PySem.W.methodCall_KW (pl:=pl) (thn (ho pj s σ H _ I h) fun u s1 ⟨x,H1,I1,rx,a,C,dx,fs,ex,ea,hC,l,q⟩=>?_) ht;subst ex;obtain rfl:u=Value.ref a:=rx;obtain⟨c,f,fd,F,hb,hm⟩:=hD C hC;refine ZkH I1 ea c hm l ?_;refine PySem.W.callWith_K (first:=[.ref a]) (h₀:=X.base) I.ok.mod.kin hm.kp (thn (ha pos pj s1 σ H1 _ I1 q) fun us s2 ⟨vs,H2,I2,r,eb,q2⟩=>⟨I2.kIn,?_⟩) hst hpl;exact Zur (us:=.ref a::us) (vs:=.ref a::vs) (dvs:=[]) (E:=E) F (hr.mono hk) hb .nil hp I2 (.cons rfl r) (by rw[List.append_nil]; exact⟨q2,a,dx,fs,vs,rfl,eb⟩)
theorem ZDc {D:Addr→Prop} {σ:St} {H:Hp} {Q:VK} (h:ta σ H fun x H1=>∃a C dx fs,x=.ref a∧H1 a=some (.ins C dx fs)∧D C∧fs.lookup m=none∧
 t σ H1 fun vs H2=>H2 a=some (.ins C dx fs)∧sp (x::vs) H2 Q E):tDyP D m sp E ta t σ H Q:=h
end
section
variable {X:Cx} {a:Expr} {ta:TE} {pos:Pos}
end
end L2
namespace L2
open PySem PySem.Spec PyProof.Rows
section
variable {X:Cx}
end
section
variable {X:Cx} {e:Expr} {td:TE} {st:Stmt} {t:TS}
end
theorem ZvG {X:Cx} {a b c d:Str} {i j k l:Nat} {p q r o:Pos} {es:List Expr} {t:TA} (h:PA X es t):PA X (.Constant (.str a) i p::.Constant (.str b) j q::.Constant (.str c) k r::.Constant (.str d) l o::es) (Zla (tC (.str a)) (Zla (tC (.str b)) (Zla (tC (.str c)) (Zla (tC (.str d)) t)))):=
 Zaa Zal (Zaa Zal (Zaa Zal (Zaa Zal h)))
end L2
namespace PySem
open Sem (wp)
section
variable {prog:Program} {w:World} {A:Around} {E:Value→Shared→Prop} {s:Shared}
open PySem.W in
end
section
variable {prog:Program} {w:World} {K:Type} [DecidableEq K] {knd:HeapKind prog w K} {A:Around} {E:Value→Shared→Prop} {s:Shared}
end
end PySem
namespace L2
open PySem PySem.Spec PyProof.Rows
section
variable {X:Cx}
end
section
variable {σ:St} {H:Hp} {Q:VK} {D:Ends} {g:TG} {tb:TS} {ix:List Nat} {tc:TT} {te:TE}
theorem ZDa {td ty:TE} (h:td σ H fun x H1=>ty σ H1 fun y H2=>∃a v,x=.ref a∧DGet H2 a y (some v)∧Q v H2):ZER td ty σ H Q:=h
end
end L2
namespace L2
open PySem PySem.Spec PyProof.Rows
section
variable {X:Cx} {k k':Nat} {x:Str} {ps:List Str} {sp:Sp} {e:Expr} {es:List Expr} {t:TA} {pos p:Pos} {E:XK}
def tFnP (sp:Sp) (E:XK) (t:TA):TE:=fun σ H Q=>t σ H fun vs H1=>sp vs H1 Q E
theorem ZD9 (hp:Zi6 (CX1 X.prog X.w) X E) (G:FnS1 X.prog X.w X.K X.mg X.base k x ps sp) (hr:Room k' X.A) (ha:PA X (e::es) t) (hk:k≤k':=by omega) (hg:Gl X x:=by rfl) (hdb:(x == ("__debug__" : Str))=false:=by decide)
  (he:starEach (e::es) X.env=(false,eval e X.env)::starEach es X.env:=by rfl) (hpl:(backTo pos (starEach es X.env)).any (·.1)=false:=by rfl):PE X (.Call (.Name x p) (e::es) [] pos) (tFnP sp E t):=by
 obtain⟨f,fd,F,hb,kp,hm⟩:=G;have z:=Zti (p:=p) (pos:=pos) F (hr.mono hk) hg hm kp hb .nil hp ha hdb he hpl;intro pj s σ H Q I h;refine z pj s σ H Q I ?_;show t σ H fun vs H1=>sp (vs++[]) H1 Q E;simp only [List.append_nil];exact h
theorem ZFd {σ:St} {H:Hp} {Q:VK} (h:t σ H fun vs H1=>sp vs H1 Q E):tFnP sp E t σ H Q:=h
end
def isTx (z:Str):Value→Bool
 | .str a _=>a == z
 | _=>false
section
variable {X:Cx}
def ZxD:V→List V→Hp→VK→Prop:=fun x vs H Q=>∃(l:Addr) (ns:List Str) (z:Str) (j:Nat),x=.ref l∧vs=[.str z]∧H l=some (.lst (ns.map V.str))∧ns[j]?=some z∧(∀m,m < j→ns[m]?≠some z)∧j < 1000000∧Q (.int (j:Int)) H
theorem Zkh:MtM X "list.index" ZxD:=by
 intro pj s σ H x vs v us Q I rx rv h;obtain⟨l,ns,z,j,rfl,rfl,hH,hj,hno,hz,q⟩:=h
 cases rx
 obtain⟨u,rfl,ru⟩:=rv.one;obtain⟨tu,rfl⟩:=(show ∃t,u=Value.str z t from ru);obtain⟨_,its,n,r,hl,e⟩:=I.lstM hH
 have at':∀m (hm:m < its.toArray.size),∃a t,ns[m]?=some a∧its.toArray[m]=Value.str a t:=fun m hm=>by
  rw[List.size_toArray]at hm
  have hn:m < ns.length:=by
   have:=r.length;rw[List.length_map]at this;omega
  obtain⟨w',hw,rw'⟩:=r.get (i:=m) (x:=V.str ns[m]) (by rw[List.getElem?_map,List.getElem?_eq_getElem hn]; rfl);obtain⟨t,ht⟩:=(show ∃t,w'=Value.str ns[m] t from rw');refine⟨ns[m],t,List.getElem?_eq_getElem hn,?_⟩;rw[List.getElem?_eq_getElem hm]at hw;rw[List.getElem_toArray,Option.some.inj hw,ht]
 have hjl:j < its.toArray.size:=by
  have h1:=(List.getElem?_eq_some_iff.mp hj).1;have:=r.length;rw[List.length_map]at this;rw[List.size_toArray];omega
 refine call_meets F.slot_list_index ⟨_,e,rfl⟩ F.entry_list_index (F.args_list_index_2 _ _) (MeetsSeq.list_index l its.toArray n (.str z tu) (isTx z) (fun y hy=>?_) j hjl (by omega) ?_ (fun m hm hlt=>?_)) ⟨e,⟨.int (j:Int),H,I.tok _,⟨_,rfl⟩,q⟩⟩
 ·obtain⟨m,hm,rfl⟩:=Array.mem_iff_getElem.mp hy
  obtain⟨a,t,_,e2⟩:=at' m hm;rw[e2];exact eqGives_str a z t tu
 ·obtain⟨a,t,h1,e2⟩:=at' j hjl
  rw[e2];rw[hj]at h1
  cases h1
  show(z == z)=true;exact beq_self_eq_true z
 ·obtain⟨a,t,h1,e2⟩:=at' m hm
  rw[e2];show(a == z)=false;have ne:a≠z:=fun y=>hno m hlt (by rw[h1,y]);exact beq_false_of_ne ne
end
section
variable {H:Hp} {Q:VK}
theorem ZmN {l:Addr} {ns:List Str} {z:Str} {j:Nat} (h:H l=some (.lst (ns.map V.str))) (hj:ns[j]?=some z) (hno:∀m,m < j→ns[m]?≠some z) (hz:j < 1000000) (q:Q (.int (j:Int)) H):ZxD (.ref l) [.str z] H Q:=⟨l,ns,z,j,rfl,rfl,h,hj,hno,hz,q⟩
end
end L2
namespace L2
open PySem PySem.Spec PyProof.Rows
section
variable {X:Cx}
end
section
variable {X:Cx}
def ZFu:R2:=fun x y H Q=>ZCa x y H Q∨ZEn x y H Q
theorem Ztf:OpR X (binaryOp .Mult) ZFu:=OpR.or ZcA ZBU
end
end L2
open PySem L2
abbrev Stp (G N:Prop):=G=N→N→G
local macro_rules | `(tactic| walk_at "side") => `(tactic| first | omega | (show (_ : Int) < _; omega) | exact ⟨by omega, by omega⟩ | exact ⟨by omega, by omega, by decide⟩)
local macro_rules | `(tactic| walk_at $z:str) => do
  let z:=z.getString
  unless ["rd","rs",""].contains z do Lean.Macro.throwUnsupported
  let f:=fun (s:String)=>((s.splitOn " ").toArray.map fun x=>Lean.mkIdent x.toName)
  let a←(f ((if z=="rs" then "" else "ZhM ZDa ZFd ")++"ZDd ZDe ZAg ZDv ZDk ZwD Zz0 ZzZ Zz1 ZAh ZtV ZwB ZDr ZzR i_rU ZzW ZzX Zz8 Zz9 ZBe ZBf ZBj ZBk Zz3 ZBh ZDl")).mapM fun i=>`(tactic|refine $i ?_)
  let k←(f "Zlw").mapM fun i=>`(tactic|exact $i _)
  let t←`(tactic| first
 | ((with_reducible refine' ZDw ?hv ?_); (case hv=>exact rfl))
 | ((with_reducible refine Zz7 ?_); (try dsimp only [List.set_cons_succ,List.set_cons_zero]))
 | (with_reducible first $[| $a:tactic]*)
 | ((with_reducible refine i_rI ?hc ?_); (case hc=>walk_at "side"))
 | ((with_reducible refine' Zz5 ?hc ?_); (case hc=>assumption))
 | ((with_reducible refine' ZqS ?hc ?_); (case hc=>assumption))
 | ((with_reducible refine' Zz6 ?hc ?_); (case hc=>assumption))
 | ((with_reducible refine' Zz4 ?ht ?he ?_); (case ht=>first | exact TyOf.bl _ | exact TyOf.int _ | exact TyOf.str _ | exact TyOf.non | exact TyOf.lst (by assumption) | exact TyOf.tup (by assumption)); (case he=>first | exact Zt4 _ _ $[| $k:tactic]*)))
  let c←`(tactic| try (refine' (?wf:Stp _ _) ?we ?_; (case we=>(with_reducible conv=>lhs;whnf)); (case wf=>with_reducible exact fun _ h=>h)))
  `(tactic| ($c:tactic; repeat ($t:tactic; $c:tactic)))
local macro_rules | `(tactic| walk_at "hp") => `(tactic| first | assumption | solve_by_elim (maxDepth := 16) only [*, Zag])
local macro_rules | `(tactic| walk_at "rd0") => `(tactic| ((try dsimp only [cxOf]); (try simp only [L2.start, List.map_cons, List.map_nil, List.length_cons, List.length_nil, Nat.reduceAdd, Nat.reduceSub, List.replicate_zero, List.append_nil, List.cons_append, List.nil_append, List.replicate_succ]); walk_at "rd"))
local macro_rules | `(tactic| walk_at "rs0") => `(tactic| ((try dsimp only [cxOf]); (try simp only [L2.start, List.map_cons, List.map_nil, List.length_cons, List.length_nil, Nat.reduceAdd, Nat.reduceSub, List.replicate_zero, List.append_nil, List.cons_append, List.nil_append, List.replicate_succ]); walk_at "rs"))
local macro_rules | `(tactic| walk_at "tst") => `(tactic| (walk_at "rd"; repeat ((first | refine ZbT (decide_eq_true (by omega)) ?_ | refine ZaI (decide_eq_false (by omega)) ?_ | refine ZaI rfl ?_ | refine ZbT rfl ?_ | refine ⟨_, rfl, ?_⟩); walk_at "rd")))
open PySem L2
theorem lnZ1 {A:Type} {P:List A→Prop} (h:∀a,P [a]):∀u:List A,u.length=1→P u|[_],_=>h _
theorem lnZ2 {A:Type} {P:List A→Prop} (h:∀a b,P [a,b]):∀u:List A,u.length=2→P u|[_,_],_=>h _ _
theorem lnZ3 {A:Type} {P:List A→Prop} (h:∀a b c,P [a,b,c]):∀u:List A,u.length=3→P u|[_,_,_],_=>h _ _ _
theorem lnZ4 {A:Type} {P:List A→Prop} (h:∀a b c d,P [a,b,c,d]):∀u:List A,u.length=4→P u|[_,_,_,_],_=>h _ _ _ _
theorem lnZ5 {A:Type} {P:List A→Prop} (h:∀a b c d e,P [a,b,c,d,e]):∀u:List A,u.length=5→P u|[_,_,_,_,_],_=>h _ _ _ _ _
local macro_rules | `(tactic| walk_at "b") => `(tactic| (intro _ _ _ _ _ _; first | exact lnZ1 (fun _=>rfl) | exact lnZ2 (fun _ _=>rfl) | exact lnZ3 (fun _ _ _=>rfl) | exact lnZ4 (fun _ _ _ _=>rfl) | exact lnZ5 (fun _ _ _ _ _=>rfl)))
local macro_rules | `(tactic| walk_at "sc") => `(tactic| exact ⟨rfl, rfl, rfl, by decide +kernel, rfl, by decide +kernel, by decide +kernel⟩)
namespace LW
open PySem L2 EM
open List (all_eq_true any_cons append_assoc append_nil cons_ne_nil drop_left drop_nil filterMap_append foldl_append getD_eq_getElem?_getD getElem?_map length_append length_cons length_drop length_eq_zero_iff length_map length_nil length_range length_singleton length_take map_append map_cons map_drop map_map map_nil map_take mem_append mem_cons mem_cons_of_mem mem_cons_self mem_filter mem_map mem_map_of_mem mem_of_getElem? mem_of_mem_take mem_range mem_replicate mem_singleton nodup_append nodup_cons nodup_nil not_mem_nil range_succ take_left take_length take_nil take_zero)
def top (i:Nat):Stmt:=PySem.Challenge.pw_evernever_k17_lines_read.main.body.getD i (.Pass ⟨0,0,0,0⟩)
abbrev Ziw:Stmt:=top 8
abbrev Zk5:Stmt:=top 10
abbrev Zk4:Stmt:=top 11
abbrev ZiX:Stmt:=top 12
abbrev ZgF:Stmt:=top 15
abbrev Zto:Stmt:=top 31
abbrev ZpJ:Stmt:=top 34
abbrev ZjI:Stmt:=top 35
abbrev Ztn:Stmt:=top 36
abbrev ZpK:Stmt:=top 37
abbrev Ziz:Stmt:=top 39
abbrev ZfX:Stmt:=top 45
abbrev Zea:Stmt:=top 46
abbrev ZjJ:Stmt:=top 47
abbrev Zhx:Stmt:=top 48
abbrev Ziy:Stmt:=top 49
abbrev Zix:Stmt:=top 50
abbrev Zk8:Stmt:=top 51
abbrev Zk6:Stmt:=top 52
abbrev Znr:Stmt:=top 53
abbrev Zk9:Stmt:=top 54
abbrev Ze4:Stmt:=top 55
abbrev ZiA:Stmt:=top 56
abbrev ZgD:Stmt:=top 58
abbrev Zis:Stmt:=top 59
abbrev ZgE:Stmt:=top 60
abbrev ZjG:Stmt:=top 61
abbrev Ziv:Stmt:=top 62
abbrev ZjH:Stmt:=top 63
abbrev ZfW:Stmt:=top 64
abbrev Zhv:Stmt:=top 65
abbrev ZcC:Stmt:=top 66
abbrev Zhw:Stmt:=top 67
abbrev ZbE:Stmt:=top 68
abbrev Ziu:Stmt:=top 69
abbrev Zir:Stmt:=top 70
abbrev Zd9:Stmt:=top 71
abbrev Ze2:Stmt:=top 72
abbrev ZjF:Stmt:=top 73
abbrev Zhu:Stmt:=top 74
abbrev Zit:Stmt:=top 75
abbrev Zk3:Stmt:=top 76
abbrev Zht:Stmt:=top 77
abbrev Ziq:Stmt:=top 78
abbrev Zfm:Stmt:=top 79
abbrev Zk7:Stmt:=top 80
abbrev Zik:Stmt:=Za2 (top 13) 0
abbrev Zhp:Stmt:=Za2 (top 13) 1
abbrev ZjB:Stmt:=Za2 (top 16) 0
abbrev ZjA:Stmt:=Za2 (top 16) 1
abbrev Zhs:Stmt:=Za2 (top 16) 2
abbrev ZgC:Stmt:=Za2 (top 17) 0
abbrev Zd8:Stmt:=Za2 (top 17) 1
abbrev Zc3:Stmt:=Za2 (top 17) 2
abbrev ZfV:Stmt:=Za2 (top 17) 3
abbrev Zjz:Stmt:=Za2 (top 20) 0
abbrev Zim:Stmt:=Za2 (top 20) 1
abbrev Zil:Stmt:=Za2 (top 20) 2
abbrev ZjE:Stmt:=Za2 (top 21) 0
abbrev Zip:Stmt:=Za2 (top 21) 1
abbrev Zio:Stmt:=Za2 (top 21) 2
abbrev Zk0:Stmt:=Za2 (top 22) 0
abbrev ZjD:Stmt:=Za2 (top 22) 1
abbrev ZjC:Stmt:=Za2 (top 22) 2
abbrev Zhq:Stmt:=Za2 (top 23) 0
abbrev Zjy:Stmt:=Za2 (top 24) 2
abbrev Zjx:Stmt:=Za2 (top 24) 3
abbrev ZgB:Stmt:=Za2 (top 25) 2
abbrev ZgA:Stmt:=Za2 (top 25) 3
abbrev Zk2:Stmt:=Za2 (top 26) 2
abbrev Zk1:Stmt:=Za2 (top 26) 3
abbrev Zin:Stmt:=Za2 (top 38) 0
abbrev ZeN:Stmt:=Za2 (top 38) 1
abbrev ZeM:Stmt:=Za2 (top 38) 2
abbrev ZeO:Stmt:=Za2 (top 38) 3
abbrev Zhr:Stmt:=Za2 (top 38) 4
theorem ZpR:FnScope ["many"] ["many"] (Zah Ziw):=by walk_at "sc"
theorem Zts:FnScope ["thing"] ["thing"] (Zah Zk5):=by walk_at "sc"
theorem Ztr:FnScope ["thing","many"] ["thing","many"] (Zah Zk4):=by walk_at "sc"
theorem Ztq:FnScope ["many","starts","bads","after"] ["many","starts","bads","after"] (Zah ZiX):=by walk_at "sc"
theorem Zef:FnScope ["formulas","many","found","formula"] ["formulas","many"] (Zah ZgF):=by walk_at "sc"
theorem Zma:FnScope ["text","sign","spaced","mark"] ["text"] (Zah Zto):=by walk_at "sc"
theorem ZxJ:FnScope ["parts"] ["parts"] (Zah ZpJ):=by walk_at "sc"
theorem ZrM:FnScope ["parts"] ["parts"] (Zah ZjI):=by walk_at "sc"
theorem Zzn:FnScope ["parts"] ["parts"] (Zah Ztn):=by walk_at "sc"
theorem ZxK:FnScope ["word","names"] ["word","names"] (Zah ZpK):=by walk_at "sc"
theorem Zfp:FnScope ["found","names","levels","word","level"] ["found","names"] (Zah Ziz):=by walk_at "sc"
theorem ZhK:FnScope ["line","found"] ["line"] (Zah ZfX):=by walk_at "sc"
theorem Zdp:FnScope ["found","pieces","word"] ["found"] (Zah Zea):=by walk_at "sc"
theorem ZrN:FnScope ["found"] ["found"] (Zah ZjJ):=by walk_at "sc"
theorem Zn6:FnScope ["found"] ["found"] (Zah Zhx):=by walk_at "sc"
theorem Zkp:FnScope ["found","piece"] ["found"] (Zah Ziy):=by walk_at "sc"
theorem ZpS:FnScope ["found"] ["found"] (Zah Zix):=by walk_at "sc"
theorem ZhD:FnScope ["found","names","at","name"] ["found"] (Zah Zk8):=by walk_at "sc"
theorem ZhC:FnScope ["pieces","names","lamps","piece","name"] ["pieces","names"] (Zah Zk6):=by walk_at "sc"
theorem ZeP:FnScope ["found","names","pieces","lamps","guard","changes","lamp","piece"] ["found","names"] (Zah Znr):=by walk_at "sc"
theorem Ztt:FnScope ["found","names"] ["found","names"] (Zah Zk9):=by walk_at "sc"
theorem ZgW:FnScope ["line","found"] ["line"] (Zah Ze4):=by walk_at "sc"
theorem ZcZ:FnScope ["lines","names","things","sort","line","found"] ["lines"] (Zah ZiA):=by walk_at "sc"
theorem Znu:FnScope ["_law_script","_law_k"] ["_law_script","_law_k"] (Zah ZgD):=by walk_at "sc"
theorem ZhA:FnScope ["_law_name_here","_law_names_here","_law_some"] ["_law_name_here","_law_names_here"] (Zah Zis):=by walk_at "sc"
theorem Zbz:FnScope ["_law_seed","_law_size","_law_some","_law_name_here","_law_state","_law_k"] ["_law_seed","_law_size"] (Zah ZgE):=by walk_at "sc"
theorem Zb0:FnScope ["_law_k","_law_cell","_law_some","_law_way","_law_size","_law_word","_law_place","_law_at"] ["_law_k","_law_cell"] (Zah ZjG):=by walk_at "sc"
theorem ZhB:FnScope ["_law_many","_law_cell","_law_names_here","_law_k"] ["_law_many","_law_cell"] (Zah Ziv):=by walk_at "sc"
theorem ZlQ:FnScope ["_law_tree","_law_wraps"] ["_law_tree","_law_wraps"] (Zah ZjH):=by walk_at "sc"
theorem Za0:FnScope ["_law_pile_here","_law_kind","_law_more","_law_left","_law_top","_law_made","_law_opened","_law_entry","_law_parts","_law_leaves"] ["_law_pile_here","_law_kind","_law_more"] (Zah ZfW):=by walk_at "sc"
theorem ZdT:FnScope ["_law_cells","_law_many","_law_pile_here","_law_cell","_law_kind","_law_more"] ["_law_cells","_law_many"] (Zah Zhv):=by walk_at "sc"
theorem Zat:FnScope ["_law_tree","_law_names_here","_law_wraps","_law_kind","_law_bind","_law_found","_law_part","_law_inner"] ["_law_tree","_law_names_here","_law_wraps"] (Zah ZcC):=by walk_at "sc"
theorem Za3:FnScope ["_law_some","_law_seed","_law_line_here","_law_last","_law_state","_law_word","_law_gap"] ["_law_some","_law_seed"] (Zah Zhw):=by walk_at "sc"
theorem Zas:FnScope ["_law_tree","_law_many","_law_every","_law_found","_law_part","_law_one"] ["_law_tree","_law_many"] (Zah ZbE):=by walk_at "sc"
theorem ZcY:FnScope ["_law_pairs","_law_many","_law_count","_law_cell","_law_moves_here","_law_k","_law_changes","_law_j","_law_lamp"] ["_law_pairs","_law_many","_law_count","_law_cell"] (Zah Ziu):=by walk_at "sc"
theorem Zko:FnScope ["_law_bag","_law_many","_law_found"] ["_law_bag","_law_many"] (Zah Zir):=by walk_at "sc"
theorem ZaN:FnScope ["_law_pairs","_law_many","_law_bag","_law_other","_law_rest","_law_word","_law_k","_law_guard","_law_lamps_left","_law_changes","_law_j","_law_lamp","_law_dealt"] ["_law_pairs","_law_many","_law_bag","_law_other"] (Zah Zd9):=by walk_at "sc"
theorem Zfo:FnScope ["_law_rest","_law_cell","_law_place","_law_evens"] ["_law_rest","_law_cell"] (Zah Ze2):=by walk_at "sc"
theorem ZcD:FnScope ["_law_entry","_law_names_here","_law_seed","_law_some","_law_mark","_law_lamp","_law_pair"] ["_law_entry","_law_names_here","_law_seed"] (Zah ZjF):=by walk_at "sc"
theorem Zdd:FnScope ["_law_stand","_law_changes","_law_there","_law_lamp","_law_pair"] ["_law_stand","_law_changes"] (Zah Zhu):=by walk_at "sc"
theorem ZpQ:FnScope ["_law_move","_law_stand","_law_other"] ["_law_move","_law_stand","_law_other"] (Zah Zit):=by walk_at "sc"
theorem Zhz:FnScope ["_law_rest","_law_word","_law_crowd_here","_law_entry"] ["_law_rest","_law_word"] (Zah Zk3):=by walk_at "sc"
theorem Zn5:FnScope ["_law_found","_law_due"] ["_law_found","_law_due"] (Zah Zht):=by walk_at "sc"
theorem Zee:FnScope ["_law_stand","_law_moves_here","_law_crowd_here","_law_move","_law_there"] ["_law_stand","_law_moves_here"] (Zah Ziq):=by walk_at "sc"
theorem Zde:FnScope ["_law_machine","_law_moves_here","_law_stand","_law_move","_law_there","_law_numbers","_law_found"] ["_law_machine","_law_moves_here","_law_stand"] (Zah Zfm):=by walk_at "sc"
theorem Zek:FnScope ["_law_script","_law_first","_law_second","_law_many","_law_names_here","_law_pairs","_law_rest","_law_lines","_law_entry","_law_handed","_law_machine","_law_chart","_law_moves_here","_law_stand"] ["_law_script"] (Zah Zk7):=by walk_at "sc"
theorem ZpL:FnScope ["self","many","starts","bads","after"] ["self","many","starts","bads","after"] (Zah Zik):=by walk_at "sc"
theorem Zdc:FnScope ["self","crowd","found","stand","onto"] ["self","crowd"] (Zah Zhp):=by walk_at "sc"
theorem ZrI:FnScope ["self","guard","changes"] ["self","guard","changes"] (Zah ZjB):=by walk_at "sc"
theorem ZrH:FnScope ["self","stand"] ["self","stand"] (Zah ZjA):=by walk_at "sc"
theorem Zck:FnScope ["self","stand","found","lamp","formula"] ["self","stand"] (Zah Zhs):=by walk_at "sc"
theorem Zns:FnScope ["self","names","starts","bads","moves"] ["self","names","starts","bads","moves"] (Zah ZgC):=by walk_at "sc"
theorem Ze5:FnScope ["self","many","after"] ["self"] (Zah Zd8):=by walk_at "sc"
theorem ZbF:FnScope ["self","stand","found","move"] ["self","stand"] (Zah Zc3):=by walk_at "sc"
theorem Ze6:FnScope ["self","stand","other","number","move"] ["self","stand","other"] (Zah ZfV):=by walk_at "sc"
theorem ZrG:FnScope ["self","at"] ["self","at"] (Zah Zjz):=by walk_at "sc"
theorem ZpM:FnScope ["self","stand"] ["self","stand"] (Zah Zim):=by walk_at "sc"
theorem Zfn:FnScope ["self","many","found","stand"] ["self","many"] (Zah Zil):=by walk_at "sc"
theorem ZrL:FnScope ["self","truth"] ["self","truth"] (Zah ZjE):=by walk_at "sc"
theorem ZpP:FnScope ["self","stand"] ["self","stand"] (Zah Zip):=by walk_at "sc"
theorem ZpO:FnScope ["self","many"] ["self","many"] (Zah Zio):=by walk_at "sc"
theorem Ztp:FnScope ["self","part"] ["self","part"] (Zah Zk0):=by walk_at "sc"
theorem ZrK:FnScope ["self","stand"] ["self","stand"] (Zah ZjD):=by walk_at "sc"
theorem ZrJ:FnScope ["self","many"] ["self","many"] (Zah ZjC):=by walk_at "sc"
theorem Zn3:FnScope ["self","parts"] ["self","parts"] (Zah Zhq):=by walk_at "sc"
theorem ZlP:FnScope ["self","stand","part"] ["self","stand"] (Zah Zjy):=by walk_at "sc"
theorem Zgq:FnScope ["self","many","found","part"] ["self","many"] (Zah Zjx):=by walk_at "sc"
theorem Zec:FnScope ["self","stand","odd","part"] ["self","stand"] (Zah ZgB):=by walk_at "sc"
theorem Zeb:FnScope ["self","many","found","part"] ["self","many"] (Zah ZgA):=by walk_at "sc"
theorem Znt:FnScope ["self","stand","part"] ["self","stand"] (Zah Zk2):=by walk_at "sc"
theorem Zhy:FnScope ["self","many","found","part"] ["self","many"] (Zah Zk1):=by walk_at "sc"
theorem ZpN:FnScope ["self"] ["self"] (Zah Zin):=by walk_at "sc"
theorem Zed:FnScope ["self","part","turn"] ["self","part"] (Zah ZeN):=by walk_at "sc"
theorem Zkm:FnScope ["self","word"] ["self","word"] (Zah ZeM):=by walk_at "sc"
theorem Zkn:FnScope ["self","word","names"] ["self","word","names"] (Zah ZeO):=by walk_at "sc"
theorem Zn4:FnScope ["self"] ["self"] (Zah Zhr):=by walk_at "sc"
def DF (K:W.Frag) (st:Stmt) (nm q:Str) (f:Addr):Prop:=∃d,Fun K nm q st f d
theorem dmk {K:W.Frag} {st:Stmt} {nm q:Str} {f:Addr} {od an:Option Addr} {sl:Array (Option Value)} {oc kV dc pm cd ct:Value} (l:K.lookup f=some ⟨oc,od,.func (W.fnOf nm q (Zjm st) (ZfO st) (Zah st) .none kV dc pm an cd ct),sl⟩) (c:W.codeIn K cd q=true) (k:W.keepIn K (.ref f)=true):DF K st nm q f:=⟨_,ZzQ l c k⟩
theorem DF.el{K:W.Frag}{st:Stmt}{nm q:Str}{f:Addr}{p:Prop}(h:DF K st nm q f)(k:∀d,Fun K nm q st f d→p):p:=Exists.elim h k
set_option genSizeOf false in
set_option genInjectivity false in
structure Ad where
 ZdN:Addr
 Zgh:FuncData
 ZfC:Addr
 ZiP:FuncData
 ZfB:Addr
 ZiO:FuncData
 ZfA:Addr
 ZiN:FuncData
 Zci:Addr
 ZeV:FuncData
 ZkG:Addr
 Zo0:FuncData
 ZiT:Addr
 Zl1:FuncData
 ZeG:Addr
 Zhe:FuncData
 ZkF:Addr
 ZoZ:FuncData
 ZiU:Addr
 Zl2:FuncData
 ZdQ:Addr
 Zgk:FuncData
 ZbS:Addr
 Zd3:FuncData
 Zbl:Addr
 Zcn:FuncData
 ZeH:Addr
 Zhf:FuncData
 ZcV:Addr
 Zfk:FuncData
 ZdP:Addr
 Zgj:FuncData
 ZdO:Addr
 Zgi:FuncData
 ZfE:Addr
 ZiR:FuncData
 ZfD:Addr
 ZiQ:FuncData
 ZgM:Addr
 ZjY:FuncData
 ZfF:Addr
 ZiS:FuncData
 ZbC:Addr
 Zdf:FuncData
 ZdR:Addr
 Zgl:FuncData
 Zcg:Addr
 ZeT:FuncData
 ZdI:Addr
 Zgc:FuncData
 Zch:Addr
 ZeU:FuncData
 ZeC:Addr
 Zha:FuncData
 ZdM:Addr
 Zgg:FuncData
 ZeF:Addr
 Zhd:FuncData
 ZeD:Addr
 Zhb:FuncData
 ZeE:Addr
 Zhc:FuncData
 Zbx:Addr
 Zd2:FuncData
 ZcT:Addr
 Zfi:FuncData
 Zcx:Addr
 Zga:FuncData
 ZdL:Addr
 Zgf:FuncData
 ZdH:Addr
 Zgb:FuncData
 ZbR:Addr
 Zd1:FuncData
 ZdK:Addr
 Zge:FuncData
 ZeB:Addr
 Zg9:FuncData
 ZcS:Addr
 Zfh:FuncData
 ZdJ:Addr
 Zgd:FuncData
 Zfz:Addr
 ZiM:FuncData
 ZcR:Addr
 Zfg:FuncData
 ZdG:Addr
 Zf9:FuncData
 ZcU:Addr
 Zfj:FuncData
 f_law:Addr
 d_law:FuncData
 Zcr:Addr
 Zf3:FuncData
 Zb1:Addr
 Zfd:FuncData
 Zdl:Addr
 Zg5:FuncData
 Zdk:Addr
 Zg4:FuncData
 Zb3:Addr
 Zff:FuncData
 ZbI:Addr
 ZeS:FuncData
 Zbv:Addr
 ZdZ:FuncData
 ZaW:Addr
 ZbK:FuncData
 Zbw:Addr
 Zd0:FuncData
 Zdj:Addr
 Zg3:FuncData
 Zct:Addr
 Zf5:FuncData
 Zcs:Addr
 Zf4:FuncData
 Zdo:Addr
 Zg8:FuncData
 Zcw:Addr
 Zf8:FuncData
 Zcv:Addr
 Zf7:FuncData
 Zey:Addr
 ZiJ:FuncData
 Zdn:Addr
 Zg7:FuncData
 Zdm:Addr
 Zg6:FuncData
 ZaX:Addr
 ZdY:FuncData
 Zdi:Addr
 Zg2:FuncData
 Zdh:Addr
 Zg1:FuncData
 ZbH:Addr
 ZeR:FuncData
 ZbG:Addr
 ZeQ:FuncData
 ZeA:Addr
 ZiL:FuncData
 Zez:Addr
 ZiK:FuncData
 Zcu:Addr
 Zf6:FuncData
 Zbd:Addr
 ZcP:FuncData
 Zbc:Addr
 ZcO:FuncData
 Zbe:Addr
 ZcQ:FuncData
 Zb2:Addr
 Zfe:FuncData
 ZaV:Addr
 ZbA:Addr
 Zau:Addr
 Zbg:Addr
 Zbh:Addr
 C_Not:Addr
 C_And:Addr
 ZaH:Addr
 C_Or:Addr
 ZaC:Addr
 ZaY:Addr
 v_JOINS:Addr
 v_NO_NAMES:Addr
 v_SORTS:Addr
structure Txt (K:W.Frag) (mg:Str→Option Value) (t:Ad):Prop where
 ZdB:Fun K "all_stands" "all_stands" Ziw t.ZdN t.Zgh
 Zlp:ZaG K t.Zgh ["many"] []
 ZlG:mg "all_stands" = some (.ref t.ZdN)
 Zfv:Fun K "is_whole" "is_whole" Zk5 t.ZfC t.ZiP
 Zof:ZaG K t.ZiP ["thing"] []
 Zoz:mg "is_whole" = some (.ref t.ZfC)
 Zfu:Fun K "is_crowd" "is_crowd" Zk4 t.ZfB t.ZiO
 Zoe:ZaG K t.ZiO ["thing","many"] []
 Zoy:mg "is_crowd" = some (.ref t.ZfB)
 Zft:Fun K "is_chart" "is_chart" ZiX t.ZfA t.ZiN
 Zod:ZaG K t.ZiN ["many","starts","bads","after"] []
 Zox:mg "is_chart" = some (.ref t.ZfA)
 Zce:Fun K "crowd_of_any" "crowd_of_any" ZgF t.Zci t.ZeV
 Zja:ZaG K t.ZeV ["formulas","many"] []
 Zjd:mg "crowd_of_any" = some (.ref t.Zci)
 Zks:Fun K "words" "words" Zto t.ZkG t.Zo0
 Zv1:ZaG K t.Zo0 ["text"] []
 Zw4:mg "words" = some (.ref t.ZkG)
 ZiG:Fun K "and_of" "and_of" ZpJ t.ZiT t.Zl1
 ZtG:ZaG K t.Zl1 ["parts"] []
 Zua:mg "and_of" = some (.ref t.ZiT)
 Zev:Fun K "either_of" "either_of" ZjI t.ZeG t.Zhe
 Zmu:ZaG K t.Zhe ["parts"] []
 Zna:mg "either_of" = some (.ref t.ZeG)
 Zkr:Fun K "or_of" "or_of" Ztn t.ZkF t.ZoZ
 Zv0:ZaG K t.ZoZ ["parts"] []
 Zw3:mg "or_of" = some (.ref t.ZkF)
 ZiH:Fun K "single" "single" ZpK t.ZiU t.Zl2
 ZtH:ZaG K t.Zl2 ["word","names"] []
 Zub:mg "single" = some (.ref t.ZiU)
 ZdE:Fun K "formula_in" "formula_in" Ziz t.ZdQ t.Zgk
 Zls:ZaG K t.Zgk ["found","names"] []
 ZlJ:mg "formula_in" = some (.ref t.ZdQ)
 ZbO:Fun K "words_of_line" "words_of_line" ZfX t.ZbS t.Zd3
 ZhY:ZaG K t.Zd3 ["line"] []
 Zic:mg "words_of_line" = some (.ref t.ZbS)
 Zbk:Fun K "parted_by_commas" "parted_by_commas" Zea t.Zbl t.Zcn
 Zf1:ZaG K t.Zcn ["found"] []
 Zgo:mg "parted_by_commas" = some (.ref t.Zbl)
 Zew:Fun K "pieces_in" "pieces_in" ZjJ t.ZeH t.Zhf
 Zmv:ZaG K t.Zhf ["found"] []
 Znb:mg "pieces_in" = some (.ref t.ZeH)
 ZcL:Fun K "check_lamps" "check_lamps" Zhx t.ZcV t.Zfk
 ZjX:ZaG K t.Zfk ["found"] []
 Zkf:mg "check_lamps" = some (.ref t.ZcV)
 ZdD:Fun K "check_move" "check_move" Ziy t.ZdP t.Zgj
 Zlr:ZaG K t.Zgj ["found"] []
 ZlI:mg "check_move" = some (.ref t.ZdP)
 ZdC:Fun K "check_form" "check_form" Zix t.ZdO t.Zgi
 Zlq:ZaG K t.Zgi ["found"] []
 ZlH:mg "check_form" = some (.ref t.ZdO)
 Zfx:Fun K "names_in" "names_in" Zk8 t.ZfE t.ZiR
 Zoh:ZaG K t.ZiR ["found"] []
 ZoB:mg "names_in" = some (.ref t.ZfE)
 Zfw:Fun K "lamps_in" "lamps_in" Zk6 t.ZfD t.ZiQ
 Zog:ZaG K t.ZiQ ["pieces","names"] []
 ZoA:mg "lamps_in" = some (.ref t.ZfD)
 ZgI:Fun K "move_in" "move_in" Znr t.ZgM t.ZjY
 Zqp:ZaG K t.ZjY ["found","names"] []
 Zro:mg "move_in" = some (.ref t.ZgM)
 Zfy:Fun K "thing_in" "thing_in" Zk9 t.ZfF t.ZiS
 Zoi:ZaG K t.ZiS ["found","names"] []
 ZoC:mg "thing_in" = some (.ref t.ZfF)
 ZbB:Fun K "names_of_first" "names_of_first" Ze4 t.ZbC t.Zdf
 ZhG:ZaG K t.Zdf ["line"] []
 ZhI:mg "names_of_first" = some (.ref t.ZbC)
 ZdF:Fun K "machine_of" "machine_of" ZiA t.ZdR t.Zgl
 Zlt:ZaG K t.Zgl ["lines"] []
 ZlK:mg "machine_of" = some (.ref t.ZdR)
 Zcc:Fun K "_law_cell_at" "_law_cell_at" ZgD t.Zcg t.ZeT
 Zi8:ZaG K t.ZeT ["_law_script","_law_k"] []
 Zjb:mg "_law_cell_at" = some (.ref t.Zcg)
 Zdw:Fun K "_law_fresh" "_law_fresh" Zis t.ZdI t.Zgc
 Zlk:ZaG K t.Zgc ["_law_name_here","_law_names_here"] []
 ZlB:mg "_law_fresh" = some (.ref t.ZdI)
 Zcd:Fun K "_law_letters" "_law_letters" ZgE t.Zch t.ZeU
 Zi9:ZaG K t.ZeU ["_law_seed","_law_size"] []
 Zjc:mg "_law_letters" = some (.ref t.Zch)
 Zer:Fun K "_law_name" "_law_name" ZjG t.ZeC t.Zha
 Zmq:ZaG K t.Zha ["_law_k","_law_cell"] []
 Zm6:mg "_law_name" = some (.ref t.ZeC)
 ZdA:Fun K "_law_names" "_law_names" Ziv t.ZdM t.Zgg
 Zlo:ZaG K t.Zgg ["_law_many","_law_cell"] []
 ZlF:mg "_law_names" = some (.ref t.ZdM)
 Zeu:Fun K "_law_rank" "_law_rank" ZjH t.ZeF t.Zhd
 Zmt:ZaG K t.Zhd ["_law_tree","_law_wraps"] []
 Zm9:mg "_law_rank" = some (.ref t.ZeF)
 Zes:Fun K "_law_over" "_law_over" ZfW t.ZeD t.Zhb
 Zmr:ZaG K t.Zhb ["_law_pile_here","_law_kind","_law_more"] []
 Zm7:mg "_law_over" = some (.ref t.ZeD)
 Zet:Fun K "_law_pile" "_law_pile" Zhv t.ZeE t.Zhc
 Zms:ZaG K t.Zhc ["_law_cells","_law_many"] []
 Zm8:mg "_law_pile" = some (.ref t.ZeE)
 Zbu:Fun K "_law_words_of" "_law_words_of" ZcC t.Zbx t.Zd2
 ZfN:ZaG K t.Zd2 ["_law_tree","_law_names_here","_law_wraps"] []
 ZfP:mg "_law_words_of" = some (.ref t.Zbx)
 ZcJ:Fun K "_law_spaced" "_law_spaced" Zhw t.ZcT t.Zfi
 ZjV:ZaG K t.Zfi ["_law_some","_law_seed"] []
 Zkd:mg "_law_spaced" = some (.ref t.ZcT)
 Zcq:Fun K "_law_crowd" "_law_crowd" ZbE t.Zcx t.Zga
 ZhX:ZaG K t.Zga ["_law_tree","_law_many"] []
 Zib:mg "_law_crowd" = some (.ref t.Zcx)
 Zdz:Fun K "_law_moves" "_law_moves" Ziu t.ZdL t.Zgf
 Zln:ZaG K t.Zgf ["_law_pairs","_law_many","_law_count","_law_cell"] []
 ZlE:mg "_law_moves" = some (.ref t.ZdL)
 Zdv:Fun K "_law_digit" "_law_digit" Zir t.ZdH t.Zgb
 Zlj:ZaG K t.Zgb ["_law_bag","_law_many"] []
 ZlA:mg "_law_digit" = some (.ref t.ZdH)
 ZbN:Fun K "_law_any_rest" "_law_any_rest" Zd9 t.ZbR t.Zd1
 ZhW:ZaG K t.Zd1 ["_law_pairs","_law_many","_law_bag","_law_other"] []
 Zia:mg "_law_any_rest" = some (.ref t.ZbR)
 Zdy:Fun K "_law_mixed" "_law_mixed" Ze2 t.ZdK t.Zge
 Zlm:ZaG K t.Zge ["_law_rest","_law_cell"] []
 ZlD:mg "_law_mixed" = some (.ref t.ZdK)
 Zeq:Fun K "_law_line" "_law_line" ZjF t.ZeB t.Zg9
 Zmp:ZaG K t.Zg9 ["_law_entry","_law_names_here","_law_seed"] []
 Zm5:mg "_law_line" = some (.ref t.ZeB)
 ZcI:Fun K "_law_onward" "_law_onward" Zhu t.ZcS t.Zfh
 ZjU:ZaG K t.Zfh ["_law_stand","_law_changes"] []
 Zkc:mg "_law_onward" = some (.ref t.ZcS)
 Zdx:Fun K "_law_leads" "_law_leads" Zit t.ZdJ t.Zgd
 Zll:ZaG K t.Zgd ["_law_move","_law_stand","_law_other"] []
 ZlC:mg "_law_leads" = some (.ref t.ZdJ)
 Zfs:Fun K "_law_any" "_law_any" Zk3 t.Zfz t.ZiM
 Zoc:ZaG K t.ZiM ["_law_rest","_law_word"] []
 Zow:mg "_law_any" = some (.ref t.Zfz)
 ZcH:Fun K "_law_number" "_law_number" Zht t.ZcR t.Zfg
 ZjT:ZaG K t.Zfg ["_law_found","_law_due"] []
 Zkb:mg "_law_number" = some (.ref t.ZcR)
 Zdu:Fun K "_law_after" "_law_after" Ziq t.ZdG t.Zf9
 Zli:ZaG K t.Zf9 ["_law_stand","_law_moves_here"] []
 Zlz:mg "_law_after" = some (.ref t.ZdG)
 ZcK:Fun K "_law_whichs" "_law_whichs" Zfm t.ZcU t.Zfj
 ZjW:ZaG K t.Zfj ["_law_machine","_law_moves_here","_law_stand"] []
 Zke:mg "_law_whichs" = some (.ref t.ZcU)
 F_law:Fun K "law" "law" Zk7 t.f_law t.d_law
 m_law:mg "law" = some (.ref t.f_law)
 ZeW:Fun K "__init__" "Chart.__init__" Zik t.Zcr t.Zf3
 Zlg:ZaG K t.Zf3 ["self","many","starts","bads","after"] []
 ZcE:Fun K "ahead" "Chart.ahead" Zhp t.Zb1 t.Zfd
 ZjQ:ZaG K t.Zfd ["self","crowd"] []
 ZfK:Fun K "__init__" "Move.__init__" ZjB t.Zdl t.Zg5
 Zmn:ZaG K t.Zg5 ["self","guard","changes"] []
 Zen:Fun K "fits" "Move.fits" ZjA t.Zdk t.Zg4
 Zmm:ZaG K t.Zg4 ["self","stand"] []
 ZcG:Fun K "onward" "Move.onward" Zhs t.Zb3 t.Zff
 ZjS:ZaG K t.Zff ["self","stand"] []
 Zc6:Fun K "__init__" "Machine.__init__" ZgC t.ZbI t.ZeS
 Zi7:ZaG K t.ZeS ["self","names","starts","bads","moves"] []
 ZbL:Fun K "chart" "Machine.chart" Zd8 t.Zbv t.ZdZ
 ZhS:ZaG K t.ZdZ ["self"] []
 Za7:Fun K "steps_from" "Machine.steps_from" Zc3 t.ZaW t.ZbK
 Ze9:ZaG K t.ZbK ["self","stand"] []
 ZbM:Fun K "which" "Machine.which" ZfV t.Zbw t.Zd0
 ZhT:ZaG K t.Zd0 ["self","stand","other"] []
 ZfJ:Fun K "__init__" "Lamp.__init__" Zjz t.Zdj t.Zg3
 Zml:ZaG K t.Zg3 ["self","at"] []
 Zdr:Fun K "holds" "Lamp.holds" Zim t.Zct t.Zf5
 ZhR:ZaG K t.Zf5 ["self","stand"] []
 Zdq:Fun K "crowd" "Lamp.crowd" Zil t.Zcs t.Zf4
 ZhQ:ZaG K t.Zf4 ["self","many"] []
 ZfL:Fun K "__init__" "Sure.__init__" ZjE t.Zdo t.Zg8
 Zmo:ZaG K t.Zg8 ["self","truth"] []
 Zdt:Fun K "holds" "Sure.holds" Zip t.Zcw t.Zf8
 ZhV:ZaG K t.Zf8 ["self","stand"] []
 Zds:Fun K "crowd" "Sure.crowd" Zio t.Zcv t.Zf7
 ZhU:ZaG K t.Zf7 ["self","many"] []
 ZgH:Fun K "__init__" "Not.__init__" Zk0 t.Zey t.ZiJ
 Zob:ZaG K t.ZiJ ["self","part"] []
 Zep:Fun K "holds" "Not.holds" ZjD t.Zdn t.Zg7
 Zjl:ZaG K t.Zg7 ["self","stand"] []
 Zeo:Fun K "crowd" "Not.crowd" ZjC t.Zdm t.Zg6
 Zjk:ZaG K t.Zg6 ["self","many"] []
 ZdU:Fun K "__init__" "Joined.__init__" Zhq t.ZaX t.ZdY
 Zfc:ZaG K t.ZdY ["self","parts"] []
 Zem:Fun K "holds" "And.holds" Zjy t.Zdi t.Zg2
 Zjj:ZaG K t.Zg2 ["self","stand"] []
 Zel:Fun K "crowd" "And.crowd" Zjx t.Zdh t.Zg1
 Zji:ZaG K t.Zg1 ["self","many"] []
 Zcb:Fun K "holds" "Either.holds" ZgB t.ZbH t.ZeR
 Zgt:ZaG K t.ZeR ["self","stand"] []
 Zca:Fun K "crowd" "Either.crowd" ZgA t.ZbG t.ZeQ
 Zgs:ZaG K t.ZeQ ["self","many"] []
 Zfr:Fun K "holds" "Or.holds" Zk2 t.ZeA t.ZiL
 Zkx:ZaG K t.ZiL ["self","stand"] []
 Zfq:Fun K "crowd" "Or.crowd" Zk1 t.Zez t.ZiK
 Zkw:ZaG K t.ZiK ["self","many"] []
 ZeX:Fun K "__init__" "Level.__init__" Zin t.Zcu t.Zf6
 Zlh:ZaG K t.Zf6 ["self"] []
 Zbr:Fun K "take_part" "Level.take_part" ZeN t.Zbd t.ZcP
 ZgK:ZaG K t.ZcP ["self","part"] []
 Zbq:Fun K "take_join" "Level.take_join" ZeM t.Zbc t.ZcO
 ZgJ:ZaG K t.ZcO ["self","word"] []
 Zbs:Fun K "take_word" "Level.take_word" ZeO t.Zbe t.ZcQ
 ZgL:ZaG K t.ZcQ ["self","word","names"] []
 ZcF:Fun K "whole" "Level.whole" Zhr t.Zb2 t.Zfe
 ZjR:ZaG K t.Zfe ["self"] []
 Zw1:mg "Chart" = some (.ref t.ZaV)
 Zgu:Cls K t.ZaV
 ZwN:Mk K t.ZaV t.Zcr
 ZeZ:Zbo K t.ZaV "many"
 Zc9:Zbo K t.ZaV "starts"
 ZeY:Zbo K t.ZaV "bads"
 Zd5:Zbo K t.ZaV "after"
 Zj0:Meth K t.ZaV "ahead" t.Zb1
 ZAn:mg "Move" = some (.ref t.ZbA)
 Zmz:Cls K t.ZbA
 ZAk:Mk K t.ZbA t.Zdl
 Ze0:Zbo K t.ZbA "guard"
 Zdb:Zbo K t.ZbA "changes"
 ZmK:Meth K t.ZbA "fits" t.Zdk
 Zj2:Meth K t.ZbA "onward" t.Zb3
 Zm4:mg "Machine" = some (.ref t.Zau)
 ZbQ:Cls K t.Zau
 Zr4:∀(H:Hp) (a dx:Addr) (fs:List (Str×V)),H a=some (.ins t.Zau dx fs)→TyOf K H (.ref a) (.ref t.Zau)
 ZqZ:Mk K t.Zau t.ZbI
 Zb8:Zbo K t.Zau "starts"
 Zda:Zbo K t.Zau "bads"
 Zcz:Zbo K t.Zau "names"
 ZbU:Zbo K t.Zau "moves"
 Zh4:Meth K t.Zau "chart" t.Zbv
 Zfb:Meth K t.Zau "steps_from" t.ZaW
 Zh5:Meth K t.Zau "which" t.Zbw
 ZAm:mg "Lamp" = some (.ref t.Zbg)
 Zmy:Cls K t.Zbg
 ZAj:Mk K t.Zbg t.Zdj
 Zif:Zbo K t.Zbg "at"
 Zh3:Meth K t.Zbg "holds" t.Zct
 Zh2:Meth K t.Zbg "crowd" t.Zcs
 ZAo:mg "Sure" = some (.ref t.Zbh)
 Zlu:Cls K t.Zbh
 ZAl:Mk K t.Zbh t.Zdo
 ZdS:Zbo K t.Zbh "truth"
 Zh7:Meth K t.Zbh "holds" t.Zcw
 Zh6:Meth K t.Zbh "crowd" t.Zcv
 m_Not:mg "Not" = some (.ref t.C_Not)
 c_Not:Cls K t.C_Not
 k_Not:Mk K t.C_Not t.Zey
 ZfH:Zbo K t.C_Not "part"
 Zjr:Meth K t.C_Not "holds" t.Zdn
 Zjq:Meth K t.C_Not "crowd" t.Zdm
 m_And:mg "And" = some (.ref t.C_And)
 c_And:Cls K t.C_And
 k_And:Mk K t.C_And t.ZaX
 ZeJ:Zbo K t.C_And "parts"
 Zjp:Meth K t.C_And "holds" t.Zdi
 Zjo:Meth K t.C_And "crowd" t.Zdh
 Zt9:mg "Either" = some (.ref t.ZaH)
 Zf2:Cls K t.ZaH
 Zt2:Mk K t.ZaH t.ZaX
 Zcj:Zbo K t.ZaH "parts"
 Zgy:Meth K t.ZaH "holds" t.ZbH
 Zgx:Meth K t.ZaH "crowd" t.ZbG
 m_Or:mg "Or" = some (.ref t.C_Or)
 c_Or:Cls K t.C_Or
 k_Or:Mk K t.C_Or t.ZaX
 ZfI:Zbo K t.C_Or "parts"
 ZkJ:Meth K t.C_Or "holds" t.ZeA
 ZkI:Meth K t.C_Or "crowd" t.Zez
 Zw2:mg "Level" = some (.ref t.ZaC)
 Za1:Cls K t.ZaC
 ZwO:Mk K t.ZaC t.Zcu
 ZbZ:Zbo K t.ZaC "nots"
 Zcy:Zbo K t.ZaC "ands"
 Zby:Zbo K t.ZaC "eithers"
 ZeK:Zbo K t.ZaC "ors"
 ZaM:Zbo K t.ZaC "lacking"
 ZgO:Meth K t.ZaC "take_part" t.Zbd
 ZgN:Meth K t.ZaC "take_join" t.Zbc
 ZgP:Meth K t.ZaC "take_word" t.Zbe
 Zj1:Meth K t.ZaC "whole" t.Zb2
 Zhi:mg "NoFormula" = some (.ref t.ZaY)
 Zhn:ExcK K t.ZaY
 ZjN:t.Zbg≠t.Zbh
 Zld:t.Zbg≠t.C_Not
 Zlc:t.Zbg≠t.C_And
 ZhE:t.Zbg≠t.ZaH
 ZnA:t.Zbg≠t.C_Or
 ZlS:t.Zbg≠t.ZaC
 Zlf:t.Zbh≠t.C_Not
 Zle:t.Zbh≠t.C_And
 ZhF:t.Zbh≠t.ZaH
 ZnD:t.Zbh≠t.C_Or
 ZlT:t.Zbh≠t.ZaC
 ZnB:t.C_Not≠t.C_And
 ZiD:t.C_Not≠t.ZaH
 Zp1:t.C_Not≠t.C_Or
 ZnC:t.C_Not≠t.ZaC
 ZiC:t.C_And≠t.ZaH
 Zp0:t.C_And≠t.C_Or
 Znz:t.C_And≠t.ZaC
 ZjM:t.ZaH≠t.C_Or
 Zjg:t.ZaH≠t.ZaC
 ZoM:t.C_Or≠t.ZaC
 bl:∀(s:Shared) (u:Value),BindsTo s t.d_law ⟨[u],[]⟩ [("_law_script",u)]
 B:Bt mg
 g_LETTERS:GC mg "LETTERS" (.str "abcdefghijklmnopqrstuvwxyz")
 g_MARKS:GC mg "MARKS" (.str "(),")
 g_BLANK:GC mg "BLANK" (.str " ")
 g_MOST_LAMPS:GC mg "MOST_LAMPS" (.int 6)
 g_LONGEST_NAME:GC mg "LONGEST_NAME" (.int 8)
 g_JOINS:GC mg "JOINS" (.ref t.v_JOINS)
 q_JOINS:∀H,SqT K H t.v_JOINS ((["and","either","or"]:List Str).map V.str)
 g_NO_NAMES:GC mg "NO_NAMES" (.ref t.v_NO_NAMES)
 q_NO_NAMES:∀H,SqT K H t.v_NO_NAMES ((["and","or","not","either","yes","no","then","is","(",")",","]:List Str).map V.str)
 g_SORTS:GC mg "SORTS" (.ref t.v_SORTS)
 q_SORTS:∀H,SqT K H t.v_SORTS ((["start","bad","move"]:List Str).map V.str)
theorem txt_mk {K:W.Frag} {h:Heap} {mg:Str→Option Value} (X:K.In h) (G:h.Ns mainGlobals mg)
 {ZdN ZfC ZfB ZfA Zci ZkG ZiT ZeG ZkF ZiU ZdQ ZbS Zbl ZeH ZcV ZdP ZdO ZfE ZfD ZgM ZfF ZbC ZdR Zcg ZdI Zch ZeC ZdM ZeF ZeD ZeE Zbx ZcT Zcx ZdL ZdH ZbR ZdK ZeB ZcS ZdJ Zfz ZcR ZdG ZcU:Addr}
  {f_law:Addr} {ZDT ZzI:Option Addr} {ZEB:Array (Option Value)} {ZDS ZAi ZzM ZAz Zwa ZzL:Value}
 {Zcr Zb1 Zdl Zdk Zb3 ZbI Zbv ZaW Zbw Zdj Zct Zcs Zdo Zcw Zcv Zey Zdn Zdm ZaX Zdi Zdh ZbH ZbG ZeA Zez Zcu Zbd Zbc Zbe Zb2 ZaV ZbA Zau Zp2 Zbg Zbh C_Not ZtC C_And ZaH C_Or ZaC ZaY:Addr}
  {tk_LETTERS:Tok}
  {tk_MARKS:Tok}
  {tk_BLANK:Tok}
  {tk_MOST_LAMPS:Tok}
  {tk_LONGEST_NAME:Tok}
  {v_JOINS:Addr} {nn_JOINS:Nat} {od_JOINS:Option Addr} {sl_JOINS:Array (Option Value)} {tk_JOINS_0 tk_JOINS_1 tk_JOINS_2:Tok}
  {v_NO_NAMES:Addr} {nn_NO_NAMES:Nat} {od_NO_NAMES:Option Addr} {sl_NO_NAMES:Array (Option Value)} {tk_NO_NAMES_0 tk_NO_NAMES_1 tk_NO_NAMES_2 tk_NO_NAMES_3 tk_NO_NAMES_4 tk_NO_NAMES_5 tk_NO_NAMES_6 tk_NO_NAMES_7 tk_NO_NAMES_8 tk_NO_NAMES_9 tk_NO_NAMES_10:Tok}
  {v_SORTS:Addr} {nn_SORTS:Nat} {od_SORTS:Option Addr} {sl_SORTS:Array (Option Value)} {tk_SORTS_0 tk_SORTS_1 tk_SORTS_2:Tok}
  (Zqj:W.nsIn K mainGlobals "all_stands" = some (some (.ref ZdN)))
  (ZuR:W.nsIn K mainGlobals "is_whole" = some (some (.ref ZfC)))
  (ZuQ:W.nsIn K mainGlobals "is_crowd" = some (some (.ref ZfB)))
  (ZuP:W.nsIn K mainGlobals "is_chart" = some (some (.ref ZfA)))
  (ZnJ:W.nsIn K mainGlobals "crowd_of_any" = some (some (.ref Zci)))
  (ZAV:W.nsIn K mainGlobals "words" = some (some (.ref ZkG)))
  (Zyl:W.nsIn K mainGlobals "and_of" = some (some (.ref ZiT)))
  (Zsh:W.nsIn K mainGlobals "either_of" = some (some (.ref ZeG)))
  (ZAU:W.nsIn K mainGlobals "or_of" = some (some (.ref ZkF)))
  (Zym:W.nsIn K mainGlobals "single" = some (some (.ref ZiU)))
  (Zqm:W.nsIn K mainGlobals "formula_in" = some (some (.ref ZdQ)))
  (Zmi:W.nsIn K mainGlobals "words_of_line" = some (some (.ref ZbS)))
  (ZjP:W.nsIn K mainGlobals "parted_by_commas" = some (some (.ref Zbl)))
  (Zsi:W.nsIn K mainGlobals "pieces_in" = some (some (.ref ZeH)))
  (ZoT:W.nsIn K mainGlobals "check_lamps" = some (some (.ref ZcV)))
  (Zql:W.nsIn K mainGlobals "check_move" = some (some (.ref ZdP)))
  (Zqk:W.nsIn K mainGlobals "check_form" = some (some (.ref ZdO)))
  (ZuT:W.nsIn K mainGlobals "names_in" = some (some (.ref ZfE)))
  (ZuS:W.nsIn K mainGlobals "lamps_in" = some (some (.ref ZfD)))
  (ZvZ:W.nsIn K mainGlobals "move_in" = some (some (.ref ZgM)))
  (ZuU:W.nsIn K mainGlobals "thing_in" = some (some (.ref ZfF)))
  (ZlW:W.nsIn K mainGlobals "names_of_first" = some (some (.ref ZbC)))
  (Zqn:W.nsIn K mainGlobals "machine_of" = some (some (.ref ZdR)))
  (ZnH:W.nsIn K mainGlobals "_law_cell_at" = some (some (.ref Zcg)))
  (Zqe:W.nsIn K mainGlobals "_law_fresh" = some (some (.ref ZdI)))
  (ZnI:W.nsIn K mainGlobals "_law_letters" = some (some (.ref Zch)))
  (Zsd:W.nsIn K mainGlobals "_law_name" = some (some (.ref ZeC)))
  (Zqi:W.nsIn K mainGlobals "_law_names" = some (some (.ref ZdM)))
  (Zsg:W.nsIn K mainGlobals "_law_rank" = some (some (.ref ZeF)))
  (Zse:W.nsIn K mainGlobals "_law_over" = some (some (.ref ZeD)))
  (Zsf:W.nsIn K mainGlobals "_law_pile" = some (some (.ref ZeE)))
  (Zmh:W.nsIn K mainGlobals "_law_words_of" = some (some (.ref Zbx)))
  (ZoR:W.nsIn K mainGlobals "_law_spaced" = some (some (.ref ZcT)))
  (Zqc:W.nsIn K mainGlobals "_law_crowd" = some (some (.ref Zcx)))
  (Zqh:W.nsIn K mainGlobals "_law_moves" = some (some (.ref ZdL)))
  (Zqd:W.nsIn K mainGlobals "_law_digit" = some (some (.ref ZdH)))
  (Zmg:W.nsIn K mainGlobals "_law_any_rest" = some (some (.ref ZbR)))
  (Zqg:W.nsIn K mainGlobals "_law_mixed" = some (some (.ref ZdK)))
  (Zsc:W.nsIn K mainGlobals "_law_line" = some (some (.ref ZeB)))
  (ZoQ:W.nsIn K mainGlobals "_law_onward" = some (some (.ref ZcS)))
  (Zqf:W.nsIn K mainGlobals "_law_leads" = some (some (.ref ZdJ)))
  (ZuO:W.nsIn K mainGlobals "_law_any" = some (some (.ref Zfz)))
  (ZoP:W.nsIn K mainGlobals "_law_number" = some (some (.ref ZcR)))
  (Zqb:W.nsIn K mainGlobals "_law_after" = some (some (.ref ZdG)))
  (ZoS:W.nsIn K mainGlobals "_law_whichs" = some (some (.ref ZcU)))
  (a_law:W.nsIn K mainGlobals "law" = some (some (.ref f_law)))
  (ZAS:W.nsIn K mainGlobals "Chart" = some (some (.ref ZaV)))
  (ZCM:W.nsIn K mainGlobals "Move" = some (some (.ref ZbA)))
  (ZvY:W.nsIn K mainGlobals "Machine" = some (some (.ref Zau)))
  (ZCK:W.nsIn K mainGlobals "Formula" = some (some (.ref Zp2)))
  (ZCL:W.nsIn K mainGlobals "Lamp" = some (some (.ref Zbg)))
  (ZCN:W.nsIn K mainGlobals "Sure" = some (some (.ref Zbh)))
  (a_Not:W.nsIn K mainGlobals "Not" = some (some (.ref C_Not)))
  (ZE3:W.nsIn K mainGlobals "Joined" = some (some (.ref ZtC)))
  (a_And:W.nsIn K mainGlobals "And" = some (some (.ref C_And)))
  (Zyk:W.nsIn K mainGlobals "Either" = some (some (.ref ZaH)))
  (a_Or:W.nsIn K mainGlobals "Or" = some (some (.ref C_Or)))
  (ZAT:W.nsIn K mainGlobals "Level" = some (some (.ref ZaC)))
  (Zsb:W.nsIn K mainGlobals "NoFormula" = some (some (.ref ZaY)))
  (ZqU:W.isClsIn K ZaY=true)
  (Zrp:W.mroIn K ZaY (.type "BaseException")=some true)
  (ZiE:W.excIn K ZaY [.type "ValueError",.type "Exception",.type "BaseException",.type "object"] "ValueError.__new__" = true)
  (Zr1:W.findIn K (.ref ZaY) "__getattribute__" = some (some (.builtin "BaseException.__getattribute__")))
  (Zr2:W.findIn K (.ref ZaY) "__getattr__" = some none)
  (Zr0:W.findIn K (.ref ZaY) "__class__" = some (some (.builtin "object.__class__")))
  (Zr3:W.mroIn K ZaY (.type "object")=some true)
  (Zqz:W.findIn K (.ref ZaV) "__init__" = some (some (.ref Zcr)))
  (Zo2:W.findIn K (.ref ZaV) "ahead" = some (some (.ref Zb1)))
  (Zsu:W.findIn K (.ref ZbA) "__init__" = some (some (.ref Zdl)))
  (Zst:W.findIn K (.ref ZbA) "fits" = some (some (.ref Zdk)))
  (Zo5:W.findIn K (.ref ZbA) "onward" = some (some (.ref Zb3)))
  (ZnN:W.findIn K (.ref Zau) "__init__" = some (some (.ref ZbI)))
  (ZmE:W.findIn K (.ref Zau) "chart" = some (some (.ref Zbv)))
  (ZiY:W.findIn K (.ref Zau) "steps_from" = some (some (.ref ZaW)))
  (ZmF:W.findIn K (.ref Zau) "which" = some (some (.ref Zbw)))
  (Zss:W.findIn K (.ref Zbg) "__init__" = some (some (.ref Zdj)))
  (ZqB:W.findIn K (.ref Zbg) "holds" = some (some (.ref Zct)))
  (ZqA:W.findIn K (.ref Zbg) "crowd" = some (some (.ref Zcs)))
  (Zsx:W.findIn K (.ref Zbh) "__init__" = some (some (.ref Zdo)))
  (ZqE:W.findIn K (.ref Zbh) "holds" = some (some (.ref Zcw)))
  (ZqD:W.findIn K (.ref Zbh) "crowd" = some (some (.ref Zcv)))
  (Zu2:W.findIn K (.ref C_Not) "__init__" = some (some (.ref Zey)))
  (Zsw:W.findIn K (.ref C_Not) "holds" = some (some (.ref Zdn)))
  (Zsv:W.findIn K (.ref C_Not) "crowd" = some (some (.ref Zdm)))
  (Zsr:W.findIn K (.ref C_And) "holds" = some (some (.ref Zdi)))
  (Zsq:W.findIn K (.ref C_And) "crowd" = some (some (.ref Zdh)))
  (Zu1:W.findIn K (.ref C_And) "__init__" = some (some (.ref ZaX)))
  (ZnM:W.findIn K (.ref ZaH) "holds" = some (some (.ref ZbH)))
  (ZnL:W.findIn K (.ref ZaH) "crowd" = some (some (.ref ZbG)))
  (Zo3:W.findIn K (.ref ZaH) "__init__" = some (some (.ref ZaX)))
  (Zu4:W.findIn K (.ref C_Or) "holds" = some (some (.ref ZeA)))
  (Zu3:W.findIn K (.ref C_Or) "crowd" = some (some (.ref Zez)))
  (Zwq:W.findIn K (.ref C_Or) "__init__" = some (some (.ref ZaX)))
  (ZqC:W.findIn K (.ref ZaC) "__init__" = some (some (.ref Zcu)))
  (ZkD:W.findIn K (.ref ZaC) "take_part" = some (some (.ref Zbd)))
  (ZkC:W.findIn K (.ref ZaC) "take_join" = some (some (.ref Zbc)))
  (ZkE:W.findIn K (.ref ZaC) "take_word" = some (some (.ref Zbe)))
  (Zo4:W.findIn K (.ref ZaC) "whole" = some (some (.ref Zb2)))
  (Zrf:DF K Ziw "all_stands" "all_stands" ZdN)
  (Zvq:DF K Zk5 "is_whole" "is_whole" ZfC)
  (Zvp:DF K Zk4 "is_crowd" "is_crowd" ZfB)
  (Zvo:DF K ZiX "is_chart" "is_chart" ZfA)
  (ZnX:DF K ZgF "crowd_of_any" "crowd_of_any" Zci)
  (ZBx:DF K Zto "words" "words" ZkG)
  (ZyL:DF K ZpJ "and_of" "and_of" ZiT)
  (ZsX:DF K ZjI "either_of" "either_of" ZeG)
  (ZBw:DF K Ztn "or_of" "or_of" ZkF)
  (ZyM:DF K ZpK "single" "single" ZiU)
  (Zri:DF K Ziz "formula_in" "formula_in" ZdQ)
  (ZmZ:DF K ZfX "words_of_line" "words_of_line" ZbS)
  (Zj6:DF K Zea "parted_by_commas" "parted_by_commas" Zbl)
  (ZsY:DF K ZjJ "pieces_in" "pieces_in" ZeH)
  (Zpl:DF K Zhx "check_lamps" "check_lamps" ZcV)
  (Zrh:DF K Ziy "check_move" "check_move" ZdP)
  (Zrg:DF K Zix "check_form" "check_form" ZdO)
  (Zvs:DF K Zk8 "names_in" "names_in" ZfE)
  (Zvr:DF K Zk6 "lamps_in" "lamps_in" ZfD)
  (ZwU:DF K Znr "move_in" "move_in" ZgM)
  (Zvt:DF K Zk9 "thing_in" "thing_in" ZfF)
  (ZlX:DF K Ze4 "names_of_first" "names_of_first" ZbC)
  (Zrj:DF K ZiA "machine_of" "machine_of" ZdR)
  (ZnV:DF K ZgD "_law_cell_at" "_law_cell_at" Zcg)
  (Zra:DF K Zis "_law_fresh" "_law_fresh" ZdI)
  (ZnW:DF K ZgE "_law_letters" "_law_letters" Zch)
  (ZsT:DF K ZjG "_law_name" "_law_name" ZeC)
  (Zre:DF K Ziv "_law_names" "_law_names" ZdM)
  (ZsW:DF K ZjH "_law_rank" "_law_rank" ZeF)
  (ZsU:DF K ZfW "_law_over" "_law_over" ZeD)
  (ZsV:DF K Zhv "_law_pile" "_law_pile" ZeE)
  (ZmY:DF K ZcC "_law_words_of" "_law_words_of" Zbx)
  (Zpj:DF K Zhw "_law_spaced" "_law_spaced" ZcT)
  (Zq8:DF K ZbE "_law_crowd" "_law_crowd" Zcx)
  (Zrd:DF K Ziu "_law_moves" "_law_moves" ZdL)
  (Zq9:DF K Zir "_law_digit" "_law_digit" ZdH)
  (ZmX:DF K Zd9 "_law_any_rest" "_law_any_rest" ZbR)
  (Zrc:DF K Ze2 "_law_mixed" "_law_mixed" ZdK)
  (ZsS:DF K ZjF "_law_line" "_law_line" ZeB)
  (Zpi:DF K Zhu "_law_onward" "_law_onward" ZcS)
  (Zrb:DF K Zit "_law_leads" "_law_leads" ZdJ)
  (Zvn:DF K Zk3 "_law_any" "_law_any" Zfz)
  (Zph:DF K Zht "_law_number" "_law_number" ZcR)
  (Zq7:DF K Ziq "_law_after" "_law_after" ZdG)
  (Zpk:DF K Zfm "_law_whichs" "_law_whichs" ZcU)
  (l_law:K.lookup f_law=some ⟨ZDS,ZDT,.func (W.fnOf "law" "law" (Zjm Zk7) (ZfO Zk7) (Zah Zk7) .none ZAi ZzM ZAz ZzI Zwa ZzL),ZEB⟩)
  (c_law:W.codeIn K Zwa "law" = true)
  (k_law:W.keepIn K (.ref f_law)=true)
  (Zq1:DF K Zik "__init__" "Chart.__init__" Zcr)
  (ZqM:W.isFn K (.ref Zcr)=true)
  (Zpd:DF K Zhp "ahead" "Chart.ahead" Zb1)
  (Zo6:W.isFn K (.ref Zb1)=true)
  (ZsO:DF K ZjB "__init__" "Move.__init__" Zdl)
  (ZsD:W.isFn K (.ref Zdl)=true)
  (ZsN:DF K ZjA "fits" "Move.fits" Zdk)
  (ZsC:W.isFn K (.ref Zdk)=true)
  (Zpg:DF K Zhs "onward" "Move.onward" Zb3)
  (Zo8:W.isFn K (.ref Zb3)=true)
  (ZnU:DF K ZgC "__init__" "Machine.__init__" ZbI)
  (ZnQ:W.isFn K (.ref ZbI)=true)
  (ZmV:DF K Zd8 "chart" "Machine.chart" Zbv)
  (ZmL:W.isFn K (.ref Zbv)=true)
  (Zi0:DF K Zc3 "steps_from" "Machine.steps_from" ZaW)
  (ZiZ:W.isFn K (.ref ZaW)=true)
  (ZmW:DF K ZfV "which" "Machine.which" Zbw)
  (ZmM:W.isFn K (.ref Zbw)=true)
  (ZsM:DF K Zjz "__init__" "Lamp.__init__" Zdj)
  (ZsB:W.isFn K (.ref Zdj)=true)
  (Zq3:DF K Zim "holds" "Lamp.holds" Zct)
  (ZqO:W.isFn K (.ref Zct)=true)
  (Zq2:DF K Zil "crowd" "Lamp.crowd" Zcs)
  (ZqN:W.isFn K (.ref Zcs)=true)
  (ZsR:DF K ZjE "__init__" "Sure.__init__" Zdo)
  (ZsG:W.isFn K (.ref Zdo)=true)
  (Zq6:DF K Zip "holds" "Sure.holds" Zcw)
  (ZqR:W.isFn K (.ref Zcw)=true)
  (Zq5:DF K Zio "crowd" "Sure.crowd" Zcv)
  (ZqQ:W.isFn K (.ref Zcv)=true)
  (Zvk:DF K Zk0 "__init__" "Not.__init__" Zey)
  (Zvb:W.isFn K (.ref Zey)=true)
  (ZsQ:DF K ZjD "holds" "Not.holds" Zdn)
  (ZsF:W.isFn K (.ref Zdn)=true)
  (ZsP:DF K ZjC "crowd" "Not.crowd" Zdm)
  (ZsE:W.isFn K (.ref Zdm)=true)
  (Zpe:DF K Zhq "__init__" "Joined.__init__" ZaX)
  (Zhg:W.isFn K (.ref ZaX)=true)
  (ZsL:DF K Zjy "holds" "And.holds" Zdi)
  (ZsA:W.isFn K (.ref Zdi)=true)
  (ZsK:DF K Zjx "crowd" "And.crowd" Zdh)
  (Zsz:W.isFn K (.ref Zdh)=true)
  (ZnT:DF K ZgB "holds" "Either.holds" ZbH)
  (ZnP:W.isFn K (.ref ZbH)=true)
  (ZnS:DF K ZgA "crowd" "Either.crowd" ZbG)
  (ZnO:W.isFn K (.ref ZbG)=true)
  (Zvm:DF K Zk2 "holds" "Or.holds" ZeA)
  (Zvd:W.isFn K (.ref ZeA)=true)
  (Zvl:DF K Zk1 "crowd" "Or.crowd" Zez)
  (Zvc:W.isFn K (.ref Zez)=true)
  (Zq4:DF K Zin "__init__" "Level.__init__" Zcu)
  (ZqP:W.isFn K (.ref Zcu)=true)
  (ZkQ:DF K ZeN "take_part" "Level.take_part" Zbd)
  (ZkL:W.isFn K (.ref Zbd)=true)
  (ZkP:DF K ZeM "take_join" "Level.take_join" Zbc)
  (ZkK:W.isFn K (.ref Zbc)=true)
  (ZkR:DF K ZeO "take_word" "Level.take_word" Zbe)
  (ZkM:W.isFn K (.ref Zbe)=true)
  (Zpf:DF K Zhr "whole" "Level.whole" Zb2)
  (Zo7:W.isFn K (.ref Zb2)=true)
  (Zzb:W.plainGet K ZaV Str.empty=true)
  (Zyy:W.hasDictIn K ZaV=true)
  (Zze:W.plainOver K ZaV=true)
  (Zzl:W.findIn K (.ref ZaV) "__setattr__" = some (some (.builtin "object.__setattr__")))
  (ZyH:W.keepIn K (.ref ZaV)=true)
  (ZyT:W.makesIn K ZaV=true)
  (ZeZ:W.findIn K (.ref ZaV) "many" = some none)
  (Zc9:W.findIn K (.ref ZaV) "starts" = some none)
  (ZeY:W.findIn K (.ref ZaV) "bads" = some none)
  (Zd5:W.findIn K (.ref ZaV) "after" = some none)
  (ZB1:W.plainGet K ZbA Str.empty=true)
  (ZA9:W.hasDictIn K ZbA=true)
  (ZB5:W.plainOver K ZbA=true)
  (ZCc:W.findIn K (.ref ZbA) "__setattr__" = some (some (.builtin "object.__setattr__")))
  (ZBs:W.keepIn K (.ref ZbA)=true)
  (ZBI:W.makesIn K ZbA=true)
  (Ze0:W.findIn K (.ref ZbA) "guard" = some none)
  (Zdb:W.findIn K (.ref ZbA) "changes" = some none)
  (ZoF:W.plainGet K Zau Str.empty=true)
  (Zos:W.hasDictIn K Zau=true)
  (ZoG:W.plainOver K Zau=true)
  (ZoH:W.findIn K (.ref Zau) "__setattr__" = some (some (.builtin "object.__setattr__")))
  (Zvi:W.keepIn K (.ref Zau)=true)
  (Zu9:W.findIn K (.ref Zau) "__class__" = some (some (.builtin "object.__class__")))
  (Zva:W.mroIn K Zau (.type "object")=some true)
  (Zvz:W.makesIn K Zau=true)
  (Zb8:W.findIn K (.ref Zau) "starts" = some none)
  (Zda:W.findIn K (.ref Zau) "bads" = some none)
  (Zcz:W.findIn K (.ref Zau) "names" = some none)
  (ZbU:W.findIn K (.ref Zau) "moves" = some none)
  (ZB0:W.plainGet K Zbg Str.empty=true)
  (ZA8:W.hasDictIn K Zbg=true)
  (ZB4:W.plainOver K Zbg=true)
  (ZCb:W.findIn K (.ref Zbg) "__setattr__" = some (some (.builtin "object.__setattr__")))
  (ZBr:W.keepIn K (.ref Zbg)=true)
  (ZBH:W.makesIn K Zbg=true)
  (Zif:W.findIn K (.ref Zbg) "at" = some none)
  (ZB2:W.plainGet K Zbh Str.empty=true)
  (ZBa:W.hasDictIn K Zbh=true)
  (ZB6:W.plainOver K Zbh=true)
  (ZCd:W.findIn K (.ref Zbh) "__setattr__" = some (some (.builtin "object.__setattr__")))
  (ZBt:W.keepIn K (.ref Zbh)=true)
  (ZBJ:W.makesIn K Zbh=true)
  (ZdS:W.findIn K (.ref Zbh) "truth" = some none)
  (ZEc:W.plainGet K C_Not Str.empty=true)
  (ZC4:W.hasDictIn K C_Not=true)
  (ZEg:W.plainOver K C_Not=true)
  (ZEz:W.findIn K (.ref C_Not) "__setattr__" = some (some (.builtin "object.__setattr__")))
  (ZDE:W.keepIn K (.ref C_Not)=true)
  (ZDP:W.makesIn K C_Not=true)
  (ZfH:W.findIn K (.ref C_Not) "part" = some none)
  (ZEb:W.plainGet K C_And Str.empty=true)
  (ZC3:W.hasDictIn K C_And=true)
  (ZEf:W.plainOver K C_And=true)
  (ZEy:W.findIn K (.ref C_And) "__setattr__" = some (some (.builtin "object.__setattr__")))
  (ZDD:W.keepIn K (.ref C_And)=true)
  (ZDO:W.makesIn K C_And=true)
  (ZeJ:W.findIn K (.ref C_And) "parts" = some none)
  (Zxu:W.plainGet K ZaH Str.empty=true)
  (Zwy:W.hasDictIn K ZaH=true)
  (Zxx:W.plainOver K ZaH=true)
  (ZxI:W.findIn K (.ref ZaH) "__setattr__" = some (some (.builtin "object.__setattr__")))
  (ZwP:W.keepIn K (.ref ZaH)=true)
  (Zw5:W.makesIn K ZaH=true)
  (Zcj:W.findIn K (.ref ZaH) "parts" = some none)
  (pg_Or:W.plainGet K C_Or Str.empty=true)
  (hd_Or:W.hasDictIn K C_Or=true)
  (po_Or:W.plainOver K C_Or=true)
  (sa_Or:W.findIn K (.ref C_Or) "__setattr__" = some (some (.builtin "object.__setattr__")))
  (kc_Or:W.keepIn K (.ref C_Or)=true)
  (mk_Or:W.makesIn K C_Or=true)
  (ZfI:W.findIn K (.ref C_Or) "parts" = some none)
  (Zzc:W.plainGet K ZaC Str.empty=true)
  (Zyz:W.hasDictIn K ZaC=true)
  (Zzf:W.plainOver K ZaC=true)
  (Zzm:W.findIn K (.ref ZaC) "__setattr__" = some (some (.builtin "object.__setattr__")))
  (ZyI:W.keepIn K (.ref ZaC)=true)
  (ZyU:W.makesIn K ZaC=true)
  (ZbZ:W.findIn K (.ref ZaC) "nots" = some none)
  (Zcy:W.findIn K (.ref ZaC) "ands" = some none)
  (Zby:W.findIn K (.ref ZaC) "eithers" = some none)
  (ZeK:W.findIn K (.ref ZaC) "ors" = some none)
  (ZaM:W.findIn K (.ref ZaC) "lacking" = some none)
  (nd_:[ZaV,ZbA,Zau,Zp2,Zbg,Zbh,C_Not,ZtC,C_And,ZaH,C_Or,ZaC].Nodup)
  (hn_:W.specialIn K (.builtin "object.__class__") "__get__" = some (some (.builtin "getset_descriptor.__get__")))
  (htk_:W.takesIn K (.builtin "object.__class__")=some true)
  (b_len:W.nsIn K mainGlobals "len" = some none)
  (b_range:W.nsIn K mainGlobals "range" = some none)
  (b_isinstance:W.nsIn K mainGlobals "isinstance" = some none)
  (b_int:W.nsIn K mainGlobals "int" = some none)
  (b_bool:W.nsIn K mainGlobals "bool" = some none)
  (b_str:W.nsIn K mainGlobals "str" = some none)
  (b_list:W.nsIn K mainGlobals "list" = some none)
  (b_tuple:W.nsIn K mainGlobals "tuple" = some none)
  (b_dict:W.nsIn K mainGlobals "dict" = some none)
  (b_set:W.nsIn K mainGlobals "set" = some none)
  (b_sorted:W.nsIn K mainGlobals "sorted" = some none)
  (b_max:W.nsIn K mainGlobals "max" = some none)
  (b_min:W.nsIn K mainGlobals "min" = some none)
  (b_sum:W.nsIn K mainGlobals "sum" = some none)
  (b_any:W.nsIn K mainGlobals "any" = some none)
  (b_all:W.nsIn K mainGlobals "all" = some none)
  (b_abs:W.nsIn K mainGlobals "abs" = some none)
  (b_reversed:W.nsIn K mainGlobals "reversed" = some none)
  (b_enumerate:W.nsIn K mainGlobals "enumerate" = some none)
  (b_zip:W.nsIn K mainGlobals "zip" = some none)
  (g_LETTERS:W.nsIn K mainGlobals "LETTERS" = some (some (.str "abcdefghijklmnopqrstuvwxyz" tk_LETTERS)))
  (g_MARKS:W.nsIn K mainGlobals "MARKS" = some (some (.str "()," tk_MARKS)))
  (g_BLANK:W.nsIn K mainGlobals "BLANK" = some (some (.str " " tk_BLANK)))
  (g_MOST_LAMPS:W.nsIn K mainGlobals "MOST_LAMPS" = some (some (.int 6 tk_MOST_LAMPS)))
  (g_LONGEST_NAME:W.nsIn K mainGlobals "LONGEST_NAME" = some (some (.int 8 tk_LONGEST_NAME)))
  (g_JOINS:W.nsIn K mainGlobals "JOINS" = some (some (.ref v_JOINS)))
  (lk_JOINS:K.lookup v_JOINS=some ⟨.type "tuple",od_JOINS,.seq #[.str "and" tk_JOINS_0,.str "either" tk_JOINS_1,.str "or" tk_JOINS_2] nn_JOINS,sl_JOINS⟩)
  (g_NO_NAMES:W.nsIn K mainGlobals "NO_NAMES" = some (some (.ref v_NO_NAMES)))
  (lk_NO_NAMES:K.lookup v_NO_NAMES=some ⟨.type "tuple",od_NO_NAMES,.seq #[.str "and" tk_NO_NAMES_0,.str "or" tk_NO_NAMES_1,.str "not" tk_NO_NAMES_2,.str "either" tk_NO_NAMES_3,.str "yes" tk_NO_NAMES_4,.str "no" tk_NO_NAMES_5,.str "then" tk_NO_NAMES_6,.str "is" tk_NO_NAMES_7,.str "(" tk_NO_NAMES_8,.str ")" tk_NO_NAMES_9,.str "," tk_NO_NAMES_10] nn_NO_NAMES,sl_NO_NAMES⟩)
  (g_SORTS:W.nsIn K mainGlobals "SORTS" = some (some (.ref v_SORTS)))
  (lk_SORTS:K.lookup v_SORTS=some ⟨.type "tuple",od_SORTS,.seq #[.str "start" tk_SORTS_0,.str "bad" tk_SORTS_1,.str "move" tk_SORTS_2] nn_SORTS,sl_SORTS⟩)
  : ∃t:Ad,Txt K mg t:=by
 refine Zrf.el fun Zgh ZdB=>?_;refine Zvq.el fun ZiP Zfv=>?_;refine Zvp.el fun ZiO Zfu=>?_;refine Zvo.el fun ZiN Zft=>?_;refine ZnX.el fun ZeV Zce=>?_;refine ZBx.el fun Zo0 Zks=>?_;refine ZyL.el fun Zl1 ZiG=>?_;refine ZsX.el fun Zhe Zev=>?_;refine ZBw.el fun ZoZ Zkr=>?_;refine ZyM.el fun Zl2 ZiH=>?_;refine Zri.el fun Zgk ZdE=>?_;refine ZmZ.el fun Zd3 ZbO=>?_;refine Zj6.el fun Zcn Zbk=>?_;refine ZsY.el fun Zhf Zew=>?_;refine Zpl.el fun Zfk ZcL=>?_;refine Zrh.el fun Zgj ZdD=>?_;refine Zrg.el fun Zgi ZdC=>?_;refine Zvs.el fun ZiR Zfx=>?_;refine Zvr.el fun ZiQ Zfw=>?_;refine ZwU.el fun ZjY ZgI=>?_;refine Zvt.el fun ZiS Zfy=>?_;refine ZlX.el fun Zdf ZbB=>?_;refine Zrj.el fun Zgl ZdF=>?_;refine ZnV.el fun ZeT Zcc=>?_;refine Zra.el fun Zgc Zdw=>?_;refine ZnW.el fun ZeU Zcd=>?_;refine ZsT.el fun Zha Zer=>?_;refine Zre.el fun Zgg ZdA=>?_;refine ZsW.el fun Zhd Zeu=>?_;refine ZsU.el fun Zhb Zes=>?_;refine ZsV.el fun Zhc Zet=>?_;refine ZmY.el fun Zd2 Zbu=>?_;refine Zpj.el fun Zfi ZcJ=>?_;refine Zq8.el fun Zga Zcq=>?_;refine Zrd.el fun Zgf Zdz=>?_;refine Zq9.el fun Zgb Zdv=>?_;refine ZmX.el fun Zd1 ZbN=>?_;refine Zrc.el fun Zge Zdy=>?_;refine ZsS.el fun Zg9 Zeq=>?_;refine Zpi.el fun Zfh ZcI=>?_;refine Zrb.el fun Zgd Zdx=>?_;refine Zvn.el fun ZiM Zfs=>?_;refine Zph.el fun Zfg ZcH=>?_;refine Zq7.el fun Zf9 Zdu=>?_;refine Zpk.el fun Zfj ZcK=>?_;refine Zq1.el fun Zf3 ZeW=>?_;refine Zpd.el fun Zfd ZcE=>?_;refine ZsO.el fun Zg5 ZfK=>?_;refine ZsN.el fun Zg4 Zen=>?_;refine Zpg.el fun Zff ZcG=>?_;refine ZnU.el fun ZeS Zc6=>?_;refine ZmV.el fun ZdZ ZbL=>?_;refine Zi0.el fun ZbK Za7=>?_;refine ZmW.el fun Zd0 ZbM=>?_;refine ZsM.el fun Zg3 ZfJ=>?_;refine Zq3.el fun Zf5 Zdr=>?_;refine Zq2.el fun Zf4 Zdq=>?_;refine ZsR.el fun Zg8 ZfL=>?_;refine Zq6.el fun Zf8 Zdt=>?_;refine Zq5.el fun Zf7 Zds=>?_;refine Zvk.el fun ZiJ ZgH=>?_;refine ZsQ.el fun Zg7 Zep=>?_;refine ZsP.el fun Zg6 Zeo=>?_;refine Zpe.el fun ZdY ZdU=>?_;refine ZsL.el fun Zg2 Zem=>?_;refine ZsK.el fun Zg1 Zel=>?_;refine ZnT.el fun ZeR Zcb=>?_;refine ZnS.el fun ZeQ Zca=>?_;refine Zvm.el fun ZiL Zfr=>?_;refine Zvl.el fun ZiK Zfq=>?_;refine Zq4.el fun Zf6 ZeX=>?_;refine ZkQ.el fun ZcP Zbr=>?_;refine ZkP.el fun ZcO Zbq=>?_;refine ZkR.el fun ZcQ Zbs=>?_;refine Zpf.el fun Zfe ZcF=>?_;refine⟨⟨ZdN,Zgh,ZfC,ZiP,ZfB,ZiO,ZfA,ZiN,Zci,ZeV,ZkG,Zo0,ZiT,Zl1,ZeG,Zhe,ZkF,ZoZ,ZiU,Zl2,ZdQ,Zgk,ZbS,Zd3,Zbl,Zcn,ZeH,Zhf,ZcV,Zfk,ZdP,Zgj,ZdO,Zgi,ZfE,ZiR,ZfD,ZiQ,ZgM,ZjY,ZfF,ZiS,ZbC,Zdf,ZdR,Zgl,Zcg,ZeT,ZdI,Zgc,Zch,ZeU,ZeC,Zha,ZdM,Zgg,ZeF,Zhd,ZeD,Zhb,ZeE,Zhc,Zbx,Zd2,ZcT,Zfi,Zcx,Zga,ZdL,Zgf,ZdH,Zgb,ZbR,Zd1,ZdK,Zge,ZeB,Zg9,ZcS,Zfh,ZdJ,Zgd,Zfz,ZiM,ZcR,Zfg,ZdG,Zf9,ZcU,Zfj,f_law,W.fnOf "law" "law" (Zjm Zk7) (ZfO Zk7) (Zah Zk7) .none ZAi ZzM ZAz ZzI Zwa ZzL,Zcr,Zf3,Zb1,Zfd,Zdl,Zg5,Zdk,Zg4,Zb3,Zff,ZbI,ZeS,Zbv,ZdZ,ZaW,ZbK,Zbw,Zd0,Zdj,Zg3,Zct,Zf5,Zcs,Zf4,Zdo,Zg8,Zcw,Zf8,Zcv,Zf7,Zey,ZiJ,Zdn,Zg7,Zdm,Zg6,ZaX,ZdY,Zdi,Zg2,Zdh,Zg1,ZbH,ZeR,ZbG,ZeQ,ZeA,ZiL,Zez,ZiK,Zcu,Zf6,Zbd,ZcP,Zbc,ZcO,Zbe,ZcQ,Zb2,Zfe,ZaV,ZbA,Zau,Zbg,Zbh,C_Not,C_And,ZaH,C_Or,ZaC,ZaY,v_JOINS,v_NO_NAMES,v_SORTS⟩,?_⟩
 exact {
  ZdB:=ZdB,
  Zlp:=ZdB.binds (ps:=["many"]) (by walk_at "b"),
  ZlG:=W.mg_of X G Zqj,
  Zfv:=Zfv,
  Zof:=Zfv.binds (ps:=["thing"]) (by walk_at "b"),
  Zoz:=W.mg_of X G ZuR,
  Zfu:=Zfu,
  Zoe:=Zfu.binds (ps:=["thing","many"]) (by walk_at "b"),
  Zoy:=W.mg_of X G ZuQ,
  Zft:=Zft,
  Zod:=Zft.binds (ps:=["many","starts","bads","after"]) (by walk_at "b"),
  Zox:=W.mg_of X G ZuP,
  Zce:=Zce,
  Zja:=Zce.binds (ps:=["formulas","many"]) (by walk_at "b"),
  Zjd:=W.mg_of X G ZnJ,
  Zks:=Zks,
  Zv1:=Zks.binds (ps:=["text"]) (by walk_at "b"),
  Zw4:=W.mg_of X G ZAV,
  ZiG:=ZiG,
  ZtG:=ZiG.binds (ps:=["parts"]) (by walk_at "b"),
  Zua:=W.mg_of X G Zyl,
  Zev:=Zev,
  Zmu:=Zev.binds (ps:=["parts"]) (by walk_at "b"),
  Zna:=W.mg_of X G Zsh,
  Zkr:=Zkr,
  Zv0:=Zkr.binds (ps:=["parts"]) (by walk_at "b"),
  Zw3:=W.mg_of X G ZAU,
  ZiH:=ZiH,
  ZtH:=ZiH.binds (ps:=["word","names"]) (by walk_at "b"),
  Zub:=W.mg_of X G Zym,
  ZdE:=ZdE,
  Zls:=ZdE.binds (ps:=["found","names"]) (by walk_at "b"),
  ZlJ:=W.mg_of X G Zqm,
  ZbO:=ZbO,
  ZhY:=ZbO.binds (ps:=["line"]) (by walk_at "b"),
  Zic:=W.mg_of X G Zmi,
  Zbk:=Zbk,
  Zf1:=Zbk.binds (ps:=["found"]) (by walk_at "b"),
  Zgo:=W.mg_of X G ZjP,
  Zew:=Zew,
  Zmv:=Zew.binds (ps:=["found"]) (by walk_at "b"),
  Znb:=W.mg_of X G Zsi,
  ZcL:=ZcL,
  ZjX:=ZcL.binds (ps:=["found"]) (by walk_at "b"),
  Zkf:=W.mg_of X G ZoT,
  ZdD:=ZdD,
  Zlr:=ZdD.binds (ps:=["found"]) (by walk_at "b"),
  ZlI:=W.mg_of X G Zql,
  ZdC:=ZdC,
  Zlq:=ZdC.binds (ps:=["found"]) (by walk_at "b"),
  ZlH:=W.mg_of X G Zqk,
  Zfx:=Zfx,
  Zoh:=Zfx.binds (ps:=["found"]) (by walk_at "b"),
  ZoB:=W.mg_of X G ZuT,
  Zfw:=Zfw,
  Zog:=Zfw.binds (ps:=["pieces","names"]) (by walk_at "b"),
  ZoA:=W.mg_of X G ZuS,
  ZgI:=ZgI,
  Zqp:=ZgI.binds (ps:=["found","names"]) (by walk_at "b"),
  Zro:=W.mg_of X G ZvZ,
  Zfy:=Zfy,
  Zoi:=Zfy.binds (ps:=["found","names"]) (by walk_at "b"),
  ZoC:=W.mg_of X G ZuU,
  ZbB:=ZbB,
  ZhG:=ZbB.binds (ps:=["line"]) (by walk_at "b"),
  ZhI:=W.mg_of X G ZlW,
  ZdF:=ZdF,
  Zlt:=ZdF.binds (ps:=["lines"]) (by walk_at "b"),
  ZlK:=W.mg_of X G Zqn,
  Zcc:=Zcc,
  Zi8:=Zcc.binds (ps:=["_law_script","_law_k"]) (by walk_at "b"),
  Zjb:=W.mg_of X G ZnH,
  Zdw:=Zdw,
  Zlk:=Zdw.binds (ps:=["_law_name_here","_law_names_here"]) (by walk_at "b"),
  ZlB:=W.mg_of X G Zqe,
  Zcd:=Zcd,
  Zi9:=Zcd.binds (ps:=["_law_seed","_law_size"]) (by walk_at "b"),
  Zjc:=W.mg_of X G ZnI,
  Zer:=Zer,
  Zmq:=Zer.binds (ps:=["_law_k","_law_cell"]) (by walk_at "b"),
  Zm6:=W.mg_of X G Zsd,
  ZdA:=ZdA,
  Zlo:=ZdA.binds (ps:=["_law_many","_law_cell"]) (by walk_at "b"),
  ZlF:=W.mg_of X G Zqi,
  Zeu:=Zeu,
  Zmt:=Zeu.binds (ps:=["_law_tree","_law_wraps"]) (by walk_at "b"),
  Zm9:=W.mg_of X G Zsg,
  Zes:=Zes,
  Zmr:=Zes.binds (ps:=["_law_pile_here","_law_kind","_law_more"]) (by walk_at "b"),
  Zm7:=W.mg_of X G Zse,
  Zet:=Zet,
  Zms:=Zet.binds (ps:=["_law_cells","_law_many"]) (by walk_at "b"),
  Zm8:=W.mg_of X G Zsf,
  Zbu:=Zbu,
  ZfN:=Zbu.binds (ps:=["_law_tree","_law_names_here","_law_wraps"]) (by walk_at "b"),
  ZfP:=W.mg_of X G Zmh,
  ZcJ:=ZcJ,
  ZjV:=ZcJ.binds (ps:=["_law_some","_law_seed"]) (by walk_at "b"),
  Zkd:=W.mg_of X G ZoR,
  Zcq:=Zcq,
  ZhX:=Zcq.binds (ps:=["_law_tree","_law_many"]) (by walk_at "b"),
  Zib:=W.mg_of X G Zqc,
  Zdz:=Zdz,
  Zln:=Zdz.binds (ps:=["_law_pairs","_law_many","_law_count","_law_cell"]) (by walk_at "b"),
  ZlE:=W.mg_of X G Zqh,
  Zdv:=Zdv,
  Zlj:=Zdv.binds (ps:=["_law_bag","_law_many"]) (by walk_at "b"),
  ZlA:=W.mg_of X G Zqd,
  ZbN:=ZbN,
  ZhW:=ZbN.binds (ps:=["_law_pairs","_law_many","_law_bag","_law_other"]) (by walk_at "b"),
  Zia:=W.mg_of X G Zmg,
  Zdy:=Zdy,
  Zlm:=Zdy.binds (ps:=["_law_rest","_law_cell"]) (by walk_at "b"),
  ZlD:=W.mg_of X G Zqg,
  Zeq:=Zeq,
  Zmp:=Zeq.binds (ps:=["_law_entry","_law_names_here","_law_seed"]) (by walk_at "b"),
  Zm5:=W.mg_of X G Zsc,
  ZcI:=ZcI,
  ZjU:=ZcI.binds (ps:=["_law_stand","_law_changes"]) (by walk_at "b"),
  Zkc:=W.mg_of X G ZoQ,
  Zdx:=Zdx,
  Zll:=Zdx.binds (ps:=["_law_move","_law_stand","_law_other"]) (by walk_at "b"),
  ZlC:=W.mg_of X G Zqf,
  Zfs:=Zfs,
  Zoc:=Zfs.binds (ps:=["_law_rest","_law_word"]) (by walk_at "b"),
  Zow:=W.mg_of X G ZuO,
  ZcH:=ZcH,
  ZjT:=ZcH.binds (ps:=["_law_found","_law_due"]) (by walk_at "b"),
  Zkb:=W.mg_of X G ZoP,
  Zdu:=Zdu,
  Zli:=Zdu.binds (ps:=["_law_stand","_law_moves_here"]) (by walk_at "b"),
  Zlz:=W.mg_of X G Zqb,
  ZcK:=ZcK,
  ZjW:=ZcK.binds (ps:=["_law_machine","_law_moves_here","_law_stand"]) (by walk_at "b"),
  Zke:=W.mg_of X G ZoS,
  F_law:=ZzQ (st:=Zk7) l_law c_law k_law,
  m_law:=W.mg_of X G a_law,
  ZeW:=ZeW,
  Zlg:=ZeW.binds (ps:=["self","many","starts","bads","after"]) (by walk_at "b"),
  ZcE:=ZcE,
  ZjQ:=ZcE.binds (ps:=["self","crowd"]) (by walk_at "b"),
  ZfK:=ZfK,
  Zmn:=ZfK.binds (ps:=["self","guard","changes"]) (by walk_at "b"),
  Zen:=Zen,
  Zmm:=Zen.binds (ps:=["self","stand"]) (by walk_at "b"),
  ZcG:=ZcG,
  ZjS:=ZcG.binds (ps:=["self","stand"]) (by walk_at "b"),
  Zc6:=Zc6,
  Zi7:=Zc6.binds (ps:=["self","names","starts","bads","moves"]) (by walk_at "b"),
  ZbL:=ZbL,
  ZhS:=ZbL.binds (ps:=["self"]) (by walk_at "b"),
  Za7:=Za7,
  Ze9:=Za7.binds (ps:=["self","stand"]) (by walk_at "b"),
  ZbM:=ZbM,
  ZhT:=ZbM.binds (ps:=["self","stand","other"]) (by walk_at "b"),
  ZfJ:=ZfJ,
  Zml:=ZfJ.binds (ps:=["self","at"]) (by walk_at "b"),
  Zdr:=Zdr,
  ZhR:=Zdr.binds (ps:=["self","stand"]) (by walk_at "b"),
  Zdq:=Zdq,
  ZhQ:=Zdq.binds (ps:=["self","many"]) (by walk_at "b"),
  ZfL:=ZfL,
  Zmo:=ZfL.binds (ps:=["self","truth"]) (by walk_at "b"),
  Zdt:=Zdt,
  ZhV:=Zdt.binds (ps:=["self","stand"]) (by walk_at "b"),
  Zds:=Zds,
  ZhU:=Zds.binds (ps:=["self","many"]) (by walk_at "b"),
  ZgH:=ZgH,
  Zob:=ZgH.binds (ps:=["self","part"]) (by walk_at "b"),
  Zep:=Zep,
  Zjl:=Zep.binds (ps:=["self","stand"]) (by walk_at "b"),
  Zeo:=Zeo,
  Zjk:=Zeo.binds (ps:=["self","many"]) (by walk_at "b"),
  ZdU:=ZdU,
  Zfc:=ZdU.binds (ps:=["self","parts"]) (by walk_at "b"),
  Zem:=Zem,
  Zjj:=Zem.binds (ps:=["self","stand"]) (by walk_at "b"),
  Zel:=Zel,
  Zji:=Zel.binds (ps:=["self","many"]) (by walk_at "b"),
  Zcb:=Zcb,
  Zgt:=Zcb.binds (ps:=["self","stand"]) (by walk_at "b"),
  Zca:=Zca,
  Zgs:=Zca.binds (ps:=["self","many"]) (by walk_at "b"),
  Zfr:=Zfr,
  Zkx:=Zfr.binds (ps:=["self","stand"]) (by walk_at "b"),
  Zfq:=Zfq,
  Zkw:=Zfq.binds (ps:=["self","many"]) (by walk_at "b"),
  ZeX:=ZeX,
  Zlh:=ZeX.binds (ps:=["self"]) (by walk_at "b"),
  Zbr:=Zbr,
  ZgK:=Zbr.binds (ps:=["self","part"]) (by walk_at "b"),
  Zbq:=Zbq,
  ZgJ:=Zbq.binds (ps:=["self","word"]) (by walk_at "b"),
  Zbs:=Zbs,
  ZgL:=Zbs.binds (ps:=["self","word","names"]) (by walk_at "b"),
  ZcF:=ZcF,
  ZjR:=ZcF.binds (ps:=["self"]) (by walk_at "b"),
  Zw1:=W.mg_of X G ZAS,
  Zgu:=⟨Zzb,Zyy,Zze,Zzl⟩,
  ZwN:=⟨ZyT,Zqz,ZqM,ZyH⟩,
  ZeZ:=ZeZ,
  Zc9:=Zc9,
  ZeY:=ZeY,
  Zd5:=Zd5,
  Zj0:=⟨Zo2,Zo6,ZcE.kp⟩,
  ZAn:=W.mg_of X G ZCM,
  Zmz:=⟨ZB1,ZA9,ZB5,ZCc⟩,
  ZAk:=⟨ZBI,Zsu,ZsD,ZBs⟩,
  Ze0:=Ze0,
  Zdb:=Zdb,
  ZmK:=⟨Zst,ZsC,Zen.kp⟩,
  Zj2:=⟨Zo5,Zo8,ZcG.kp⟩,
  Zm4:=W.mg_of X G ZvY,
  ZbQ:=⟨ZoF,Zos,ZoG,ZoH⟩,
  Zr4:=fun H a dx fs e=>TyOf.ins e ⟨ZoF,Zos,ZoG,ZoH⟩ Zu9 hn_ htk_ Zva,
  ZqZ:=⟨Zvz,ZnN,ZnQ,Zvi⟩,
  Zb8:=Zb8,
  Zda:=Zda,
  Zcz:=Zcz,
  ZbU:=ZbU,
  Zh4:=⟨ZmE,ZmL,ZbL.kp⟩,
  Zfb:=⟨ZiY,ZiZ,Za7.kp⟩,
  Zh5:=⟨ZmF,ZmM,ZbM.kp⟩,
  ZAm:=W.mg_of X G ZCL,
  Zmy:=⟨ZB0,ZA8,ZB4,ZCb⟩,
  ZAj:=⟨ZBH,Zss,ZsB,ZBr⟩,
  Zif:=Zif,
  Zh3:=⟨ZqB,ZqO,Zdr.kp⟩,
  Zh2:=⟨ZqA,ZqN,Zdq.kp⟩,
  ZAo:=W.mg_of X G ZCN,
  Zlu:=⟨ZB2,ZBa,ZB6,ZCd⟩,
  ZAl:=⟨ZBJ,Zsx,ZsG,ZBt⟩,
  ZdS:=ZdS,
  Zh7:=⟨ZqE,ZqR,Zdt.kp⟩,
  Zh6:=⟨ZqD,ZqQ,Zds.kp⟩,
  m_Not:=W.mg_of X G a_Not,
  c_Not:=⟨ZEc,ZC4,ZEg,ZEz⟩,
  k_Not:=⟨ZDP,Zu2,Zvb,ZDE⟩,
  ZfH:=ZfH,
  Zjr:=⟨Zsw,ZsF,Zep.kp⟩,
  Zjq:=⟨Zsv,ZsE,Zeo.kp⟩,
  m_And:=W.mg_of X G a_And,
  c_And:=⟨ZEb,ZC3,ZEf,ZEy⟩,
  k_And:=⟨ZDO,Zu1,Zhg,ZDD⟩,
  ZeJ:=ZeJ,
  Zjp:=⟨Zsr,ZsA,Zem.kp⟩,
  Zjo:=⟨Zsq,Zsz,Zel.kp⟩,
  Zt9:=W.mg_of X G Zyk,
  Zf2:=⟨Zxu,Zwy,Zxx,ZxI⟩,
  Zt2:=⟨Zw5,Zo3,Zhg,ZwP⟩,
  Zcj:=Zcj,
  Zgy:=⟨ZnM,ZnP,Zcb.kp⟩,
  Zgx:=⟨ZnL,ZnO,Zca.kp⟩,
  m_Or:=W.mg_of X G a_Or,
  c_Or:=⟨pg_Or,hd_Or,po_Or,sa_Or⟩,
  k_Or:=⟨mk_Or,Zwq,Zhg,kc_Or⟩,
  ZfI:=ZfI,
  ZkJ:=⟨Zu4,Zvd,Zfr.kp⟩,
  ZkI:=⟨Zu3,Zvc,Zfq.kp⟩,
  Zw2:=W.mg_of X G ZAT,
  Za1:=⟨Zzc,Zyz,Zzf,Zzm⟩,
  ZwO:=⟨ZyU,ZqC,ZqP,ZyI⟩,
  ZbZ:=ZbZ,
  Zcy:=Zcy,
  Zby:=Zby,
  ZeK:=ZeK,
  ZaM:=ZaM,
  ZgO:=⟨ZkD,ZkL,Zbr.kp⟩,
  ZgN:=⟨ZkC,ZkK,Zbq.kp⟩,
  ZgP:=⟨ZkE,ZkM,Zbs.kp⟩,
  Zj1:=⟨Zo4,Zo7,ZcF.kp⟩,
  Zhi:=W.mg_of X G Zsb,
  Zhn:=⟨ZiE,ZqU,Zr1,Zr2,Zr0,Zrp,Zr3⟩,
  ZjN:=Zgz nd_ (i:=4) (j:=5) rfl rfl (by decide),
  Zld:=Zgz nd_ (i:=4) (j:=6) rfl rfl (by decide),
  Zlc:=Zgz nd_ (i:=4) (j:=8) rfl rfl (by decide),
  ZhE:=Zgz nd_ (i:=4) (j:=9) rfl rfl (by decide),
  ZnA:=Zgz nd_ (i:=4) (j:=10) rfl rfl (by decide),
  ZlS:=Zgz nd_ (i:=4) (j:=11) rfl rfl (by decide),
  Zlf:=Zgz nd_ (i:=5) (j:=6) rfl rfl (by decide),
  Zle:=Zgz nd_ (i:=5) (j:=8) rfl rfl (by decide),
  ZhF:=Zgz nd_ (i:=5) (j:=9) rfl rfl (by decide),
  ZnD:=Zgz nd_ (i:=5) (j:=10) rfl rfl (by decide),
  ZlT:=Zgz nd_ (i:=5) (j:=11) rfl rfl (by decide),
  ZnB:=Zgz nd_ (i:=6) (j:=8) rfl rfl (by decide),
  ZiD:=Zgz nd_ (i:=6) (j:=9) rfl rfl (by decide),
  Zp1:=Zgz nd_ (i:=6) (j:=10) rfl rfl (by decide),
  ZnC:=Zgz nd_ (i:=6) (j:=11) rfl rfl (by decide),
  ZiC:=Zgz nd_ (i:=8) (j:=9) rfl rfl (by decide),
  Zp0:=Zgz nd_ (i:=8) (j:=10) rfl rfl (by decide),
  Znz:=Zgz nd_ (i:=8) (j:=11) rfl rfl (by decide),
  ZjM:=Zgz nd_ (i:=9) (j:=10) rfl rfl (by decide),
  Zjg:=Zgz nd_ (i:=9) (j:=11) rfl rfl (by decide),
  ZoM:=Zgz nd_ (i:=10) (j:=11) rfl rfl (by decide),
  bl:=fun s u=>.of_eq rfl,
  B:=⟨W.mg_none_of X G b_len,W.mg_none_of X G b_range,W.mg_none_of X G b_isinstance,W.mg_none_of X G b_int,W.mg_none_of X G b_bool,W.mg_none_of X G b_str,W.mg_none_of X G b_list,W.mg_none_of X G b_tuple,W.mg_none_of X G b_dict,W.mg_none_of X G b_set,W.mg_none_of X G b_sorted,W.mg_none_of X G b_max,W.mg_none_of X G b_min,W.mg_none_of X G b_sum,W.mg_none_of X G b_any,W.mg_none_of X G b_all,W.mg_none_of X G b_abs,W.mg_none_of X G b_reversed,W.mg_none_of X G b_enumerate,W.mg_none_of X G b_zip⟩,
  g_LETTERS:=⟨_,W.mg_of X G g_LETTERS,⟨_,rfl⟩⟩,
  g_MARKS:=⟨_,W.mg_of X G g_MARKS,⟨_,rfl⟩⟩,
  g_BLANK:=⟨_,W.mg_of X G g_BLANK,⟨_,rfl⟩⟩,
  g_MOST_LAMPS:=⟨_,W.mg_of X G g_MOST_LAMPS,⟨_,rfl⟩⟩,
  g_LONGEST_NAME:=⟨_,W.mg_of X G g_LONGEST_NAME,⟨_,rfl⟩⟩,
  g_JOINS:=⟨_,W.mg_of X G g_JOINS,rfl⟩,
  q_JOINS:=fun H=>.inr ⟨_,_,_,lk_JOINS,rfl,rfl,Nat.le_of_ble_eq_true rfl,.cons ⟨_,rfl⟩ (.cons ⟨_,rfl⟩ (.cons ⟨_,rfl⟩ (.nil)))⟩,
  g_NO_NAMES:=⟨_,W.mg_of X G g_NO_NAMES,rfl⟩,
  q_NO_NAMES:=fun H=>.inr ⟨_,_,_,lk_NO_NAMES,rfl,rfl,Nat.le_of_ble_eq_true rfl,.cons ⟨_,rfl⟩ (.cons ⟨_,rfl⟩ (.cons ⟨_,rfl⟩ (.cons ⟨_,rfl⟩ (.cons ⟨_,rfl⟩ (.cons ⟨_,rfl⟩ (.cons ⟨_,rfl⟩ (.cons ⟨_,rfl⟩ (.cons ⟨_,rfl⟩ (.cons ⟨_,rfl⟩ (.cons ⟨_,rfl⟩ (.nil)))))))))))⟩,
  g_SORTS:=⟨_,W.mg_of X G g_SORTS,rfl⟩,
  q_SORTS:=fun H=>.inr ⟨_,_,_,lk_SORTS,rfl,rfl,Nat.le_of_ble_eq_true rfl,.cons ⟨_,rfl⟩ (.cons ⟨_,rfl⟩ (.cons ⟨_,rfl⟩ (.nil)))⟩ }
theorem Zkv (x y:Nat):Builtin.bitAnd (x:Int) (y:Int)=((x &&& y:Nat):Int):=by simp[Builtin.bitAnd]
theorem Zs6 (x:Int):Builtin.bitNot (Builtin.bitNot x)=x:=by unfold Builtin.bitNot; omega
theorem Zjf (x y:Nat):Builtin.bitOr (x:Int) (y:Int)=((x ||| y:Nat):Int):=by
 show Builtin.bitNot (Builtin.bitAnd (Builtin.bitNot x) (Builtin.bitNot y))=_;rw[PyProof.Rows.bitAnd_nn (by unfold Builtin.bitNot; omega) (by unfold Builtin.bitNot; omega),Zs6,Zs6,Zs6];simp
theorem ZtB (x y:Nat):Builtin.bitXor (x:Int) (y:Int)=((x ^^^ y:Nat):Int):=by
 show Builtin.bitOr x y - Builtin.bitAnd x y=_;rw[Zjf,Zkv,Zpx (x+1) x y (by omega)];omega
def cell (ns:List Int) (k:Nat):Int:=ns.getD k 0
def spLaw (K:W.Frag):Sp:=fun vs H Q _=>∃(a:Addr) (ns:List Int),vs=[.ref a]∧SqL K H a (ns.map V.int)∧ns.length≤63∧Only H∧∀H',Q (.bl true) H'
def ZEF (K:W.Frag):Sp:=fun vs H Q _=>∃(a:Addr) (ns:List Int) (k:Nat),vs=[.ref a,.int (k:Int)]∧SqL K H a (ns.map V.int)∧Q (.int (cell ns k)) H
section
variable {P:Program} {w:World} {K:W.Frag} {mg:Str→Option Value} {base:Heap} {t:Ad}
theorem ZvB (T:Txt K mg t):FnS P w K mg base 1 "_law_cell_at" ["_law_script","_law_k"] (ZEF K):=by
 refine⟨_,_,T.Zcc.ok Znu (fun vs H Q E h=>?_) (fun cdv A outer s H vs Q E hr h=>?_),T.Zi8,T.Zcc.kp,T.Zjb⟩
 ·obtain⟨a,ns,k,rfl,_⟩:=h
  rfl
 ·obtain⟨a,ns,k,rfl,hS,q⟩:=h
  refine⟨_,(Zab (ZaB (Zaj ZvF (pv 1) (Zaw Zaz rfl T.B.len Za4 (Zaa (pv 0) Zad)) (Zan _))
   (Zae (Zao (Zav Zam (pv 0) (pv 1) (fun _ _=>rfl))))
   Zap)
   (Zae (Zao Zac))),?_⟩
  walk_at "rd0";refine Zb7 (fun h=>?_) (fun h=>?_)
  ·rw[length_map]at h
   have hk:k < ns.length:=by omega
   walk_at "";refine ZFe (j:=k) (v:=.int (cell ns k)) hS ?_ q;rw[getElem?_map,List.getElem?_eq_getElem hk];simp[cell,getD_eq_getElem?_getD,List.getElem?_eq_getElem hk]
  ·rw[length_map]at h
   walk_at ""
   have e:cell ns k=0:=by
    simp only [cell,getD_eq_getElem?_getD];rw[List.getElem?_eq_none (by omega)];rfl
   rw[e]at q;exact q
end
theorem Zh8 {t u:TS} {D:Ends} {σ:St} {H:Hp} (Pn:St→Hp→Prop) (h2:∀σ H,Pn σ H→u D σ H) (h1:∀Kn:St→Hp→Prop,(∀σ H,Pn σ H→Kn σ H)→t { D with nx:=Kn } σ H):tSeq t u D σ H:=h1 (u D) h2
def cw (t:Ad):W3→Addr
 | .a=>t.C_And
 | .e=>t.ZaH
 | .o=>t.C_Or
def FmAt (t:Ad) (H:Hp):Nat→Addr→Fm→Prop
 | 0,_,_=>False
 | n+1,p,f=>match f with
  | .lamp k=>∃dx,H p=some (.ins t.Zbg dx [(("at" : Str),.int (k:Int))])
  | .sure b=>∃dx,H p=some (.ins t.Zbh dx [(("truth" : Str),.bl b)])
  | .neg g=>∃dx q,H p=some (.ins t.C_Not dx [(("part" : Str),.ref q)])∧FmAt t H n q g
  | .join w gs=>∃dx tp ps,H p=some (.ins (cw t w) dx [(("parts" : Str),.ref tp)])∧H tp=some (.tup (ps.map V.ref))∧Paired (FmAt t H n) ps gs
def isFm (t:Ad) (C:Addr):Prop:=C=t.Zbg∨C=t.Zbh∨C=t.C_Not∨C=t.C_And∨C=t.ZaH∨C=t.C_Or
theorem Zaf {α β:Type} {F G:α→β→Prop} (h:∀a b,F a b→G a b):∀{xs:List α} {ys:List β},Paired F xs ys→Paired G xs ys
 | _,_,.nil=>.nil
 | _,_,.cons r s=>.cons (h _ _ r) (Zaf h s)
theorem Zbt {α β:Type} {F:α→β→Prop}:∀{xs:List α} {ys:List β} {i:Nat} {x:α},Paired F xs ys→xs[i]?=some x→∃y,ys[i]?=some y∧F x y
 | _,_,_,_,.nil,e=>by simp at e
 | _,_,0,_,.cons r _,e=>by simp at e; subst e; exact⟨_,rfl,r⟩
 | _,_,i+1,x,.cons _ s,e=>by
  obtain⟨u,h1,h2⟩:=Zbt (i:=i) (x:=x) s (by simpa using e);exact⟨u,by simpa using h1,h2⟩
theorem Zaq {α β:Type} {F:α→β→Prop}:∀{xs xs':List α} {ys ys':List β},Paired F xs ys→Paired F xs' ys'→Paired F (xs++xs') (ys++ys')
 | _,_,_,_,.nil,s=>s
 | _,_,_,_,.cons r q,s=>.cons r (Zaq q s)
theorem Zhl {α β:Type} {F:α→β→Prop}:∀{xs:List α} {ys:List β} (n:Nat),Paired F xs ys→Paired F (xs.take n) (ys.take n)
 | _,_,0,_=>by rw[take_zero,take_zero]; exact .nil
 | _,_,_+1,.nil=>by rw[take_nil,take_nil]; exact .nil
 | _,_,n+1,.cons r q=>by rw[List.take_succ_cons,List.take_succ_cons]; exact .cons r (Zhl n q)
theorem Zhj {α β:Type} {F:α→β→Prop}:∀{xs:List α} {ys:List β} (n:Nat),Paired F xs ys→Paired F (xs.drop n) (ys.drop n)
 | _,_,0,q=>q
 | _,_,_+1,.nil=>by rw[drop_nil,drop_nil]; exact .nil
 | _,_,n+1,.cons r q=>by rw[List.drop_succ_cons,List.drop_succ_cons]; exact Zhj n q
theorem Zak {α β:Type} {F:α→β→Prop} {xs:List α} {ys:List β} (h:Paired F xs ys):xs.length=ys.length:=Paired.length h
theorem Zth {α β:Type} {F:α→β→Prop} {xs:List α} {ys:List β} {x:α} {y:β} (h:Paired F (xs++[x]) (ys++[y])):Paired F xs ys∧F x y:=by
 have hl:xs.length=ys.length:=by have:=Zak h; simpa using this
 have a:=Zhl xs.length h;have b:=Zhj xs.length h;rw[take_left,hl,take_left]at a;rw[drop_left,hl,drop_left]at b
 cases b with
 | cons r _=>exact⟨a,r⟩
theorem Zbf {ps:List Addr} {i:Nat} {x:V} (h:(ps.map V.ref)[i]?=some x):∃p,x=V.ref p∧ps[i]?=some p:=by
 rw[getElem?_map]at h
 cases e:ps[i]? with
 | none=>rw[e]at h; cases h
 | some p=>rw[e]at h; exact⟨p,(Option.some.inj h).symm,rfl⟩
theorem ZaD {α:Type} {l:List α} {i:Nat} {x:α} (h:l[i]?=some x):l.take (i+1)=l.take i++[x]:=by
 rw[List.take_add_one,h]; rfl
section
variable {P:Program} {w:World} {K:W.Frag} {mg:Str→Option Value} {base:Heap} {t:Ad} {H H':Hp} {n:Nat} {p:Addr} {f:Fm}
theorem FmAt.mono (s:Ext H H'):∀{n:Nat} {p:Addr} {f:Fm},FmAt t H n p f→FmAt t H' n p f
 | 0,_,_,h=>h
 | n+1,p,f,h=>by
  cases f with
  | lamp k=>obtain⟨dx,e⟩:=h; exact⟨dx,s _ _ e (fun _ z=>nomatch z)⟩
  | sure b=>obtain⟨dx,e⟩:=h; exact⟨dx,s _ _ e (fun _ z=>nomatch z)⟩
  | neg g=>obtain⟨dx,q,e,h⟩:=h; exact⟨dx,q,s _ _ e (fun _ z=>nomatch z),FmAt.mono s h⟩
  | join w gs=>obtain⟨dx,tp,ps,e,e2,h⟩:=h; exact⟨dx,tp,ps,s _ _ e (fun _ z=>nomatch z),s _ _ e2 (fun _ z=>nomatch z),Zaf (fun a b h=>FmAt.mono s h) h⟩
theorem FmAt.le:∀{n m:Nat} {p:Addr} {f:Fm},n≤m→FmAt t H n p f→FmAt t H m p f
 | 0,_,_,_,_,h=>h.elim
 | n+1,0,_,_,hm,_=>absurd hm (by omega)
 | n+1,m+1,p,f,hm,h=>by
  have hm':n≤m:=by omega
  cases f with
  | lamp k=>exact h
  | sure b=>exact h
  | neg g=>obtain⟨dx,q,e,h⟩:=h; exact⟨dx,q,e,FmAt.le hm' h⟩
  | join w gs=>obtain⟨dx,tp,ps,e,e2,h⟩:=h; exact⟨dx,tp,ps,e,e2,Zaf (fun a b h=>FmAt.le hm' h) h⟩
theorem ZBl (t:Ad) (w:W3):isFm t (cw t w):=by
 cases w
 ·exact .inr (.inr (.inr (.inl rfl)))
 ·exact .inr (.inr (.inr (.inr (.inl rfl))))
 ·exact .inr (.inr (.inr (.inr (.inr rfl))))
theorem FmAt.ins (h:FmAt t H n p f) (m:Str) (h1 : ¬m = "at") (h2 : ¬m = "truth") (h3 : ¬m = "part") (h4 : ¬m = "parts"):∃C dx fs,H p=some (.ins C dx fs)∧isFm t C∧fs.lookup m=none:=by
 cases n with
 | zero=>exact h.elim
 | succ n=>
  cases f with
  | lamp k=>obtain⟨dx,e⟩:=h; exact⟨_,dx,_,e,.inl rfl,lk0 _ h1⟩
  | sure b=>obtain⟨dx,e⟩:=h; exact⟨_,dx,_,e,.inr (.inl rfl),lk0 _ h2⟩
  | neg g=>obtain⟨dx,q,e,h⟩:=h; exact⟨_,dx,_,e,.inr (.inr (.inl rfl)),lk0 _ h3⟩
  | join w gs=>obtain⟨dx,tp,ps,e,e2,h⟩:=h; exact⟨_,dx,_,e,ZBl t w,lk0 _ h4⟩
theorem FmAt.lamp {dx:Addr} {fs:List (Str×V)} (T:Txt K mg t) (h:FmAt t H (n+1) p f) (e:H p=some (.ins t.Zbg dx fs)):∃k:Nat,f=.lamp k∧fs=[(("at" : Str),.int (k:Int))]:=by
 cases f with
 | lamp k=>obtain⟨dx',e'⟩:=h; rw[e]at e'; injection e' with e'; injection e' with _ _ e'; exact⟨k,rfl,e'⟩
 | sure b=>obtain⟨dx',e'⟩:=h; rw[e]at e'; injection e' with e'; injection e' with e' _ _; exact absurd e' T.ZjN
 | neg g=>obtain⟨dx',q,e',_⟩:=h; rw[e]at e'; injection e' with e'; injection e' with e' _ _; exact absurd e' T.Zld
 | join w gs=>obtain⟨dx',tp,ps,e',_⟩:=h; rw[e]at e'; injection e' with e'; injection e' with e' _ _; cases w; exact absurd e' T.Zlc; exact absurd e' T.ZhE; exact absurd e' T.ZnA
theorem FmAt.sure {dx:Addr} {fs:List (Str×V)} (T:Txt K mg t) (h:FmAt t H (n+1) p f) (e:H p=some (.ins t.Zbh dx fs)):∃b:Bool,f=.sure b∧fs=[(("truth" : Str),.bl b)]:=by
 cases f with
 | lamp k=>obtain⟨dx',e'⟩:=h; rw[e]at e'; injection e' with e'; injection e' with e' _ _; exact absurd e'.symm T.ZjN
 | sure b=>obtain⟨dx',e'⟩:=h; rw[e]at e'; injection e' with e'; injection e' with _ _ e'; exact⟨b,rfl,e'⟩
 | neg g=>obtain⟨dx',q,e',_⟩:=h; rw[e]at e'; injection e' with e'; injection e' with e' _ _; exact absurd e' T.Zlf
 | join w gs=>obtain⟨dx',tp,ps,e',_⟩:=h; rw[e]at e'; injection e' with e'; injection e' with e' _ _; cases w; exact absurd e' T.Zle; exact absurd e' T.ZhF; exact absurd e' T.ZnD
theorem FmAt.neg {dx:Addr} {fs:List (Str×V)} (T:Txt K mg t) (h:FmAt t H (n+1) p f) (e:H p=some (.ins t.C_Not dx fs)):∃g q,f=.neg g∧fs=[(("part" : Str),.ref q)]∧FmAt t H n q g:=by
 cases f with
 | lamp k=>obtain⟨dx',e'⟩:=h; rw[e]at e'; injection e' with e'; injection e' with e' _ _; exact absurd e'.symm T.Zld
 | sure b=>obtain⟨dx',e'⟩:=h; rw[e]at e'; injection e' with e'; injection e' with e' _ _; exact absurd e'.symm T.Zlf
 | neg g=>obtain⟨dx',q,e',h⟩:=h; rw[e]at e'; injection e' with e'; injection e' with _ _ e'; exact⟨g,q,rfl,e',h⟩
 | join w gs=>obtain⟨dx',tp,ps,e',_⟩:=h; rw[e]at e'; injection e' with e'; injection e' with e' _ _; cases w; exact absurd e' T.ZnB; exact absurd e' T.ZiD; exact absurd e' T.Zp1
theorem ZCU (T:Txt K mg t) {v w:W3} (e:cw t v=cw t w):v=w:=by
 cases v <;> cases w <;> first
  | rfl
  | exact absurd e T.ZiC
  | exact absurd e T.Zp0
  | exact absurd e T.ZjM
  | exact absurd e.symm T.ZiC
  | exact absurd e.symm T.Zp0
  | exact absurd e.symm T.ZjM
theorem FmAt.join {dx:Addr} {fs:List (Str×V)} {w:W3} (T:Txt K mg t) (h:FmAt t H (n+1) p f) (e:H p=some (.ins (cw t w) dx fs)) :
  ∃gs tp ps,f=.join w gs∧fs=[(("parts" : Str),.ref tp)]∧H tp=some (.tup (ps.map V.ref))∧Paired (FmAt t H n) ps gs:=by
 cases f with
 | lamp k=>obtain⟨dx',e'⟩:=h; rw[e]at e'; injection e' with e'; injection e' with e' _ _; cases w; exact absurd e'.symm T.Zlc; exact absurd e'.symm T.ZhE; exact absurd e'.symm T.ZnA
 | sure b=>obtain⟨dx',e'⟩:=h; rw[e]at e'; injection e' with e'; injection e' with e' _ _; cases w; exact absurd e'.symm T.Zle; exact absurd e'.symm T.ZhF; exact absurd e'.symm T.ZnD
 | neg g=>obtain⟨dx',q,e',_⟩:=h; rw[e]at e'; injection e' with e'; injection e' with e' _ _; cases w; exact absurd e'.symm T.ZnB; exact absurd e'.symm T.ZiD; exact absurd e'.symm T.Zp1
 | join v gs=>
  obtain⟨dx',tp,ps,e',e2,h⟩:=h
  rw[e]at e'; injection e' with e'; injection e' with e1 _ e3
  obtain rfl:=ZCU T e1;exact⟨gs,tp,ps,rfl,e3,e2,h⟩
theorem ZBM (T:Txt K mg t):MkS P w K mg base 1 "Lamp" t.Zbg ["self","at"] (ZpU t.Zbg "at"):=by
 refine⟨T.ZAm,_,_,T.ZAj,T.ZfJ.ok ZrG (fun vs H Q E h=>?_) (fun cdv A outer s H vs Q E hr h=>?_),T.Zml⟩
 ·obtain⟨p,dx,v,rfl,_⟩:=h
  rfl
 ·obtain⟨p,dx,v,rfl,hp,q⟩:=h
  refine⟨_,(Zae (Zb9 (pv 0) (pv 1) rfl)),?_⟩;walk_at "rd0";exact⟨p,_,_,_,rfl,hp,T.Zmy,T.Zif,by decide,q⟩
theorem ZBO (T:Txt K mg t):MkS P w K mg base 1 "Sure" t.Zbh ["self","truth"] (ZpU t.Zbh "truth"):=by
 refine⟨T.ZAo,_,_,T.ZAl,T.ZfL.ok ZrL (fun vs H Q E h=>?_) (fun cdv A outer s H vs Q E hr h=>?_),T.Zmo⟩
 ·obtain⟨p,dx,v,rfl,_⟩:=h
  rfl
 ·obtain⟨p,dx,v,rfl,hp,q⟩:=h
  refine⟨_,(Zae (Zb9 (pv 0) (pv 1) rfl)),?_⟩;walk_at "rd0";exact⟨p,_,_,_,rfl,hp,T.Zlu,T.ZdS,by decide,q⟩
theorem ZDV (T:Txt K mg t):MkS P w K mg base 1 "Not" t.C_Not ["self","part"] (ZpU t.C_Not "part"):=by
 refine⟨T.m_Not,_,_,T.k_Not,T.ZgH.ok Ztp (fun vs H Q E h=>?_) (fun cdv A outer s H vs Q E hr h=>?_),T.Zob⟩
 ·obtain⟨p,dx,v,rfl,_⟩:=h
  rfl
 ·obtain⟨p,dx,v,rfl,hp,q⟩:=h
  refine⟨_,(Zae (Zb9 (pv 0) (pv 1) rfl)),?_⟩;walk_at "rd0";exact⟨p,_,_,_,rfl,hp,T.c_Not,T.ZfH,by decide,q⟩
def Znv (C:Addr):Sp:=fun vs H Q _=>∃p dx l ys,vs=[.ref p,.ref l]∧H p=some (.ins C dx [])∧H l=some (.lst ys)∧∀tp,H tp=none→Q .non (upd (upd H tp (.tup ys)) p (.ins C dx [(("parts" : Str),.ref tp)]))
theorem ZkU {C:Addr} (T:Txt K mg t) (cl:Cls K C) (na:Zbo K C "parts"):FnOk P w K mg base CX0 1 t.ZaX t.ZdY ["self","parts"] (Znv C):=by
 refine T.ZdU.ok Zn3 (fun vs H Q E h=>?_) (fun cdv A outer s H vs Q E hr h=>?_)
 ·obtain⟨p,dx,l,ys,rfl,_⟩:=h
  rfl
 ·obtain⟨p,dx,l,ys,rfl,hp,hl,q⟩:=h
  refine⟨_,(Zae (Zb9 (pv 0) (Zbb Zdg rfl T.B.tuple ZgZ (Zaa (pv 1) Zad)) rfl)),?_⟩;walk_at "rd0";refine ZmO hl fun tp htp=>?_;walk_at "";exact⟨p,_,_,_,rfl,by rw[ZaF (Zag hp htp)]; exact hp,cl,na,by decide,q tp htp⟩
theorem ZDU (T:Txt K mg t):MkS P w K mg base 1 "And" t.C_And ["self","parts"] (Znv t.C_And):=⟨T.m_And,_,_,T.k_And,ZkU T T.c_And T.ZeJ,T.Zfc⟩
theorem Zxd (T:Txt K mg t):MkS P w K mg base 1 "Either" t.ZaH ["self","parts"] (Znv t.ZaH):=⟨T.Zt9,_,_,T.Zt2,ZkU T T.Zf2 T.Zcj,T.Zfc⟩
theorem ZFq (T:Txt K mg t):MkS P w K mg base 1 "Or" t.C_Or ["self","parts"] (Znv t.C_Or):=⟨T.m_Or,_,_,T.k_Or,ZkU T T.c_Or T.ZfI,T.Zfc⟩
theorem ZsI {C l:Addr} {ys:List V} {H:Hp} {Q:VK} (hl:H l=some (.lst ys)) (h:∀(x dx tp:Addr) (H':Hp),Same H H'→H x=none→H' x=some (.ins C dx [(("parts" : Str),.ref tp)])→H' tp=some (.tup ys)→Q (.ref x) H') :
  MkG C (Znv C) [.ref l] H Q:=by
 intro x dx hx hdx ne;have s2:=ZgV hx hdx (.ins C dx []) (.own x);refine⟨x,dx,l,ys,rfl,Zax,s2 _ _ hl,fun tp htp=>⟨rfl,?_⟩⟩
 have hxt:tp≠x:=by
  intro e; subst e; rw[Zax]at htp; cases htp
 have htp0:H tp=none:=s2.free htp;refine h x dx tp _ (fun b o e=>?_) hx Zax (by rw[ZaF hxt,Zax]);rw[ZaF (Zag e hx),ZaF (Zag e htp0),ZaF (Zag e hx),ZaF (Zag e hdx)];exact e
end
def Ze8 (t:Ad) (n:Nat):Sp:=fun vs H Q _=>∃(p:Addr) (s:Nat) (f:Fm),vs=[.ref p,.int (s:Int)]∧FmAt t H n p f∧Q (.bl (f.holds s)) H
theorem ZDK (s k:Nat):decide (Builtin.bitAnd ((s:Int) / 2 ^ ((k:Int)).toNat) 1=1)=s.testBit k:=by
 have e:((s:Int) / 2 ^ ((k:Int)).toNat)=((s / 2 ^ k:Nat):Int):=by simp
 have h:Builtin.bitAnd ((s:Int) / 2 ^ ((k:Int)).toNat) 1=((s / 2 ^ k % 2:Nat):Int):=by
  rw[e,show(1:Int)=((1:Nat):Int) from rfl,Zkv,Nat.and_one_is_mod]
 rw[h,Zs2];exact decide_eq_decide.mpr (by omega)
section
variable {P:Program} {w:World} {K:W.Frag} {mg:Str→Option Value} {base:Heap} {t:Ad} {n:Nat}
theorem Zpr (T:Txt K mg t):MeS P w K mg base (n+1) t.Zbg "holds" ["self","stand"] (spAt (Ze8 t (n+1)) t.Zbg):=by
 refine⟨T.Zmy,_,_,T.Zdr.ok ZpM (fun vs H Q E h=>?_) (fun cdv A outer s H vs Q E hr h=>?_),T.ZhR,T.Zh3⟩
 ·obtain⟨⟨p,s,f,rfl,_⟩,_⟩:=h
  rfl
 ·obtain⟨⟨p,s,f,rfl,hf,q⟩,a,dx,fs,r,e,ea⟩:=h
  cases e
  obtain⟨k,rfl,rfl⟩:=hf.lamp T ea;refine⟨_,(Zae (Zao (Zjv (ZaA hr.units) (Zai ZlM (Zai ZAv (pv 1) (Zbi (pv 0) rfl)) Zac) Zac (Zan _)))),?_⟩;walk_at "rd0";refine⟨p,_,_,_,_,rfl,ea,T.Zmy,T.Zif,lk1 _ _,?_⟩;walk_at "";rw[ZDK]
  simpa [Fm.holds] using q
theorem Zpt (T:Txt K mg t):MeS P w K mg base (n+1) t.Zbh "holds" ["self","stand"] (spAt (Ze8 t (n+1)) t.Zbh):=by
 refine⟨T.Zlu,_,_,T.Zdt.ok ZpP (fun vs H Q E h=>?_) (fun cdv A outer s H vs Q E hr h=>?_),T.ZhV,T.Zh7⟩
 ·obtain⟨⟨p,s,f,rfl,_⟩,_⟩:=h
  rfl
 ·obtain⟨⟨p,s,f,rfl,hf,q⟩,a,dx,fs,r,e,ea⟩:=h
  cases e
  obtain⟨b,rfl,rfl⟩:=hf.sure T ea;refine⟨_,(Zae (Zao (Zbi (pv 0) rfl))),?_⟩;walk_at "rd0";exact⟨p,_,_,_,_,rfl,ea,T.Zlu,T.ZdS,lk1 _ _,by simpa [Fm.holds] using q⟩
theorem Zrw (T:Txt K mg t) (D_holds:∀C,isFm t C→MeS P w K mg base n C "holds" ["self","stand"] (spAt (Ze8 t n) C)):MeS P w K mg base (n+1) t.C_Not "holds" ["self","stand"] (spAt (Ze8 t (n+1)) t.C_Not):=by
 refine⟨T.c_Not,_,_,T.Zep.ok ZrK (fun vs H Q E h=>?_) (fun cdv A outer s H vs Q E hr h=>?_),T.Zjl,T.Zjr⟩
 ·obtain⟨⟨p,s,f,rfl,_⟩,_⟩:=h
  rfl
 ·obtain⟨⟨p,s,f,rfl,hf,q⟩,a,dx,fs,r,e,ea⟩:=h
  cases e
  obtain⟨g,p',rfl,rfl,hg⟩:=hf.neg T ea;obtain⟨C,dx',fs',e',hC,hl⟩:=hg.ins "holds" (by decide +kernel) (by decide +kernel) (by decide +kernel) (by decide +kernel);refine⟨_,(Zae (Zao (ZpA (ZfS D_holds hr (Zbi (pv 0) rfl) (Zaa (pv 1) Zad))))),?_⟩;walk_at "rd0";refine⟨p,_,_,_,_,rfl,ea,T.c_Not,T.ZfH,lk1 _ _,?_⟩;walk_at "";refine⟨p',C,dx',fs',rfl,e',hC,hl,?_⟩;walk_at "";refine⟨e',p',s,g,rfl,hg,?_⟩;walk_at ""
  simpa [Fm.holds] using q
theorem Zru (T:Txt K mg t) (D_holds:∀C,isFm t C→MeS P w K mg base n C "holds" ["self","stand"] (spAt (Ze8 t n) C)):MeS P w K mg base (n+1) t.C_And "holds" ["self","stand"] (spAt (Ze8 t (n+1)) t.C_And):=by
 refine⟨T.c_And,_,_,T.Zem.ok ZlP (fun vs H Q E h=>?_) (fun cdv A outer s H vs Q E hr h=>?_),T.Zjj,T.Zjp⟩
 ·obtain⟨⟨p,s,f,rfl,_⟩,_⟩:=h
  rfl
 ·obtain⟨⟨p,s,f,rfl,hf,q⟩,a,dx,fs,r,e,ea⟩:=h
  cases e
  obtain⟨gs,tp,ps,rfl,rfl,htp,hg⟩:=hf.join (w:=.a) T ea
  refine⟨_,(Zab (ZaS PassesOwn.never rfl (Za6 (Zbi (pv 0) rfl)) (sg 2 ZlP.nd)
   (Zae (ZaB (Zgp (ZaL (ZfS D_holds hr (pv 2) (Zaa (pv 1) Zad)) (fun _=>rfl)))
   (Zae (Zao Zfl))
   Zap)))
   (Zae (Zao Zfl))),?_⟩
  walk_at "rd0";refine⟨p,_,_,_,_,rfl,ea,T.c_And,T.ZeJ,lk1 _ _,?_⟩;refine seqT (xs:=ps.map V.ref) (fun i σ H'=>H'=H∧comb .a ((gs.take i).map (Fm.holds s))=true∧∃v,σ=[some (.ref p),some (.int (s:Int)),v]) ⟨rfl,rfl,_,rfl⟩ (fun i σ H' _ hp=>by obtain⟨rfl,_⟩:=hp; exact SqT.of htp) ?_ ?_
  ·rintro i x σ H' hx ⟨rfl,hc,v,rfl⟩
   obtain⟨p',rfl,hx'⟩:=Zbf hx;obtain⟨g,hgi,hf'⟩:=Zbt hg hx';obtain⟨C,dx',fs',e',hC,hl⟩:=hf'.ins "holds" (by decide +kernel) (by decide +kernel) (by decide +kernel) (by decide +kernel);walk_at "";refine⟨p',C,dx',fs',rfl,e',hC,hl,?_⟩;walk_at "";refine⟨e',p',s,g,rfl,hf',?_⟩;walk_at "";refine ZnR (fun hb=>?_) (fun hb=>?_)
   ·walk_at ""
    have hz:(Fm.join .a gs).holds s=false:=by
     rw[ZcW];have hm:g∈gs:=mem_of_getElem? hgi
     have hgf:g.holds s=false:=by simpa using hb
     simp only [comb];rw[List.all_eq_false];exact⟨_,mem_map_of_mem hm,by simp[hgf]⟩
    rw[hz]at q;exact q
   ·walk_at ""
    refine⟨rfl,?_,_,rfl⟩
    have hgt:g.holds s=true:=by simpa using hb
    rw[ZaD hgi,map_append,map_cons,map_nil,ZmA,hc,hgt];rfl
  ·rintro σ H' ⟨rfl,hc,v,rfl⟩
   walk_at "";rw[length_map,Zak hg,take_length]at hc;rw[ZcW,hc]at q;exact q
theorem Zs8 (T:Txt K mg t) (D_holds:∀C,isFm t C→MeS P w K mg base n C "holds" ["self","stand"] (spAt (Ze8 t n) C)):MeS P w K mg base (n+1) t.C_Or "holds" ["self","stand"] (spAt (Ze8 t (n+1)) t.C_Or):=by
 refine⟨T.c_Or,_,_,T.Zfr.ok Znt (fun vs H Q E h=>?_) (fun cdv A outer s H vs Q E hr h=>?_),T.Zkx,T.ZkJ⟩
 ·obtain⟨⟨p,s,f,rfl,_⟩,_⟩:=h
  rfl
 ·obtain⟨⟨p,s,f,rfl,hf,q⟩,a,dx,fs,r,e,ea⟩:=h
  cases e
  obtain⟨gs,tp,ps,rfl,rfl,htp,hg⟩:=hf.join (w:=.o) T ea
  refine⟨_,(Zab (ZaS PassesOwn.never rfl (Za6 (Zbi (pv 0) rfl)) (sg 2 Znt.nd)
   (Zae (ZaB (ZaL (ZfS D_holds hr (pv 2) (Zaa (pv 1) Zad)) (fun _=>rfl))
   (Zae (Zao Zfl))
   Zap)))
   (Zae (Zao Zfl))),?_⟩
  walk_at "rd0";refine⟨p,_,_,_,_,rfl,ea,T.c_Or,T.ZfI,lk1 _ _,?_⟩;refine seqT (xs:=ps.map V.ref) (fun i σ H'=>H'=H∧comb .o ((gs.take i).map (Fm.holds s))=false∧∃v,σ=[some (.ref p),some (.int (s:Int)),v]) ⟨rfl,rfl,_,rfl⟩ (fun i σ H' _ hp=>by obtain⟨rfl,_⟩:=hp; exact SqT.of htp) ?_ ?_
  ·rintro i x σ H' hx ⟨rfl,hc,v,rfl⟩
   obtain⟨p',rfl,hx'⟩:=Zbf hx;obtain⟨g,hgi,hf'⟩:=Zbt hg hx';obtain⟨C,dx',fs',e',hC,hl⟩:=hf'.ins "holds" (by decide +kernel) (by decide +kernel) (by decide +kernel) (by decide +kernel);walk_at "";refine⟨p',C,dx',fs',rfl,e',hC,hl,?_⟩;walk_at "";refine⟨e',p',s,g,rfl,hf',?_⟩;walk_at "";refine ZnR (fun hb=>?_) (fun hb=>?_)
   ·walk_at ""
    have hz:(Fm.join .o gs).holds s=true:=by
     rw[ZcW];have hm:g∈gs:=mem_of_getElem? hgi;simp only [comb];rw[List.any_eq_true];exact⟨_,mem_map_of_mem hm,by simp[hb]⟩
    rw[hz]at q;exact q
   ·walk_at ""
    refine⟨rfl,?_,_,rfl⟩;rw[ZaD hgi,map_append,map_cons,map_nil,ZmC,hc,hb];rfl
  ·rintro σ H' ⟨rfl,hc,v,rfl⟩
   walk_at "";rw[length_map,Zak hg,take_length]at hc;rw[ZcW,hc]at q;exact q
theorem Zne (T:Txt K mg t) (D_holds:∀C,isFm t C→MeS P w K mg base n C "holds" ["self","stand"] (spAt (Ze8 t n) C)):MeS P w K mg base (n+1) t.ZaH "holds" ["self","stand"] (spAt (Ze8 t (n+1)) t.ZaH):=by
 refine⟨T.Zf2,_,_,T.Zcb.ok Zec (fun vs H Q E h=>?_) (fun cdv A outer s H vs Q E hr h=>?_),T.Zgt,T.Zgy⟩
 ·obtain⟨⟨p,s,f,rfl,_⟩,_⟩:=h
  rfl
 ·obtain⟨⟨p,s,f,rfl,hf,q⟩,a,dx,fs,r,e,ea⟩:=h
  cases e
  obtain⟨gs,tp,ps,rfl,rfl,htp,hg⟩:=hf.join (w:=.e) T ea
  refine⟨_,(Zab (ss 2 Zec.nd Zfl)
   (Zab (ZaS PassesOwn.never rfl (Za6 (Zbi (pv 0) rfl)) (sg 3 Zec.nd)
   (Zae (ZaB (ZaL (ZfS D_holds hr (pv 3) (Zaa (pv 1) Zad)) (fun _=>rfl))
   (Zae (ss 2 Zec.nd (ZpA (pv 2))))
   Zap)))
   (Zae (Zao (pv 2))))),?_⟩
  walk_at "rd0";refine⟨p,_,_,_,_,rfl,ea,T.Zf2,T.Zcj,lk1 _ _,?_⟩;refine seqT (xs:=ps.map V.ref) (fun i σ H'=>H'=H∧∃v,σ=[some (.ref p),some (.int (s:Int)),some (.bl (comb .e ((gs.take i).map (Fm.holds s)))),v]) ⟨rfl,_,rfl⟩ (fun i σ H' _ hp=>by obtain⟨rfl,_⟩:=hp; exact SqT.of htp) ?_ ?_
  ·rintro i x σ H' hx ⟨rfl,v,rfl⟩
   obtain⟨p',rfl,hx'⟩:=Zbf hx;obtain⟨g,hgi,hf'⟩:=Zbt hg hx';obtain⟨C,dx',fs',e',hC,hl⟩:=hf'.ins "holds" (by decide +kernel) (by decide +kernel) (by decide +kernel) (by decide +kernel)
   have hs:comb .e ((gs.take (i+1)).map (Fm.holds s))=xor (comb .e ((gs.take i).map (Fm.holds s))) (g.holds s):=by
    rw[ZaD hgi,map_append,map_cons,map_nil,ZmB]
   walk_at "";refine⟨p',C,dx',fs',rfl,e',hC,hl,?_⟩;walk_at "";refine⟨e',p',s,g,rfl,hf',?_⟩;walk_at "";refine ZnR (fun hb=>?_) (fun hb=>?_)
   ·walk_at ""
    refine⟨rfl,some (.ref p'),?_⟩;rw[hs,hb,Bool.xor_true]
   ·walk_at ""
    refine⟨rfl,some (.ref p'),?_⟩;rw[hs,hb,Bool.xor_false]
  ·rintro σ H' ⟨rfl,v,rfl⟩
   walk_at "";rw[length_map,Zak hg,take_length];rw[ZcW]at q;exact q
theorem Ze3 {C f:Addr} {fd:FuncData} {m:Str} {ps:List Str} {sp:Sp} (no:∀vs H Q E,¬sp vs H Q E) (c:Cls K C) (b:ZaG K fd ps []) (h:Meth K C m f):MeS P w K mg base 0 C m ps sp:=
 ⟨c,f,fd,⟨fun vs H Q E h=>absurd h (no vs H Q E),fun A outer s H args us vs Q E _ _ _ _ h=>absurd h (no vs H Q E)⟩,b,h⟩
theorem ZiF (T:Txt K mg t):∀n:Nat,∀C,isFm t C→MeS P w K mg base n C "holds" ["self","stand"] (spAt (Ze8 t n) C)
 | 0=>by
  have no:∀C vs H Q E,¬spAt (Ze8 t 0) C vs H Q E:=fun C vs H Q E h=>by
   obtain⟨⟨p,s,f,_,h,_⟩,_⟩:=h;exact h
  rintro C (rfl | rfl | rfl | rfl | rfl | rfl)
  ·exact Ze3 (no _) T.Zmy T.ZhR T.Zh3
  ·exact Ze3 (no _) T.Zlu T.ZhV T.Zh7
  ·exact Ze3 (no _) T.c_Not T.Zjl T.Zjr
  ·exact Ze3 (no _) T.c_And T.Zjj T.Zjp
  ·exact Ze3 (no _) T.Zf2 T.Zgt T.Zgy
  ·exact Ze3 (no _) T.c_Or T.Zkx T.ZkJ
 | n+1=>by
  have ih:=ZiF T n;rintro C (rfl | rfl | rfl | rfl | rfl | rfl)
  ·exact Zpr T
  ·exact Zpt T
  ·exact Zrw T ih
  ·exact Zru T ih
  ·exact Zne T ih
  ·exact Zs8 T ih
end
theorem ZBC (s k:Nat):Builtin.bitAnd ((s:Int) / 2 ^ ((k:Int)).toNat) 1=if s.testBit k=true then 1 else 0:=by
 have e:((s:Int) / 2 ^ ((k:Int)).toNat)=((s / 2 ^ k:Nat):Int):=by simp
 rw[e,show(1:Int)=((1:Nat):Int) from rfl,Zkv,Nat.and_one_is_mod,Zs2]
 by_cases h:s / 2 ^ k % 2=1
 ·rw[decide_eq_true h,if_pos rfl,h]
 ·rw[decide_eq_false h,if_neg Bool.false_ne_true]
  have:s / 2 ^ k % 2=0:=by omega
  rw[this]; rfl
theorem ZqI {n i:Nat} {lo:Int} {x:V} (h:((List.range n).map fun i:Nat=>V.int (lo+(i:Int)))[i]?=some x):i < n∧x=.int (lo+(i:Int)):=by
 rw[getElem?_map]at h
 by_cases hi:i < n
 ·rw[List.getElem?_range hi]at h
  exact⟨hi,(Option.some.inj h).symm⟩
 ·rw[List.getElem?_eq_none (by rw[length_range]; omega)]at h
  cases h
theorem ZbV {m:Nat} (h:m≤6):(2:Nat) ^ m≤64:=Nat.le_trans (Nat.pow_le_pow_right (by decide) h) (by decide)
theorem Zbj (m:Nat):(1:Int) * 2 ^ ((m:Int)).toNat=((2 ^ m:Nat):Int):=by
 simp
theorem ZuW (x y:Nat):Builtin.bitAnd (x:Int) (Builtin.bitNot (y:Int))=((x - (x &&& y):Nat):Int):=by
 rw[PyProof.Rows.bitAnd_not,Zkv];have:=Nat.and_le_left (n:=x) (m:=y);omega
def nums (l:List Nat):List Int:=l.map fun k:Nat=>(k:Int)
theorem Zu0 {ix:List Nat} {tc:TT} {te:TE} {σ:St} {H:Hp} {Q:VK} {n:Nat} (p:Nat→Bool) (hz:n≤1000000)
  (ht:∀(i:Nat) (H':Hp),i < n→Same H H'→∀R:Bool→Hp→Prop,(∀H2,Same H' H2→R (p i) H2)→tc (some (.int (i:Int))::subS σ ix) H' R)
  (he:∀(i:Nat) (H':Hp),i < n→Same H H'→∀R2:V→Hp→Prop,(∀H3,Same H' H3→R2 (.int (i:Int)) H3)→te (some (.int (i:Int))::subS σ ix) H' R2)
  (hd:∀(acc:Addr) (H':Hp),H acc=none→Same H H'→H' acc=some (.lst ((nums ((List.range n).filter p)).map V.int))→Q (.ref acc) H'):ZnE (Itr 0 n) ix tc te σ Q H:=by
 refine Zgv (fun i ys=>ys=(nums ((List.range i).filter p)).map V.int) (Zgr 0 n H) (by rw[length_map,length_range]; exact hz) rfl ?_ ?_
 ·intro i x ys acc H' hx s1 hacc ea hy _ R k
  obtain⟨hi,rfl⟩:=ZqI hx;rw[Int.zero_add];rw[Int.zero_add]at k;refine ht i H' hi s1 R fun H2 s2=>k (p i) H2 s2 (fun z=>?_) fun z R2 k2=>?_
  ·rw[ZmH,z,if_neg Bool.false_ne_true,append_nil]; exact hy
  ·refine he i H2 hi (s1.trans s2) R2 fun H3 s3=>k2 _ H3 s3 ?_
   rw[ZmH,z,if_pos rfl,hy];unfold nums;rw[map_append,map_append];rfl
 ·intro acc ys H' n1 s1 e1 hy
  rw[length_map,length_range]at hy;subst hy;exact hd acc H' n1 s1 e1
def orUp (f:Nat→Nat):Nat→Nat
 | 0=>0
 | n+1=>orUp f n ||| f n
def ahN (af:List Nat) (s:Nat):Nat:=orUp (fun k=>if s.testBit k=true then af.getD k 0 else 0) af.length
theorem Znj {f:Nat→Nat} {n:Nat} (h:f n=0):orUp f (n+1)=orUp f n:=by
 show orUp f n ||| f n=orUp f n
 rw[h,Nat.or_zero]
theorem Zui {f:Nat→Nat} {j:Nat} (h:∀k,k≠j→f k=0):∀n,j < n→orUp f n=f j
 | 0,hj=>absurd hj (by omega)
 | n+1,hj=>by
  have hz:∀m,m≤j→orUp f m=0:=fun m=>by
   induction m with
   | zero=>intro _; rfl
   | succ m ih=>intro hm; rw[Znj (h m (by omega))]; exact ih (by omega)
  by_cases e:n=j
  ·subst e
   show orUp f n ||| f n=f n
   rw[hz n (Nat.le_refl _),Nat.zero_or]
  ·rw[Znj (h n e)]
   exact Zui h n (by omega)
theorem ZtS {af:List Nat} {i:Nat} (h:i < af.length):((nums af).map V.int)[i]?=some (.int ((af.getD i 0:Nat):Int)):=by
 unfold nums;rw[getElem?_map,getElem?_map,getD_eq_getElem?_getD,List.getElem?_eq_getElem h];rfl
theorem Zj7 (af:List Nat):((nums af).map V.int).length=af.length:=by unfold nums; rw[length_map,length_map]
theorem Zxb (af:List Nat) (x:Nat):(nums (af++[x])).map V.int=(nums af).map V.int++[V.int (x:Int)]:=by unfold nums; rw[map_append,map_append]; rfl
theorem ZB7 {a b:Nat} (h:a < b):2 ^ a < 2 ^ b:=Nat.pow_lt_pow_right (by decide) h
section
variable {P:Program} {w:World} {K:W.Frag} {mg:Str→Option Value} {base:Heap} {t:Ad}
def Ztu:Sp:=fun vs H Q _=>∃(m:Nat),vs=[.int (m:Int)]∧m≤6∧Q (.int ((2 ^ 2 ^ m - 1:Nat):Int)) H
theorem ZcX (T:Txt K mg t):FnS P w K mg base 1 "all_stands" ["many"] (Ztu):=by
 refine⟨_,_,T.ZdB.ok ZpR (fun vs H Q E h=>?_) (fun cdv A outer s H vs Q E hr h=>?_),T.Zlp,T.ZdB.kp,T.ZlG⟩
 ·obtain⟨m,rfl,hm,q⟩:=h
  rfl
 obtain⟨m,rfl,hm,q⟩:=h;have hp:=ZbV hm;have hp0:=Int.natCast_nonneg (2 ^ m);refine⟨_,(Zae (Zao (Zai ZfQ (Zai Zba Zac (Zai Zba Zac (pv 0))) Zac))),?_⟩;walk_at "rd0";rw[Zbj];refine i_rI ⟨by omega,by omega,by decide⟩ ?_;walk_at "";rw[Zbj];have:1≤2 ^ 2 ^ m:=Nat.one_le_two_pow
 have e:((2 ^ 2 ^ m:Nat):Int) - 1=((2 ^ 2 ^ m - 1:Nat):Int):=by omega
 rw[e];exact q
structure GoodC (m st bd:Nat) (af:List Nat):Prop where
 m1:1≤m
 m6:m≤6
 st:st < 2 ^ 2 ^ m
 bd:bd < 2 ^ 2 ^ m
 ln:af.length=2 ^ m
 af:∀x∈af,x < 2 ^ 2 ^ m
def ZCu:Sp:=fun vs H Q _=>∃n:Int,vs=[.int n]∧Q (.bl true) H
theorem Zng (T:Txt K mg t):FnS P w K mg base 1 "is_whole" ["thing"] (ZCu):=by
 refine⟨_,_,T.Zfv.ok Zts (fun vs H Q E h=>?_) (fun cdv A outer s H vs Q E hr h=>?_),T.Zof,T.Zfv.kp,T.Zoz⟩
 ·obtain⟨n,rfl,q⟩:=h
  rfl
 obtain⟨n,rfl,q⟩:=h;refine⟨_,(Zae (Zao (ZrD (Zaw ZiI rfl T.B.isinstance ZcN (Zaa (pv 0) (Zaa (Znm (v:=.ty "int") rfl T.B.int ZhH rfl) Zad))) (Zup (ZpA (Zaw ZiI rfl T.B.isinstance ZcN (Zaa (pv 0) (Zaa (Znm (v:=.ty "bool") rfl T.B.bool Zv4 rfl) Zad)))))))),?_⟩;walk_at "rd0";refine ZbT rfl ?_;walk_at "";exact q
def ZxU:Sp:=fun vs H Q _=>∃(n m:Nat),vs=[.int (n:Int),.int (m:Int)]∧m≤6∧n < 2 ^ 2 ^ m∧Q (.bl true) H
theorem Ztb (T:Txt K mg t):FnS P w K mg base 2 "is_crowd" ["thing","many"] (ZxU):=by
 refine⟨_,_,T.Zfu.ok Ztr (fun vs H Q E h=>?_) (fun cdv A outer s H vs Q E hr h=>?_),T.Zoe,T.Zfu.kp,T.Zoy⟩
 ·obtain⟨n,m,rfl,hm,hn,q⟩:=h
  rfl
 obtain⟨n,m,rfl,hm,hn,q⟩:=h;have Zku:=Zng (P:=P) (w:=w) (base:=base) T;have ZbD:=ZcX (P:=P) (w:=w) (base:=base) T;refine⟨_,(Zae (Zao (ZrD (ZaE Zku hr (Zaa (pv 0) Zad)) (Zup (Zun ZD1 ZD1 Zac (pv 0) (ZaE ZbD hr (Zaa (pv 1) Zad))))))),?_⟩;walk_at "rd0";refine⟨_,rfl,?_⟩;walk_at "";refine ZbT rfl ?_;walk_at "";refine ZbT (decide_eq_true (by omega)) ?_;walk_at "";refine⟨m,rfl,hm,?_⟩;walk_at "";have e:decide ((n:Int)≤((2 ^ 2 ^ m - 1:Nat):Int))=true:=decide_eq_true (by omega);rw[e];exact q
def ZxT:Sp:=fun vs H Q _=>∃(m st bd:Nat) (l:Addr) (af:List Nat),vs=[.int (m:Int),.int (st:Int),.int (bd:Int),.ref l]∧H l=some (.lst ((nums af).map V.int))∧GoodC m st bd af∧∀H',Same H H'→Q (.bl true) H'
theorem Zta (T:Txt K mg t):FnS P w K mg base 3 "is_chart" ["many","starts","bads","after"] (ZxT):=by
 refine⟨_,_,T.Zft.ok Ztq (fun vs H Q E h=>?_) (fun cdv A outer s H vs Q E hr h=>?_),T.Zod,T.Zft.kp,T.Zox⟩
 ·obtain⟨m,st,bd,l,af,rfl,hl,g,q⟩:=h
  rfl
 obtain⟨m,st,bd,l,af,rfl,hl,g,q⟩:=h;have Zku:=Zng (P:=P) (w:=w) (base:=base) T;have Zkt:=Ztb (P:=P) (w:=w) (base:=base) T;have hp:=ZbV g.m6;have m1:=g.m1;have m6:=g.m6;have ln:=g.ln
 refine⟨_,(Zab (ZaB (PW.pt (Zih (Zgp (ZaL (ZaE Zku hr (Zaa (pv 0) Zad)) (fun _=>rfl))) (Zih (Zaj ZvF (pv 0) Zac (Zan _)) (ZfT (Zaj Zju (pv 0) Zac (Zan _))))))
   (Zae (Zao Zfl))
   Zap)
   (Zab (ZaB (PW.pt (Zih (Zgp (ZaL (ZaE Zkt hr (Zaa (pv 1) (Zaa (pv 0) Zad))) (fun _=>rfl))) (ZfT (Zgp (ZaL (ZaE Zkt hr (Zaa (pv 2) (Zaa (pv 0) Zad))) (fun _=>rfl))))))
   (Zae (Zao Zfl))
   Zap)
   (Zab (ZaB (PW.pt (Zih (Zgp (ZaL (Zaw ZiI rfl T.B.isinstance ZcN (Zaa (pv 3) (Zaa (Znm (v:=.ty "list") rfl T.B.list Zsn rfl) Zad))) (fun _=>rfl))) (ZfT (Zaj (Zje hr.units) (Zaw Zaz rfl T.B.len Za4 (Zaa (pv 3) Zad)) (Zai Zba Zac (pv 0)) (Zan _)))))
   (Zae (Zao Zfl))
   Zap)
   (Zae (Zao (Zaw (Zv5 rfl) rfl T.B.all ZCP (Zaa (ZfR (sc:=Zah ZiX) (N:=["many","starts","bads","after"]) (ns:=["many"]) (ix:=[0]) rfl rfl (by decide +kernel) rfl (Za6 (pv 3)) (fun _ _ _ _=>Zhm) (fun _ _ _ _=>(ZaE Zkt hr (Zaa (pv 0) (Zaa (pv 1) Zad))))) Zad))))))),?_⟩
 walk_at "rd0";refine⟨_,rfl,?_⟩;walk_at "";refine ZaI rfl ?_;walk_at "";refine ZaI (decide_eq_false (by omega)) ?_;walk_at "";refine ZaI (decide_eq_false (by omega)) ?_;walk_at "";refine⟨_,_,rfl,m6,g.st,?_⟩;walk_at "";refine ZaI rfl ?_;walk_at "";refine⟨_,_,rfl,m6,g.bd,?_⟩;walk_at "";refine ZaI rfl ?_;walk_at "";refine ZaI rfl ?_;walk_at "";rw[Zj7,Zbj,ln];refine ZaI (by simp) ?_;walk_at "";refine .inl ⟨l,_,rfl,SqL.of hl,?_⟩;refine Zgv (fun i ys=>ys=(List.replicate i true).map V.bl) (Zlb (SqL.of hl)) (by rw[Zj7]; omega) rfl ?_ ?_
 ·intro i x ys acc H' hx s1 hacc ea hy _ R k
  obtain⟨n,rfl,hn⟩ : ∃n:Nat,x=.int (n:Int)∧n∈af:=by
   unfold nums at hx;rw[getElem?_map,getElem?_map]at hx
   cases e:af[i]? with
   | none=>rw[e]at hx; cases hx
   | some n=>rw[e]at hx; exact⟨n,(Option.some.inj hx).symm,mem_of_getElem? e⟩
  simp only [subS,map_cons,map_nil];walk_at "";refine k _ H' (Same.refl _) (fun z=>by cases z) fun z R2 k2=>?_;walk_at "";refine⟨_,_,rfl,m6,g.af n hn,?_⟩;refine k2 _ H' (Same.refl _) ?_;rw[hy,List.replicate_succ',map_append];rfl
 ·intro acc ys H' n1 s1 e1 hy
  subst hy;walk_at "";refine ZFc (SqL.of e1) ?_
  have e:(List.replicate ((nums af).map V.int).length true).all id=true:=by
   rw[all_eq_true];intro x hx;rw[(mem_replicate.mp hx).2]; rfl
  rw[e];exact q H' s1
def Zh0 (m st bd:Int) (tp:Addr):List (Str×V):=putF "after" (.ref tp) (putF "bads" (.int bd) (putF "starts" (.int st) (putF "many" (.int m) [])))
def ZhN (t:Ad) (H:Hp) (p:Addr) (m st bd:Int) (af:List Nat):Prop:=∃dx tp,H p=some (.ins t.ZaV dx (Zh0 m st bd tp))∧H tp=some (.tup ((nums af).map V.int))
theorem ZhN.mono {H H':Hp} {p:Addr} {m st bd:Int} {af:List Nat} (h:ZhN t H p m st bd af) (s:Ext H H'):ZhN t H' p m st bd af:=by
 obtain⟨dx,tp,h1,h2⟩:=h;exact⟨dx,tp,s _ _ h1 (fun _ z=>nomatch z),s _ _ h2 (fun _ z=>nomatch z)⟩
theorem Zgn (f:Str) (v:V):∀fs:List (Str×V),(putF f v fs).length≤fs.length+1
 | []=>Nat.le_refl _
 | (g,x)::r=>by
  unfold putF
  by_cases h:g=f
  ·rw[if_pos h]; exact Nat.le_succ _
  ·rw[if_neg h]; exact Nat.succ_le_succ (Zgn f v r)
def ZxQ (C:Addr):Sp:=fun vs H Q _=>∃(p dx l:Addr) (m st bd:Nat) (af:List Nat),vs=[.ref p,.int (m:Int),.int (st:Int),.int (bd:Int),.ref l]∧H p=some (.ins C dx [])∧H l=some (.lst ((nums af).map V.int))∧GoodC m st bd af∧∀tp H',(∀b o,b≠p→H b=some o→H' b=some o)→H' tp=some (.tup ((nums af).map V.int))→H' p=some (.ins C dx (Zh0 m st bd tp))→Q .non H'
theorem ZyX (T:Txt K mg t):MkS P w K mg base 4 "Chart" t.ZaV ["self","many","starts","bads","after"] (ZxQ t.ZaV):=by
 refine⟨T.Zw1,_,_,T.ZwN,T.ZeW.ok ZpL (fun vs H Q E h=>?_) (fun cdv A outer s H vs Q E hr h=>?_),T.Zlg⟩
 ·obtain⟨p,dx,l,m,st,bd,ys,rfl,_⟩:=h
  rfl
 obtain⟨p,dx,l,m,st,bd,af,rfl,hp0,hl0,hg,q⟩:=h;have ZuK:=Zta (P:=P) (w:=w) (base:=base) T;have z1:=Zgn "many" (.int (m:Int)) [];have z2:=Zgn "starts" (.int (st:Int)) (putF "many" (.int (m:Int)) []);have z3:=Zgn "bads" (.int (bd:Int)) (putF "starts" (.int (st:Int)) (putF "many" (.int (m:Int)) []));rw[length_nil]at z1
 have hlp:l≠p:=fun e=>by rw[e,hp0]at hl0; cases hl0
 refine⟨_,(Zab (ZaB (Zgp (ZaL (ZaE ZuK hr (Zaa (pv 1) (Zaa (pv 2) (Zaa (pv 3) (Zaa (pv 4) Zad))))) (fun _=>rfl)))
   (Zae Zd6)
   Zap)
   (Zab (Zb9 (pv 0) (pv 1) rfl)
   (Zab (Zb9 (pv 0) (pv 2) rfl)
   (Zab (Zb9 (pv 0) (pv 3) rfl)
   (Zae (Zb9 (pv 0) (Zbb Zdg rfl T.B.tuple ZgZ (Zaa (pv 4) Zad)) rfl)))))),?_⟩
 walk_at "rd0";refine⟨m,st,bd,l,af,rfl,hl0,hg,fun H0 s0=>?_⟩;have hp:=s0 _ _ hp0;have hl:=s0 _ _ hl0;walk_at "";refine ZaI rfl ?_;walk_at "";refine⟨p,_,_,_,rfl,hp,T.Zgu,T.ZeZ,by decide,?_⟩;walk_at "";refine⟨p,_,_,_,rfl,Zax,T.Zgu,T.Zc9,by omega,?_⟩;rw[Ztz];walk_at "";refine⟨p,_,_,_,rfl,Zax,T.Zgu,T.ZeY,by omega,?_⟩;rw[Ztz];walk_at "";refine ZmO (ys:=(nums af).map V.int) (by rw[ZaF hlp]; exact hl) fun tp htp=>?_
 have hpt:tp≠p:=fun e=>by rw[e,Zax]at htp; cases htp
 walk_at "";refine⟨p,_,_,_,rfl,by rw[ZaF (Ne.symm hpt)]; exact Zax,T.Zgu,T.Zd5,by omega,?_⟩;refine q tp _ (fun b o hb e0=>?_) (by rw[ZaF hpt]; exact Zax) Zax;have e:=s0 _ _ e0
 have hb':b≠tp:=fun z=>by rw[←z,ZaF hb,e]at htp; cases htp
 rw[ZaF hb,ZaF hb',ZaF hb];exact e
theorem ZBc {l:Addr} {m st bd:Nat} {af:List Nat} {H:Hp} {Q:VK} (hl:H l=some (.lst ((nums af).map V.int))) (hg:GoodC m st bd af) (h:∀(x:Addr) (H':Hp),Same H H'→H x=none→ZhN t H' x m st bd af→Q (.ref x) H') :
  MkG t.ZaV (ZxQ t.ZaV) [.int (m:Int),.int (st:Int),.int (bd:Int),.ref l] H Q:=by
 intro x dx hx hdx ne;have s2:=ZgV hx hdx (.ins t.ZaV dx []) (.own x);refine⟨x,dx,l,m,st,bd,_,rfl,Zax,s2 _ _ hl,hg,fun tp H' s3 h1 h2=>⟨rfl,?_⟩⟩;exact h x H' (fun b o e=>s3 b o (Zag e hx) (s2 b o e)) hx ⟨dx,tp,h2,h1⟩
def isCh (t:Ad) (C:Addr):Prop:=C=t.ZaV
theorem ZhN.ins {H:Hp} {p:Addr} {m st bd:Int} {af:List Nat} (h:ZhN t H p m st bd af) (f:Str) (h1 : ¬f = "after") (h2 : ¬f = "bads") (h3 : ¬f = "starts") (h4 : ¬f = "many"):∃C dx fs,H p=some (.ins C dx fs)∧isCh t C∧fs.lookup f=none:=by
 obtain⟨dx,tp,e,_⟩:=h;refine⟨_,dx,_,e,rfl,?_⟩;unfold Zh0;rw[Zar,if_neg h1,Zar,if_neg h2,Zar,if_neg h3,Zar,if_neg h4];rfl
theorem ZyP (m st bd:Int) (tp:Addr):(Zh0 m st bd tp).lookup ("after" : Str)=some (.ref tp):=by
 unfold Zh0;rw[Zar,if_pos rfl]
theorem ZBE (m st bd:Int) (tp:Addr):(Zh0 m st bd tp).lookup ("many" : Str)=some (.int m):=by
 unfold Zh0;rw[Zar,if_neg (by decide),Zar,if_neg (by decide),Zar,if_neg (by decide),Zar,if_pos rfl]
theorem ZwX (m st bd:Int) (tp:Addr):(Zh0 m st bd tp).lookup ("starts" : Str)=some (.int st):=by
 unfold Zh0;rw[Zar,if_neg (by decide),Zar,if_neg (by decide),Zar,if_pos rfl]
theorem ZBD (m st bd:Int) (tp:Addr):(Zh0 m st bd tp).lookup ("bads" : Str)=some (.int bd):=by
 unfold Zh0;rw[Zar,if_neg (by decide),Zar,if_pos rfl]
theorem ZBB (s k:Nat):(!decide (Builtin.bitAnd ((s:Int) / 2 ^ ((k:Int)).toNat) 1=0))=s.testBit k:=by
 rw[ZBC]
 cases s.testBit k <;> rfl
theorem ZA6 {af:List Nat} {i:Nat} {v:V} (h:((nums af).map V.int)[i]?=some v):i < af.length∧v=.int ((af.getD i 0:Nat):Int):=by
 have hi:i < af.length:=by
  have:=(List.getElem?_eq_some_iff.mp h).1;rw[Zj7]at this;exact this
 rw[ZtS hi]at h;exact⟨hi,(Option.some.inj h).symm⟩
def ZxO (t:Ad):Sp:=fun vs H Q _=>∃(p:Addr) (m st bd:Int) (af:List Nat) (s:Nat),vs=[.ref p,.int (s:Int)]∧ZhN t H p m st bd af∧∀H',Same H H'→Q (.int ((ahN af s:Nat):Int)) H'
theorem ZnZ (T:Txt K mg t):MeS P w K mg base 1 t.ZaV "ahead" ["self","crowd"] (spAt (ZxO t) t.ZaV):=by
 refine⟨T.Zgu,_,_,T.ZcE.ok Zdc (fun vs H Q E h=>?_) (fun cdv A outer s H vs Q E hr h=>?_),T.ZjQ,T.Zj0⟩
 ·obtain⟨⟨p,m,st,bd,af,s,rfl,_⟩,_⟩:=h
  rfl
 obtain⟨⟨p,m,st,bd,af,n,rfl,hc,q⟩,_⟩:=h;obtain⟨dx,tp,e1,e2⟩:=hc
 refine⟨_,(Zab (ss 2 Zdc.nd Zac)
   (Zab (ZaS PassesOwn.never rfl (Ztk rfl T.B.enumerate (Zbi (pv 0) rfl)) (Znn rfl (Zco (sg 3 Zdc.nd) (Zco (sg 4 Zdc.nd) Zjw)))
   (Zae (ZaB (ZaL (Zai ZlM (Zai ZAv (pv 1) (pv 3)) Zac) (fun _=>rfl))
   (Zae (ss 2 Zdc.nd (Zai ZlY (pv 2) (pv 4))))
   Zap)))
   (Zae (Zao (pv 2))))),?_⟩
 walk_at "rd0";refine⟨p,_,_,_,_,rfl,e1,T.Zgu,T.Zd5,ZyP _ _ _ _,?_⟩;refine ZEA (xs:=(nums af).map V.int) (fun i σ H'=>Same H H'∧∃v v',σ=[some (.ref p),some (.int (n:Int)),some (.int ((orUp (fun k=>if n.testBit k=true then af.getD k 0 else 0) i:Nat):Int)),v,v']) ⟨Same.refl _,_,_,rfl⟩ (fun i σ H' _ hp=>SqT.of (hp.1 _ _ e2)) ?_ ?_
 ·rintro i x T' σ H0 H' hx ⟨s1,v,v',rfl⟩ s2 n2 eT
  obtain⟨hi,rfl⟩:=ZA6 hx;refine ZsH eT ?_;walk_at "";rw[ZBB];refine ZnR (fun h1=>?_) (fun h1=>?_)
  ·walk_at ""
   rw[Zjf];refine⟨s1.trans s2,some (.int (i:Int)),some (.int ((af.getD i 0:Nat):Int)),?_⟩
   have e:orUp (fun k=>if n.testBit k=true then af.getD k 0 else 0) (i+1)=orUp (fun k=>if n.testBit k=true then af.getD k 0 else 0) i ||| af.getD i 0:=by
    show orUp _ i ||| (if n.testBit i=true then af.getD i 0 else 0)=_
    rw[if_pos h1]
   rw[e]
   all_goals rfl
  ·walk_at ""
   refine⟨s1.trans s2,some (.int (i:Int)),some (.int ((af.getD i 0:Nat):Int)),?_⟩;rw[Znj (n:=i) (show(if n.testBit i=true then af.getD i 0 else 0)=0 by rw[h1,if_neg Bool.false_ne_true])]
   all_goals rfl
 ·rintro σ H' ⟨s1,v,v',rfl⟩
  rw[Zj7];walk_at "";exact q H' s1
theorem ZuG (T:Txt K mg t):∀C,isCh t C→MeS P w K mg base 1 C "ahead" ["self","crowd"] (spAt (ZxO t) C):=by
 rintro C rfl;exact ZnZ T
end
theorem ZBW {f:Nat→Bool} {n:Nat} (h:f n=true):Builtin.bitOr ((bits f n:Nat):Int) (1 * 2 ^ (((0:Int)+(n:Int))).toNat)=((bits f (n+1):Nat):Int):=by
 have e:(1:Int) * 2 ^ (((0:Int)+(n:Int))).toNat=((2 ^ n:Nat):Int):=by
  rw[Int.zero_add]; exact Zbj n
 rw[e,Zjf,Zsl f n h]
section
variable {P:Program} {w:World} {K:W.Frag} {mg:Str→Option Value} {base:Heap} {t:Ad} {n:Nat}
def Ze7 (t:Ad) (n:Nat):Sp:=fun vs H Q _=>∃(p:Addr) (m:Nat) (f:Fm),vs=[.ref p,.int (m:Int)]∧m≤6∧FmAt t H n p f∧Q (.int ((f.crowd (2 ^ m):Nat):Int)) H
theorem Zpq (T:Txt K mg t):MeS P w K mg base (n+2) t.Zbg "crowd" ["self","many"] (spAt (Ze7 t (n+1)) t.Zbg):=by
 refine⟨T.Zmy,_,_,T.Zdq.ok Zfn (fun vs H Q E h=>?_) (fun cdv A outer s H vs Q E hr h=>?_),T.ZhQ,T.Zh2⟩
 ·obtain⟨⟨p,m,f,rfl,_⟩,_⟩:=h
  rfl
 ·obtain⟨⟨p,m,f,rfl,hm,hf,q⟩,a,dx,fs,r,e,ea⟩:=h
  cases e
  have D_holds:=ZiF (P:=P) (w:=w) (base:=base) T (n+1);have hp:=ZbV hm;have hp0:=Int.natCast_nonneg (2 ^ m)
  refine⟨_,(Zab (ss 2 Zfn.nd Zac)
   (Zab (ZaS PassesOwn.never rfl (ZaZ rfl T.B.range (Zaa (Zai Zba Zac (pv 1)) Zad)) (sg 3 Zfn.nd)
   (Zae (ZaB (ZaL (ZfS D_holds hr (pv 0) (Zaa (pv 3) Zad)) (fun _=>rfl))
   (Zae (ss 2 Zfn.nd (Zai ZlY (pv 2) (Zai Zba Zac (pv 3)))))
   Zap)))
   (Zae (Zao (pv 2))))),?_⟩
  walk_at "rd0";rw[Zbj];refine⟨_,rfl,by omega,by omega,?_⟩;rw[Int.toNat_natCast];refine ZFm (fun i σ H'=>H'=H∧∃v,σ=[some (.ref p),some (.int (m:Int)),some (.int ((f.crowd i:Nat):Int)),v]) ⟨rfl,_,rfl⟩ ?_ ?_
  ·rintro i σ H' hi ⟨rfl,v,rfl⟩
   obtain⟨C,dx',fs',e',hC,hl⟩:=hf.ins "holds" (by decide +kernel) (by decide +kernel) (by decide +kernel) (by decide +kernel);walk_at "";refine⟨p,C,dx',fs',rfl,e',hC,hl,?_⟩;walk_at "";have ei:(0:Int)+(i:Int)=((i:Nat):Int):=Int.zero_add _;refine⟨e',p,i,f,by rw[ei],hf,?_⟩;walk_at "";refine ZnR (fun hb=>?_) (fun hb=>?_)
   ·walk_at ""
    refine⟨rfl,some (.int (0+(i:Int))),?_⟩;have e2:=ZBW (f:=fun s=>f.holds s) (n:=i) hb;unfold Fm.crowd;rw[e2]
    all_goals rfl
   ·walk_at ""
    refine⟨rfl,some (.int (0+(i:Int))),?_⟩;unfold Fm.crowd;rw[Zv3 (fun s=>f.holds s) i hb]
    all_goals rfl
  ·rintro σ H' ⟨rfl,v,rfl⟩
   walk_at "";exact q
theorem Zps (T:Txt K mg t):MeS P w K mg base (n+2) t.Zbh "crowd" ["self","many"] (spAt (Ze7 t (n+1)) t.Zbh):=by
 refine⟨T.Zlu,_,_,T.Zds.ok ZpO (fun vs H Q E h=>?_) (fun cdv A outer s H vs Q E hr h=>?_),T.ZhU,T.Zh6⟩
 ·obtain⟨⟨p,m,f,rfl,_⟩,_⟩:=h
  rfl
 ·obtain⟨⟨p,m,f,rfl,hm,hf,q⟩,a,dx,fs,r,e,ea⟩:=h
  cases e
  obtain⟨b,rfl,rfl⟩:=hf.sure T ea;have ZbD:=ZcX (P:=P) (w:=w) (base:=base) T;rw[Zon]at q;refine⟨_,(Zae (Zao (Zl9 (ZaL (Zbi (pv 0) rfl) (fun _=>rfl)) (ZaE ZbD hr (Zaa (pv 1) Zad)) Zac))),?_⟩;walk_at "rd0";refine⟨p,_,_,_,_,rfl,ea,T.Zlu,T.ZdS,lk1 _ _,?_⟩;walk_at "";refine ZnR (fun hb=>?_) (fun hb=>?_)
  ·subst hb
   walk_at "";exact⟨m,rfl,hm,q⟩
  ·subst hb
   walk_at "";exact q
theorem Zrv (T:Txt K mg t) (D_crowd:∀C,isFm t C→MeS P w K mg base (n+1) C "crowd" ["self","many"] (spAt (Ze7 t n) C)):MeS P w K mg base (n+2) t.C_Not "crowd" ["self","many"] (spAt (Ze7 t (n+1)) t.C_Not):=by
 refine⟨T.c_Not,_,_,T.Zeo.ok ZrJ (fun vs H Q E h=>?_) (fun cdv A outer s H vs Q E hr h=>?_),T.Zjk,T.Zjq⟩
 ·obtain⟨⟨p,m,f,rfl,_⟩,_⟩:=h
  rfl
 ·obtain⟨⟨p,m,f,rfl,hm,hf,q⟩,a,dx,fs,r,e,ea⟩:=h
  cases e
  have ZbD:=ZcX (P:=P) (w:=w) (base:=base) T;obtain⟨g,p',rfl,rfl,hg⟩:=hf.neg T ea;obtain⟨C,dx',fs',e',hC,hl⟩:=hg.ins "crowd" (by decide +kernel) (by decide +kernel) (by decide +kernel) (by decide +kernel);refine⟨_,(Zae (Zao (Zai ZoD (ZaE ZbD hr (Zaa (pv 1) Zad)) (ZfS D_crowd hr (Zbi (pv 0) rfl) (Zaa (pv 1) Zad))))),?_⟩;walk_at "rd0";refine⟨m,rfl,hm,?_⟩;walk_at "";refine⟨p,_,_,_,_,rfl,ea,T.c_Not,T.ZfH,lk1 _ _,?_⟩;walk_at "";refine⟨p',C,dx',fs',rfl,e',hC,hl,?_⟩;walk_at "";refine⟨e',p',m,g,rfl,hm,hg,?_⟩;walk_at "";rw[Zqy]at q;rw[ZtB];exact q
theorem Zrt (T:Txt K mg t) (D_crowd:∀C,isFm t C→MeS P w K mg base (n+1) C "crowd" ["self","many"] (spAt (Ze7 t n) C)):MeS P w K mg base (n+2) t.C_And "crowd" ["self","many"] (spAt (Ze7 t (n+1)) t.C_And):=by
 refine⟨T.c_And,_,_,T.Zel.ok Zgq (fun vs H Q E h=>?_) (fun cdv A outer s H vs Q E hr h=>?_),T.Zji,T.Zjo⟩
 ·obtain⟨⟨p,m,f,rfl,_⟩,_⟩:=h
  rfl
 ·obtain⟨⟨p,m,f,rfl,hm,hf,q⟩,a,dx,fs,r,e,ea⟩:=h
  cases e
  have ZbD:=ZcX (P:=P) (w:=w) (base:=base) T;obtain⟨gs,tp,ps,rfl,rfl,htp,hg⟩:=hf.join (w:=.a) T ea
  refine⟨_,(Zab (ss 2 Zgq.nd (ZaE ZbD hr (Zaa (pv 1) Zad)))
   (Zab (ZaS PassesOwn.never rfl (Za6 (Zbi (pv 0) rfl)) (sg 3 Zgq.nd)
   (Zae (ss 2 Zgq.nd (Zai ZlM (pv 2) (ZfS D_crowd hr (pv 3) (Zaa (pv 1) Zad))))))
   (Zae (Zao (pv 2))))),?_⟩
  walk_at "rd0";refine⟨m,rfl,hm,?_⟩;walk_at "";refine⟨p,_,_,_,_,rfl,ea,T.c_And,T.ZeJ,lk1 _ _,?_⟩;refine seqT (xs:=ps.map V.ref) (fun i σ H'=>H'=H∧∃v,σ=[some (.ref p),some (.int (m:Int)),some (.int (((Fm.join .a (gs.take i)).crowd (2 ^ m):Nat):Int)),v]) ⟨rfl,_,by rw[take_zero,Zgw]; simp only [Zx8]; rw[Zmw]; all_goals rfl⟩ (fun i σ H' _ hp=>by obtain⟨rfl,_⟩:=hp; exact SqT.of htp) ?_ ?_
  ·rintro i x σ H' hx ⟨rfl,v,rfl⟩
   obtain⟨p',rfl,hx'⟩:=Zbf hx;obtain⟨g,hgi,hf'⟩:=Zbt hg hx';obtain⟨C,dx',fs',e',hC,hl⟩:=hf'.ins "crowd" (by decide +kernel) (by decide +kernel) (by decide +kernel) (by decide +kernel);walk_at "";refine⟨p',C,dx',fs',rfl,e',hC,hl,?_⟩;walk_at "";refine⟨e',p',m,g,rfl,hm,hf',?_⟩;walk_at "";refine⟨rfl,some (.ref p'),?_⟩;rw[Zkv,ZaD hgi,ZdW]
   all_goals rfl
  ·rintro σ H' ⟨rfl,v,rfl⟩
   walk_at "";rw[length_map,Zak hg,take_length];exact q
theorem Znd (T:Txt K mg t) (D_crowd:∀C,isFm t C→MeS P w K mg base (n+1) C "crowd" ["self","many"] (spAt (Ze7 t n) C)):MeS P w K mg base (n+2) t.ZaH "crowd" ["self","many"] (spAt (Ze7 t (n+1)) t.ZaH):=by
 refine⟨T.Zf2,_,_,T.Zca.ok Zeb (fun vs H Q E h=>?_) (fun cdv A outer s H vs Q E hr h=>?_),T.Zgs,T.Zgx⟩
 ·obtain⟨⟨p,m,f,rfl,_⟩,_⟩:=h
  rfl
 ·obtain⟨⟨p,m,f,rfl,hm,hf,q⟩,a,dx,fs,r,e,ea⟩:=h
  cases e
  have ZbD:=ZcX (P:=P) (w:=w) (base:=base) T;obtain⟨gs,tp,ps,rfl,rfl,htp,hg⟩:=hf.join (w:=.e) T ea
  refine⟨_,(Zab (ss 2 Zeb.nd Zac)
   (Zab (ZaS PassesOwn.never rfl (Za6 (Zbi (pv 0) rfl)) (sg 3 Zeb.nd)
   (Zae (ss 2 Zeb.nd (Zai ZoD (pv 2) (ZfS D_crowd hr (pv 3) (Zaa (pv 1) Zad))))))
   (Zae (Zao (pv 2))))),?_⟩
  walk_at "rd0";refine⟨p,_,_,_,_,rfl,ea,T.Zf2,T.Zcj,lk1 _ _,?_⟩;refine seqT (xs:=ps.map V.ref) (fun i σ H'=>H'=H∧∃v,σ=[some (.ref p),some (.int (m:Int)),some (.int (((Fm.join .e (gs.take i)).crowd (2 ^ m):Nat):Int)),v]) ⟨rfl,_,by rw[take_zero,Zgw]; simp only [Zx8]; rw[Zky]; all_goals rfl⟩ (fun i σ H' _ hp=>by obtain⟨rfl,_⟩:=hp; exact SqT.of htp) ?_ ?_
  ·rintro i x σ H' hx ⟨rfl,v,rfl⟩
   obtain⟨p',rfl,hx'⟩:=Zbf hx;obtain⟨g,hgi,hf'⟩:=Zbt hg hx';obtain⟨C,dx',fs',e',hC,hl⟩:=hf'.ins "crowd" (by decide +kernel) (by decide +kernel) (by decide +kernel) (by decide +kernel);walk_at "";refine⟨p',C,dx',fs',rfl,e',hC,hl,?_⟩;walk_at "";refine⟨e',p',m,g,rfl,hm,hf',?_⟩;walk_at "";refine⟨rfl,some (.ref p'),?_⟩;rw[ZtB,ZaD hgi,ZdW]
   all_goals rfl
  ·rintro σ H' ⟨rfl,v,rfl⟩
   walk_at "";rw[length_map,Zak hg,take_length];exact q
theorem Zs7 (T:Txt K mg t) (D_crowd:∀C,isFm t C→MeS P w K mg base (n+1) C "crowd" ["self","many"] (spAt (Ze7 t n) C)):MeS P w K mg base (n+2) t.C_Or "crowd" ["self","many"] (spAt (Ze7 t (n+1)) t.C_Or):=by
 refine⟨T.c_Or,_,_,T.Zfq.ok Zhy (fun vs H Q E h=>?_) (fun cdv A outer s H vs Q E hr h=>?_),T.Zkw,T.ZkI⟩
 ·obtain⟨⟨p,m,f,rfl,_⟩,_⟩:=h
  rfl
 ·obtain⟨⟨p,m,f,rfl,hm,hf,q⟩,a,dx,fs,r,e,ea⟩:=h
  cases e
  have ZbD:=ZcX (P:=P) (w:=w) (base:=base) T;obtain⟨gs,tp,ps,rfl,rfl,htp,hg⟩:=hf.join (w:=.o) T ea
  refine⟨_,(Zab (ss 2 Zhy.nd Zac)
   (Zab (ZaS PassesOwn.never rfl (Za6 (Zbi (pv 0) rfl)) (sg 3 Zhy.nd)
   (Zae (ss 2 Zhy.nd (Zai ZlY (pv 2) (ZfS D_crowd hr (pv 3) (Zaa (pv 1) Zad))))))
   (Zae (Zao (pv 2))))),?_⟩
  walk_at "rd0";refine⟨p,_,_,_,_,rfl,ea,T.c_Or,T.ZfI,lk1 _ _,?_⟩;refine seqT (xs:=ps.map V.ref) (fun i σ H'=>H'=H∧∃v,σ=[some (.ref p),some (.int (m:Int)),some (.int (((Fm.join .o (gs.take i)).crowd (2 ^ m):Nat):Int)),v]) ⟨rfl,_,by rw[take_zero,Zgw]; simp only [Zx8]; rw[Zky]; all_goals rfl⟩ (fun i σ H' _ hp=>by obtain⟨rfl,_⟩:=hp; exact SqT.of htp) ?_ ?_
  ·rintro i x σ H' hx ⟨rfl,v,rfl⟩
   obtain⟨p',rfl,hx'⟩:=Zbf hx;obtain⟨g,hgi,hf'⟩:=Zbt hg hx';obtain⟨C,dx',fs',e',hC,hl⟩:=hf'.ins "crowd" (by decide +kernel) (by decide +kernel) (by decide +kernel) (by decide +kernel);walk_at "";refine⟨p',C,dx',fs',rfl,e',hC,hl,?_⟩;walk_at "";refine⟨e',p',m,g,rfl,hm,hf',?_⟩;walk_at "";refine⟨rfl,some (.ref p'),?_⟩;rw[Zjf,ZaD hgi,ZdW]
   all_goals rfl
  ·rintro σ H' ⟨rfl,v,rfl⟩
   walk_at "";rw[length_map,Zak hg,take_length];exact q
theorem Zn8 (T:Txt K mg t):∀n:Nat,∀C,isFm t C→MeS P w K mg base (n+1) C "crowd" ["self","many"] (spAt (Ze7 t n) C)
 | 0=>by
  have no:∀C vs H Q E,¬spAt (Ze7 t 0) C vs H Q E:=fun C vs H Q E h=>by
   obtain⟨⟨p,s,f,_,_,h,_⟩,_⟩:=h;exact h
  rintro C (rfl | rfl | rfl | rfl | rfl | rfl)
  ·exact(Ze3 (no _) T.Zmy T.ZhQ T.Zh2).up (by omega)
  ·exact(Ze3 (no _) T.Zlu T.ZhU T.Zh6).up (by omega)
  ·exact(Ze3 (no _) T.c_Not T.Zjk T.Zjq).up (by omega)
  ·exact(Ze3 (no _) T.c_And T.Zji T.Zjo).up (by omega)
  ·exact(Ze3 (no _) T.Zf2 T.Zgs T.Zgx).up (by omega)
  ·exact(Ze3 (no _) T.c_Or T.Zkw T.ZkI).up (by omega)
 | n+1=>by
  have ih:=Zn8 T n;rintro C (rfl | rfl | rfl | rfl | rfl | rfl)
  ·exact Zpq T
  ·exact Zps T
  ·exact Zrv T ih
  ·exact Zrt T ih
  ·exact Znd T ih
  ·exact Zs7 T ih
end
def Lt (z:Str):Prop:=∀c∈z.cps.toList,97≤c∧c≤122
theorem Zl5 {z:Str} (h:Lt z) (lo hi:Option Int):Lt (Txt.slice z lo hi):=by
 unfold Txt.slice
 split
 ·exact h
 ·intro c hc
  have hc:c∈(Builtin.Str.strSliceIndices lo hi 1 z.length).filterMap (z.cps[·]?):=by simpa using hc
  obtain⟨i,_,e⟩:=List.mem_filterMap.mp hc;obtain⟨hi,e⟩:=Array.getElem?_eq_some_iff.mp e;exact h c (by rw[←e]; simp)
theorem ZgR {x y:Str} (hx:Lt x) (hy:Lt y):Lt (x++y):=by
 intro c hc;have hc:c∈(x.cps++y.cps).toList:=hc;rw[Array.toList_append,mem_append]at hc;exact hc.elim (hx c) (hy c)
theorem Zt8 {k:Nat} (h:k < 26):Lt ⟨#[97+k]⟩:=by
 intro c hc;have hc:c∈[97+k]:=hc;rw[mem_singleton.mp hc];omega
def abc:Str:="abcdefghijklmnopqrstuvwxyz"
theorem ZwW:∀k,k < 26→abc.cps.toList[k]?=some (97+k):=by decide +kernel
theorem ZyO:∀k,k < 26→Txt.find abc ⟨#[97+k]⟩=(k:Int):=by decide +kernel
theorem Zsy {z:Str} {k:Nat} (h:k < z.length):∃c,z.cps.toList[k]?=some c:=by
 have h:k < z.cps.toList.length:=by simpa [Str.length] using h
 exact⟨_,List.getElem?_eq_getElem h⟩
theorem Zxw {α:Type} [DecidableEq α] (f:Nat→α):∀(k:Nat) (L:List α),(∀i,i < k→f i∈L)→(∀i j,i < j→j < k→f i≠f j)→k≤L.length
 | 0,_,_,_=>Nat.zero_le _
 | k+1,L,h,d=>by
  have hk:=h k (by omega);have:=Zxw f k (L.erase (f k)) (fun i hi=>(List.mem_erase_of_ne (d i k hi (by omega))).mpr (h i (by omega))) (fun i j hij hj=>d i j hij (by omega));rw[List.length_erase_of_mem hk]at this;have:0 < L.length:=List.length_pos_of_mem hk;omega
def rot (u:Str) (c j:Nat):Str:=u++⟨#[97+(c+j) % 26]⟩
theorem ZEs {u:Str} {c i j:Nat} (h:i < j) (hj:j < 26):rot u c i≠rot u c j:=by
 intro e;have e:(u.cps ++ #[97+(c+i) % 26])=(u.cps ++ #[97+(c+j) % 26]):=congrArg Str.cps e;have e:=congrArg Array.toList e;rw[Array.toList_append,Array.toList_append]at e;have e:=List.append_cancel_left e;simp at e;omega
theorem Zwf {z:Str} (h:1≤z.length) (hz:Lt z):∃c,c < 26∧z=rot (Txt.slice z none (some (-1))) c 0:=by
 have hl:z.cps.toList.length=z.length:=by simp[Str.length]
 obtain⟨c,hc⟩:=Zsy (z:=z) (k:=z.length - 1) (by omega);have hm:=hz c (mem_of_getElem? hc);refine⟨c - 97,by omega,?_⟩
 have e1:Txt.slice z none (some (-1))=⟨(z.cps.toList.take (z.length - 1)).toArray⟩:=by
  rw[PyProof.Rows.slice_to_neg (by decide)];show StrLaws.sliceText z none (some _)=_;rw[StrLaws.sliceText_to (by constructor <;> omega)];rw[List.drop_zero,show((max 0 ((z.length:Int) + -1)) - 0).toNat=z.length - 1 by omega]
 rw[e1];unfold rot
 have e2:z.cps.toList=z.cps.toList.take (z.length - 1)++[c]:=by
  have:=ZaD hc;rw[show z.length - 1+1=z.cps.toList.length by omega,take_length]at this;exact this
 have e3:97+(c - 97+0) % 26=c:=by omega
 rw[e3];show z=Str.append _ _;unfold Str.append;obtain⟨a⟩:=z
 congr 1
 apply Array.toList_inj.mp;rw[Array.toList_append];exact e2
theorem ZxH (u:Str) (c j:Nat):Txt.slice (rot u c j) none (some (-1))=u:=by
 have hl:(rot u c j).length=u.length+1:=by unfold rot; rw[ZaT]; rfl
 rw[PyProof.Rows.slice_to_neg (by decide)];show StrLaws.sliceText (rot u c j) none (some _)=_
 have hl2:(rot u c j).cps.toList.length=(rot u c j).length:=by simp[Str.length]
 rw[StrLaws.sliceText_to (by constructor <;> omega)];rw[List.drop_zero,show((max 0 (((rot u c j).length:Int) + -1)) - 0).toNat=u.length by omega];obtain⟨a⟩:=u
 congr 1
 show((a ++ #[97+(c+j) % 26]).toList.take a.size).toArray=a;rw[Array.toList_append,show a.size=a.toList.length by simp,take_left]
theorem Zzk (u:Str) (c j:Nat):atI (rot u c j).cps.toList (-1)=some (97+(c+j) % 26):=by
 have e:(rot u c j).cps.toList=u.cps.toList++[97+(c+j) % 26]:=by
  show(u.cps ++ #[97+(c+j) % 26]).toList=_;rw[Array.toList_append]
 rw[e];unfold atI ixN;rw[if_neg (by decide),if_pos (by rw[length_append,length_singleton]; omega)];show(u.cps.toList++[97+(c+j) % 26])[_]?=_;rw[length_append,length_singleton,show(-1+((u.cps.toList.length+1:Nat):Int)).toNat=u.cps.toList.length by omega,List.getElem?_append_right (Nat.le_refl _)];simp
theorem Zj4 (x:Str):∀ns:List Str,inV (.str x) (ns.map V.str)=decide (x∈ns)
 | []=>rfl
 | y::ns=>by
  have ih:=Zj4 x ns;unfold inV at ih ⊢;rw[map_cons,any_cons,ih];have e:eqV (.str y) (.str x)=decide (y=x):=rfl;rw[e]
  by_cases h:y=x
  ·simp[h]
  ·have h' : ¬x=y:=fun z=>h z.symm
   simp[h,h']
section
variable {P:Program} {w:World} {K:W.Frag} {mg:Str→Option Value} {base:Heap} {t:Ad} {n:Nat}
theorem ZyD {p:Addr} {x:Str} {ns:List Str} {H:Hp} {Q:VK} (h:H p=some (.lst (ns.map V.str))∨H p=some (.tup (ns.map V.str))) (k:Q (.bl (decide (x∈ns))) H):rInG K (.str x) (.ref p) H Q:=by
 refine .inr ⟨p,ns.map V.str,rfl,h.imp SqL.of SqT.of,rfl,?_,?_⟩
 ·rw[all_eq_true]
  intro v hv;obtain⟨z,_,rfl⟩:=mem_map.mp hv;rfl
 ·rw[Zj4]
  exact k
theorem ZFb {x:Int} {H:Hp} {Q:VK} (h:∀e,e < 26→Q (.str ⟨#[97+e]⟩) H):rIx K (.str "abcdefghijklmnopqrstuvwxyz") (.int (x % 26)) H Q:=by
 obtain⟨e,he,he26⟩ : ∃e:Nat,x % 26=(e:Int)∧e < 26:=⟨(x % 26).toNat,by omega,by omega⟩;rw[he];exact Zve (by decide) (ZgY (ZwW e he26)) (h e he26)
end
def jn (z:List Nat):List (List Nat)→List Nat
 | []=>[]
 | [p]=>p
 | p::q::r=>p++z++jn z (q::r)
theorem list_append (x y:Str):(x++y).cps.toList=x.cps.toList++y.cps.toList:=by
 show(x.cps++y.cps).toList=_;rw[Array.toList_append]
theorem ZmT (z:Str):∀ps:List Str,(Str.join z ps).cps.toList=jn z.cps.toList (ps.map fun p=>p.cps.toList)
 | []=>rfl
 | [p]=>rfl
 | p::q::r=>by
  show(p++z++Str.join z (q::r)).cps.toList=_;rw[list_append,list_append,ZmT z (q::r)];rfl
def rp (c:Nat) (z l:List Nat):List Nat:=l.flatMap fun d=>if d=c then z else [d]
theorem Zii (c:Nat) (z a b:List Nat):rp c z (a++b)=rp c z a++rp c z b:=by
 unfold rp; rw[List.flatMap_append]
theorem ZkZ {c:Nat} {z:List Nat}:∀{p:List Nat},c∉p→rp c z p=p
 | [],_=>rfl
 | d::p,h=>by
  have h1 : ¬d=c:=fun e=>h (by rw[e]; exact mem_cons_self);have h2:c∉p:=fun e=>h (mem_cons_of_mem _ e);show(if d=c then z else [d])++rp c z p=d::p;rw[if_neg h1,ZkZ h2];rfl
theorem ZEv (c:Nat) (z:List Nat):rp c z [c]=z:=by
 show(if c=c then z else [c])++[]=z;rw[if_pos rfl,append_nil]
theorem ZEt (c:Nat) (z:List Nat):∀ps:List (List Nat),(∀p∈ps,c∉p)→rp c z (jn [c] ps)=jn z ps
 | [],_=>rfl
 | [p],h=>ZkZ (h p mem_cons_self)
 | p::q::r,h=>by
  show rp c z (p++[c]++jn [c] (q::r))=p++z++jn z (q::r);rw[Zii,Zii,ZkZ (h p mem_cons_self),ZEv,ZEt c z (q::r) fun x hx=>h x (mem_cons_of_mem _ hx)]
theorem Zu6 (x:Str) (c:Nat):∀p∈(Txt.split x ⟨#[c]⟩).map fun p=>p.cps.toList,c∉p:=by
 intro p hp;obtain⟨q,hq,rfl⟩:=mem_map.mp hp;exact StrLaws.split_free x c q hq
theorem Zzy (x:Str) (c:Nat):jn [c] ((Txt.split x ⟨#[c]⟩).map fun p=>p.cps.toList)=x.cps.toList:=by
 have e:=ZmT ⟨#[c]⟩ (Txt.split x ⟨#[c]⟩);rw[StrLaws.join_split]at e;exact e.symm
theorem Ze1 (x z:Str) (c:Nat):(Txt.replace x ⟨#[c]⟩ z).cps.toList=rp c z.cps.toList x.cps.toList:=by
 rw[StrLaws.replace_one,ZmT,←ZEt c _ _ (Zu6 x c),Zzy]
theorem ZAC {c:Nat} {z:List Nat} {n:Nat} (hz:z.length≤n) (h1:1≤n):∀l:List Nat,(rp c z l).length≤l.length * n
 | []=>Nat.zero_le _
 | d::l=>by
  have ih:=ZAC (c:=c) hz h1 l;show((if d=c then z else [d])++rp c z l).length≤(l.length+1) * n;rw[length_append,Nat.succ_mul]
  by_cases e:d=c
  ·rw[if_pos e]; omega
  ·rw[if_neg e]; simp only [length_singleton]; omega
theorem ZEu {c:Nat} {z l:List Nat} {d:Nat} (h:d∈rp c z l):d∈l∨d∈z:=by
 unfold rp at h;obtain⟨e,he,hd⟩:=List.mem_flatMap.mp h
 by_cases q:e=c
 ·rw[if_pos q]at hd; exact .inr hd
 ·rw[if_neg q]at hd; rw[mem_singleton.mp hd]; exact .inl he
def wl:List Nat→List Nat→List (List Nat)
 | [],cur=>if cur=[] then [] else [cur]
 | c::cs,cur=>if c=32 then(if cur=[] then wl cs [] else cur::wl cs []) else wl cs (cur++[c])
open StrLaws Builtin.Str in
def SwIs (x:Str) (cur:Nat) (st:SwSt):Prop:=
 st.fst=none∧(∀p∈st.snd.fst.toList,p.2≤x.length)∧
 match st.snd.snd with
 | some b=>b < cur∧wsum st.snd.fst.toList≤b∧(st.snd.fst.toList.map fun p:Nat×Nat=>(strSub x p.1 p.2).cps.toList)++wl (x.cps.toList.drop cur) ((x.cps.toList.drop b).take (cur - b))=wl x.cps.toList []
 | none=>wsum st.snd.fst.toList≤cur∧(st.snd.fst.toList.map fun p:Nat×Nat=>(strSub x p.1 p.2).cps.toList)++wl (x.cps.toList.drop cur) []=wl x.cps.toList []
theorem Zyu {l:List Nat} {k c:Nat} (h:l[k]?=some c):l.drop k=c::l.drop (k+1):=by
 obtain⟨hk,e⟩:=List.getElem?_eq_some_iff.mp h;rw[List.drop_eq_getElem_cons hk,e]
theorem ZuC {l:List Nat} {b k c:Nat} (hb:b≤k) (h:l[k]?=some c):(l.drop b).take (k+1 - b)=(l.drop b).take (k - b)++[c]:=by
 have e:k+1 - b=(k - b)+1:=by omega
 rw[e,List.take_add_one,List.getElem?_drop,show b+(k - b)=k by omega,h];rfl
open StrLaws Builtin.Str in
theorem Znw (x:Str) (hsp:∀c∈x.cps.toList,Unicode.isSpace c=decide (c=32)):∀(m cur:Nat) (st:SwSt),cur+m≤x.length→SwIs x cur st→SwIs x (cur+m) (forIn (List.range' cur m) st (swBody x (x.length+1))).run
 | 0,cur,st,_,h=>h
 | m+1,cur,(r,words,sta),hm,h=>by
  rw[List.range'_succ,List.forIn_cons]
  have e:cur+(m+1)=(cur+1)+m:=by omega
  rw[e];obtain⟨h1,h2,h3⟩:=h
  have hcs:cur < x.cps.size:=by show cur < x.length; omega
  have hcl:x.cps.toList[cur]?=some x.cps[cur]:=by rw[Array.getElem?_toList]; simp[hcs]
  have hc0:x.cps.getD cur 0=x.cps[cur]:=by simp[Array.getD,hcs]
  have hs:Unicode.isSpace (x.cps.getD cur 0)=decide (x.cps[cur]=32):=by rw[hc0]; exact hsp _ (mem_of_getElem? hcl)
  have hd:=Zyu hcl
  have hsz : ¬((words.size == x.length+1)=true):=by
   have a:=len_le_wsum words.toList
   have b:words.toList.length=words.size:=by simp
   have c:wsum words.toList≤cur:=by
    cases sta with
    | none=>exact h3.1
    | some b=>exact Nat.le_trans h3.2.1 (Nat.le_of_lt h3.1)
   rw[beq_iff_eq]; omega
  unfold swBody;simp only [hsz,if_false];rw[hs]
  cases sta with
  | none=>
   obtain⟨g1,g2⟩:=h3;rw[hd]at g2
   by_cases q:x.cps[cur]=32
   ·rw[decide_eq_true q]
    refine Znw x hsp m (cur+1) _ (by omega) ⟨rfl,h2,Nat.le_succ_of_le g1,?_⟩;rw[show wl (x.cps[cur]::x.cps.toList.drop (cur+1)) []=wl (x.cps.toList.drop (cur+1)) [] by show(if x.cps[cur]=32 then _ else _)=_; rw[if_pos q]; rfl]at g2;exact g2
   ·rw[decide_eq_false q]
    refine Znw x hsp m (cur+1) _ (by omega) ⟨rfl,h2,Nat.lt_succ_self _,g1,?_⟩;rw[show wl (x.cps[cur]::x.cps.toList.drop (cur+1)) []=wl (x.cps.toList.drop (cur+1)) [x.cps[cur]] by show(if x.cps[cur]=32 then _ else _)=_; rw[if_neg q]; rfl]at g2;rw[ZuC (Nat.le_refl cur) hcl,Nat.sub_self,take_zero];exact g2
  | some b=>
   obtain⟨g0,g1,g2⟩:=h3;have g0:b < cur:=g0;have g1:wsum words.toList≤b:=g1;rw[hd]at g2
   have hne:(x.cps.toList.drop b).take (cur - b)≠[]:=by
    intro z;have:=congrArg List.length z;rw[length_take,length_drop,Array.length_toList]at this;simp only [length_nil]at this;omega
   by_cases q:x.cps[cur]=32
   ·rw[decide_eq_true q]
    refine Znw x hsp m (cur+1) _ (by omega) ⟨rfl,?_,?_,?_⟩
    ·intro p hp
     rw[Array.toList_push,mem_append,mem_singleton]at hp
     rcases hp with hp | rfl
     ·exact h2 p hp
     ·show cur≤x.length; omega
    ·show wsum (words.push (b,cur)).toList≤cur+1
     rw[Array.toList_push,wsum_snoc];show wsum words.toList+(cur - b+1)≤cur+1;omega
    ·show((words.push (b,cur)).toList.map fun p:Nat×Nat=>(strSub x p.1 p.2).cps.toList)++wl (x.cps.toList.drop (cur+1)) []=_
     rw[show wl (x.cps[cur]::x.cps.toList.drop (cur+1)) ((x.cps.toList.drop b).take (cur - b))=((x.cps.toList.drop b).take (cur - b))::wl (x.cps.toList.drop (cur+1)) [] by show(if x.cps[cur]=32 then(if _=[] then _ else _) else _)=_; rw[if_pos q,if_neg hne]]at g2;rw[Array.toList_push,map_append,append_assoc,←g2]
     congr 1
     show [(strSub x b cur).cps.toList]++_=_;rw[strSub_toList];rfl
   ·rw[decide_eq_false q]
    refine Znw x hsp m (cur+1) _ (by omega) ⟨rfl,h2,Nat.lt_succ_of_lt g0,g1,?_⟩;rw[show wl (x.cps[cur]::x.cps.toList.drop (cur+1)) ((x.cps.toList.drop b).take (cur - b))=wl (x.cps.toList.drop (cur+1)) ((x.cps.toList.drop b).take (cur - b)++[x.cps[cur]]) by show(if x.cps[cur]=32 then _ else _)=_; rw[if_neg q]]at g2;rw[ZuC (Nat.le_of_lt g0) hcl];exact g2
open StrLaws Builtin.Str in
theorem ZtA (x:Str) (hsp:∀c∈x.cps.toList,Unicode.isSpace c=decide (c=32)):(Txt.words x).map (fun p=>p.cps.toList)=wl x.cps.toList []:=by
 have key:(wordsOf x).map (fun p=>p.cps.toList)=wl x.cps.toList []:=by
  unfold wordsOf;rw[sw_eq];have k:=Znw x hsp x.length 0 ((none,#[],none):SwSt) (by omega) ⟨rfl,fun p hp=>by simp at hp,Nat.le_refl 0,rfl⟩;rw[Nat.zero_add]at k;generalize (forIn (List.range' 0 x.length) ((none,#[],none):SwSt) (swBody x (x.length+1))).run=st at k;obtain⟨r,words,sta⟩:=st;obtain⟨h1,h2,h3⟩:=k;have h1':r=none:=h1;subst h1';have hdr:x.cps.toList.drop x.length=[]:=List.drop_of_length_le (by rw[Array.length_toList]; exact Nat.le_refl _);unfold swEnd
  cases sta with
  | none=>
   obtain⟨g1,g2⟩:=h3;rw[hdr]at g2;rw[map_map];rw[←g2];show _=_++[];rw[append_nil];rfl
  | some b=>
   obtain⟨g0,g1,g2⟩:=h3;have g0:b < x.length:=g0;rw[hdr]at g2
   have hne:(x.cps.toList.drop b).take (x.length - b)≠[]:=by
    intro z;have:=congrArg List.length z;rw[length_take,length_drop,Array.length_toList]at this;simp only [length_nil]at this;have e:x.cps.size=x.length:=rfl;omega
   show((words.push (b,x.length)).toList.map _).map _=_;rw[Array.toList_push,map_append,map_append,map_map,←g2]
   congr 1
   show [(strSub x b x.length).cps.toList]=if _=[] then [] else _;rw[if_neg hne,strSub_toList]
 unfold Txt.words
 split
 ·rename_i hw
  have e:spaceWords x (x.length+1)=[(0,x.length)]:=eq_of_beq hw;unfold wordsOf at key;rw[e]at key;rw[←key];show [x.cps.toList]=[(strSub x 0 x.length).cps.toList];rw[sub_whole]
 ·exact key
theorem Zrl:∀{a b:List Str},a.map (fun p=>p.cps.toList)=b.map (fun p=>p.cps.toList)→a=b
 | [],[],_=>rfl
 | [],_::_,h=>by cases h
 | _::_,[],h=>by cases h
 | x::a,y::b,h=>by
  have h1:x.cps.toList=y.cps.toList:=(List.cons.inj h).1;have h2:=Zrl (List.cons.inj h).2
  have:x=y:=by
   cases x; cases y
   simp only [Str.mk.injEq];exact Array.toList_inj.mp h1
  rw[this,h2]
structure Lv where
 nots:Nat
 ands:List Fm
 eithers:List Fm
 ors:List Fm
 lack:Bool
def Lv.new:Lv:=⟨0,[],[],[],true⟩
def Lv.size (L:Lv):Nat:=L.nots+L.ands.length+L.eithers.length+L.ors.length
def negs:Nat→Fm→Fm
 | 0,f=>f
 | n+1,f=>.neg (negs n f)
def ZbY (w:W3):List Fm→Fm
 | [f]=>f
 | fs=>.join w fs
theorem Zj5 {w:W3} {fs:List Fm} (h:fs.length≠1):ZbY w fs=.join w fs:=by
 match fs,h with
 | [],_=>rfl
 | [f],h=>exact absurd rfl h
 | _::_::_,_=>rfl
def Lv.part (L:Lv) (f:Fm):Lv:=⟨0,L.ands++[negs L.nots f],L.eithers,L.ors,false⟩
def Lv.join (L:Lv):W3→Lv
 | .a=>⟨L.nots,L.ands,L.eithers,L.ors,true⟩
 | .e=>⟨L.nots,[],L.eithers++[ZbY .a L.ands],L.ors,true⟩
 | .o=>⟨L.nots,[],[],L.ors++[ZbY .e (L.eithers++[ZbY .a L.ands])],true⟩
def Lv.whole (L:Lv):Fm:=ZbY .o (L.join .o).ors
def kw3:W3→Str
 | .a=>"and"
 | .e=>"either"
 | .o=>"or"
def idxS (z:Str):List Str→Option Nat
 | []=>none
 | n::r=>if n=z then some 0 else(idxS z r).map (· + 1)
theorem Zj3 {z:Str}:∀{ns:List Str} {j:Nat},idxS z ns=some j→ns[j]?=some z∧∀m,m < j→ns[m]?≠some z
 | [],_,h=>by cases h
 | n::r,j,h=>by
  unfold idxS at h
  by_cases e:n=z
  ·rw[if_pos e]at h
   cases h
   subst e;exact⟨rfl,fun m hm=>absurd hm (Nat.not_lt_zero _)⟩
  ·rw[if_neg e]at h
   obtain⟨k,hk,rfl⟩:=Option.map_eq_some_iff.mp h;obtain⟨h1,h2⟩:=Zj3 hk;refine⟨by simpa using h1,fun m hm=>?_⟩
   cases m with
   | zero=>simpa using e
   | succ m=>simpa using h2 m (by omega)
theorem ZqV {z:Str}:∀{ns:List Str},idxS z ns=none→z∉ns
 | [],_=>by simp
 | n::r,h=>by
  unfold idxS at h
  by_cases e:n=z
  ·rw[if_pos e]at h; cases h
  ·rw[if_neg e]at h
   have:=ZqV (Option.map_eq_none_iff.mp h);simp only [mem_cons,not_or];exact⟨fun y=>e y.symm,this⟩
def ZiB (ns:List Str) (z:Str):Option Fm:=if z = "yes" then some (.sure true) else if z = "no" then some (.sure false) else(idxS z ns).map Fm.lamp
def Zvh (z:Str):Option W3:=if z = "and" then some .a else if z = "either" then some .e else if z = "or" then some .o else none
theorem ZyG {z:Str} {w:W3} (h:Zvh z=some w):z=kw3 w:=by
 unfold Zvh at h
 by_cases h1:z = "and"
 ·rw[if_pos h1]at h; cases h; exact h1
 ·rw[if_neg h1]at h
  by_cases h2:z = "either"
  ·rw[if_pos h2]at h; cases h; exact h2
  ·rw[if_neg h2]at h
   by_cases h3:z = "or"
   ·rw[if_pos h3]at h; cases h; exact h3
   ·rw[if_neg h3]at h; cases h
def Lv.word (ns:List Str) (L:Lv) (z:Str):Option Lv:=
 if L.lack=true then(if z = "not" then some ⟨L.nots+1,L.ands,L.eithers,L.ors,L.lack⟩ else(ZiB ns z).map L.part) else(Zvh z).map L.join
def Zc5 (ns:List Str):List Lv→Str→Option (List Lv)
 | [],_=>none
 | L::R,z=>if z = "("∧L.lack=true then some (Lv.new::L::R) else match R with
  | []=>(L.word ns z).map ([·])
  | M::R'=>if z = ")"∧L.lack=false then some (M.part L.whole::R') else(L.word ns z).map (· :: M::R')
def runW (ns:List Str):List Lv→List Str→Option (List Lv)
 | S,[]=>some S
 | S,z::r=>(Zc5 ns S z).bind fun S'=>runW ns S' r
theorem ZfU (ns:List Str):∀(a b:List Str) (S:List Lv),runW ns S (a++b)=(runW ns S a).bind fun S'=>runW ns S' b
 | [],b,S=>rfl
 | z::a,b,S=>by
  show(Zc5 ns S z).bind _=((Zc5 ns S z).bind _).bind _
  cases Zc5 ns S z with
  | none=>rfl
  | some S'=>exact ZfU ns a b S'
def endF:Lv→Option Fm:=fun L=>if L.lack=true then none else some L.whole
def ZkY (ns:List Str) (ws:List Str):Option Fm:=(runW ns [Lv.new] ws).bind fun S=>S.getLast?.bind endF
theorem Zx1 {ns:List Str} {S S':List Lv} {z:Str} {n:Nat} (h:Zc5 ns S z=some S') (hs:∀L∈S,L.size≤n):∀L∈S',L.size≤n+1:=by
 have hp:∀(L:Lv) (f:Fm),L.size≤n→(L.part f).size≤n+1:=fun L f hl=>by
  unfold Lv.size Lv.part at *;simp only [length_append,length_singleton]at *;omega
 have hw:∀(L L':Lv),L.size≤n→L.word ns z=some L'→L'.size≤n+1:=fun L L' hl e=>by
  unfold Lv.word at e
  by_cases h1:L.lack=true
  ·rw[if_pos h1]at e
   by_cases h2:z = "not"
   ·rw[if_pos h2]at e
    cases e
    unfold Lv.size at *
    dsimp only at *
    omega
   ·rw[if_neg h2]at e
    obtain⟨f,_,rfl⟩:=Option.map_eq_some_iff.mp e;exact hp L f hl
  ·rw[if_neg h1]at e
   obtain⟨v,_,rfl⟩:=Option.map_eq_some_iff.mp e
   cases v <;> (unfold Lv.size Lv.join at *; simp only [length_append,length_singleton,length_nil]at *; omega)
 cases S with
 | nil=>cases h
 | cons L R=>
  have hL:=hs L mem_cons_self;have hR:∀M∈R,M.size≤n+1:=fun M hM=>Nat.le_succ_of_le (hs M (mem_cons_of_mem _ hM));simp only [Zc5]at h
  by_cases h1:z = "("∧L.lack=true
  ·rw[if_pos h1]at h
   cases h
   intro M hM
   rcases mem_cons.mp hM with rfl | hM
   ·exact Nat.zero_le _
   rcases mem_cons.mp hM with rfl | hM
   ·omega
   ·exact hR M hM
  ·rw[if_neg h1]at h
   cases R with
   | nil=>
    obtain⟨L',e,rfl⟩:=Option.map_eq_some_iff.mp h;intro M hM;rw[mem_singleton.mp hM];exact hw L L' hL e
   | cons N R'=>
    dsimp only at h
    by_cases h2:z = ")"∧L.lack=false
    ·rw[if_pos h2]at h
     cases h
     intro M hM
     rcases mem_cons.mp hM with rfl | hM
     ·exact hp N _ (hs N (mem_cons_of_mem _ mem_cons_self))
     ·exact hR M (mem_cons_of_mem _ hM)
    ·rw[if_neg h2]at h
     obtain⟨L',e,rfl⟩:=Option.map_eq_some_iff.mp h;intro M hM
     rcases mem_cons.mp hM with rfl | hM
     ·exact hw L _ hL e
     ·exact hR M hM
theorem ZCw {ns:List Str} {S S':List Lv} {z:Str} (h:Zc5 ns S z=some S'):S'≠[]:=by
 cases S with
 | nil=>cases h
 | cons L R=>
  simp only [Zc5]at h
  by_cases h1:z = "("∧L.lack=true
  ·rw[if_pos h1]at h; cases h; simp
  ·rw[if_neg h1]at h
   cases R with
   | nil=>obtain⟨L',_,rfl⟩:=Option.map_eq_some_iff.mp h; simp
   | cons N R'=>
    dsimp only at h
    by_cases h2:z = ")"∧L.lack=false
    ·rw[if_pos h2]at h; cases h; simp
    ·rw[if_neg h2]at h
     obtain⟨L',_,rfl⟩:=Option.map_eq_some_iff.mp h; simp
section
variable {X:Cx}
def ZxC:V→List V→Hp→VK→Prop:=fun x vs H Q=>∃(l:Addr) (ns:List Str) (z:Str),x=.ref l∧vs=[.str z]∧H l=some (.lst (ns.map V.str))∧Q (.int ((ns.count z:Nat):Int)) H
open PySem.Spec PyProof PyProof.Rows in
theorem Zw7:MtM X "list.count" ZxC:=by
 intro pj s σ H x vs v us Q I rx rv h;obtain⟨l,ns,z,rfl,rfl,hH,q⟩:=h
 cases rx
 obtain⟨u,rfl,ru⟩:=rv.one;obtain⟨tu,rfl⟩:=(show ∃t,u=Value.str z t from ru);obtain⟨_,its,n,r,hl,e⟩:=I.lstM hH
 have key:∀(ys:List Str) (vs:List Value),Vals (ys.map V.str) vs→vs.countP (isTx z)=ys.count z∧∀y∈vs,MeetsSeq.EqGives y (.str z tu) (isTx z y):=by
  intro ys
  induction ys with
  | nil=>
   intro vs hv
   cases hv
   exact⟨rfl,fun y hy=>by cases hy⟩
  | cons y ys ih=>
   intro vs hv
   cases hv with
   | cons h1 h2=>
    obtain⟨ty,rfl⟩:=(show ∃t,_=Value.str y t from h1);obtain⟨a,b⟩:=ih _ h2;refine⟨?_,fun v hv=>?_⟩
    ·rw[List.countP_cons,List.count_cons,a]
     rfl
    ·rcases mem_cons.mp hv with rfl | hv
     ·exact eqGives_str y z ty tu
     ·exact b v hv
 obtain⟨k1,k2⟩:=key ns its r;refine call_meets F.slot_list_count ⟨_,e,rfl⟩ F.entry_list_count (F.args_list_count_2 _ _) (MeetsSeq.list_count l its.toArray n (.str z tu) (isTx z) (fun y hy=>k2 y (by simpa using hy))) ⟨e,?_⟩;rw[show its.toArray.toList=its from rfl,k1];exact⟨.int ((ns.count z:Nat):Int),H,I.tok _,⟨_,rfl⟩,q⟩
end
theorem ZyC {H:Hp} {Q:VK} {l:Addr} {ns:List Str} {z:Str} (h:H l=some (.lst (ns.map V.str))) (q:Q (.int ((ns.count z:Nat):Int)) H):ZxC (.ref l) [.str z] H Q:=⟨l,ns,z,rfl,rfl,h,q⟩
section
variable {P:Program} {w:World} {K:W.Frag} {mg:Str→Option Value} {base:Heap} {t:Ad}
def isL (c:Nat):Bool:=decide (97≤c) && decide (c≤122)
def isM (c:Nat):Bool:=c == 40 || c == 41 || c == 44
def al (c:Nat):Bool:=isL c || isM c || c == 32
theorem ZDx:∀c,c < 128→(!(Builtin.Str.occurrences "abcdefghijklmnopqrstuvwxyz" ⟨#[c]⟩ 0 (Str.length "abcdefghijklmnopqrstuvwxyz") 1).isEmpty)=isL c:=by decide +kernel
theorem ZDy:∀c,c < 128→(!(Builtin.Str.occurrences "()," ⟨#[c]⟩ 0 (Str.length "(),") 1).isEmpty)=isM c:=by decide +kernel
theorem ZFi:∀c,c < 128→decide ((⟨#[c]⟩ : Str) = " ")=(c == 32):=by decide +kernel
theorem Zyn:∀c,c < 128→al c=true→Unicode.isSpace c=decide (c=32):=by decide +kernel
theorem ZE7 {c:Nat} (h:al c=true):c < 128:=by
 unfold al isL isM at h;simp only [Bool.or_eq_true,Bool.and_eq_true,decide_eq_true_eq,beq_iff_eq]at h;omega
def padC (x:Str) (c:Nat):Str:=Txt.replace x ⟨#[c]⟩ ⟨#[32,c,32]⟩
def pad (x:Str):Str:=padC (padC (padC x 40) 41) 44
theorem ZiV (x:Str) (c:Nat):(padC x c).length≤x.length * 3:=by
 show(padC x c).cps.size≤x.cps.size * 3;rw[←Array.length_toList,←Array.length_toList];unfold padC;rw[Ze1];exact ZAC (Nat.le_refl 3) (by decide) _
theorem Ztg {x:Str} {c:Nat} (h:∀d∈x.cps.toList,al d=true) (hc:al c=true):∀d∈(padC x c).cps.toList,al d=true:=by
 intro d hd;unfold padC at hd;rw[Ze1]at hd
 rcases ZEu hd with z | z
 ·exact h d z
 ·have z:d∈[32,c,32]:=z
  simp only [mem_cons,not_mem_nil,or_false]at z
  rcases z with rfl | rfl | rfl
  ·rfl
  ·exact hc
  ·rfl
theorem ZAw {x:Str} (h:∀d∈x.cps.toList,al d=true):∀d∈(pad x).cps.toList,al d=true:=Ztg (Ztg (Ztg h rfl) rfl) rfl
theorem ZBX (x:Str):(pad x).length≤x.length * 27:=by
 have a:=ZiV x 40;have b:=ZiV (padC x 40) 41;have c:=ZiV (padC (padC x 40) 41) 44;unfold pad;omega
def padL (l:List Nat):List Nat:=l.flatMap fun c=>if isM c=true then [32,c,32] else [c]
theorem Zuj (a b:List Nat):padL (a++b)=padL a++padL b:=List.flatMap_append ..
theorem ZBY (c:Nat):rp 44 [32,44,32] (rp 41 [32,41,32] (rp 40 [32,40,32] [c]))=padL [c]:=by
 by_cases h1:c=40
 ·subst h1; rfl
 by_cases h2:c=41
 ·subst h2; rfl
 by_cases h3:c=44
 ·subst h3; rfl
 have e:isM c=false:=by unfold isM; simp[h1,h2,h3]
 rw[ZkZ (c:=40) (by simp; omega),ZkZ (c:=41) (by simp; omega),ZkZ (c:=44) (by simp; omega)];unfold padL;simp[e]
theorem Zxm:∀l:List Nat,rp 44 [32,44,32] (rp 41 [32,41,32] (rp 40 [32,40,32] l))=padL l
 | []=>rfl
 | c::l=>by
  have e:c::l=[c]++l:=rfl;rw[e,Zii,Zii,Zii,ZBY,Zxm l,Zuj]
theorem Zul (x:Str):(pad x).cps.toList=padL x.cps.toList:=by
 unfold pad padC;rw[Ze1,Ze1,Ze1];exact Zxm _
theorem Zuk:∀l:List Nat,(padL l).length≤3 * l.length
 | []=>Nat.le_refl _
 | c::l=>by
  have ih:=Zuk l;have e:padL (c::l)=(if isM c=true then [32,c,32] else [c])++padL l:=rfl;rw[e,length_append,length_cons]
  by_cases h:isM c=true
  ·rw[if_pos h]; simp only [length_cons,length_nil]; omega
  ·rw[if_neg h]; simp only [length_cons,length_nil]; omega
theorem Zy8 (x:Str):(pad x).length≤3 * x.length:=by
 have a:=Zuk x.cps.toList;rw[←Zul]at a
 have e1:(pad x).cps.toList.length=(pad x).length:=by simp[Str.length]
 have e2:x.cps.toList.length=x.length:=by simp[Str.length]
 omega
theorem Zwv {σ:St} {H:Hp} {Q:VK} {c k:Nat} (e:σ[k]?=some (some (.str ⟨#[c]⟩))) (h:Q (.str ⟨#[32,c,32]⟩) H):tFs (tJc (tC (V.str " ")) (tJc (tFmt (tVar k)) (tJc (tC (V.str " ")) tJn))) σ H Q:=
 ⟨" ",rfl,Zc4 (Nat.le_of_ble_eq_true rfl),_,e,⟨#[c]⟩,rfl,Zc4 (Nat.le_of_ble_eq_true rfl),⟨#[c]⟩,rfl,Zc4 (Nat.le_of_ble_eq_true rfl)," ",rfl,Zc4 (Nat.le_of_ble_eq_true rfl),Zc4 (Nat.le_of_ble_eq_true rfl),h⟩
theorem Zyf (x:Str):(Txt.words x).length≤x.length+1:=by
 have:=StrLaws.words_weight x;omega
def okW (z:Str):Bool:=z.cps.toList.all al
def ZCv:Sp:=fun vs H Q _=>∃z:Str,vs=[.str z]∧Asc z∧z.length≤16000∧(okW z=false→Q .non H)∧(okW z=true→∀H' p,Same H H'→H p=none→H' p=some (.lst ((Txt.words (pad z)).map V.str))→Q (.ref p) H')
theorem Zy6 (T:Txt K mg t):FnS P w K mg base 1 "words" ["text"] (ZCv):=by
 refine⟨_,_,T.Zks.ok Zma (fun vs H Q E h=>?_) (fun cdv A outer s H vs Q E hr h=>?_),T.Zv1,T.Zks.kp,T.Zw4⟩
 ·obtain⟨z,rfl,ha,hz,q1,q2⟩:=h
  rfl
 obtain⟨z,rfl,ha,hz,q1,q2⟩:=h
 refine⟨_,(Zab (ZaS PassesOwn.never rfl (Za6 (pv 0)) (sg 1 Zma.nd)
   (Zae (ZaB (PW.pt (Zd7 (Zaj ZgU (pv 1) (Zn1 rfl T.g_LETTERS) (by with_unfolding_all rfl)) (Zd7 (Zaj ZgU (pv 1) (Zn1 rfl T.g_MARKS) (by with_unfolding_all rfl)) (Zc2 (Zaj (Zje hr.units) (pv 1) (Zn1 rfl T.g_BLANK) (Zan _))))))
   (Zae (Zao Zuo))
   Zap)))
   (ZFt (ssp 2 Zma.nd (pv 0))
   (Zxz (ZB9 (i:=2) (j:=3) PassesOwn.never rfl Zma.nd (Zn1 rfl T.g_MARKS) (ZvK (ZpC Zal (ZpC (ZD8 (pv 3)) (ZpC Zal ZB3)))))
   (Zae (Zao (Zxp F.plainAttrs_str F.slot_str_split F.type_str_split ZyV (pv 2))))))),?_⟩
 walk_at "rd0";refine seqX (fun i σ H'=>H'=H∧(∀j c,j < i→z.cps[j]?=some c→al c=true)∧∃v,σ=[some (.str z),v,none,none]) ⟨rfl,fun j c hj=>absurd hj (Nat.not_lt_zero _),_,rfl⟩ ?_ ?_
 ·rintro i c σ H' hx ⟨rfl,hj,v,rfl⟩
  have hmem:c∈z.cps.toList:=mem_of_getElem? (by rw[Array.getElem?_toList]; exact hx);have c128:=ha c hmem
  have nx:al c=true→∀j d,j < i+1→z.cps[j]?=some d→al d=true:=fun h j d hj' hd=>by
   by_cases e:j=i
   ·subst e; rw[hx]at hd; cases hd; exact h
   ·exact hj j d (by omega) hd
  walk_at "";refine .inl ⟨_,_,rfl,rfl,?_⟩;rw[ZDx c c128]
  dsimp only
  walk_at ""
  cases h1:isL c with
  | true=>
   refine ZaI rfl ?_;refine ZaI rfl ?_;walk_at "";exact⟨rfl,nx (by unfold al; rw[h1]; rfl),_,rfl⟩
  | false=>
   refine ZbT rfl ?_;walk_at "";refine .inl ⟨_,_,rfl,rfl,?_⟩;rw[ZDy c c128]
   dsimp only
   walk_at ""
   cases h2:isM c with
   | true=>
    refine ZaI rfl ?_;refine ZaI rfl ?_;walk_at "";exact⟨rfl,nx (by unfold al; rw[h2,Bool.or_true]; rfl),_,rfl⟩
   | false=>
    refine ZbT rfl ?_;walk_at "";rw[ZFi c c128]
    cases h3:c == 32 with
    | true=>
     refine ZaI rfl ?_;walk_at "";exact⟨rfl,nx (by unfold al; rw[h3,Bool.or_true]),_,rfl⟩
    | false=>
     refine ZbT rfl ?_;walk_at "";refine q1 ?_;unfold okW;rw[List.all_eq_false];refine⟨c,hmem,?_⟩;unfold al;rw[h1,h2,h3];exact Bool.false_ne_true
 ·rintro σ H' ⟨rfl,hj,v,rfl⟩
  have hall:∀d∈z.cps.toList,al d=true:=fun c hc=>by
   obtain⟨j,hj',e⟩:=List.mem_iff_getElem.mp hc
   have hj2:j < z.cps.size:=by simpa using hj'
   exact hj j c hj2 (by rw[←Array.getElem?_toList,List.getElem?_eq_getElem hj',e])
  have hok:okW z=true:=all_eq_true.mpr hall;have n1:=ZiV z 40;have n2:=ZiV (padC z 40) 41;have n3:=ZiV (padC (padC z 40) 41) 44;walk_at "";refine⟨_,rfl,by decide +kernel,?_⟩;show tRep 2 3 _ [40,41,44] _ _ _;refine ZwF z rfl (Zwv rfl ⟨_,rfl,rfl,?_,?_⟩)
  ·show z.length+(z.length+1) * 3≤_; omega
  refine ZwF (padC z 40) rfl (Zwv rfl ⟨_,rfl,rfl,?_,?_⟩)
  ·show(padC z 40).length+((padC z 40).length+1) * 3≤_; omega
  refine ZwF (padC (padC z 40) 41) rfl (Zwv rfl ⟨_,rfl,rfl,?_,?_⟩)
  ·show(padC (padC z 40) 41).length+((padC (padC z 40) 41).length+1) * 3≤_; omega
  refine ZDs ?_;walk_at "";have n4:=Zyf (pad z);have n5:=ZBX z;have pl3:=Zy8 z;refine⟨tyS,pad z,rfl,by omega,.inl ⟨rfl,ZbW (by rw[length_map]; omega) fun p H1 s1 n1 e1=>?_⟩⟩;exact q2 hok H1 p s1 n1 e1
end
end LW
open PySem L2
namespace LW
open PySem L2 EM
open List (all_eq_true any_cons append_assoc append_nil cons_ne_nil drop_left drop_nil filterMap_append foldl_append getD_eq_getElem?_getD getElem?_map length_append length_cons length_drop length_eq_zero_iff length_map length_nil length_range length_singleton length_take map_append map_cons map_drop map_map map_nil map_take mem_append mem_cons mem_cons_of_mem mem_cons_self mem_filter mem_map mem_map_of_mem mem_of_getElem? mem_of_mem_take mem_range mem_replicate mem_singleton nodup_append nodup_cons nodup_nil not_mem_nil range_succ take_left take_length take_nil take_zero)
def FmE (t:Ad) (H:Hp) (p:Addr) (f:Fm):Prop:=∃n,FmAt t H n p f
def FmsE (t:Ad) (H:Hp) (l:Addr) (fs:List Fm):Prop:=∃ps,H l=some (.lst (ps.map V.ref))∧Paired (FmE t H) ps fs
def ExtL (t:Ad) (H H':Hp):Prop:=∀x u,H x=some u→(∀xs,u≠.lst xs)→(∀dx fs,u≠.ins t.ZaC dx fs)→H' x=some u
section
variable {K:W.Frag} {σ:St} {H:Hp}
theorem ZmS {p C dx:Addr} {fs:List (Str×V)} {f:Str} {y:V} {R:Hp→Prop} (h:H p=some (.ins C dx fs)) (c:Cls K C) (n:Zbo K C f) (z:fs.length < 1000) (k:∀H',But p H H'→H' p=some (.ins C dx (putF f y fs))→R H') :
  ∃a C dx fs,(V.ref p)=.ref a∧H a=some (.ins C dx fs)∧Cls K C∧Zbo K C f∧fs.length < 1000∧R (upd H a (.ins C dx (putF f y fs))):=⟨p,C,dx,fs,rfl,h,c,n,z,k _ Zg0 Zax⟩
end
def Off2 (p l:Addr) (H H':Hp):Prop:=∀b u,b≠p→b≠l→H b=some u→H' b=some u
section
variable {P:Program} {w:World} {K:W.Frag} {mg:Str→Option Value} {base:Heap} {t:Ad} {H H' H'':Hp}
theorem ExtL.trans (a:ExtL t H H') (b:ExtL t H' H''):ExtL t H H'':=fun x u e h1 h2=>b x u (a x u e h1 h2) h1 h2
theorem ExtL.of (s:Same H H'):ExtL t H H':=fun x u e _ _=>s x u e
theorem ExtL.lst {l:Addr} {xs:List V} (b:But l H H') (e:H l=some (.lst xs)):ExtL t H H':=fun x u z h1 _=>b x u (fun y=>by rw[y,e]at z; cases z; exact h1 _ rfl) z
theorem ExtL.lev {p dx:Addr} {fs:List (Str×V)} (b:But p H H') (e:H p=some (.ins t.ZaC dx fs)):ExtL t H H':=fun x u z _ h2=>b x u (fun y=>by rw[y,e]at z; cases z; exact h2 _ _ rfl) z
theorem ZCV (T:Txt K mg t) (v:W3):cw t v≠t.ZaC:=by
 cases v
 ·exact T.Znz
 ·exact T.Zjg
 ·exact T.ZoM
theorem FmAt.extL (T:Txt K mg t) (s:ExtL t H H'):∀{n:Nat} {p:Addr} {f:Fm},FmAt t H n p f→FmAt t H' n p f
 | 0,_,_,h=>h
 | n+1,p,f,h=>by
  cases f with
  | lamp k=>obtain⟨dx,e⟩:=h; exact⟨dx,s _ _ e (fun _ z=>nomatch z) fun _ _ z=>T.ZlS (HO.ins.inj z).1⟩
  | sure b=>obtain⟨dx,e⟩:=h; exact⟨dx,s _ _ e (fun _ z=>nomatch z) fun _ _ z=>T.ZlT (HO.ins.inj z).1⟩
  | neg g=>obtain⟨dx,q,e,h⟩:=h; exact⟨dx,q,s _ _ e (fun _ z=>nomatch z) (fun _ _ z=>T.ZnC (HO.ins.inj z).1),FmAt.extL T s h⟩
  | join w gs=>obtain⟨dx,tp,ps,e,e2,h⟩:=h; exact⟨dx,tp,ps,s _ _ e (fun _ z=>nomatch z) (fun _ _ z=>ZCV T w (HO.ins.inj z).1),s _ _ e2 (fun _ z=>nomatch z) (fun _ _ z=>nomatch z),Zaf (fun a b h=>FmAt.extL T s h) h⟩
theorem FmE.extL (T:Txt K mg t) (s:ExtL t H H') {p:Addr} {f:Fm} (h:FmE t H p f):FmE t H' p f:=let ⟨n,h⟩:=h; ⟨n,h.extL T s⟩
theorem FmE.same (s:Same H H') {p:Addr} {f:Fm} (h:FmE t H p f):FmE t H' p f:=let ⟨n,h⟩:=h; ⟨n,h.mono (Ext.of s)⟩
theorem FmE.neg {q p dx:Addr} {f:Fm} (e:H q=some (.ins t.C_Not dx [(("part" : Str),.ref p)])) (h:FmE t H p f):FmE t H q (.neg f):=let ⟨n,h⟩:=h; ⟨n+1,dx,p,e,h⟩
theorem ZC1:∀{ps:List Addr} {fs:List Fm},Paired (FmE t H) ps fs→∃n,Paired (FmAt t H n) ps fs
 | _,_,.nil=>⟨0,.nil⟩
 | _,_,.cons h r=>by
  obtain⟨n,h⟩:=h;obtain⟨m,r⟩:=ZC1 r;exact⟨max n m,.cons (h.le (Nat.le_max_left _ _)) (Zaf (fun _ _ z=>z.le (Nat.le_max_right _ _)) r)⟩
theorem FmE.join {x dx tp:Addr} {ps:List Addr} {fs:List Fm} {v:W3} (e:H x=some (.ins (cw t v) dx [(("parts" : Str),.ref tp)])) (e2:H tp=some (.tup (ps.map V.ref))) (h:Paired (FmE t H) ps fs):FmE t H x (.join v fs):=
 let ⟨n,h⟩:=ZC1 h; ⟨n+1,dx,tp,ps,e,e2,h⟩
theorem FmsE.snoc {l:Addr} {ps:List Addr} {fs:List Fm} {q:Addr} {f:Fm} (e:H l=some (.lst (ps.map V.ref++[.ref q]))) (h:Paired (FmE t H) ps fs) (hq:FmE t H q f):FmsE t H l (fs++[f]):=
 ⟨ps++[q],by rw[map_append]; exact e,Zaq h (.cons hq .nil)⟩
def Zej (n:Nat) (a e o:Addr) (b:Bool):List (Str×V):=[(("nots" : Str),.int (n:Int)),(("ands" : Str),.ref a),(("eithers" : Str),.ref e),(("ors" : Str),.ref o),(("lacking" : Str),.bl b)]
structure LvAt (t:Ad) (H:Hp) (p dx a e o:Addr) (L:Lv):Prop where
 ob:H p=some (.ins t.ZaC dx (Zej L.nots a e o L.lack))
 la:FmsE t H a L.ands
 le:FmsE t H e L.eithers
 lo:FmsE t H o L.ors
 ae:a≠e
 ao:a≠o
 eo:e≠o
theorem FmsE.keep (T:Txt K mg t) (s:ExtL t H H') {l:Addr} {fs:List Fm} (h:FmsE t H l fs) (k:∀xs,H l=some (.lst xs)→H' l=some (.lst xs)):FmsE t H' l fs:=by
 obtain⟨ps,e,p⟩:=h;exact⟨ps,k _ e,Zaf (fun _ _ z=>FmE.extL T s z) p⟩
theorem LvAt.keep (T:Txt K mg t) {p dx a e o:Addr} {L:Lv} (V:LvAt t H p dx a e o L) (s:ExtL t H H') (k:∀x u,x=p∨x=a∨x=e∨x=o→H x=some u→H' x=some u):LvAt t H' p dx a e o L:=
 ⟨k _ _ (.inl rfl) V.ob,V.la.keep T s fun _ z=>k _ _ (.inr (.inl rfl)) z,V.le.keep T s fun _ z=>k _ _ (.inr (.inr (.inl rfl))) z,V.lo.keep T s fun _ z=>k _ _ (.inr (.inr (.inr rfl))) z,V.ae,V.ao,V.eo⟩
theorem LvAt.same (T:Txt K mg t) {p dx a e o:Addr} {L:Lv} (V:LvAt t H p dx a e o L) (s:Same H H'):LvAt t H' p dx a e o L:=V.keep T (ExtL.of s) fun x u _ z=>s x u z
def Zmb (t:Ad) (v:W3):Sp:=fun vs H Q _=>∃(l:Addr) (fs:List Fm),vs=[.ref l]∧FmsE t H l fs∧∀q H',Same H H'→FmE t H' q (ZbY v fs)→Q (.ref q) H'
theorem Zxe (T:Txt K mg t):FnS P w K mg base 3 "and_of" ["parts"] ((Zmb t .a)):=by
 refine⟨_,_,T.ZiG.ok ZxJ (fun vs H Q E h=>?_) (fun cdv A outer s H vs Q E hr h=>?_),T.ZtG,T.ZiG.kp,T.Zua⟩
 ·obtain⟨l,fs,rfl,hF,q⟩:=h
  rfl
 obtain⟨l,fs,rfl,hF,q⟩:=h;obtain⟨ps,hl,hp⟩:=hF;have M_And:=ZDU (P:=P) (w:=w) (base:=base) T;have hz:=Zak hp;refine⟨_,(Zae (Zao (Zl9 (Zaj (ZaA hr.units) (Zaw Zaz rfl T.B.len Za4 (Zaa (pv 0) Zad)) Zac (Zan _)) (Zav Zam (pv 0) Zac (fun _ _=>rfl)) (Zn2 M_And hr (Zaa (pv 0) Zad))))),?_⟩;walk_at "rd0";rw[length_map,hz];refine Zb7 (fun h=>?_) (fun h=>?_)
 ·match ps,fs,hp,hz with
  | [p0],[f0],.cons h0 .nil,_=>
   walk_at "";refine ZbJ (j:=0) (v:=.ref p0) hl rfl ?_;exact q p0 H (Same.refl _) h0
  | [],[],_,_=>exact absurd h (by decide)
  | _::_::_,_::_::_,_,_=>simp only [length_cons]at h; omega
 ·walk_at ""
  refine ZsI hl fun x dx tp H1 s1 n1 e1 e2=>?_;refine q x H1 s1 ?_;rw[Zj5 (by omega)];exact FmE.join (v:=.a) e1 e2 (Zaf (fun _ _ z=>FmE.same s1 z) hp)
theorem Zrx (T:Txt K mg t):FnS P w K mg base 3 "either_of" ["parts"] ((Zmb t .e)):=by
 refine⟨_,_,T.Zev.ok ZrM (fun vs H Q E h=>?_) (fun cdv A outer s H vs Q E hr h=>?_),T.Zmu,T.Zev.kp,T.Zna⟩
 ·obtain⟨l,fs,rfl,hF,q⟩:=h
  rfl
 obtain⟨l,fs,rfl,hF,q⟩:=h;obtain⟨ps,hl,hp⟩:=hF;have Zyi:=Zxd (P:=P) (w:=w) (base:=base) T;have hz:=Zak hp;refine⟨_,(Zae (Zao (Zl9 (Zaj (ZaA hr.units) (Zaw Zaz rfl T.B.len Za4 (Zaa (pv 0) Zad)) Zac (Zan _)) (Zav Zam (pv 0) Zac (fun _ _=>rfl)) (Zn2 Zyi hr (Zaa (pv 0) Zad))))),?_⟩;walk_at "rd0";rw[length_map,hz];refine Zb7 (fun h=>?_) (fun h=>?_)
 ·match ps,fs,hp,hz with
  | [p0],[f0],.cons h0 .nil,_=>
   walk_at "";refine ZbJ (j:=0) (v:=.ref p0) hl rfl ?_;exact q p0 H (Same.refl _) h0
  | [],[],_,_=>exact absurd h (by decide)
  | _::_::_,_::_::_,_,_=>simp only [length_cons]at h; omega
 ·walk_at ""
  refine ZsI hl fun x dx tp H1 s1 n1 e1 e2=>?_;refine q x H1 s1 ?_;rw[Zj5 (by omega)];exact FmE.join (v:=.e) e1 e2 (Zaf (fun _ _ z=>FmE.same s1 z) hp)
theorem Zy5 (T:Txt K mg t):FnS P w K mg base 3 "or_of" ["parts"] ((Zmb t .o)):=by
 refine⟨_,_,T.Zkr.ok Zzn (fun vs H Q E h=>?_) (fun cdv A outer s H vs Q E hr h=>?_),T.Zv0,T.Zkr.kp,T.Zw3⟩
 ·obtain⟨l,fs,rfl,hF,q⟩:=h
  rfl
 obtain⟨l,fs,rfl,hF,q⟩:=h;obtain⟨ps,hl,hp⟩:=hF;have M_Or:=ZFq (P:=P) (w:=w) (base:=base) T;have hz:=Zak hp;refine⟨_,(Zae (Zao (Zl9 (Zaj (ZaA hr.units) (Zaw Zaz rfl T.B.len Za4 (Zaa (pv 0) Zad)) Zac (Zan _)) (Zav Zam (pv 0) Zac (fun _ _=>rfl)) (Zn2 M_Or hr (Zaa (pv 0) Zad))))),?_⟩;walk_at "rd0";rw[length_map,hz];refine Zb7 (fun h=>?_) (fun h=>?_)
 ·match ps,fs,hp,hz with
  | [p0],[f0],.cons h0 .nil,_=>
   walk_at "";refine ZbJ (j:=0) (v:=.ref p0) hl rfl ?_;exact q p0 H (Same.refl _) h0
  | [],[],_,_=>exact absurd h (by decide)
  | _::_::_,_::_::_,_,_=>simp only [length_cons]at h; omega
 ·walk_at ""
  refine ZsI hl fun x dx tp H1 s1 n1 e1 e2=>?_;refine q x H1 s1 ?_;rw[Zj5 (by omega)];exact FmE.join (v:=.o) e1 e2 (Zaf (fun _ _ z=>FmE.same s1 z) hp)
theorem ZDh {p:Addr} {x:Str} {ns:List Str} {Q:VK} (h:SqT K H p (ns.map V.str)) (k:Q (.bl (decide (x∈ns))) H):rInG K (.str x) (.ref p) H Q:=by
 refine .inr ⟨p,ns.map V.str,rfl,.inr h,rfl,?_,?_⟩
 ·rw[all_eq_true]
  intro v hv;obtain⟨z,_,rfl⟩:=mem_map.mp hv;rfl
 ·rw[Zj4]
  exact k
def ZnG (z:Str):Prop:=(reprText z).length≤900000
def Zzv (t:Ad):Sp:=fun vs H Q E=>∃(z:Str) (nl:Addr) (ns:List Str),vs=[.str z,.ref nl]∧H nl=some (.lst (ns.map V.str))∧ns.length≤1000∧ZnG z∧(∀f,ZiB ns z=some f→∀q H',Same H H'→FmE t H' q f→Q (.ref q) H')∧(ZiB ns z=none→∀H',Same H H'→E (.ref t.ZaY) none H')
theorem Zxg (T:Txt K mg t):FnS1 P w K mg base 3 "single" ["word","names"] ((Zzv t)):=by
 refine⟨_,_,T.ZiH.ok1 ZxK (fun vs H Q E h=>?_) (fun cdv A outer s H vs Q E hr h=>?_),T.ZtH,T.ZiH.kp,T.Zub⟩
 ·obtain⟨z,nl,ns,rfl,hn,h1000,hpl,q1,q2⟩:=h
  rfl
 obtain⟨z,nl,ns,rfl,hn,h1000,hpl,q1,q2⟩:=h;have ZzG:=ZBO (P:=P) (w:=w) (base:=base) T;have ZCH:=ZBM (P:=P) (w:=w) (base:=base) T;unfold ZiB at q1 q2
 refine⟨_,(Zab (PS.nox (ZaB (Zaj (ZaA hr.units) (pv 0) Zal (Zan _))
   (Zae (Zao (Zn2 ZzG hr (Zaa Zfl Zad))))
   Zap))
   (Zab (PS.nox (ZaB (Zaj (ZaA hr.units) (pv 0) Zal (Zan _))
   (Zae (Zao (Zn2 ZzG hr (Zaa Zfl Zad))))
   Zap))
   (Zab (PS.nox (ZaB (Zaj Zni (pv 0) (pv 1) (by with_unfolding_all rfl))
   (Zae (Zao (Zn2 ZCH hr (Zaa (ZcB F.plainAttrs_list F.slot_list_index F.type_list_index Zkh (pv 1) (Zaa (pv 0) Zad)) Zad))))
   Zap))
   (Zae (ZpE rfl ZBy T.Zhn.own rfl T.Zhi (PA.nox (Zaa (ZrE (ZpB (Zxr (pv 0)) (ZpB Zal ZAy))) Zad))))))),?_⟩
 walk_at "rd0";refine Zb7 (fun h1=>?_) (fun h1=>?_)
 ·rw[if_pos h1]at q1
  walk_at "";refine Zo9 fun x dx H1 s1 n1 e1=>?_;exact q1 _ rfl x H1 s1 ⟨1,dx,e1⟩
 rw[if_neg h1]at q1 q2;walk_at "";refine Zb7 (fun h2=>?_) (fun h2=>?_)
 ·rw[if_pos h2]at q1
  walk_at "";refine Zo9 fun x dx H1 s1 n1 e1=>?_;exact q1 _ rfl x H1 s1 ⟨1,dx,e1⟩
 rw[if_neg h2]at q1 q2;walk_at "";refine ZyD (.inl hn) ?_;walk_at ""
 cases hi:idxS z ns with
 | some j=>
  rw[hi]at q1;obtain⟨hj,hno⟩:=Zj3 hi;have hjl:=(List.getElem?_eq_some_iff.mp hj).1;refine ZbT (decide_eq_true (mem_of_getElem? hj)) ?_;walk_at "";refine⟨tyL hn,?_⟩;walk_at "";refine ZmN hn hj hno (by omega) ?_;walk_at "";refine Zo9 fun x dx H1 s1 n1 e1=>?_;exact q1 _ rfl x H1 s1 ⟨1,dx,e1⟩
 | none=>
  rw[hi]at q2;refine ZaI (decide_eq_false (ZqV hi)) ?_;walk_at ""
  (try dsimp only)
  refine ZsJ ?_;walk_at "";have hpl':(reprText z).length≤900000:=hpl;have e0:Str.empty.length=0:=rfl;have e:=ZaT Str.empty (reprText z);have e1:=ZaT (Str.empty++reprText z) " has no place there";have e2:Str.length " has no place there" = 19:=rfl;refine⟨_,rfl,Zc4 (by omega),_,rfl,Zc4 (by omega),?_⟩;walk_at "";refine⟨_,rfl,Zc4 (by omega),Zc4 (by omega),?_⟩;walk_at "";exact⟨Nat.le_of_ble_eq_true rfl,q2 rfl H (Same.refl _)⟩
def ZxR (t:Ad):Sp:=fun vs H Q _=>∃(p dx:Addr),vs=[.ref p]∧H p=some (.ins t.ZaC dx [])∧∀a e o H',But p H H'→H a=none→H e=none→H o=none→LvAt t H' p dx a e o Lv.new→Q .non H'
theorem ZyY (T:Txt K mg t):MkS P w K mg base 2 "Level" t.ZaC ["self"] (ZxR t):=by
 refine⟨T.Zw2,_,_,T.ZwO,T.ZeX.ok ZpN (fun vs H Q E h=>?_) (fun cdv A outer s H vs Q E hr h=>?_),T.Zlh⟩
 ·obtain⟨p,dx,rfl,_⟩:=h
  rfl
 obtain⟨p,dx,rfl,hp0,q⟩:=h
 refine⟨_,(Zab (Zb9 (pv 0) Zac rfl)
   (Zab (Zb9 (pv 0) (ZaO Zad) rfl)
   (Zab (Zb9 (pv 0) (ZaO Zad) rfl)
   (Zab (Zb9 (pv 0) (ZaO Zad) rfl)
   (Zae (Zb9 (pv 0) Zfl rfl)))))),?_⟩
 walk_at "rd0";refine ZmS hp0 T.Za1 T.ZbZ (by decide) fun H1 b1 e1=>?_;walk_at "";refine ZbW (by simp) fun a H2 s2 n2 e2=>?_;walk_at "";refine ZmS (s2 _ _ e1) T.Za1 T.Zcy (Nat.le_of_ble_eq_true rfl) fun H3 b3 e3=>?_;walk_at "";refine ZbW (by simp) fun e H4 s4 n4 e4=>?_;walk_at "";refine ZmS (s4 _ _ e3) T.Za1 T.Zby (Nat.le_of_ble_eq_true rfl) fun H5 b5 e5=>?_;walk_at "";refine ZbW (by simp) fun o H6 s6 n6 e6=>?_;walk_at "";refine ZmS (s6 _ _ e5) T.Za1 T.ZeK (Nat.le_of_ble_eq_true rfl) fun H7 b7 e7=>?_;walk_at "";refine ZmS e7 T.Za1 T.ZaM (Nat.le_of_ble_eq_true rfl) fun H8 b8 e8=>?_;have pa:a≠p:=(Zag e1 n2).symm;have pe:e≠p:=(Zag e3 n4).symm;have po:o≠p:=(Zag e5 n6).symm;have a3:=b3 _ _ pa e2;have a5:=b5 _ _ pa (s4 _ _ a3);have ee5:=b5 _ _ pe e4;have k13:∀x u,x≠p→H x=some u→H3 x=some u:=fun x u hx z=>b3 _ _ hx (s2 _ _ (b1 _ _ hx z));have k15:∀x u,x≠p→H x=some u→H5 x=some u:=fun x u hx z=>b5 _ _ hx (s4 _ _ (k13 _ _ hx z));refine q a e o H8 (fun x u hx z=>b8 _ _ hx (b7 _ _ hx (s6 _ _ (k15 _ _ hx z)))) ?_ ?_ ?_ ⟨e8,⟨[],b8 _ _ pa (b7 _ _ pa (s6 _ _ a5)),.nil⟩,⟨[],b8 _ _ pe (b7 _ _ pe (s6 _ _ ee5)),.nil⟩,⟨[],b8 _ _ po (b7 _ _ po e6),.nil⟩,Zag a3 n4,Zag a5 n6,Zag ee5 n6⟩
 ·cases z:H a with
  | none=>rfl
  | some u=>rw[b1 _ _ pa z]at n2; cases n2
 ·cases z:H e with
  | none=>rfl
  | some u=>rw[k13 _ _ pe z]at n4; cases n4
 ·cases z:H o with
  | none=>rfl
  | some u=>rw[k15 _ _ po z]at n6; cases n6
theorem ZwE {Q:VK} (h:∀(p dx a e o:Addr) (H':Hp),Same H H'→H p=none→H a=none→H e=none→H o=none→LvAt t H' p dx a e o Lv.new→Q (.ref p) H'):MkG t.ZaC (ZxR t) [] H Q:=by
 intro x dx hx hdx ne;have s2:=ZgV hx hdx (.ins t.ZaC dx []) (.own x);refine⟨x,dx,rfl,Zax,fun a e o H' b ha he ho V=>⟨rfl,?_⟩⟩;exact h x dx a e o H' (fun y u z=>b y u (Zag z hx) (s2 y u z)) hx (s2.free ha) (s2.free he) (s2.free ho) V
theorem Zuq (n m:Nat) (a e o:Addr) (b:Bool):putF "nots" (.int (m:Int)) (Zej n a e o b)=Zej m a e o b:=rfl
theorem Zzh (n:Nat) (a a' e o:Addr) (b:Bool):putF "ands" (.ref a') (Zej n a e o b)=Zej n a' e o b:=rfl
theorem Ztl (n:Nat) (a e e' o:Addr) (b:Bool):putF "eithers" (.ref e') (Zej n a e o b)=Zej n a e' o b:=rfl
theorem Zno (n:Nat) (a e o:Addr) (b b':Bool):putF "lacking" (.bl b') (Zej n a e o b)=Zej n a e o b':=rfl
theorem Zt6 (n:Nat) (a e o:Addr) (b:Bool):(Zej n a e o b).lookup ("nots" : Str)=some (.int (n:Int)):=rfl
theorem Zt5 (n:Nat) (a e o:Addr) (b:Bool):(Zej n a e o b).lookup ("ands" : Str)=some (.ref a):=rfl
theorem Zm3 (n:Nat) (a e o:Addr) (b:Bool):(Zej n a e o b).lookup ("eithers" : Str)=some (.ref e):=rfl
theorem ZwY (n:Nat) (a e o:Addr) (b:Bool):(Zej n a e o b).lookup ("ors" : Str)=some (.ref o):=rfl
theorem ZeI (n:Nat) (a e o:Addr) (b:Bool):(Zej n a e o b).lookup ("lacking" : Str)=some (.bl b):=rfl
theorem Zka (n:Nat) (a e o:Addr) (b:Bool):(Zej n a e o b).lookup ("take_part" : Str)=none:=rfl
theorem Zj9 (n:Nat) (a e o:Addr) (b:Bool):(Zej n a e o b).lookup ("take_join" : Str)=none:=rfl
theorem Zpm (n:Nat) (a e o:Addr) (b:Bool):(Zej n a e o b).lookup ("take_word" : Str)=none:=rfl
theorem Zrn (n:Nat) (a e o:Addr) (b:Bool):(Zej n a e o b).lookup ("whole" : Str)=none:=rfl
def isLv (t:Ad) (C:Addr):Prop:=C=t.ZaC
def ZEN (t:Ad):Sp:=fun vs H Q _=>∃(p dx a e o q:Addr) (L:Lv) (f:Fm),vs=[.ref p,.ref q]∧LvAt t H p dx a e o L∧FmE t H q f∧L.size < 900000∧∀H',Off2 p a H H'→LvAt t H' p dx a e o (L.part f)→Q .non H'
theorem Zi3 (T:Txt K mg t):∀C,isLv t C→MeS P w K mg base 3 C "take_part" ["self","part"] (spAt (ZEN t) C):=by
 rintro C rfl;refine⟨T.Za1,_,_,T.Zbr.ok Zed (fun vs H Q E h=>?_) (fun cdv A outer s H vs Q E hr h=>?_),T.ZgK,T.ZgO⟩
 ·obtain⟨⟨p,dx,a,e,o,q,L,f,rfl,_⟩,_⟩:=h
  rfl
 obtain⟨⟨p,dx,a,e,o,q,L,f,rfl,Y,hf,hz,k⟩,_⟩:=h;have M_Not:=ZDV (P:=P) (w:=w) (base:=base) T
 have hz':L.nots < 900000∧L.ands.length < 900000:=by unfold Lv.size at hz; omega
 refine⟨_,(Zab (ZaS PassesOwn.never rfl (ZaZ rfl T.B.range (Zaa (Zbi (pv 0) rfl) Zad)) (sg 2 Zed.nd)
   (Zae (ss 1 Zed.nd (Zn2 M_Not hr (Zaa (pv 1) Zad)))))
   (Zab (Zb9 (pv 0) Zac rfl)
   (Zab (ZaQ (ZcB F.plainAttrs_list F.slot_list_append F.type_list_append ZaK (Zbi (pv 0) rfl) (Zaa (pv 1) Zad)))
   (Zae (Zb9 (pv 0) Zfl rfl))))),?_⟩
 walk_at "rd0";refine⟨p,_,_,_,_,rfl,Y.ob,T.Za1,T.ZbZ,Zt6 _ _ _ _ _,?_⟩;walk_at "";refine⟨_,rfl,by omega,by omega,?_⟩;rw[Int.toNat_natCast];refine Zly (n:=L.nots) (fun i σ H'=>Same H H'∧∃q' v2,FmE t H' q' (negs i f)∧σ=[some (.ref p),some (.ref q'),v2]) ⟨Same.refl _,q,_,hf,rfl⟩ ?_ ?_
 ·rintro i σ H1 hi ⟨s1,q',v2,hq,rfl⟩
  walk_at "";refine Zo9 fun x dx' H2 s2 n2 e2=>?_;walk_at "";exact⟨s1.trans s2,x,_,FmE.neg e2 (hq.same s2),rfl⟩
 rintro σ H1 ⟨s1,q',v2,hq,rfl⟩;have V1:=Y.same T s1;obtain⟨ps,ea,pa⟩:=V1.la;have npa:a≠p:=Zcm ea V1.ob (by intro z; cases z);have zl:=Zak pa;walk_at "";refine ZmS V1.ob T.Za1 T.ZbZ (Nat.le_of_ble_eq_true rfl) fun H2 b2 e2=>?_;rw[show V.int 0=V.int ((0:Nat):Int) from rfl,Zuq]at e2
 (try dsimp only)
 have ea2:=b2 _ _ npa ea;walk_at "";refine⟨p,_,_,_,_,rfl,e2,T.Za1,T.Zcy,Zt5 _ _ _ _ _,?_⟩;walk_at "";refine⟨tyL ea2,?_⟩;walk_at "";refine Za5 ea2 (by rw[length_map]; omega) fun H3 b3 e3=>?_;have e23:=b3 _ _ npa.symm e2;walk_at "";refine ZmS e23 T.Za1 T.ZaM (Nat.le_of_ble_eq_true rfl) fun H4 b4 e4=>?_;rw[Zno]at e4;have x4:ExtL t H1 H4:=(ExtL.lev b2 V1.ob).trans ((ExtL.lst b3 ea2).trans (ExtL.lev b4 e23));have kp:∀x u,x≠p→x≠a→H1 x=some u→H4 x=some u:=fun x u h1 h2 z=>b4 _ _ h1 (b3 _ _ h2 (b2 _ _ h1 z));refine k H4 (fun x u h1 h2 z=>kp _ _ h1 h2 (s1 _ _ z)) ⟨e4,FmsE.snoc (b4 _ _ npa e3) (Zaf (fun _ _ z=>FmE.extL T x4 z) pa) (hq.extL T x4),V1.le.keep T x4 fun xs z=>kp _ _ (Zcm z V1.ob (by intro y; cases y)) Y.ae.symm z,V1.lo.keep T x4 fun xs z=>kp _ _ (Zcm z V1.ob (by intro y; cases y)) Y.ao.symm z,Y.ae,Y.ao,Y.eo⟩
def Off4 (p a e o:Addr) (H H':Hp):Prop:=∀b u,b≠p→b≠a→b≠e→b≠o→H b=some u→H' b=some u
theorem ExtL.off4 {p dx a e o:Addr} {L:Lv} (Y:LvAt t H p dx a e o L) (k:Off4 p a e o H H'):ExtL t H H':=fun x u z h1 h2=>by
 obtain⟨pa,ea,_⟩:=Y.la;obtain⟨pe,ee,_⟩:=Y.le;obtain⟨po,eo,_⟩:=Y.lo;exact k x u (fun y=>by rw[y,Y.ob]at z; cases z; exact h2 _ _ rfl) (fun y=>by rw[y,ea]at z; cases z; exact h1 _ rfl) (fun y=>by rw[y,ee]at z; cases z; exact h1 _ rfl) (fun y=>by rw[y,eo]at z; cases z; exact h1 _ rfl) z
def ZCm (t:Ad):Sp:=fun vs H Q _=>∃(p dx a e o:Addr) (L:Lv) (v:W3),vs=[.ref p,.str (kw3 v)]∧LvAt t H p dx a e o L∧L.size < 900000∧∀a' e' H',(a'=a∨H a'=none)→(e'=e∨H e'=none)→Off4 p a e o H H'→LvAt t H' p dx a' e' o (L.join v)→Q .non H'
theorem ZwI (T:Txt K mg t) {p dx a e o:Addr} {M:Lv} {R:Hp→Prop} (Y:LvAt t H p dx a e o M) (kk:∀H'',But p H H''→LvAt t H'' p dx a e o ⟨M.nots,M.ands,M.eithers,M.ors,true⟩ →R H''):∃a C dx fs,(V.ref p)=.ref a∧H a=some (.ins C dx fs)∧Cls K C∧Zbo K C "lacking"∧fs.length < 1000∧R (upd H a (.ins C dx (putF "lacking" (.bl true) fs))):=by
 refine ZmS Y.ob T.Za1 T.ZaM (Nat.le_of_ble_eq_true rfl) fun H'' b e1=>?_;rw[Zno]at e1;have x:=ExtL.lev b Y.ob;exact kk H'' b ⟨e1,Y.la.keep T x fun _ z=>b _ _ (Zcm z Y.ob (by intro y; cases y)) z,Y.le.keep T x fun _ z=>b _ _ (Zcm z Y.ob (by intro y; cases y)) z,Y.lo.keep T x fun _ z=>b _ _ (Zcm z Y.ob (by intro y; cases y)) z,Y.ae,Y.ao,Y.eo⟩
theorem Zi2 (T:Txt K mg t):∀C,isLv t C→MeS P w K mg base 5 C "take_join" ["self","word"] (spAt (ZCm t) C):=by
 rintro C rfl;refine⟨T.Za1,_,_,T.Zbq.ok Zkm (fun vs H Q E h=>?_) (fun cdv A outer s H vs Q E hr h=>?_),T.ZgJ,T.ZgN⟩
 ·obtain⟨⟨p,dx,a,e,o,L,v,rfl,_⟩,_⟩:=h
  rfl
 obtain⟨⟨p,dx,a,e,o,L,v,rfl,Y,hz,k⟩,_⟩:=h;have Zyg:=Zxe (P:=P) (w:=w) (base:=base) T;have Zr9:=Zrx (P:=P) (w:=w) (base:=base) T
 have hz':L.ands.length < 900000∧L.eithers.length < 900000∧L.ors.length < 900000:=by unfold Lv.size at hz; omega
 refine⟨_,(Zab (ZaB (Zaj (Zje hr.units) (pv 1) Zal (Zan _))
   (Zab (ZaQ (ZcB F.plainAttrs_list F.slot_list_append F.type_list_append ZaK (Zbi (pv 0) rfl) (Zaa (ZaE Zyg hr (Zaa (Zbi (pv 0) rfl) Zad)) Zad)))
   (Zae (Zb9 (pv 0) (ZaO Zad) rfl)))
   Zap)
   (Zab (ZaB (Zaj (ZaA hr.units) (pv 1) Zal (Zan _))
   (Zab (ZaQ (ZcB F.plainAttrs_list F.slot_list_append F.type_list_append ZaK (Zbi (pv 0) rfl) (Zaa (ZaE Zr9 hr (Zaa (Zbi (pv 0) rfl) Zad)) Zad)))
   (Zae (Zb9 (pv 0) (ZaO Zad) rfl)))
   Zap)
   (Zae (Zb9 (pv 0) Zfl rfl)))),?_⟩
 walk_at "rs";refine Zh8 (fun σ H'=>(v=.a→H=H')∧(v≠.a→∃a',H a'=none∧Off2 p e H H'∧LvAt t H' p dx a' e o ⟨L.nots,[],L.eithers++[ZbY .a L.ands],L.ors,L.lack⟩)∧σ=[some (.ref p),some (.str (kw3 v))]) ?_ ?_
 rotate_left
 ·intro Kn hK
  have eithers:(v≠.a)→tSeq (ZCB (tBM K "list" ZpH (tFld K (tVar 0) "eithers") (Zla (tFn (Zmb t .a) (Zla (tFld K (tVar 0) "ands") tNil)) tNil))) (sFld K (tVar 0) (tLst tNil) "ands") { nx:=Kn,rt:=Q } [some (.ref p),some (.str (kw3 v))] H:=fun hv=>by
   obtain⟨pe,ee,qe⟩:=id Y.le;have ze:=Zak qe;have npe:e≠p:=Zcm ee Y.ob (by intro z; cases z);walk_at "";refine⟨p,_,_,_,_,rfl,Y.ob,T.Za1,T.Zby,Zm3 _ _ _ _ _,?_⟩;walk_at "";refine⟨tyL ee,?_⟩;walk_at "";refine⟨p,_,_,_,_,rfl,Y.ob,T.Za1,T.Zcy,Zt5 _ _ _ _ _,?_⟩;walk_at "";refine⟨a,_,rfl,Y.la,fun q H1 s1 hq=>?_⟩;have Y1:=Y.same T s1;have ee1:=s1 _ _ ee;walk_at "";refine Za5 ee1 (by rw[length_map]; omega) fun H2 b2 e2=>?_;have ob2:=b2 _ _ npe.symm Y1.ob;walk_at "";refine ZbW (by simp) fun a' H3 s3 n3 e3=>?_;walk_at "";refine ZmS (s3 _ _ ob2) T.Za1 T.Zcy (Nat.le_of_ble_eq_true rfl) fun H4 b4 e4=>?_;rw[Zzh]at e4;have x24:ExtL t H2 H4:=(ExtL.of s3).trans (ExtL.lev b4 (s3 _ _ ob2));have x14:ExtL t H1 H4:=(ExtL.lst b2 ee1).trans x24;have nap:a'≠p:=(Zag ob2 n3).symm;have kp:∀x u,x≠p→x≠e→H x=some u→H4 x=some u:=fun x u h1 h2 z=>b4 _ _ h1 (s3 _ _ (b2 _ _ h2 (s1 _ _ z)));obtain⟨po,eo,qo⟩:=id Y.lo;have nop:o≠p:=Zcm eo Y.ob (by intro z; cases z)
   have na:H a'=none:=by
    cases z:H a' with
    | none=>rfl
    | some u=>
     by_cases y:a'=e
     ·subst y; rw[e2]at n3; cases n3
     ·rw[b2 _ _ y (s1 _ _ z)]at n3; cases n3
   refine hK _ _ ⟨fun z=>absurd z hv,fun _=>⟨a',na,fun x u h1 h3 z=>kp x u h1 h3 z,⟨e4,⟨[],b4 _ _ nap e3,.nil⟩,FmsE.snoc (b4 _ _ npe (s3 _ _ e2)) (Zaf (fun _ _ z=>FmE.extL T x14 (FmE.same s1 z)) qe) (hq.extL T x14),Y.lo.keep T ((ExtL.of s1).trans x14) fun xs z=>kp _ _ nop Y.eo.symm z,?_,?_,Y.eo⟩⟩,rfl⟩
   ·exact fun y=>by subst y; rw[e2]at n3; cases n3
   ·exact fun y=>by subst y; rw[b2 _ _ Y.eo.symm (s1 _ _ eo)]at n3; cases n3
  walk_at "rs"
  cases v with
  | a=>
   refine ZaI rfl ?_;walk_at "rs";exact hK _ _ ⟨fun _=>rfl,fun z=>absurd rfl z,rfl⟩
  | e=>exact ZbT (by decide) (eithers (by decide))
  | o=>exact ZbT (by decide) (eithers (by decide))
 rintro σ H1 ⟨ha,hn,rfl⟩;walk_at "rs"
 cases v with
 | a=>
  obtain rfl:=ha rfl;refine ZhM ?_;walk_at "rs";refine ZaI rfl ?_;walk_at "rs";refine ZwI T Y fun H2 b2 Y2=>?_;exact k a e H2 (.inl rfl) (.inl rfl) (fun x u h1 _ _ _ z=>b2 _ _ h1 z) Y2
 | e=>
  obtain⟨a',na,o1,Y1⟩:=hn (by decide);refine ZhM ?_;walk_at "rs";refine ZaI rfl ?_;walk_at "rs";refine ZwI T Y1 fun H2 b2 Y2=>?_;exact k a' e H2 (.inr na) (.inl rfl) (fun x u h1 h2 h3 h4 z=>b2 _ _ h1 (o1 _ _ h1 h3 z)) Y2
 | o=>
  obtain⟨a',na,o1,Y1⟩:=hn (by decide);refine ZhM ?_;walk_at "rs";refine ZbT rfl ?_;obtain⟨po,eo,qo⟩:=id Y1.lo;have zo:=Zak qo;have nop:o≠p:=Zcm eo Y1.ob (by intro z; cases z);obtain⟨pa1,ea1,_⟩:=id Y1.la;obtain⟨pe1,ee1,_⟩:=id Y1.le;walk_at "";refine⟨p,_,_,_,_,rfl,Y1.ob,T.Za1,T.ZeK,ZwY _ _ _ _ _,?_⟩;walk_at "";refine⟨tyL eo,?_⟩;walk_at "";refine⟨p,_,_,_,_,rfl,Y1.ob,T.Za1,T.Zby,Zm3 _ _ _ _ _,?_⟩;walk_at "";refine⟨e,_,rfl,Y1.le,fun q H2 s2 hq=>?_⟩;have Y2:=Y1.same T s2;have eo2:=s2 _ _ eo;walk_at "";refine Za5 eo2 (by rw[length_map]; dsimp only at zo; omega) fun H3 b3 e3=>?_;have ob3:=b3 _ _ nop.symm Y2.ob;walk_at "";refine ZbW (by simp) fun e' H4 s4 n4 e4=>?_;walk_at "rs";refine ZmS (s4 _ _ ob3) T.Za1 T.Zby (Nat.le_of_ble_eq_true rfl) fun H5 b5 e5=>?_;rw[Ztl]at e5;have x35:ExtL t H3 H5:=(ExtL.of s4).trans (ExtL.lev b5 (s4 _ _ ob3));have x25:ExtL t H2 H5:=(ExtL.lst b3 eo2).trans x35;have nep:e'≠p:=(Zag ob3 n4).symm;have kp:∀x u,x≠p→x≠o→H1 x=some u→H5 x=some u:=fun x u h1 h2 z=>b5 _ _ h1 (s4 _ _ (b3 _ _ h2 (s2 _ _ z)));have nap:a'≠p:=Zcm ea1 Y1.ob (by intro z; cases z)
  have nf:∀x u,x≠o→H1 x=some u→e'≠x:=fun x u h2 z y=>by subst y; rw[b3 _ _ h2 (s2 _ _ z)]at n4; cases n4
  have neo:e'≠o:=fun y=>by subst y; rw[e3]at n4; cases n4
  have ne1:H1 e'=none:=by
   cases z:H1 e' with
   | none=>rfl
   | some u=>exact absurd rfl (nf e' u neo z)
  have ne0:H e'=none:=by
   cases z:H e' with
   | none=>rfl
   | some u=>rw[o1 e' u nep (fun y=>by rw[y,ee1]at ne1; cases ne1) z]at ne1; cases ne1
  have Y5:LvAt t H5 p dx a' e' o ⟨L.nots,[],[],L.ors++[ZbY .e (L.eithers++[ZbY .a L.ands])],L.lack⟩:=⟨e5,Y1.la.keep T ((ExtL.of s2).trans x25) fun xs z=>kp _ _ nap Y1.ao z,⟨[],b5 _ _ nep e4,.nil⟩,FmsE.snoc (b5 _ _ nop (s4 _ _ e3)) (Zaf (fun _ _ z=>FmE.extL T x25 (FmE.same s2 z)) qo) (hq.extL T x25),(nf a' _ Y1.ao ea1).symm,Y1.ao,neo⟩;walk_at "rs";refine ZwI T Y5 fun H6 b6 Y6=>?_;exact k a' e' H6 (.inr na) (.inr ne0) (fun x u h1 h2 h3 h4 z=>b6 _ _ h1 (kp _ _ h1 h4 (o1 _ _ h1 h3 z))) Y6
def Zzx (t:Ad):Sp:=fun vs H Q _=>∃(p dx a e o:Addr) (L:Lv),vs=[.ref p]∧LvAt t H p dx a e o L∧L.size < 900000∧∀q H',Off4 p a e o H H'→FmE t H' q L.whole→Q (.ref q) H'
theorem ZuJ (T:Txt K mg t):∀C,isLv t C→MeS P w K mg base 6 C "whole" ["self"] (spAt (Zzx t) C):=by
 rintro C rfl;refine⟨T.Za1,_,_,T.ZcF.ok Zn4 (fun vs H Q E h=>?_) (fun cdv A outer s H vs Q E hr h=>?_),T.ZjR,T.Zj1⟩
 ·obtain⟨⟨p,dx,a,e,o,L,rfl,_⟩,_⟩:=h
  rfl
 obtain⟨⟨p,dx,a,e,o,L,rfl,Y,hz,k⟩,_⟩:=h;have ZAK:=Zy5 (P:=P) (w:=w) (base:=base) T;have D_take_join:=Zi2 (P:=P) (w:=w) (base:=base) T
 refine⟨_,(Zab (ZaQ (ZfS D_take_join hr (pv 0) (Zaa Zal Zad)))
   (Zae (Zao (ZaE ZAK hr (Zaa (Zbi (pv 0) rfl) Zad))))),?_⟩
 walk_at "rd0";refine⟨p,_,_,_,rfl,Y.ob,rfl,Zj9 _ _ _ _ _,?_⟩;walk_at "";refine⟨Y.ob,p,dx,a,e,o,L,.o,rfl,Y,hz,fun a' e' H1 ha he o1 Y1=>?_⟩;walk_at "";refine⟨p,_,_,_,_,rfl,Y1.ob,T.Za1,T.ZeK,ZwY _ _ _ _ _,?_⟩;walk_at "";refine⟨o,_,rfl,Y1.lo,fun q H2 s2 hq=>?_⟩;exact k q H2 (fun x u h1 h2 h3 h4 z=>s2 _ _ (o1 _ _ h1 h2 h3 h4 z)) hq
def ZxZ (t:Ad):Sp:=fun vs H Q E=>∃(p dx a e o nl:Addr) (L:Lv) (z:Str) (ns:List Str),vs=[.ref p,.str z,.ref nl]∧LvAt t H p dx a e o L∧L.size < 900000∧H nl=some (.lst (ns.map V.str))∧ns.length≤1000∧ZnG z∧
 (L.word ns z=none→∀H',Same H H'→E (.ref t.ZaY) none H')∧
 (∀L',L.word ns z=some L'→∀a' e' H',(a'=a∨H a'=none)→(e'=e∨H e'=none)→Off4 p a e o H H'→LvAt t H' p dx a' e' o L'→Q .non H')
theorem ZnF (T:Txt K mg t):∀C,isLv t C→MeS1 P w K mg base 7 C "take_word" ["self","word","names"] (spAt (ZxZ t) C):=by
 rintro C rfl;refine⟨T.Za1,_,_,T.Zbs.ok1 Zkn (fun vs H Q E h=>?_) (fun cdv A outer s H vs Q E hr h=>?_),T.ZgL,T.ZgP⟩
 ·obtain⟨⟨p,dx,a,e,o,nl,L,z,ns,rfl,_⟩,_⟩:=h
  rfl
 obtain⟨⟨p,dx,a,e,o,nl,L,z,ns,rfl,Y,hz,hn,h1000,hpl,k1,k2⟩,_⟩:=h;have Zyh:=Zxg (P:=P) (w:=w) (base:=base) T;have D_take_part:=Zi3 (P:=P) (w:=w) (base:=base) T;have D_take_join:=Zi2 (P:=P) (w:=w) (base:=base) T;unfold Lv.word at k1 k2
 refine⟨_,(Zae (ZaB (PT.nox (PW.pt (Zd7 (ZaL (Zbi (pv 0) rfl) (fun _=>rfl)) (Zc2 (Zaj (ZaA hr.units) (pv 1) Zal (Zan _))))))
   (PSs.nox (Zae (Zb9 (pv 0) (Zai Zay (Zbi (pv 0) rfl) Zac) rfl)))
   (Zae (ZaB (PT.nox (ZaL (Zbi (pv 0) rfl) (fun _=>rfl)))
   (Zae (ZaQ (ZfS D_take_part hr (pv 0) (Zaa (ZD9 ZD5 Zyh hr (Zaa (pv 1) (Zaa (pv 2) Zad))) Zad))))
   (Zae (ZaB (PT.nox (Zaj Zni (pv 1) (Zn1 rfl T.g_JOINS) (by with_unfolding_all rfl)))
   (PSs.nox (Zae (ZaQ (ZfS D_take_join hr (pv 0) (Zaa (pv 1) Zad)))))
   (Zae (ZpE rfl ZBy T.Zhn.own rfl T.Zhi (PA.nox (Zaa (ZrE (ZpB (Zxr (pv 1)) (ZpB Zal ZAy))) Zad)))))))))),?_⟩
 walk_at "rd0";refine⟨p,_,_,_,_,rfl,Y.ob,T.Za1,T.ZaM,ZeI _ _ _ _ _,?_⟩;walk_at ""
 cases hl:L.lack with
 | true=>
  rw[hl,if_pos rfl]at k1 k2;refine ZbT rfl ?_;walk_at "";refine Zb7 (fun h1=>?_) (fun h1=>?_)
  ·rw[if_pos h1]at k2
   walk_at "";refine⟨p,_,_,_,_,rfl,Y.ob,T.Za1,T.ZbZ,Zt6 _ _ _ _ _,?_⟩;walk_at "";refine ZmS Y.ob T.Za1 T.ZbZ (Nat.le_of_ble_eq_true rfl) fun H1 b1 e1=>?_;rw[show(L.nots:Int)+1=((L.nots+1:Nat):Int) by omega,Zuq]at e1;have x:=ExtL.lev b1 Y.ob;rw[hl]at e1;exact k2 _ rfl a e H1 (.inl rfl) (.inl rfl) (fun y u h1 _ _ _ z=>b1 _ _ h1 z) ⟨e1,Y.la.keep T x fun _ z=>b1 _ _ (Zcm z Y.ob (by intro y; cases y)) z,Y.le.keep T x fun _ z=>b1 _ _ (Zcm z Y.ob (by intro y; cases y)) z,Y.lo.keep T x fun _ z=>b1 _ _ (Zcm z Y.ob (by intro y; cases y)) z,Y.ae,Y.ao,Y.eo⟩
  ·rw[if_neg h1]at k1 k2
   walk_at "";refine⟨p,_,_,_,_,rfl,Y.ob,T.Za1,T.ZaM,ZeI _ _ _ _ _,?_⟩;walk_at "";rw[hl];refine ZbT rfl ?_;walk_at "";refine⟨p,_,_,_,rfl,Y.ob,rfl,Zka _ _ _ _ _,?_⟩;walk_at "";refine⟨z,nl,ns,rfl,hn,h1000,hpl,fun f hf q H1 s1 hq=>?_,fun hf H1 s1=>k1 (by rw[hf]; rfl) H1 s1⟩;have Y1:=Y.same T s1;walk_at "";refine⟨Y1.ob,p,dx,a,e,o,q,L,f,rfl,Y1,hq,hz,fun H2 o2 Y2=>?_⟩;walk_at "";exact k2 _ (by rw[hf]; rfl) a e H2 (.inl rfl) (.inl rfl) (fun y u h1 h2 _ _ z=>o2 _ _ h1 h2 (s1 _ _ z)) Y2
 | false=>
  rw[hl,if_neg (by decide)]at k1 k2;refine ZaI rfl ?_;refine ZaI rfl ?_;walk_at "";refine⟨p,_,_,_,_,rfl,Y.ob,T.Za1,T.ZaM,ZeI _ _ _ _ _,?_⟩;walk_at "";rw[hl];refine ZaI rfl ?_;walk_at "";refine ZDh (T.q_JOINS H) ?_;walk_at ""
  cases hj:Zvh z with
  | some v=>
   have ez:=ZyG hj;subst ez;refine ZbT (by cases v <;> decide) ?_;walk_at "";refine⟨p,_,_,_,rfl,Y.ob,rfl,Zj9 _ _ _ _ _,?_⟩;walk_at "";refine⟨Y.ob,p,dx,a,e,o,L,v,rfl,Y,hz,fun a' e' H1 ha he o1 Y1=>?_⟩;walk_at "";exact k2 _ (by rw[hj]; rfl) a' e' H1 ha he o1 Y1
  | none=>
   have nz:z∉(["and","either","or"]:List Str):=fun hm=>by
    unfold Zvh at hj;simp only [mem_cons,not_mem_nil,or_false]at hm
    rcases hm with rfl | rfl | rfl
    ·rw[if_pos rfl]at hj; cases hj
    ·exact absurd hj (by decide)
    ·exact absurd hj (by decide)
   refine ZaI (decide_eq_false nz) ?_
   (try dsimp only)
   refine ZsJ ?_;walk_at "";have hpl':(reprText z).length≤900000:=hpl;have e0:Str.empty.length=0:=rfl;have e:=ZaT Str.empty (reprText z);have e1:=ZaT (Str.empty++reprText z) " stands behind a part";have e2:Str.length " stands behind a part" = 21:=rfl;refine⟨_,rfl,Zc4 (by omega),_,rfl,Zc4 (by omega),?_⟩;walk_at "";refine⟨_,rfl,Zc4 (by omega),Zc4 (by omega),?_⟩;walk_at "";exact⟨Nat.le_of_ble_eq_true rfl,k1 (by rw[hj]; rfl) H (Same.refl _)⟩
end
abbrev A5:=Addr×Addr×Addr×Addr×Addr
def cells:List A5→List Addr
 | []=>[]
 | x::r=>x.1::x.2.2.1::x.2.2.2.1::x.2.2.2.2::cells r
def refs (ads:List A5):List V:=(ads.map (·.1)).reverse.map V.ref
theorem Zkl (x:A5) (r:List A5):refs (x::r)=refs r++[.ref x.1]:=by unfold refs; simp
theorem ZpI (r:List A5):(refs r).length=r.length:=by unfold refs; simp
theorem ZtF {α:Type} (xs:List α) (y:α):atI (xs++[y]) (-1)=some y:=by
 unfold atI ixN;rw[if_neg (by decide),length_append,length_singleton,if_pos (by omega)]
 have e:((-1:Int)+((xs.length+1:Nat):Int)).toNat=xs.length:=by omega
 show(xs++[y])[((-1:Int)+((xs.length+1:Nat):Int)).toNat]?=some y;rw[e,List.getElem?_append_right (Nat.le_refl _),Nat.sub_self];rfl
def ZlV (t:Ad) (H:Hp):List A5→List Lv→Prop
 | [],[]=>True
 | x::r,L::S=>LvAt t H x.1 x.2.1 x.2.2.1 x.2.2.2.1 x.2.2.2.2 L∧ZlV t H r S
 | _,_=>False
section
variable {P:Program} {w:World} {K:W.Frag} {mg:Str→Option Value} {base:Heap} {t:Ad} {H H' H'' H0:Hp}
theorem ZlV.keep (T:Txt K mg t) (s:ExtL t H H'):∀{ads:List A5} {S:List Lv},ZlV t H ads S→(∀x u,x∈cells ads→H x=some u→H' x=some u)→ZlV t H' ads S
 | [],[],_,_=>trivial
 | x::r,L::S,h,k=>by
  refine⟨h.1.keep T s fun y u hy z=>k y u ?_ z,h.2.keep T s fun y u hy z=>k y u ?_ z⟩
  ·unfold cells
   rcases hy with rfl | rfl | rfl | rfl <;> simp
  ·unfold cells
   simp[hy]
 | [],_::_,h,_=>h.elim
 | _::_,[],h,_=>h.elim
theorem ZlV.len:∀{ads:List A5} {S:List Lv},ZlV t H ads S→ads.length=S.length
 | [],[],_=>rfl
 | _::_,_::_,h=>congrArg (· + 1) h.2.len
 | [],_::_,h=>h.elim
 | _::_,[],h=>h.elim
theorem ZlV.there:∀{ads:List A5} {S:List Lv},ZlV t H ads S→∀x∈cells ads,∃u,H x=some u
 | [],[],_,x,hx=>by cases hx
 | y::r,L::S,h,x,hx=>by
  obtain⟨pa,ea,_⟩:=h.1.la;obtain⟨pe,ee,_⟩:=h.1.le;obtain⟨po,eo,_⟩:=h.1.lo;unfold cells at hx;simp only [mem_cons]at hx
  rcases hx with rfl | rfl | rfl | rfl | hx
  ·exact⟨_,h.1.ob⟩
  ·exact⟨_,ea⟩
  ·exact⟨_,ee⟩
  ·exact⟨_,eo⟩
  ·exact h.2.there x hx
 | [],_::_,h,_,_=>h.elim
 | _::_,[],h,_,_=>h.elim
theorem ZlV.bottom:∀{ads:List A5} {S:List Lv},ZlV t H ads S→ads≠[]→∃(b:A5) (L0:Lv),(refs ads)[0]?=some (.ref b.1)∧S.getLast?=some L0∧LvAt t H b.1 b.2.1 b.2.2.1 b.2.2.2.1 b.2.2.2.2 L0∧∀x∈[b.1,b.2.2.1,b.2.2.2.1,b.2.2.2.2],x∈cells ads
 | [],_,_,n=>absurd rfl n
 | [y],[L],h,_=>⟨y,L,rfl,rfl,h.1,fun x hx=>by simpa [cells] using hx⟩
 | y::z::r,L::M::S,h,_=>by
  obtain⟨b,L0,h1,h2,h3,h4⟩:=ZlV.bottom h.2 (by simp);refine⟨b,L0,?_,?_,h3,fun x hx=>?_⟩
  ·rw[Zkl,List.getElem?_append_left (by rw[ZpI]; simp)]
   exact h1
  ·rw[List.getLast?_cons_cons]
   exact h2
  ·have:=h4 x hx
   unfold cells;simp[this]
 | [_],[],h,_=>h.elim
 | [_],_::_::_,h,_=>h.2.elim
 | _::_::_,[],h,_=>h.elim
 | _::_::_,[_],h,_=>h.2.elim
structure SK (t:Ad) (H0 H:Hp) (lv:Addr) (ads:List A5) (S:List Lv):Prop where
 ls:H lv=some (.lst (refs ads))
 st:ZlV t H ads S
 nd:(lv::cells ads).Nodup
 fr:∀x∈lv::cells ads,H0 x=none
 sm:Same H0 H
theorem SK.kp {lv:Addr} {ads:List A5} {S:List Lv} (Z:SK t H0 H lv ads S) {x:Addr} (hx:x∈lv::cells ads) {y:Addr} {u:HO} (e:H0 y=some u):y≠x:=Zag e (Z.fr x hx)
theorem SK.top (T:Txt K mg t) {lv p dx a e o a' e':Addr} {r:List A5} {L L':Lv} {S:List Lv} (Z:SK t H0 H lv ((p,dx,a,e,o)::r) (L::S)) (ha:a'=a∨H a'=none) (he:e'=e∨H e'=none) (k:Off4 p a e o H H') (Y:LvAt t H' p dx a' e' o L'):SK t H0 H' lv ((p,dx,a',e',o)::r) (L'::S):=by
 have hY:LvAt t H p dx a e o L:=Z.st.1;have nd:=Z.nd;have fr:=Z.fr;unfold cells at nd fr;simp only [nodup_cons,mem_cons,not_or]at nd;obtain⟨⟨n1,n2,n3,n4,n5⟩,⟨m1,m2,m3,m4⟩,⟨l1,l2,l3⟩,⟨k1,k2⟩,j1,jr⟩:=nd;have hr:∀x u,x∈cells r→H x=some u→H' x=some u:=fun x u hx z=>k x u (fun y=>m4 (y ▸ hx)) (fun y=>l3 (y ▸ hx)) (fun y=>k2 (y ▸ hx)) (fun y=>j1 (y ▸ hx)) z;have thr:=Z.st.there
 have nw:∀x,(x=a∨H x=none)∨(x=e∨H x=none)→x≠lv∧x∉cells r:=fun x hx=>by
  have free:H x=none→x≠lv∧x∉cells r:=fun z=>⟨(Zag Z.ls z).symm,fun hm=>by
   obtain⟨u,hu⟩:=thr x (by unfold cells; simp[hm]);rw[z]at hu
   cases hu⟩
  rcases hx with(rfl | z) | (rfl | z)
  ·exact⟨fun y=>n2 y.symm,l3⟩
  ·exact free z
  ·exact⟨fun y=>n3 y.symm,k2⟩
  ·exact free z
 obtain⟨pa,ea,_⟩:=Y.la;obtain⟨pe,ee,_⟩:=Y.le;obtain⟨po,eo,_⟩:=Y.lo;have qa:=nw a' (.inl ha);have qe:=nw e' (.inr he);have npa:p≠a':=Zcm Y.ob ea (by intro z; cases z);have npe:p≠e':=Zcm Y.ob ee (by intro z; cases z);refine⟨k _ _ n1 n2 n3 n4 Z.ls,⟨Y,Z.st.2.keep T (ExtL.off4 hY k) hr⟩,?_,fun x hx=>?_,fun x u z=>?_⟩
 ·unfold cells
  simp only [nodup_cons,mem_cons,not_or];exact⟨⟨n1,qa.1.symm,qe.1.symm,n4,n5⟩,⟨npa,npe,m3,m4⟩,⟨Y.ae,Y.ao,qa.2⟩,⟨Y.eo,qe.2⟩,j1,jr⟩
 ·have old:∀y,y∈lv::cells ((p,dx,a,e,o)::r)→H0 y=none:=Z.fr
  have mem:∀y,(y=p∨y=a∨y=e∨y=o)→y∈lv::cells ((p,dx,a,e,o)::r):=fun y hy=>by unfold cells; simp; exact .inr (by rcases hy with h | h | h | h <;> simp[h])
  unfold cells at hx;simp only [mem_cons]at hx
  rcases hx with rfl | rfl | rfl | rfl | rfl | hx
  ·exact old _ mem_cons_self
  ·exact old _ (mem _ (.inl rfl))
  ·rcases ha with rfl | z
   ·exact old _ (mem _ (.inr (.inl rfl)))
   ·exact Z.sm.free z
  ·rcases he with rfl | z
   ·exact old _ (mem _ (.inr (.inr (.inl rfl))))
   ·exact Z.sm.free z
  ·exact old _ (mem _ (.inr (.inr (.inr rfl))))
  ·exact old _ (by unfold cells; simp[hx])
 ·have mem:∀y,(y=p∨y=a∨y=e∨y=o)→y∈lv::cells ((p,dx,a,e,o)::r):=fun y hy=>by unfold cells; simp; exact .inr (by rcases hy with h | h | h | h <;> simp[h])
  exact k x u (Z.kp (mem _ (.inl rfl)) z) (Z.kp (mem _ (.inr (.inl rfl))) z) (Z.kp (mem _ (.inr (.inr (.inl rfl)))) z) (Z.kp (mem _ (.inr (.inr (.inr rfl)))) z) (Z.sm x u z)
theorem SK.push (T:Txt K mg t) {lv p dx a e o:Addr} {ads:List A5} {S:List Lv} (Z:SK t H0 H lv ads S) (s:Same H H') (np:H p=none) (na:H a=none) (ne:H e=none) (no:H o=none) (Y:LvAt t H' p dx a e o Lv.new) (b:But lv H' H'') (el:H'' lv=some (.lst (refs ads++[.ref p]))):SK t H0 H'' lv ((p,dx,a,e,o)::ads) (Lv.new::S):=by
 have hl':=s _ _ Z.ls;have thr:=Z.st.there
 have fre:∀x,H x=none→x≠lv∧x∉cells ads:=fun x z=>⟨(Zag Z.ls z).symm,fun hm=>by
  obtain⟨u,hu⟩:=thr x hm;rw[z]at hu
  cases hu⟩
 have nlv:∀x,x∈cells ads→x≠lv:=fun x hx y=>by
  have:=(nodup_cons.mp Z.nd).1;rw[y]at hx;exact this hx
 have ex:ExtL t H H'':=(ExtL.of s).trans (ExtL.lst b hl');obtain⟨pa,ea,_⟩:=id Y.la;obtain⟨pe,ee,_⟩:=id Y.le;obtain⟨po,eo,_⟩:=id Y.lo
 have Y2:LvAt t H'' p dx a e o Lv.new:=Y.keep T (ExtL.lst b hl') fun x u hx z=>b x u (by
  rcases hx with rfl | rfl | rfl | rfl
  ·exact(fre _ np).1
  ·exact(fre _ na).1
  ·exact(fre _ ne).1
  ·exact(fre _ no).1) z
 refine⟨by rw[Zkl]; exact el,⟨Y2,Z.st.keep T ex fun x u hx z=>b x u (nlv x hx) (s _ _ z)⟩,?_,fun x hx=>?_,fun x u z=>b x u (Z.kp mem_cons_self z) (s _ _ (Z.sm x u z))⟩
 ·have nd:=nodup_cons.mp Z.nd
  unfold cells;simp only [nodup_cons,mem_cons,not_or];exact⟨⟨(fre _ np).1.symm,(fre _ na).1.symm,(fre _ ne).1.symm,(fre _ no).1.symm,nd.1⟩,⟨Zcm Y.ob ea (by intro z; cases z),Zcm Y.ob ee (by intro z; cases z),Zcm Y.ob eo (by intro z; cases z),(fre _ np).2⟩,⟨Y.ae,Y.ao,(fre _ na).2⟩,⟨Y.eo,(fre _ ne).2⟩,(fre _ no).2,nd.2⟩
 ·unfold cells at hx
  simp only [mem_cons]at hx
  rcases hx with rfl | rfl | rfl | rfl | rfl | hx
  ·exact Z.fr _ mem_cons_self
  ·exact Z.sm.free np
  ·exact Z.sm.free na
  ·exact Z.sm.free ne
  ·exact Z.sm.free no
  ·exact Z.fr _ (mem_cons_of_mem _ hx)
theorem SK.pop (T:Txt K mg t) {lv p dx a e o:Addr} {r:List A5} {L:Lv} {S:List Lv} (Z:SK t H0 H lv ((p,dx,a,e,o)::r) (L::S)) (b:But lv H H') (el:H' lv=some (.lst (refs r))):SK t H0 H' lv r S∧LvAt t H' p dx a e o L:=by
 have ex:ExtL t H H':=ExtL.lst b Z.ls;have nd:=nodup_cons.mp Z.nd;have nlv:∀x,x∈cells ((p,dx,a,e,o)::r)→x≠lv:=fun x hx y=>nd.1 (y ▸ hx)
 have sub:∀x,x∈cells r→x∈cells ((p,dx,a,e,o)::r):=fun x hx=>by unfold cells; simp[hx]
 have nd2:=nd.2;unfold cells at nd2;simp only [nodup_cons]at nd2;refine⟨⟨el,Z.st.2.keep T ex fun x u hx z=>b x u (nlv x (sub x hx)) z,nodup_cons.mpr ⟨fun z=>nd.1 (sub _ z),nd2.2.2.2.2⟩,fun x hx=>?_,fun x u z=>b x u (Z.kp mem_cons_self z) (Z.sm x u z)⟩,?_⟩
 ·rcases mem_cons.mp hx with rfl | hx
  ·exact Z.fr _ mem_cons_self
  ·exact Z.fr _ (mem_cons_of_mem _ (sub x hx))
 ·exact(show LvAt t H p dx a e o L from Z.st.1).keep T ex fun x u hx z=>b x u (nlv x (by unfold cells; rcases hx with rfl | rfl | rfl | rfl <;> simp)) z
theorem SK.off (T:Txt K mg t) {lv p dx a e o:Addr} {r:List A5} {L:Lv} {S:List Lv} (Z:SK t H0 H lv r S) (Y:LvAt t H p dx a e o L) (hx:∀x∈[p,a,e,o],x∉lv::cells r∧H0 x=none) (k:Off4 p a e o H H'):SK t H0 H' lv r S:=by
 have st:∀x u,x∈lv::cells r→H x=some u→H' x=some u:=fun x u hm z=>k x u (fun y=>(hx p (by simp)).1 (y ▸ hm)) (fun y=>(hx a (by simp)).1 (y ▸ hm)) (fun y=>(hx e (by simp)).1 (y ▸ hm)) (fun y=>(hx o (by simp)).1 (y ▸ hm)) z;exact⟨st _ _ mem_cons_self Z.ls,Z.st.keep T (ExtL.off4 Y k) fun x u hm z=>st x u (mem_cons_of_mem _ hm) z,Z.nd,Z.fr,fun x u z=>k x u (Zag z (hx p (by simp)).2) (Zag z (hx a (by simp)).2) (Zag z (hx e (by simp)).2) (Zag z (hx o (by simp)).2) (Z.sm x u z)⟩
theorem SK.out {lv p dx a e o:Addr} {r:List A5} {L:Lv} {S:List Lv} (Z:SK t H0 H lv ((p,dx,a,e,o)::r) (L::S)):∀x∈[p,a,e,o],x∉lv::cells r∧H0 x=none:=fun x hx=>by
 have nd:=Z.nd;unfold cells at nd;simp only [nodup_cons,mem_cons,not_or]at nd;obtain⟨⟨n1,n2,n3,n4,n5⟩,⟨m1,m2,m3,m4⟩,⟨l1,l2,l3⟩,⟨k1,k2⟩,j1,jr⟩:=nd;have f:∀y,y∈[p,a,e,o]→H0 y=none:=fun y hy=>Z.fr y (by unfold cells; simp only [mem_cons,not_mem_nil,or_false]at hy; simp; exact .inr (by rcases hy with h | h | h | h <;> simp[h]));refine⟨?_,f x hx⟩;simp only [mem_cons,not_mem_nil,or_false]at hx;simp only [mem_cons,not_or]
 rcases hx with rfl | rfl | rfl | rfl
 ·exact⟨fun y=>n1 y.symm,m4⟩
 ·exact⟨fun y=>n2 y.symm,l3⟩
 ·exact⟨fun y=>n3 y.symm,k2⟩
 ·exact⟨fun y=>n4 y.symm,j1⟩
theorem ZvP {ns:List Str} {L:Lv} {R:List Lv} {z:Str} (h1 : ¬(z = "("∧L.lack=true)) (h2 : ¬(z = ")"∧L.lack=false∧R≠[])):Zc5 ns (L::R) z=(L.word ns z).map (· :: R):=by
 cases R with
 | nil=>simp only [Zc5]; rw[if_neg h1]
 | cons M R'=>
  simp only [Zc5];rw[if_neg h1,if_neg fun y=>h2 ⟨y.1,y.2,by simp⟩]
def ZEK (t:Ad):Sp:=fun vs H Q E=>∃(fo nl:Addr) (ws ns:List Str),vs=[.ref fo,.ref nl]∧H fo=some (.lst (ws.map V.str))∧H nl=some (.lst (ns.map V.str))∧ns.length≤1000∧ws.length≤800000∧(∀z∈ws,ZnG z)∧
 (ZkY ns ws=none→∀H',Same H H'→E (.ref t.ZaY) none H')∧(∀f,ZkY ns ws=some f→∀q H',Same H H'→FmE t H' q f→Q (.ref q) H')
theorem Zkj (T:Txt K mg t):FnS1 P w K mg base 8 "formula_in" ["found","names"] ((ZEK t)):=by
 refine⟨_,_,T.ZdE.ok1 Zfp (fun vs H Q E h=>?_) (fun cdv A outer s H vs Q E hr h=>?_),T.Zls,T.ZdE.kp,T.ZlJ⟩
 ·obtain⟨fo,nl,ws,ns,rfl,hf,hn,h1000,hz,hpl,k1,k2⟩:=h
  rfl
 obtain⟨fo,nl,ws,ns,rfl,hf,hn,h1000,hz,hpl,k1,k2⟩:=h;have ZvW:=ZyY (P:=P) (w:=w) (base:=base) T;have D_take_part:=Zi3 (P:=P) (w:=w) (base:=base) T;have D_take_word:=ZnF (P:=P) (w:=w) (base:=base) T;have D_whole:=ZuJ (P:=P) (w:=w) (base:=base) T
 refine⟨_,(Zab (PS.nox (ss 2 Zfp.nd (ZaO (Zaa (ZAx ZvW hr) Zad))))
   (Zab (ZaS PassesOwn.leaving rfl (Za6 (pv 0)) (sg 3 Zfp.nd)
   (Zab (PS.nox (ss 4 Zfp.nd (Zav Zam (pv 2) (Ztj ZoK Zac) (fun _ _=>rfl))))
   (Zae (ZaB (PT.nox (PW.pt (Zd7 (Zaj (ZaA hr.units) (pv 3) Zal (Zan _)) (Zc2 (ZaL (Zbi (pv 4) rfl) (fun _=>rfl))))))
   (PSs.nox (Zae (ZaQ (ZcB F.plainAttrs_list F.slot_list_append F.type_list_append ZaK (pv 2) (Zaa (ZAx ZvW hr) Zad)))))
   (Zae (ZaB (PT.nox (PW.pt (Zd7 (Zaj (ZaA hr.units) (pv 3) Zal (Zan _)) (Zd7 (Zgp (ZaL (Zbi (pv 4) rfl) (fun _=>rfl))) (Zc2 (Zaj Zju (Zaw Zaz rfl T.B.len Za4 (Zaa (pv 2) Zad)) Zac (Zan _)))))))
   (PSs.nox (Zab (ZaQ (Zxp F.plainAttrs_list F.slot_list_pop F.type_list_pop ZDQ (pv 2)))
   (Zae (ZaQ (ZfS D_take_part hr (Zav Zam (pv 2) (Ztj ZoK Zac) (fun _ _=>rfl)) (Zaa (Zxq D_whole hr (pv 4)) Zad))))))
   (Zae (ZaQ (ZD7 ZD5 D_take_word hr (pv 4) (Zaa (pv 3) (Zaa (pv 1) Zad)))))))))))
   (Zab (ZaB (PT.nox (ZaL (Zbi (Zav Zam (pv 2) Zac (fun _ _=>rfl)) rfl) (fun _=>rfl)))
   (Zae (ZpE rfl ZBy T.Zhn.own rfl T.Zhi (PA.nox (Zaa Zal Zad))))
   (PSs.nox Zap))
   (PSs.nox (Zae (Zao (Zxq D_whole hr (Zav Zam (pv 2) Zac (fun _ _=>rfl))))))))),?_⟩
 walk_at "rd0";refine ZwE fun p dx a e o H1 s1 np na ne no Y1=>?_;walk_at "";refine ZbW (Nat.le_of_ble_eq_true rfl) fun lv H2 s2 n2 e2=>?_
 have Z0:SK t H H2 lv [(p,dx,a,e,o)] [Lv.new]:=by
  obtain⟨pa,ea,_⟩:=id Y1.la;obtain⟨pe,ee,_⟩:=id Y1.le;obtain⟨po,eo,_⟩:=id Y1.lo;refine⟨e2,⟨Y1.same T s2,trivial⟩,?_,fun x hx=>?_,s1.trans s2⟩
  ·simp only [cells,nodup_cons,mem_cons,not_mem_nil,or_false,not_or,not_false_eq_true,nodup_nil,and_true]
   exact⟨⟨(Zag Y1.ob n2).symm,(Zag ea n2).symm,(Zag ee n2).symm,(Zag eo n2).symm⟩,⟨Zcm Y1.ob ea (by intro z; cases z),Zcm Y1.ob ee (by intro z; cases z),Zcm Y1.ob eo (by intro z; cases z)⟩,⟨Y1.ae,Y1.ao⟩,Y1.eo⟩
  ·simp only [cells,mem_cons,not_mem_nil,or_false]at hx
   rcases hx with rfl | rfl | rfl | rfl | rfl
   ·exact s1.free n2
   ·exact np
   ·exact na
   ·exact ne
   ·exact no
 clear Y1 s1 s2 n2 e2 np na ne no;walk_at "";refine seqL (xs:=ws.map V.str) (fun i σ H'=>∃ads S v3 v4,SK t H H' lv ads S∧runW ns [Lv.new] (ws.take i)=some S∧(∀L∈S,L.size≤i)∧S≠[]∧ads.length≤i+1∧σ=[some (.ref fo),some (.ref nl),some (.ref lv),v3,v4]) ⟨_,_,_,_,Z0,rfl,(fun L hL=>by rw[mem_singleton.mp hL]; exact Nat.le_refl 0),by simp,Nat.le_refl _,rfl⟩ (fun i σ H' _ hp=>by obtain⟨ads,S,v3,v4,Z,_⟩:=hp; exact SqL.of (Z.sm _ _ hf)) ?_ ?_
 ·rintro i x σ H3 hx ⟨ads,S,v3,v4,Z,hrun,hsz,hne,hal,rfl⟩
  rw[getElem?_map]at hx;obtain⟨z,hzi,rfl⟩:=Option.map_eq_some_iff.mp hx;have hil:=(List.getElem?_eq_some_iff.mp hzi).1
  have rn:runW ns [Lv.new] (ws.take (i+1))=(Zc5 ns S z):=by
   rw[ZaD hzi,ZfU,hrun];show runW ns S [z]=_;unfold runW
   cases Zc5 ns S z <;> rfl
  have rno:Zc5 ns S z=none→ZkY ns ws=none:=fun h=>by
   unfold ZkY
   have:runW ns [Lv.new] ws=none:=by
    rw[←List.take_append_drop (i+1) ws,ZfU,rn,h];rfl
   rw[this];rfl
  have zpl:=hpl z (mem_of_getElem? hzi)
  match ads,S,Z,hne with
  | [],[],_,hne=>exact absurd rfl hne
  | [],_::_,Z,_=>exact Z.st.elim
  | _::_,[],Z,_=>exact Z.st.elim
  | (p,dx,a,e,o)::r,L::R,Z,_=>
   have Y:LvAt t H3 p dx a e o L:=Z.st.1;have hls:=Z.ls;rw[Zkl]at hls;have rl:=Z.st.2.len;have hL:=hsz L mem_cons_self;have fin:∀(H':Hp) (v3 v4:Option V) (ads':List A5) (S':List Lv),SK t H H' lv ads' S'→Zc5 ns (L::R) z=some S'→ads'.length≤i+2→∃ads S w3 w4,SK t H H' lv ads S∧runW ns [Lv.new] (ws.take (i+1))=some S∧(∀L∈S,L.size≤i+1)∧S≠[]∧ads.length≤i+1+1∧[some (.ref fo),some (.ref nl),some (.ref lv),v3,v4]=[some (.ref fo),some (.ref nl),some (.ref lv),w3,w4]:=fun H' v3 v4 ads' S' Z' h hl'=>⟨ads',S',v3,v4,Z',by rw[rn,h],Zx1 h hsz,ZCw h,hl',rfl⟩
   have wrd:∀(Q':VK),(∀L' a' e' H',L.word ns z=some L'→SK t H H' lv ((p,dx,a',e',o)::r) (L'::R)→Q' .non H')→(L.word ns z=none→Zc5 ns (L::R) z=none)→ZxZ t [.ref p,.str z,.ref nl] H3 Q' E:=fun Q' h1 h2=>
    ⟨p,dx,a,e,o,nl,L,z,ns,rfl,Y,by omega,Z.sm _ _ hn,h1000,zpl,fun hw H' s'=>k1 (rno (h2 hw)) H' (Z.sm.trans s'),fun L' hw a' e' H' ha he k Y'=>h1 L' a' e' H' hw (Z.top T ha he k Y')⟩
   walk_at "";refine ZtX hls (ZtF _ _) ?_;walk_at "";have lp:((p,dx,a,e,o)::r:List A5).length≤i+1:=hal;rw[length_cons]at lp;refine(fun(key : ¬(z = "("∧L.lack=true)→?G)=>?main) ?key
   case main=>
    refine Zb7 (fun h1=>?_) (fun h1=>?_)
    ·walk_at ""
     refine⟨p,_,_,_,_,rfl,Y.ob,T.Za1,T.ZaM,ZeI _ _ _ _ _,?_⟩;walk_at ""
     cases hl:L.lack with
     | true=>
      refine ZbT rfl ?_;walk_at "";refine⟨tyL Z.ls,?_⟩;walk_at "";refine ZwE fun p' dx' a' e' o' H4 s4 np na ne no Y4=>?_;walk_at "";refine Za5 (s4 _ _ Z.ls) (by rw[ZpI]; simp only [length_cons]; omega) fun H5 b5 e5=>?_;walk_at "";exact fin H5 _ _ _ _ (Z.push T s4 np na ne no Y4 b5 e5) (by simp only [Zc5]; rw[if_pos ⟨h1,hl⟩]) (by simp only [length_cons]; omega)
     | false=>
      refine ZaI rfl ?_
      exact key fun y=>by rw[hl]at y; exact absurd y.2 (by decide)
    ·refine ZaI rfl ?_
     exact key fun y=>h1 y.1
   intro hno;refine(fun(key : ¬(z = ")"∧L.lack=false∧R≠[])→?W)=>?main2) ?key2
   case main2=>
    walk_at "";refine Zb7 (fun h2=>?_) (fun h2=>?_)
    ·walk_at ""
     refine⟨p,_,_,_,_,rfl,Y.ob,T.Za1,T.ZaM,ZeI _ _ _ _ _,?_⟩;walk_at ""
     cases hl:L.lack with
     | true=>
      refine ZaI rfl ?_;refine ZaI rfl ?_
      exact key fun y=>by rw[hl]at y; exact absurd y.2.1 (by decide)
     | false=>
      refine ZbT rfl ?_;walk_at "";rw[length_append,ZpI,length_singleton];refine Zb7 (fun h3=>?_) (fun h3=>?_)
      ·match r,R,Z,rl with
       | [],_,_,_=>exact absurd h3 (by decide)
       | _::_,[],_,rl=>cases rl
       | (p2,dx2,a2,e2,o2)::r',M::R',Z,_=>
        walk_at "";refine⟨tyL hls,?_⟩;walk_at "";refine ZFj hls fun H4 b4 e4=>?_;obtain⟨Z4,Y4⟩:=Z.pop T b4 e4;have ls4:=Z4.ls;rw[Zkl]at ls4;have Y2:LvAt t H4 p2 dx2 a2 e2 o2 M:=Z4.st.1;have hM:=hsz M (mem_cons_of_mem _ mem_cons_self);walk_at "";refine ZtX ls4 (ZtF _ _) ?_;walk_at "";refine⟨p2,_,_,_,rfl,Y2.ob,rfl,Zka _ _ _ _ _,?_⟩;walk_at "";refine⟨p,_,_,_,rfl,Y4.ob,rfl,Zrn _ _ _ _ _,?_⟩;walk_at "";refine⟨Y4.ob,p,dx,a,e,o,L,rfl,Y4,by omega,fun q H5 k5 hq=>?_⟩;have Z5:=Z4.off T Y4 Z.out k5;have Y25:LvAt t H5 p2 dx2 a2 e2 o2 M:=Z5.st.1;walk_at "";refine⟨Y25.ob,p2,dx2,a2,e2,o2,q,M,L.whole,rfl,Y25,hq,by omega,fun H6 o6 Y6=>?_⟩;walk_at "";refine fin H6 _ _ _ _ (Z5.top T (.inl rfl) (.inl rfl) (fun x u h1 h2 _ _ zz=>o6 _ _ h1 h2 zz) Y6) ?_ (by simp only [length_cons]at lp ⊢; omega);simp only [Zc5];rw[if_neg hno,if_pos ⟨h2,hl⟩]
      ·exact key fun y=>by
        cases r with
        | nil=>exact y.2.2 (length_eq_zero_iff.mp rl.symm)
        | cons x r'=>simp only [length_cons]at h3; omega
    ·refine ZaI rfl ?_
     exact key fun y=>h2 y.1
   intro hn2;have sw:=ZvP (ns:=ns) hno hn2;walk_at "";refine⟨p,_,_,_,rfl,Y.ob,rfl,Zpm _ _ _ _ _,?_⟩;walk_at "";refine⟨Y.ob,wrd _ (fun L' a' e' H' hw Z'=>?_) fun hw=>by rw[sw,hw]; rfl⟩;walk_at "";exact fin H' _ _ _ _ Z' (by rw[sw,hw]; rfl) (by simp only [length_cons]; omega)
 ·rintro σ H3 ⟨ads,S,v3,v4,Z,hrun,hsz,hne,hal,rfl⟩
  rw[length_map,take_length]at hrun;rw[length_map]at hsz
  have hane:ads≠[]:=fun z=>by
   have:=Z.st.len;rw[z]at this;exact hne (length_eq_zero_iff.mp this.symm)
  obtain⟨b,L0,hb,hS,Y0,hmem⟩:=Z.st.bottom hane;have hls:=Z.ls
  have rd:ZkY ns ws=endF L0:=by
   unfold ZkY;rw[hrun];show S.getLast?.bind endF=_;rw[hS];rfl
  have hL0:=hsz L0 (List.mem_of_getLast? hS);rw[rd]at k1 k2;unfold endF at k1 k2;walk_at "";refine ZbJ (j:=0) hls hb ?_;walk_at "";refine⟨b.1,_,_,_,_,rfl,Y0.ob,T.Za1,T.ZaM,ZeI _ _ _ _ _,?_⟩;walk_at ""
  cases hl:L0.lack with
  | true=>
   rw[hl,if_pos rfl]at k1;refine ZbT rfl ?_
   (try dsimp only)
   refine ZsJ ?_;walk_at "";exact⟨Nat.le_of_ble_eq_true rfl,k1 rfl H3 Z.sm⟩
  | false=>
   rw[hl,if_neg (by decide)]at k2;refine ZaI rfl ?_;walk_at "";refine ZbJ (j:=0) hls hb ?_;walk_at "";refine⟨b.1,_,_,_,rfl,Y0.ob,rfl,Zrn _ _ _ _ _,?_⟩;walk_at "";refine⟨Y0.ob,b.1,_,_,_,_,L0,rfl,Y0,by omega,fun q H4 k4 hq=>?_⟩;have kp:∀y,y∈[b.1,b.2.2.1,b.2.2.2.1,b.2.2.2.2]→∀{x u},H x=some u→x≠y:=fun y hy {x u} zz=>Z.kp (mem_cons_of_mem _ (hmem y hy)) zz;exact k2 _ rfl q H4 (fun x u zz=>k4 x u (kp _ (by simp) zz) (kp _ (by simp) zz) (kp _ (by simp) zz) (kp _ (by simp) zz) (Z.sm x u zz)) hq
end
def Wd (p:List Nat):Prop:=p=[40]∨p=[41]∨(p≠[]∧∀c∈p,97≤c∧c≤122)
def Znp:W3→Nat
 | .a=>1
 | .e=>2
 | .o=>3
inductive Tr where
 | lamp (k:Nat)
 | sure (b:Bool)
 | neg (t:Tr)
 | wrap (t:Tr)
 | join (w:W3) (ts:List Tr)
mutual
def fmT (π:Nat→Nat):Tr→Fm
 | .lamp k=>.lamp (π k)
 | .sure b=>.sure b
 | .neg t=>.neg (fmT π t)
 | .wrap t=>fmT π t
 | .join w ts=>.join w (fmTL π ts)
def fmTL (π:Nat→Nat):List Tr→List Fm
 | []=>[]
 | t::ts=>fmT π t::fmTL π ts
end
def rkG (b:Bool):Tr→Nat
 | .wrap t=>if b=true then 0 else rkG b t
 | .join w _=>Znp w
 | _=>0
def brW (b:Bool) (ws:List Str):List Str:=if b=true then "("::(ws++([")"]:List Str)) else ws
def jnW (k:Str):List (List Str)→List Str
 | []=>[]
 | [p]=>p
 | p::q::r=>p++k::jnW k (q::r)
mutual
def wdG (b:Bool) (ns:List Str):Tr→List Str
 | .lamp k=>[ns.getD k Str.empty]
 | .sure c=>[if c=true then "yes" else "no"]
 | .neg t=>"not"::brW (decide (1≤rkG b t)) (wdG b ns t)
 | .wrap t=>brW b (wdG b ns t)
 | .join w ts=>jnW (kw3 w) (wdGL b ns (Znp w) ts)
def wdGL (b:Bool) (ns:List Str) (r:Nat):List Tr→List (List Str)
 | []=>[]
 | t::ts=>brW (decide (r≤rkG b t)) (wdG b ns t)::wdGL b ns r ts
end
mutual
def okT (m:Nat):Tr→Bool
 | .lamp k=>decide (k < m)
 | .sure _=>true
 | .neg t=>okT m t
 | .wrap t=>okT m t
 | .join _ ts=>decide (2≤ts.length) && okTL m ts
def okTL (m:Nat):List Tr→Bool
 | []=>true
 | t::ts=>okT m t && okTL m ts
end
theorem ZtQ (π:Nat→Nat):∀ts:List Tr,(fmTL π ts).length=ts.length
 | []=>rfl
 | _::ts=>congrArg (· + 1) (ZtQ π ts)
def ZCS (v:W3) (L:Lv):Prop:=L.nots=0∧L.lack=true∧(v≠.a→L.ands=[])∧(v=.o→L.eithers=[])
def cl0:W3→Lv→List Fm
 | .a,L=>L.ands
 | .e,L=>L.eithers
 | .o,L=>L.ors
def cl:W3→Lv→List Fm
 | .a,L=>L.ands
 | .e,L=>L.eithers++[ZbY .a L.ands]
 | .o,L=>L.ors++[ZbY .e (L.eithers++[ZbY .a L.ands])]
def up3 (v:W3) (L L':Lv):Prop:=(v=.a→L'.eithers=L.eithers)∧(v≠.o→L'.ors=L.ors)
def D0 (ns:List Str) (ws:List Str) (f:Fm):Prop:=∀(L:Lv) (R:List Lv),L.lack=true→runW ns (L::R) ws=some (L.part f::R)
def Pw (ns:List Str) (v:W3) (ws:List Str) (fs:List Fm):Prop:=∀(L:Lv) (R:List Lv),ZCS v L→∃L',runW ns (L::R) ws=some (L'::R)∧L'.lack=false∧L'.nots=0∧cl v L'=cl0 v L++fs∧up3 v L L'
def Ww (ns:List Str) (ws:List Str) (f:Fm):Prop:=∀R:List Lv,∃L',runW ns (Lv.new::R) ws=some (L'::R)∧L'.lack=false∧L'.whole=f
theorem D0.a {ns ws:List Str} {f:Fm} (h:D0 ns ws f):Pw ns .a ws [f]:=fun L R c=>⟨L.part f,h L R c.2.1,rfl,rfl,by show L.ands++[negs L.nots f]=_; rw[c.1]; rfl,fun _=>rfl,fun _=>rfl⟩
theorem Pw.ae {ns ws:List Str} {fs:List Fm} {f:Fm} (h:Pw ns .a ws fs) (e:ZbY .a fs=f):Pw ns .e ws [f]:=fun L R c=>by
 obtain⟨L',h1,h2,h3,h4,h5⟩:=h L R ⟨c.1,c.2.1,fun z=>absurd rfl z,fun z=>nomatch z⟩
 have ha:L'.ands=fs:=by
  have:L'.ands=L.ands++fs:=h4;rw[this,c.2.2.1 (by decide)];rfl
 refine⟨L',h1,h2,h3,?_,(fun z=>nomatch z),fun z=>h5.2 (by decide)⟩;show L'.eithers++[ZbY .a L'.ands]=L.eithers++[f];rw[h5.1 rfl,ha,e]
theorem Pw.eo {ns ws:List Str} {fs:List Fm} {f:Fm} (h:Pw ns .e ws fs) (e:ZbY .e fs=f):Pw ns .o ws [f]:=fun L R c=>by
 obtain⟨L',h1,h2,h3,h4,h5⟩:=h L R ⟨c.1,c.2.1,fun _=>c.2.2.1 (by decide),fun z=>nomatch z⟩
 have he:L'.eithers++[ZbY .a L'.ands]=fs:=by
  have:L'.eithers++[ZbY .a L'.ands]=L.eithers++fs:=h4;rw[this,c.2.2.2 rfl];rfl
 refine⟨L',h1,h2,h3,?_,(fun z=>nomatch z),fun z=>absurd rfl z⟩;show L'.ors++[ZbY .e (L'.eithers++[ZbY .a L'.ands])]=L.ors++[f];rw[h5.2 (by decide),he,e]
theorem Pw.w {ns ws:List Str} {fs:List Fm} {f:Fm} (h:Pw ns .o ws fs) (e:ZbY .o fs=f):Ww ns ws f:=fun R=>by
 obtain⟨L',h1,h2,h3,h4,h5⟩:=h Lv.new R ⟨rfl,rfl,fun _=>rfl,fun _=>rfl⟩;refine⟨L',h1,h2,?_⟩;have:L'.ors++[ZbY .e (L'.eithers++[ZbY .a L'.ands])]=fs:=h4;show ZbY .o (L'.ors++[ZbY .e (L'.eithers++[ZbY .a L'.ands])])=f;rw[this,e]
theorem ZBv (v:W3):Zvh (kw3 v)=some v:=by cases v <;> decide
theorem ZDJ (v:W3):kw3 v≠"("∧kw3 v≠")":=by cases v <;> decide
theorem Zx0 {ns:List Str} {L:Lv} {R:List Lv} (v:W3) (h:L.lack=false):Zc5 ns (L::R) (kw3 v)=some (L.join v::R):=by
 have hw:L.word ns (kw3 v)=some (L.join v):=by
  unfold Lv.word;rw[if_neg (by rw[h]; decide),ZBv];rfl
 have h1 : ¬(kw3 v = "("∧L.lack=true):=fun y=>(ZDJ v).1 y.1
 cases R with
 | nil=>simp only [Zc5]; rw[if_neg h1,hw]; rfl
 | cons M R=>simp only [Zc5]; rw[if_neg h1,if_neg fun y=>(ZDJ v).2 y.1,hw]; rfl
theorem Zij {ns:List Str} {S S':List Lv} {z:Str} {r:List Str} (h:Zc5 ns S z=some S'):runW ns S (z::r)=runW ns S' r:=by
 show(Zc5 ns S z).bind _=_;rw[h];rfl
theorem Pw.join {ns:List Str} {v:W3}:∀{txs:List (List Str)} {fs:List Fm},txs≠[]→Paired (fun tx f=>Pw ns v tx [f]) txs fs→Pw ns v (jnW (kw3 v) txs) fs
 | [],_,n,_=>absurd rfl n
 | [tx],_,_,.cons h .nil=>h
 | tx::ty::r,f::fs,_,.cons h t=>fun L R c=>by
  obtain⟨L1,a1,a2,a3,a4,a5⟩:=h L R c;have ih:=Pw.join (txs:=ty::r) (by simp) t
  have c1:ZCS v (L1.join v):=by
   refine⟨?_,?_,fun hv=>?_,fun hv=>?_⟩
   ·cases v <;> exact a3
   ·cases v <;> rfl
   ·cases v
    ·exact absurd rfl hv
    ·rfl
    ·rfl
   ·subst hv; rfl
  have e0:cl0 v (L1.join v)=cl v L1:=by cases v <;> rfl
  obtain⟨L2,b1,b2,b3,b4,b5⟩:=ih (L1.join v) R c1;refine⟨L2,?_,b2,b3,?_,?_,?_⟩
  ·show runW ns (L::R) (tx++kw3 v::jnW (kw3 v) (ty::r))=_
   rw[ZfU,a1];show runW ns (L1::R) (kw3 v::jnW (kw3 v) (ty::r))=_;rw[Zij (Zx0 v a2)];exact b1
  ·rw[b4,e0,a4,append_assoc]
   rfl
  ·intro hv
   subst hv;exact(b5.1 rfl).trans (a5.1 rfl)
  ·intro hv
   refine(b5.2 hv).trans ?_
   have:(L1.join v).ors=L1.ors:=by
    cases v
    ·rfl
    ·rfl
    ·exact absurd rfl hv
   rw[this];exact a5.2 hv
theorem D0.br {ns ws:List Str} {f:Fm} (h:Ww ns ws f):D0 ns ("("::(ws++([")"]:List Str))) f:=fun L R hl=>by
 obtain⟨L',h1,h2,h3⟩:=h (L::R)
 have s1:Zc5 ns (L::R) "(" = some (Lv.new::L::R):=by simp only [Zc5]; rw[if_pos ⟨trivial,hl⟩]
 rw[Zij s1,ZfU,h1];show runW ns (L'::L::R) [")"]=_
 have s2:Zc5 ns (L'::L::R) ")" = some (L.part L'.whole::R):=by
  simp only [Zc5];rw[if_neg (by rintro⟨y,_⟩; exact absurd y (by decide)),if_pos ⟨trivial,h2⟩]
 rw[Zij s2,h3];rfl
theorem D0.one {ns:List Str} {z:Str} {f:Fm} (h:ZiB ns z=some f) (h1:z≠"(") (h2:z≠")") (h3:z≠"not"):D0 ns [z] f:=fun L R hl=>by
 have hw:L.word ns z=some (L.part f):=by
  unfold Lv.word;rw[if_pos hl,if_neg h3,h];rfl
 have s1:Zc5 ns (L::R) z=some (L.part f::R):=by
  cases R with
  | nil=>simp only [Zc5]; rw[if_neg fun y=>h1 y.1,hw]; rfl
  | cons M R=>simp only [Zc5]; rw[if_neg fun y=>h1 y.1,if_neg fun y=>h2 y.1,hw]; rfl
 rw[Zij s1];rfl
theorem Zw9 (n:Nat) (f:Fm):negs n (.neg f)=negs (n+1) f:=by
 induction n with
 | zero=>rfl
 | succ n ih=>show Fm.neg (negs n (.neg f))=_; rw[ih]; rfl
theorem D0.not {ns ws:List Str} {f:Fm} (h:D0 ns ws f):D0 ns ("not"::ws) (.neg f):=fun L R hl=>by
 have hw:L.word ns "not" = some ⟨L.nots+1,L.ands,L.eithers,L.ors,L.lack⟩:=by
  unfold Lv.word;rw[if_pos hl,if_pos rfl]
 have s1:Zc5 ns (L::R) "not" = some (⟨L.nots+1,L.ands,L.eithers,L.ors,L.lack⟩::R):=by
  cases R with
  | nil=>simp only [Zc5]; rw[if_neg (by rintro⟨y,_⟩; exact absurd y (by decide)),hw]; rfl
  | cons M R=>simp only [Zc5]; rw[if_neg (by rintro⟨y,_⟩; exact absurd y (by decide)),if_neg (by rintro⟨y,_⟩; exact absurd y (by decide)),hw]; rfl
 rw[Zij s1,h ⟨L.nots+1,L.ands,L.eithers,L.ors,L.lack⟩ R hl];unfold Lv.part;rw[Zw9]
structure GoodT (ns' ns:List Str) (π:Nat→Nat) (t:Tr):Prop where
 z:rkG true t=0→D0 ns' (wdG true ns t) (fmT π t)
 e:rkG true t≤1→Pw ns' .e (wdG true ns t) [fmT π t]
 o:rkG true t≤2→Pw ns' .o (wdG true ns t) [fmT π t]
 w:Ww ns' (wdG true ns t) (fmT π t)
theorem GoodT.of0 {ns' ns:List Str} {π:Nat→Nat} {t:Tr} (h:D0 ns' (wdG true ns t) (fmT π t)):GoodT ns' ns π t:=⟨fun _=>h,fun _=>h.a.ae rfl,fun _=>(h.a.ae rfl).eo rfl,((h.a.ae rfl).eo rfl).w rfl⟩
theorem GoodT.br0 {ns' ns:List Str} {π:Nat→Nat} {t:Tr} (g:GoodT ns' ns π t) {r:Nat} (h:r≤1):D0 ns' (brW (decide (r≤rkG true t)) (wdG true ns t)) (fmT π t):=by
 by_cases e:r≤rkG true t
 ·rw[decide_eq_true e]; exact D0.br g.w
 ·rw[decide_eq_false e]; exact g.z (by omega)
theorem GoodT.br1 {ns' ns:List Str} {π:Nat→Nat} {t:Tr} (g:GoodT ns' ns π t):Pw ns' .e (brW (decide (2≤rkG true t)) (wdG true ns t)) [fmT π t]:=by
 by_cases e:2≤rkG true t
 ·rw[decide_eq_true e]; exact(D0.br g.w).a.ae rfl
 ·rw[decide_eq_false e]; exact g.e (by omega)
theorem GoodT.br2 {ns' ns:List Str} {π:Nat→Nat} {t:Tr} (g:GoodT ns' ns π t):Pw ns' .o (brW (decide (3≤rkG true t)) (wdG true ns t)) [fmT π t]:=by
 by_cases e:3≤rkG true t
 ·rw[decide_eq_true e]; exact((D0.br g.w).a.ae rfl).eo rfl
 ·rw[decide_eq_false e]; exact g.o (by omega)
structure NmsOk (ns' ns:List Str) (π:Nat→Nat) (m:Nat):Prop where
 at':∀k,k < m→idxS (ns.getD k Str.empty) ns'=some (π k)
 no:∀k,k < m→ns.getD k Str.empty∉(["yes","no","not","(",")"]:List Str)
mutual
theorem Zl3 {ns' ns:List Str} {π:Nat→Nat} {m:Nat} (N:NmsOk ns' ns π m):∀t:Tr,okT m t=true→GoodT ns' ns π t
 | .lamp k,h=>by
  have hk:k < m:=by simpa [okT] using h
  have no:=N.no k hk;simp only [mem_cons,not_mem_nil,or_false,not_or]at no;refine .of0 ?_;show D0 ns' [ns.getD k Str.empty] (.lamp (π k));refine D0.one ?_ no.2.2.2.1 no.2.2.2.2 no.2.2.1;unfold ZiB;rw[if_neg no.1,if_neg no.2.1,N.at' k hk];rfl
 | .sure b,_=>by
  refine .of0 ?_
  cases b
  ·exact D0.one (z:="no") (by unfold ZiB; rw[if_neg (by decide),if_pos rfl]; rfl) (by decide) (by decide) (by decide)
  ·exact D0.one (z:="yes") (by unfold ZiB; rw[if_pos rfl]; rfl) (by decide) (by decide) (by decide)
 | .neg t,h=>.of0 (D0.not ((Zl3 N t (by simpa [okT] using h)).br0 (Nat.le_refl 1)))
 | .wrap t,h=>.of0 (D0.br (Zl3 N t (by simpa [okT] using h)).w)
 | .join v ts,h=>by
  simp only [okT,Bool.and_eq_true,decide_eq_true_iff]at h;have gl:=ZqK N ts h.2
  have ne:∀r,wdGL true ns r ts≠[]:=fun r=>by
   cases ts with
   | nil=>simp at h
   | cons _ _=>simp[wdGL]
  have jl:∀v,ZbY v (fmTL π ts)=.join v (fmTL π ts):=fun v=>Zj5 (by rw[ZtQ]; omega)
  cases v with
  | a=>
   have p:=Pw.join (v:=.a) (ne 1) (gl.1);exact⟨(fun z:(1:Nat)=0=>nomatch z),fun _=>p.ae (jl .a),fun _=>(p.ae (jl .a)).eo rfl,((p.ae (jl .a)).eo rfl).w rfl⟩
  | e=>
   have p:=Pw.join (v:=.e) (ne 2) (gl.2.1);exact⟨(fun z:(2:Nat)=0=>nomatch z),(fun z:(2:Nat)≤1=>absurd z (by decide)),fun _=>p.eo (jl .e),(p.eo (jl .e)).w rfl⟩
  | o=>
   have p:=Pw.join (v:=.o) (ne 3) (gl.2.2);exact⟨(fun z:(3:Nat)=0=>nomatch z),(fun z:(3:Nat)≤1=>absurd z (by decide)),(fun z:(3:Nat)≤2=>absurd z (by decide)),p.w (jl .o)⟩
theorem ZqK {ns' ns:List Str} {π:Nat→Nat} {m:Nat} (N:NmsOk ns' ns π m):∀ts:List Tr,okTL m ts=true→Paired (fun tx f=>Pw ns' .a tx [f]) (wdGL true ns 1 ts) (fmTL π ts)∧Paired (fun tx f=>Pw ns' .e tx [f]) (wdGL true ns 2 ts) (fmTL π ts)∧Paired (fun tx f=>Pw ns' .o tx [f]) (wdGL true ns 3 ts) (fmTL π ts)
 | [],_=>⟨.nil,.nil,.nil⟩
 | t::ts,h=>by
  simp only [okTL,Bool.and_eq_true]at h;have g:=Zl3 N t h.1;have r:=ZqK N ts h.2;exact⟨.cons (g.br0 (Nat.le_refl 1)).a r.1,.cons g.br1 r.2.1,.cons g.br2 r.2.2⟩
end
theorem ZxG {ns' ns:List Str} {π:Nat→Nat} {m:Nat} (N:NmsOk ns' ns π m) {t:Tr} (h:okT m t=true):ZkY ns' (wdG true ns t)=some (fmT π t):=by
 obtain⟨L',h1,h2,h3⟩:=(Zl3 N t h).w [];unfold ZkY;rw[h1];show(some L').bind endF=_;show endF L'=_;unfold endF;rw[if_neg (by rw[h2]; decide),h3]
def Zq0:Tr→Str
 | .lamp _=>"lamp"
 | .sure _=>"sure"
 | .neg _=>"not"
 | .wrap _=>"wrap"
 | .join v _=>kw3 v
def anyA:Addr→Prop:=fun _=>True
def TwAt (S:Addr→Prop) (H:Hp):Nat→Addr→Tr→Prop
 | 0,_,_=>False
 | n+1,p,t=>match t with
  | .lamp k=>H p=some (.tup [.str "lamp",.int (k:Int)])
  | .sure b=>H p=some (.tup [.str "sure",.bl b])
  | .neg g=>∃l q,H p=some (.tup [.str "not",.ref l])∧S l∧H l=some (.lst [.ref q])∧TwAt S H n q g
  | .wrap g=>∃l q,H p=some (.tup [.str "wrap",.ref l])∧S l∧H l=some (.lst [.ref q])∧TwAt S H n q g
  | .join v gs=>∃l ps,H p=some (.tup [.str (kw3 v),.ref l])∧S l∧H l=some (.lst (ps.map V.ref))∧Paired (TwAt S H n) ps gs
theorem TwAt.imp {S S':Addr→Prop} {H H':Hp} (ht:∀p xs,H p=some (.tup xs)→H' p=some (.tup xs)) (hl:∀l xs,S l→H l=some (.lst xs)→S' l∧H' l=some (.lst xs)):∀{n:Nat} {p:Addr} {f:Tr},TwAt S H n p f→TwAt S' H' n p f
 | 0,_,_,h=>h
 | n+1,p,f,h=>by
  cases f with
  | lamp k=>exact ht _ _ h
  | sure b=>exact ht _ _ h
  | neg g=>obtain⟨l,q,e,sl,e2,h⟩:=h; exact⟨l,q,ht _ _ e,(hl _ _ sl e2).1,(hl _ _ sl e2).2,TwAt.imp ht hl h⟩
  | wrap g=>obtain⟨l,q,e,sl,e2,h⟩:=h; exact⟨l,q,ht _ _ e,(hl _ _ sl e2).1,(hl _ _ sl e2).2,TwAt.imp ht hl h⟩
  | join w gs=>obtain⟨l,ps,e,sl,e2,h⟩:=h; exact⟨l,ps,ht _ _ e,(hl _ _ sl e2).1,(hl _ _ sl e2).2,Zaf (fun a b h=>TwAt.imp ht hl h) h⟩
theorem TwAt.same {S:Addr→Prop} {H H':Hp} (s:Same H H') {n:Nat} {p:Addr} {f:Tr} (h:TwAt S H n p f):TwAt S H' n p f:=h.imp (fun _ _ e=>s _ _ e) fun _ _ z e=>⟨z,s _ _ e⟩
theorem TwAt.any {S:Addr→Prop} {H:Hp} {n:Nat} {p:Addr} {f:Tr} (h:TwAt S H n p f):TwAt anyA H n p f:=h.imp (fun _ _ e=>e) fun _ _ _ e=>⟨trivial,e⟩
theorem TwAt.le {S:Addr→Prop} {H:Hp}:∀{n m:Nat} {p:Addr} {f:Tr},n≤m→TwAt S H n p f→TwAt S H m p f
 | 0,_,_,_,_,h=>h.elim
 | n+1,0,_,_,hm,_=>absurd hm (by omega)
 | n+1,m+1,p,f,hm,h=>by
  have hm':n≤m:=by omega
  cases f with
  | lamp k=>exact h
  | sure b=>exact h
  | neg g=>obtain⟨l,q,e,sl,e2,h⟩:=h; exact⟨l,q,e,sl,e2,TwAt.le hm' h⟩
  | wrap g=>obtain⟨l,q,e,sl,e2,h⟩:=h; exact⟨l,q,e,sl,e2,TwAt.le hm' h⟩
  | join w gs=>obtain⟨l,ps,e,sl,e2,h⟩:=h; exact⟨l,ps,e,sl,e2,Zaf (fun a b h=>TwAt.le hm' h) h⟩
theorem TwAt.kind {S:Addr→Prop} {H:Hp} {n:Nat} {p:Addr} {f:Tr} (h:TwAt S H n p f):∃v,H p=some (.tup [.str (Zq0 f),v]):=by
 cases n with
 | zero=>exact h.elim
 | succ n=>
  cases f with
  | lamp k=>exact⟨_,h⟩
  | sure b=>exact⟨_,h⟩
  | neg g=>obtain⟨l,q,e,_⟩:=h; exact⟨_,e⟩
  | wrap g=>obtain⟨l,q,e,_⟩:=h; exact⟨_,e⟩
  | join w gs=>obtain⟨l,ps,e,_⟩:=h; exact⟨_,e⟩
mutual
def nT:Tr→Nat
 | .lamp _=>1
 | .sure _=>1
 | .neg t=>1+nT t
 | .wrap t=>1+nT t
 | .join _ ts=>1+nTL ts
def nTL:List Tr→Nat
 | []=>0
 | t::ts=>nT t+nTL ts
end
theorem ZgT:∀a b:List Tr,nTL (a++b)=nTL a+nTL b
 | [],b=>by simp[nTL]
 | t::a,b=>by
  show nT t+nTL (a++b)=nT t+nTL a+nTL b;rw[ZgT a b];omega
theorem ZkT (t:Tr):nTL [t]=nT t:=by simp[nTL]
theorem Zl7 (m:Nat):∀ts:List Tr,okTL m ts=ts.all (okT m)
 | []=>rfl
 | t::ts=>by
  show(okT m t && okTL m ts)=(okT m t && ts.all (okT m));rw[Zl7 m ts]
def rkK:Tr→Nat
 | .join v _=>Znp v
 | _=>0
theorem ZgG {α:Type} {l:List α} (h:l≠[]):∃a x,l=a++[x]:=⟨l.dropLast,l.getLast h,(List.dropLast_concat_getLast h).symm⟩
theorem ZA4 {cs:List Int} {i:Nat} {x:V} (h:(cs.map V.int)[i]?=some x):∃c,x=.int c∧cs[i]?=some c:=by
 rw[getElem?_map]at h;obtain⟨c,hc,rfl⟩:=Option.map_eq_some_iff.mp h;exact⟨c,rfl,hc⟩
def w3of (i:Nat):W3:=if i=0 then .a else if i=1 then .e else .o
theorem ZE1 {i:Nat} (h:i < 3):([.str "and",.str "either",.str "or"]:List V)[i]?=some (.str (kw3 (w3of i))):=by
 rcases(show i=0∨i=1∨i=2 by omega) with rfl | rfl | rfl <;> rfl
theorem ZoV (b:Bool) (ws:List Str):(brW b ws).length≤ws.length+2:=by
 unfold brW
 by_cases h:b=true
 ·rw[if_pos h,length_cons,length_append]; exact Nat.le_refl _
 ·rw[if_neg h]; omega
theorem ZwL (k:Str):∀txs:List (List Str),(jnW k txs).length≤(txs.map (·.length)).sum+(txs.length - 1)
 | []=>Nat.le_refl _
 | [p]=>by simp[jnW]
 | p::q::r=>by
  have:=ZwL k (q::r);show(p++k::jnW k (q::r)).length≤_;simp only [length_append,length_cons,map_cons,List.sum_cons]at *;omega
mutual
theorem ZlR (b:Bool) (ns:List Str):∀t:Tr,(wdG b ns t).length+3≤4 * nT t
 | .lamp k=>Nat.le_refl _
 | .sure c=>Nat.le_refl _
 | .neg t=>by
  have:=ZlR b ns t;have h2:=ZoV (decide (1≤rkG b t)) (wdG b ns t);show(brW _ _).length+1+3≤4 * (1+nT t);omega
 | .wrap t=>by
  have:=ZlR b ns t;have h2:=ZoV b (wdG b ns t);show(brW _ _).length+3≤4 * (1+nT t);omega
 | .join v ts=>by
  have h1:=ZwL (kw3 v) (wdGL b ns (Znp v) ts);have h2:=Zyc b ns (Znp v) ts;show(jnW _ _).length+3≤4 * (1+nTL ts);omega
theorem Zyc (b:Bool) (ns:List Str) (r:Nat):∀ts:List Tr,((wdGL b ns r ts).map (·.length)).sum+((wdGL b ns r ts).length - 1)≤4 * nTL ts∧((wdGL b ns r ts).map (·.length)).sum+(wdGL b ns r ts).length≤4 * nTL ts
 | []=>⟨Nat.zero_le _,Nat.zero_le _⟩
 | t::ts=>by
  have h0:=ZlR b ns t;have h1:=(Zyc b ns r ts).2;have h2:=ZoV (decide (r≤rkG b t)) (wdG b ns t)
  have e:((wdGL b ns r (t::ts)).map (·.length)).sum=(brW (decide (r≤rkG b t)) (wdG b ns t)).length+((wdGL b ns r ts).map (·.length)).sum:=by simp[wdGL]
  have e2:(wdGL b ns r (t::ts)).length=(wdGL b ns r ts).length+1:=by simp[wdGL]
  have e3:nTL (t::ts)=nT t+nTL ts:=by simp[nTL]
  rw[e,e2,e3];omega
end
mutual
theorem ZE2 (b:Bool) (ns:List Str) (m:Nat):∀t:Tr,okT m t=true→wdG b ns t≠[]
 | .lamp k,_=>by simp[wdG]
 | .sure c,_=>by simp[wdG]
 | .neg t,_=>by simp[wdG]
 | .wrap t,h=>by
  have:=ZE2 b ns m t (by simpa [okT] using h);show brW b (wdG b ns t)≠[];unfold brW
  by_cases hb:b=true
  ·rw[if_pos hb]; simp
  ·rw[if_neg hb]; exact this
 | .join v ts,h=>by
  simp only [okT,Bool.and_eq_true,decide_eq_true_iff]at h;show jnW (kw3 v) (wdGL b ns (Znp v) ts)≠[]
  match ts,h with
  | t::u::r,h=>
   show brW _ _++_::_≠[];simp
end
def ZfZ (z:Str) (F inner:List Str):List Str:=(if 0 < F.length∧z≠"not" then F++[z] else F)++inner
def Zei (b:Bool) (ns:List Str) (z:Str) (bd:Nat) (g:Tr):List Str:=brW (decide (z = "wrap"∧b=true) || decide (bd≤rkG b g)) (wdG b ns g)
theorem ZqG (z:Str) (hz:z≠"not"):∀(txs:List (List Str)) (F:List Str),(∀p∈txs,p≠[])→F≠[]→txs.foldl (ZfZ z) F=txs.foldl (fun F p=>F++z::p) F
 | [],F,_,_=>rfl
 | p::r,F,h,hF=>by
  have e:ZfZ z F p=F++z::p:=by
   unfold ZfZ;rw[if_pos ⟨List.length_pos_iff.mpr hF,hz⟩,append_assoc];rfl
  show r.foldl (ZfZ z) (ZfZ z F p)=r.foldl _ (F++z::p);rw[e];exact ZqG z hz r _ (fun q hq=>h q (mem_cons_of_mem _ hq)) (by simp)
theorem Zwt (z:Str):∀(txs:List (List Str)) (p:List Str),txs.foldl (fun F p=>F++z::p) p=jnW z (p::txs)
 | [],p=>rfl
 | q::r,p=>by
  have ih:=Zwt z r;show r.foldl _ (p++z::q)=p++z::jnW z (q::r);rw[ih (p++z::q)]
  cases r with
  | nil=>rfl
  | cons x r=>show(p++z::q)++z::jnW z (x::r)=p++z::(q++z::jnW z (x::r)); simp
theorem Zyv (z:Str) (hz:z≠"not") {txs:List (List Str)} (h:∀p∈txs,p≠[]):txs.foldl (ZfZ z) []=jnW z txs:=by
 cases txs with
 | nil=>rfl
 | cons p r=>
  have e:ZfZ z [] p=p:=by unfold ZfZ; rw[if_neg (by simp)]; rfl
  show r.foldl (ZfZ z) (ZfZ z [] p)=_;rw[e,ZqG z hz r p (fun q hq=>h q (mem_cons_of_mem _ hq)) (h p mem_cons_self),Zwt]
theorem ZuE (b:Bool) (ns:List Str) (r:Nat):∀ts:List Tr,wdGL b ns r ts=ts.map fun t=>brW (decide (r≤rkG b t)) (wdG b ns t)
 | []=>by simp[wdGL]
 | t::ts=>by simp[wdGL,ZuE b ns r ts]
theorem ZEr (b:Bool):∀t:Tr,rkG b t≤3
 | .lamp _=>Nat.zero_le _
 | .sure _=>Nat.zero_le _
 | .neg _=>Nat.zero_le _
 | .wrap t=>by
  show(if b=true then 0 else rkG b t)≤3;have:=ZEr b t
  by_cases h:b=true
  ·rw[if_pos h]; omega
  ·rw[if_neg h]; exact this
 | .join v _=>by show Znp v≤3; cases v <;> decide
theorem ZwV:∀ts:List Tr,ts.length≤nTL ts
 | []=>Nat.zero_le _
 | t::ts=>by
  have:=ZwV ts
  have h2:1≤nT t:=by cases t <;> simp only [nT] <;> omega
  show ts.length+1≤nT t+nTL ts;omega
def cl1 (z:Str):List Nat:=z.cps.toList
def NmL (z:Str):Prop:=z.cps.toList≠[]∧∀c∈z.cps.toList,97≤c∧c≤122
theorem Ztw {x y:Str} (h:cl1 x=cl1 y):x=y:=by
 cases x; cases y
 exact congrArg Str.mk (Array.toList_inj.mp h)
def kwsX:List Str:=["yes","no","not","(",")","and","either","or"]
theorem Zsm {Pz:Str→Prop} (hk:∀z∈kwsX,Pz z) {b:Bool} {ws:List Str} (h:∀z∈ws,Pz z):∀z∈brW b ws,Pz z:=by
 intro z hz;unfold brW at hz
 by_cases e:b=true
 ·rw[if_pos e]at hz
  rcases mem_cons.mp hz with rfl | hz
  ·exact hk _ (by decide)
  ·rcases mem_append.mp hz with hz | hz
   ·exact h z hz
   ·rw[mem_singleton.mp hz]; exact hk _ (by decide)
 ·rw[if_neg e]at hz; exact h z hz
theorem ZwK {Pz:Str→Prop} {k:Str} (hk:Pz k):∀{txs:List (List Str)},(∀p∈txs,∀z∈p,Pz z)→∀z∈jnW k txs,Pz z
 | [],_,z,hz=>absurd hz (by simp[jnW])
 | [p],h,z,hz=>h p mem_cons_self z hz
 | p::q::r,h,z,hz=>by
  have hz:z∈p++k::jnW k (q::r):=hz
  rcases mem_append.mp hz with hz | hz
  ·exact h p mem_cons_self z hz
  ·rcases mem_cons.mp hz with rfl | hz
   ·exact hk
   ·exact ZwK hk (txs:=q::r) (fun x hx=>h x (mem_cons_of_mem _ hx)) z hz
mutual
theorem ZrZ {Pz:Str→Prop} (hk:∀z∈kwsX,Pz z) {b:Bool} {ns:List Str} {m:Nat} (hn:∀k,k < m→Pz (ns.getD k Str.empty)):∀t:Tr,okT m t=true→∀z∈wdG b ns t,Pz z
 | .lamp k,h,z,hz=>by
  have hz:z∈[ns.getD k Str.empty]:=hz;rw[mem_singleton.mp hz];exact hn k (by simpa [okT] using h)
 | .sure c,h,z,hz=>by
  have hz:z∈[(if c=true then "yes" else "no" : Str)]:=hz;rw[mem_singleton.mp hz]
  cases c
  ·exact hk "no" (by decide)
  ·exact hk "yes" (by decide)
 | .neg t,h,z,hz=>by
  have hz:z∈("not" : Str)::brW (decide (1≤rkG b t)) (wdG b ns t):=hz
  rcases mem_cons.mp hz with rfl | hz
  ·exact hk _ (by decide)
  ·exact Zsm hk (ZrZ hk hn t (by simpa [okT] using h)) z hz
 | .wrap t,h,z,hz=>Zsm hk (ZrZ hk hn t (by simpa [okT] using h)) z hz
 | .join v ts,h,z,hz=>by
  simp only [okT,Bool.and_eq_true,decide_eq_true_iff]at h;exact ZwK (hk _ (by cases v <;> decide)) (Zyb hk hn (Znp v) ts h.2) z hz
theorem Zyb {Pz:Str→Prop} (hk:∀z∈kwsX,Pz z) {b:Bool} {ns:List Str} {m:Nat} (hn:∀k,k < m→Pz (ns.getD k Str.empty)) (r:Nat):∀ts:List Tr,okTL m ts=true→∀p∈wdGL b ns r ts,∀z∈p,Pz z
 | [],_,p,hp=>absurd hp (by simp[wdGL])
 | t::ts,h,p,hp=>by
  simp only [okTL,Bool.and_eq_true]at h
  have e:wdGL b ns r (t::ts)=brW (decide (r≤rkG b t)) (wdG b ns t)::wdGL b ns r ts:=by simp[wdGL]
  rw[e]at hp
  rcases mem_cons.mp hp with rfl | hp
  ·exact Zsm hk (ZrZ hk hn t h.1)
  ·exact Zyb hk hn r ts h.2 p hp
end
def WdS (z:Str):Prop:=Wd (cl1 z)∧z.length≤8
theorem Wd.let {z:Str} (h:NmL z):Wd (cl1 z):=.inr (.inr h)
theorem ZwT:∀z∈kwsX,WdS z:=by
 intro z hz;unfold kwsX at hz;simp only [mem_cons,not_mem_nil,or_false]at hz
 rcases hz with rfl | rfl | rfl | rfl | rfl | rfl | rfl | rfl
 ·exact⟨.inr (.inr ⟨by decide,by decide⟩),by decide⟩
 ·exact⟨.inr (.inr ⟨by decide,by decide⟩),by decide⟩
 ·exact⟨.inr (.inr ⟨by decide,by decide⟩),by decide⟩
 ·exact⟨.inl rfl,by decide⟩
 ·exact⟨.inr (.inl rfl),by decide⟩
 ·exact⟨.inr (.inr ⟨by decide,by decide⟩),by decide⟩
 ·exact⟨.inr (.inr ⟨by decide,by decide⟩),by decide⟩
 ·exact⟨.inr (.inr ⟨by decide,by decide⟩),by decide⟩
def Ww1 (l:List Nat):List (List Nat):=wl (padL l) []
theorem ZzF {x:Str} (h:∀d∈x.cps.toList,al d=true):(Txt.words (pad x)).map cl1=Ww1 x.cps.toList:=by
 have:=ZtA (pad x) fun c hc=>Zyn c (ZE7 (ZAw h c hc)) (ZAw h c hc);rw[Zul]at this;exact this
theorem Zyj (r:List Nat):Ww1 (32::r)=Ww1 r:=rfl
theorem Zmf:∀(g:Nat) (r:List Nat),Ww1 (List.replicate g 32++r)=Ww1 r
 | 0,r=>rfl
 | g+1,r=>by
  rw[List.replicate_succ,List.cons_append,Zyj];exact Zmf g r
theorem Zsa {c:Nat} (h:isM c=true) (r:List Nat):Ww1 (c::r)=[c]::Ww1 r:=by
 have hc:c≠32:=fun e=>by subst e; exact absurd h (by decide)
 unfold Ww1
 have e:padL (c::r)=32::c::32::padL r:=by
  show(if isM c=true then [32,c,32] else [c])++padL r=_;rw[if_pos h]; rfl
 rw[e];show(if c=32 then _ else wl (32::padL r) ([]++[c]))=_;rw[if_neg hc];rfl
theorem Zye:∀(p rest cur:List Nat),32∉p→wl (p++rest) cur=wl rest (cur++p)
 | [],rest,cur,_=>by rw[append_nil]; rfl
 | d::p,rest,cur,h=>by
  have h1 : ¬d=32:=fun e=>h (by rw[e]; exact mem_cons_self);have h2:32∉p:=fun e=>h (mem_cons_of_mem _ e);show(if d=32 then _ else wl (p++rest) (cur++[d]))=_;rw[if_neg h1,Zye p rest _ h2,append_assoc];rfl
def opn (r:List Nat):Prop:=r=[]∨∃c r',r=c::r'∧(c=32∨isM c=true)
theorem ZrC:∀{p:List Nat},(∀c∈p,97≤c∧c≤122)→padL p=p
 | [],_=>rfl
 | c::p,h=>by
  have hc:=h c mem_cons_self
  have e:isM c=false:=by
   unfold isM;simp only [Bool.or_eq_false_iff,beq_eq_false_iff_ne];omega
  show(if isM c=true then [32,c,32] else [c])++padL p=c::p;rw[if_neg (by rw[e]; decide),ZrC fun d hd=>h d (mem_cons_of_mem _ hd)];rfl
theorem ZAR {p:List Nat} (hp:p≠[]) (h:∀c∈p,97≤c∧c≤122) {r:List Nat} (hr:opn r):Ww1 (p++r)=p::Ww1 r:=by
 unfold Ww1;rw[Zuj,ZrC h,Zye _ _ _ (fun e=>by have:=h 32 e; omega),List.nil_append]
 have k:∀rest,wl (32::rest) p=p::wl rest []:=fun rest=>by
  show(if (32:Nat)=32 then(if p=[] then _ else p::wl rest []) else _)=_;rw[if_pos rfl,if_neg hp]
 rcases hr with rfl | ⟨c,r',rfl,hc⟩
 ·show(if p=[] then [] else [p])=_
  rw[if_neg hp];rfl
 ·by_cases hm:isM c=true
  ·have e:padL (c::r')=32::c::32::padL r':=by
    show(if isM c=true then [32,c,32] else [c])++padL r'=_;rw[if_pos hm]; rfl
   rw[e,k];rfl
  ·have e2:c=32:=hc.resolve_right hm
   subst e2;have e:padL (32::r')=32::padL r':=rfl;rw[e,k];rfl
theorem Zwn (s k:Nat):(s:Int) / ((2 ^ k:Nat):Int) % 2=if s.testBit k=true then 1 else 0:=by
 have e1:(s:Int) / ((2 ^ k:Nat):Int) % 2=((s / 2 ^ k % 2:Nat):Int):=by rw[←Int.natCast_ediv]; omega
 rw[e1,Zs2]
 by_cases h:s / 2 ^ k % 2=1
 ·rw[decide_eq_true h,if_pos rfl,h]; rfl
 ·rw[decide_eq_false h,if_neg Bool.false_ne_true]
  have:s / 2 ^ k % 2=0:=by omega
  rw[this]; rfl
theorem But.trans {l:Addr} {H H' H'':Hp} (a:But l H H') (b:But l H' H''):But l H H'':=fun c o h e=>b c o h (a c o h e)
abbrev Chg:=Nat×(Addr×Fm)
def Zs1 (s:Nat) (cs:List Chg) (i:Nat):Bool:=cs.foldl (fun b c=>if c.1=i then c.2.2.holds s else b) (s.testBit i)
def onN (s:Nat) (cs:List Chg):Nat:=cs.foldl (fun f c=>if c.2.2.holds s then f ||| 2 ^ c.1 else f - (f &&& 2 ^ c.1)) s
theorem ZkS (s:Nat) (cs:List Chg) (c:Chg) (i:Nat):Zs1 s (cs++[c]) i=if c.1=i then c.2.2.holds s else Zs1 s cs i:=by
 unfold Zs1;rw[foldl_append];rfl
theorem Zpw (s:Nat) (cs:List Chg) (c:Chg):onN s (cs++[c])=if c.2.2.holds s then onN s cs ||| 2 ^ c.1 else onN s cs - (onN s cs &&& 2 ^ c.1):=by
 unfold onN;rw[foldl_append];rfl
theorem ZjL (s i:Nat):∀(n:Nat) (cs:List Chg),cs.length=n→(onN s cs).testBit i=Zs1 s cs i
 | 0,cs,h=>by rw[length_eq_zero_iff.mp h]; rfl
 | n+1,cs,h=>by
  obtain⟨r,c,rfl⟩:=ZgG (l:=cs) (fun e=>by rw[e]at h; exact absurd h (by simp));have ih:=ZjL s i n r (by simpa using h);rw[Zpw,ZkS]
  by_cases hb:c.2.2.holds s=true
  ·rw[if_pos hb,Nat.testBit_or,ih,Nat.testBit_two_pow,hb]
   by_cases e:c.1=i
   ·rw[if_pos e,decide_eq_true e,Bool.or_true]
   ·rw[if_neg e,decide_eq_false e,Bool.or_false]
  ·have hb':c.2.2.holds s=false:=by simpa using hb
   rw[if_neg hb,Znx,ih,Nat.testBit_two_pow,hb']
   by_cases e:c.1=i
   ·rw[if_pos e,decide_eq_true e,Bool.not_true,Bool.and_false]
   ·rw[if_neg e,decide_eq_false e,Bool.not_false,Bool.and_true]
theorem Zrm {s m i:Nat} (hs:s < 2 ^ m) (hi:m≤i):∀(n:Nat) (cs:List Chg),cs.length=n→(∀c∈cs,c.1 < m)→Zs1 s cs i=false
 | 0,cs,h,_=>by
  rw[length_eq_zero_iff.mp h];exact Nat.testBit_lt_two_pow (Nat.lt_of_lt_of_le hs (Nat.pow_le_pow_right (by decide) hi))
 | n+1,cs,h,hc=>by
  obtain⟨r,c,rfl⟩:=ZgG (l:=cs) (fun e=>by rw[e]at h; exact absurd h (by simp));rw[ZkS,if_neg (by have:=hc c (by simp); omega)];exact Zrm hs hi n r (by simpa using h) fun c' h'=>hc c' (by simp[h'])
theorem ZBT {s m:Nat} {cs:List Chg} (hs:s < 2 ^ m) (hc:∀c∈cs,c.1 < m):onN s cs=bits (fun i=>Zs1 s cs i) m:=by
 apply Nat.eq_of_testBit_eq;intro i;rw[ZjL s i _ cs rfl,ZaP]
 by_cases hi:i < m
 ·rw[decide_eq_true hi,Bool.true_and]
 ·rw[decide_eq_false hi,Bool.false_and]
  exact Zrm hs (by omega) _ cs rfl hc
section
variable {P:Program} {w:World} {K:W.Frag} {mg:Str→Option Value} {base:Heap} {t:Ad} {n:Nat}
def Zpn (g tp:Addr):List (Str×V):=putF "changes" (.ref tp) (putF "guard" (.ref g) [])
theorem Zvv (g tp:Addr):(Zpn g tp).lookup ("changes" : Str)=some (.ref tp):=by
 unfold Zpn;rw[Zar,if_pos rfl]
theorem ZyQ (g tp:Addr):(Zpn g tp).lookup ("guard" : Str)=some (.ref g):=by
 unfold Zpn;rw[Zar,if_neg (by decide),Zar,if_pos rfl]
theorem ZDL (g tp:Addr) (f:Str) (h1 : ¬f = "changes") (h2 : ¬f = "guard"):(Zpn g tp).lookup f=none:=by
 unfold Zpn;rw[Zar,if_neg h1,Zar,if_neg h2];rfl
def HdAt (t:Ad) (H:Hp) (n:Nat) (h:Addr) (c:Chg):Prop:=H h=some (.tup [.int (c.1:Int),.ref c.2.1])∧FmAt t H n c.2.1 c.2.2
theorem HdAt.ext {H H':Hp} {h:Addr} {c:Chg} (s:Ext H H') (a:HdAt t H n h c):HdAt t H' n h c:=⟨s _ _ a.1 (fun _ z=>nomatch z),a.2.mono s⟩
def MvAt (t:Ad) (H:Hp) (n:Nat) (x g:Addr) (f:Fm) (cs:List Chg):Prop:=∃dx tp hs,H x=some (.ins t.ZbA dx (Zpn g tp))∧H tp=some (.tup (hs.map V.ref))∧FmAt t H n g f∧Paired (HdAt t H n) hs cs
theorem MvAt.ext {H H':Hp} {x g:Addr} {f:Fm} {cs:List Chg} (s:Ext H H') (a:MvAt t H n x g f cs):MvAt t H' n x g f cs:=by
 obtain⟨dx,tp,hs,e1,e2,f1,p⟩:=a;exact⟨dx,tp,hs,s _ _ e1 (fun _ z=>nomatch z),s _ _ e2 (fun _ z=>nomatch z),f1.mono s,Zaf (fun _ _ q=>q.ext s) p⟩
def ZxS (C:Addr):Sp:=fun vs H Q _=>∃(p dx g l:Addr) (ys:List V),vs=[.ref p,.ref g,.ref l]∧H p=some (.ins C dx [])∧H l=some (.lst ys)∧∀tp H',(∀b o,b≠p→H b=some o→H' b=some o)→H' tp=some (.tup ys)→H' p=some (.ins C dx (Zpn g tp))→Q .non H'
theorem ZBN (T:Txt K mg t):MkS P w K mg base 2 "Move" t.ZbA ["self","guard","changes"] (ZxS t.ZbA):=by
 refine⟨T.ZAn,_,_,T.ZAk,T.ZfK.ok ZrI (fun vs H Q E h=>?_) (fun cdv A outer s H vs Q E hr h=>?_),T.Zmn⟩
 ·obtain⟨p,dx,g,l,ys,rfl,_⟩:=h
  rfl
 obtain⟨p,dx,g,l,ys,rfl,hp,hl,q⟩:=h;have z1:=Zgn "guard" (.ref g) [];rw[length_nil]at z1
 have hlp:l≠p:=fun e=>by rw[e,hp]at hl; cases hl
 refine⟨_,(Zab (Zb9 (pv 0) (pv 1) rfl)
   (Zae (Zb9 (pv 0) (Zbb Zdg rfl T.B.tuple ZgZ (Zaa (pv 2) Zad)) rfl))),?_⟩
 walk_at "rd0";refine⟨p,_,_,_,rfl,hp,T.Zmz,T.Ze0,by decide,?_⟩;walk_at "";refine ZmO (ys:=ys) (by rw[ZaF hlp]; exact hl) fun tp htp=>?_
 have hpt:tp≠p:=fun e=>by rw[e,Zax]at htp; cases htp
 walk_at "";refine⟨p,_,_,_,rfl,by rw[ZaF (Ne.symm hpt)]; exact Zax,T.Zmz,T.Zdb,by omega,?_⟩;refine q tp _ (fun b o hb e=>?_) (by rw[ZaF hpt]; exact Zax) Zax
 have hb':b≠tp:=fun z=>by rw[←z,ZaF hb,e]at htp; cases htp
 rw[ZaF hb,ZaF hb',ZaF hb];exact e
def isMv (t:Ad) (C:Addr):Prop:=C=t.ZbA
theorem MvAt.ins {H:Hp} {x g:Addr} {f:Fm} {cs:List Chg} (h:MvAt t H n x g f cs) (m:Str) (h1 : ¬m = "changes") (h2 : ¬m = "guard"):∃C dx fs,H x=some (.ins C dx fs)∧isMv t C∧fs.lookup m=none:=by
 obtain⟨dx,tp,hs,e,_⟩:=h;exact⟨_,dx,_,e,rfl,ZDL _ _ _ h1 h2⟩
def ZEJ (t:Ad) (n:Nat):Sp:=fun vs H Q _=>∃(x g:Addr) (s:Nat) (f:Fm) (cs:List Chg),vs=[.ref x,.int (s:Int)]∧MvAt t H n x g f cs∧Q (.bl (f.holds s)) H
theorem Zp3 (T:Txt K mg t):∀C,isMv t C→MeS P w K mg base (n+1) C "fits" ["self","stand"] (spAt (ZEJ t n) C):=by
 rintro C rfl;refine⟨T.Zmz,_,_,T.Zen.ok ZrH (fun vs H Q E h=>?_) (fun cdv A outer s H vs Q E hr h=>?_),T.Zmm,T.ZmK⟩
 ·obtain⟨⟨x,g,s,f,cs,rfl,_⟩,_⟩:=h
  rfl
 obtain⟨⟨x,g,s,f,cs,rfl,⟨dx,tp,hs,e1,e2,f1,p⟩,q⟩,_⟩:=h;have D_holds:=ZiF (P:=P) (w:=w) (base:=base) T n;obtain⟨C,dx',fs',e',hC,hl⟩:=f1.ins "holds" (by decide +kernel) (by decide +kernel) (by decide +kernel) (by decide +kernel);refine⟨_,(Zae (Zao (ZfS D_holds hr (Zbi (pv 0) rfl) (Zaa (pv 1) Zad)))),?_⟩;walk_at "rd0";refine⟨x,_,_,_,_,rfl,e1,T.Zmz,T.Ze0,ZyQ _ _,?_⟩;walk_at "";refine⟨g,C,dx',fs',rfl,e',hC,hl,?_⟩;walk_at "";exact⟨e',g,s,f,rfl,f1,q⟩
def Zzr (t:Ad) (n:Nat):Sp:=fun vs H Q _=>∃(x g:Addr) (s:Nat) (f:Fm) (cs:List Chg),vs=[.ref x,.int (s:Int)]∧MvAt t H n x g f cs∧(∀c∈cs,c.1≤6)∧Q (.int ((onN s cs:Nat):Int)) H
theorem Zmc (T:Txt K mg t):∀C,isMv t C→MeS P w K mg base (n+1) C "onward" ["self","stand"] (spAt (Zzr t n) C):=by
 rintro C rfl;refine⟨T.Zmz,_,_,T.ZcG.ok Zck (fun vs H Q E h=>?_) (fun cdv A outer s H vs Q E hr h=>?_),T.ZjS,T.Zj2⟩
 ·obtain⟨⟨x,g,s,f,cs,rfl,_⟩,_⟩:=h
  rfl
 obtain⟨⟨x,g,s,f,cs,rfl,⟨dx,tp,hs,e1,e2,f1,p⟩,h6,q⟩,_⟩:=h;have D_holds:=ZiF (P:=P) (w:=w) (base:=base) T n
 refine⟨_,(Zab (ss 2 Zck.nd (pv 1))
   (Zab (ZaS PassesOwn.never rfl (Za6 (Zbi (pv 0) rfl)) (Znn rfl (Zco (sg 3 Zck.nd) (Zco (sg 4 Zck.nd) Zjw)))
   (Zae (ZaB (ZaL (ZfS D_holds hr (pv 4) (Zaa (pv 1) Zad)) (fun _=>rfl))
   (Zae (ss 2 Zck.nd (Zai ZlY (pv 2) (Zai Zba Zac (pv 3)))))
   (Zae (ss 2 Zck.nd (Zai ZlM (pv 2) (Ztj ZE0 (Zai Zba Zac (pv 3)))))))))
   (Zae (Zao (pv 2))))),?_⟩
 walk_at "rd0";refine⟨x,_,_,_,_,rfl,e1,T.Zmz,T.Zdb,Zvv _ _,?_⟩;refine seqT (xs:=hs.map V.ref) (fun i σ H'=>H'=H∧∃v v',σ=[some (.ref x),some (.int (s:Int)),some (.int ((onN s (cs.take i):Nat):Int)),v,v']) ⟨rfl,_,_,rfl⟩ (fun i σ H' _ hp=>by obtain⟨rfl,_⟩:=hp; exact SqT.of e2) ?_ ?_
 ·rintro i y σ H' hy ⟨rfl,v,v',rfl⟩
  obtain⟨h,rfl,hx'⟩:=Zbf hy;obtain⟨c,hgi,ht,hf⟩:=Zbt p hx';have hc6:=h6 c (mem_of_getElem? hgi);obtain⟨C,dx',fs',e',hC,hl⟩:=hf.ins "holds" (by decide +kernel) (by decide +kernel) (by decide +kernel) (by decide +kernel);have hs':=Zpw s (cs.take i) c;rw[←ZaD hgi]at hs';refine ZsH ht ?_;walk_at "";refine⟨c.2.1,C,dx',fs',rfl,e',hC,hl,?_⟩;walk_at "";refine⟨e',c.2.1,s,c.2.2,rfl,hf,?_⟩;walk_at "";refine ZnR (fun hb=>?_) (fun hb=>?_)
  ·walk_at ""
   rw[Zbj,Zjf];refine⟨rfl,some (.int (c.1:Int)),some (.ref c.2.1),?_⟩;rw[hs',if_pos hb]
   all_goals rfl
  ·walk_at ""
   rw[Zbj,ZuW];refine⟨rfl,some (.int (c.1:Int)),some (.ref c.2.1),?_⟩;rw[hs',if_neg (by rw[hb]; exact Bool.false_ne_true)]
   all_goals rfl
 ·rintro σ H' ⟨rfl,v,v',rfl⟩
  rw[length_map,Zak p,take_length];walk_at "";exact q
end
theorem Zqo:∀(n x y:Nat),x < n→x+y=(x ||| y)+(x &&& y)
 | 0,x,y,h=>absurd h (by omega)
 | n+1,x,y,h=>by
  by_cases hx:x=0
  ·subst hx; simp
  ·have ih:=Zqo n (x / 2) (y / 2) (by omega)
   have e1:=Nat.div_add_mod (x ||| y) 2;have e2:=Nat.div_add_mod (x &&& y) 2;rw[Nat.or_div_two]at e1;rw[Nat.and_div_two]at e2;have m1:(x ||| y) % 2=(x % 2 ||| y % 2):=Nat.or_mod_two_pow (n:=1);have m2:(x &&& y) % 2=(x % 2 &&& y % 2):=Nat.and_mod_two_pow (n:=1)
   have m4:x % 2+y % 2=(x % 2 ||| y % 2)+(x % 2 &&& y % 2):=by
    rcases Nat.mod_two_eq_zero_or_one x with a | a <;> rcases Nat.mod_two_eq_zero_or_one y with b | b <;> rw[a,b] <;> rfl
   omega
theorem ZAW (x l:Nat):x &&& 2 ^ l=if x.testBit l=true then 2 ^ l else 0:=by
 apply Nat.eq_of_testBit_eq;intro i;rw[Nat.testBit_and,Nat.testBit_two_pow]
 by_cases e:l=i
 ·subst e
  cases h:x.testBit l
  ·simp
  ·simp[Nat.testBit_two_pow_self]
 ·cases h:x.testBit l
  ·simp[e]
  ·simp[e,Nat.testBit_two_pow]
theorem Zov {s i:Nat}:∀(n:Nat) (cs:List Chg),cs.length=n→(∀c∈cs,c.1≠i)→Zs1 s cs i=s.testBit i
 | 0,cs,h,_=>by rw[length_eq_zero_iff.mp h]; rfl
 | n+1,cs,h,hc=>by
  obtain⟨r,c,rfl⟩:=ZgG (l:=cs) (fun e=>by rw[e]at h; exact absurd h (by simp));rw[ZkS,if_neg (hc c (by simp))];exact Zov n r (by simpa using h) fun c' h'=>hc c' (by simp[h'])
def bI (b:Bool):Int:=if b=true then 1 else 0
def onI (s:Nat) (cs:List Chg):Int:=cs.foldl (fun a c=>a+(bI (c.2.2.holds s) - bI (s.testBit c.1)) * ((2 ^ c.1:Nat):Int)) (s:Int)
theorem Zuh (s:Nat) (cs:List Chg) (c:Chg):onI s (cs++[c])=onI s cs+(bI (c.2.2.holds s) - bI (s.testBit c.1)) * ((2 ^ c.1:Nat):Int):=by
 unfold onI;rw[foldl_append];rfl
theorem ZAu (s:Nat):∀(n:Nat) (cs:List Chg),cs.length=n→(cs.map Prod.fst).Nodup→onI s cs=((onN s cs:Nat):Int)
 | 0,cs,h,_=>by rw[length_eq_zero_iff.mp h]; rfl
 | n+1,cs,h,nd=>by
  obtain⟨r,c,rfl⟩:=ZgG (l:=cs) (fun e=>by rw[e]at h; exact absurd h (by simp));rw[map_append,map_cons,map_nil,nodup_append]at nd;obtain⟨n1,n2,n3⟩:=nd;have ih:=ZAu s n r (by simpa using h) n1
  have hb:(onN s r).testBit c.1=s.testBit c.1:=by
   rw[ZjL s c.1 _ r rfl];exact Zov _ r rfl fun c' h' e=>n3 c'.1 (mem_map_of_mem h') c.1 (by simp) e
  have ha:=ZAW (onN s r) c.1;have hs:=Zqo (onN s r+1) (onN s r) (2 ^ c.1) (Nat.lt_succ_self _);rw[hb]at ha;rw[Zuh,ih,Zpw];unfold bI
  cases h1:c.2.2.holds s <;> cases h2:s.testBit c.1 <;> rw[h2]at ha <;> simp only [Bool.false_eq_true,if_false,if_true]at ha ⊢
  ·omega
  ·have:=Nat.and_le_left (n:=onN s r) (m:=2 ^ c.1)
   omega
  ·omega
  ·omega
theorem Zxj {s m:Nat} {cs:List Chg} (hs:s < 2 ^ m) (hc:∀c∈cs,c.1 < m):onN s cs < 2 ^ m:=by
 rw[ZBT hs hc];exact Zkz _ _
abbrev Mv:=(Addr×Fm)×List Chg
def stN (s:Nat) (vs:List Mv):Nat:=vs.foldl (fun a v=>if v.1.2.holds s=true then a ||| 2 ^ onN s v.2 else a) 0
theorem ZpW (s:Nat) (vs:List Mv) (v:Mv):stN s (vs++[v])=if v.1.2.holds s=true then stN s vs ||| 2 ^ onN s v.2 else stN s vs:=by
 unfold stN;rw[foldl_append];rfl
structure GoodMv (m:Nat) (v:Mv):Prop where
 lo:∀c∈v.2,c.1 < m
 nd:(v.2.map Prod.fst).Nodup
theorem ZAD {s m:Nat} (hs:s < 2 ^ m):∀(n:Nat) (vs:List Mv),vs.length=n→(∀v∈vs,GoodMv m v)→stN s vs < 2 ^ 2 ^ m
 | 0,vs,h,_=>by rw[length_eq_zero_iff.mp h]; exact Nat.two_pow_pos _
 | n+1,vs,h,g=>by
  obtain⟨r,v,rfl⟩:=ZgG (l:=vs) (fun e=>by rw[e]at h; exact absurd h (by simp));have ih:=ZAD hs n r (by simpa using h) fun v' h'=>g v' (by simp[h']);rw[ZpW]
  split
  ·exact Nat.or_lt_two_pow ih (ZB7 (Zxj hs (g v (by simp)).lo))
  ·exact ih
def anyN (m:Nat) (fs:List Fm):Nat:=fs.foldl (fun a f=>a ||| f.crowd (2 ^ m)) 0
theorem Zmj (m:Nat) (fs:List Fm) (f:Fm):anyN m (fs++[f])=anyN m fs ||| f.crowd (2 ^ m):=by
 unfold anyN;rw[foldl_append];rfl
theorem Zsj (m:Nat):∀(n:Nat) (fs:List Fm),fs.length=n→anyN m fs < 2 ^ 2 ^ m
 | 0,fs,h=>by rw[length_eq_zero_iff.mp h]; exact Nat.two_pow_pos _
 | n+1,fs,h=>by
  obtain⟨r,f,rfl⟩:=ZgG (l:=fs) (fun e=>by rw[e]at h; exact absurd h (by simp));rw[Zmj];exact Nat.or_lt_two_pow (Zsj m n r (by simpa using h)) (Zkz _ _)
section
variable {P:Program} {w:World} {K:W.Frag} {mg:Str→Option Value} {base:Heap} {t:Ad} {n:Nat}
def macF (n s b v:Addr):List (Str×V):=putF "moves" (.ref v) (putF "bads" (.ref b) (putF "starts" (.ref s) (putF "names" (.ref n) [])))
theorem Zt7 (n s b v:Addr):(macF n s b v).lookup ("moves" : Str)=some (.ref v):=by
 unfold macF;rw[Zar,if_pos rfl]
theorem ZBF (n s b v:Addr):(macF n s b v).lookup ("bads" : Str)=some (.ref b):=by
 unfold macF;rw[Zar,if_neg (by decide),Zar,if_pos rfl]
theorem ZwZ (n s b v:Addr):(macF n s b v).lookup ("starts" : Str)=some (.ref s):=by
 unfold macF;rw[Zar,if_neg (by decide),Zar,if_neg (by decide),Zar,if_pos rfl]
theorem ZyR (n s b v:Addr):(macF n s b v).lookup ("names" : Str)=some (.ref n):=by
 unfold macF;rw[Zar,if_neg (by decide),Zar,if_neg (by decide),Zar,if_neg (by decide),Zar,if_pos rfl]
theorem ZBG (n s b v:Addr) (f:Str) (h1 : ¬f = "moves") (h2 : ¬f = "bads") (h3 : ¬f = "starts") (h4 : ¬f = "names"):(macF n s b v).lookup f=none:=by
 unfold macF;rw[Zar,if_neg h1,Zar,if_neg h2,Zar,if_neg h3,Zar,if_neg h4];rfl
def MvP (t:Ad) (H:Hp) (x:Addr) (v:Mv):Prop:=MvAt t H 62 x v.1.1 v.1.2 v.2
structure MacAt (t:Ad) (H:Hp) (x dx n s b v:Addr) (xs:List V) (sp bp:List (Addr×Fm)) (ms:List Addr) (vs:List Mv):Prop where
 ob:H x=some (.ins t.Zau dx (macF n s b v))
 en:H n=some (.tup xs)
 es:H s=some (.tup ((sp.map Prod.fst).map V.ref))
 eb:H b=some (.tup ((bp.map Prod.fst).map V.ref))
 ev:H v=some (.tup (ms.map V.ref))
 fs:Paired (FmAt t H 62) (sp.map Prod.fst) (sp.map Prod.snd)
 fb:Paired (FmAt t H 62) (bp.map Prod.fst) (bp.map Prod.snd)
 fv:Paired (MvP t H) ms vs
theorem MacAt.ext {H H':Hp} {x dx n s b v:Addr} {xs:List V} {sp bp:List (Addr×Fm)} {ms:List Addr} {vs:List Mv} (e:Ext H H') (A:MacAt t H x dx n s b v xs sp bp ms vs):MacAt t H' x dx n s b v xs sp bp ms vs:=
 ⟨e _ _ A.ob (fun _ z=>nomatch z),e _ _ A.en (fun _ z=>nomatch z),e _ _ A.es (fun _ z=>nomatch z),e _ _ A.eb (fun _ z=>nomatch z),e _ _ A.ev (fun _ z=>nomatch z),Zaf (fun _ _ q=>q.mono e) A.fs,Zaf (fun _ _ q=>q.mono e) A.fb,Zaf (fun _ _ q=>MvAt.ext e q) A.fv⟩
def ZrQ (C:Addr):Sp:=fun vs H Q _=>∃(p dx ln ls lb lv:Addr) (xn xs xb xv:List V),vs=[.ref p,.ref ln,.ref ls,.ref lb,.ref lv]∧H p=some (.ins C dx [])∧H ln=some (.lst xn)∧H ls=some (.lst xs)∧H lb=some (.lst xb)∧H lv=some (.lst xv)∧
 ∀n s b v H',But p H H'→H' n=some (.tup xn)→H' s=some (.tup xs)→H' b=some (.tup xb)→H' v=some (.tup xv)→H' p=some (.ins C dx (macF n s b v))→Q .non H'
theorem Zl6 {H:Hp} {p tp:Addr} {o o':HO} {ys:List V} (h:H p=some o) (n:H tp=none):But p H (upd (upd H tp (.tup ys)) p o')∧(upd (upd H tp (.tup ys)) p o') p=some o'∧(upd (upd H tp (.tup ys)) p o') tp=some (.tup ys):=by
 have ne:tp≠p:=fun e=>by rw[e,h]at n; cases n
 exact⟨fun b u hb e=>by rw[ZaF hb,ZaF (Zag e n)]; exact e,Zax,by rw[ZaF ne]; exact Zax⟩
theorem ZvA (T:Txt K mg t):MkS P w K mg base 2 "Machine" t.Zau ["self","names","starts","bads","moves"] (ZrQ t.Zau):=by
 refine⟨T.Zm4,_,_,T.ZqZ,T.Zc6.ok Zns (fun vs H Q E h=>?_) (fun cdv A outer s H vs Q E hr h=>?_),T.Zi7⟩
 ·obtain⟨p,dx,ln,ls,lb,lv,xn,xs,xb,xv,rfl,_⟩:=h
  rfl
 obtain⟨p,dx,ln,ls,lb,lv,xn,xs,xb,xv,rfl,hp,hn,hs,hb,hv,q⟩:=h;have z1:=fun v:V=>Zgn "names" v [];have z2:=fun(v:V) fs=>Zgn "starts" v fs;have z3:=fun(v:V) fs=>Zgn "bads" v fs
 have nn:ln≠p:=fun e=>by rw[e,hp]at hn; cases hn
 have ns:ls≠p:=fun e=>by rw[e,hp]at hs; cases hs
 have nb:lb≠p:=fun e=>by rw[e,hp]at hb; cases hb
 have nv:lv≠p:=fun e=>by rw[e,hp]at hv; cases hv
 refine⟨_,(Zab (Zb9 (pv 0) (Zbb Zdg rfl T.B.tuple ZgZ (Zaa (pv 1) Zad)) rfl)
   (Zab (Zb9 (pv 0) (Zbb Zdg rfl T.B.tuple ZgZ (Zaa (pv 2) Zad)) rfl)
   (Zab (Zb9 (pv 0) (Zbb Zdg rfl T.B.tuple ZgZ (Zaa (pv 3) Zad)) rfl)
   (Zae (Zb9 (pv 0) (Zbb Zdg rfl T.B.tuple ZgZ (Zaa (pv 4) Zad)) rfl))))),?_⟩
 walk_at "rd0";refine ZmO hn fun t1 n1=>?_;walk_at "";refine⟨p,_,_,_,rfl,by rw[ZaF (Zag hp n1)]; exact hp,T.ZbQ,T.Zcz,by decide,?_⟩;obtain⟨b1,p1,e1⟩:=Zl6 (o':=.ins t.Zau dx (putF "names" (.ref t1) [])) (ys:=xn) hp n1;generalize upd (upd H t1 (.tup xn)) p (.ins t.Zau dx (putF "names" (.ref t1) []))=H1 at b1 p1 e1 ⊢;walk_at "";refine ZmO (b1 _ _ ns hs) fun t2 n2=>?_;walk_at "";refine⟨p,_,_,_,rfl,by rw[ZaF (Zag p1 n2)]; exact p1,T.ZbQ,T.Zb8,by have:=z1 (.ref t1); rw[length_nil]at this; omega,?_⟩;obtain⟨b2,p2,e2⟩:=Zl6 (o':=.ins t.Zau dx (putF "starts" (.ref t2) (putF "names" (.ref t1) []))) (ys:=xs) p1 n2;generalize upd (upd H1 t2 (.tup xs)) p (.ins t.Zau dx (putF "starts" (.ref t2) (putF "names" (.ref t1) [])))=H2 at b2 p2 e2 ⊢;walk_at "";refine ZmO (b2 _ _ nb (b1 _ _ nb hb)) fun t3 n3=>?_;walk_at "";refine⟨p,_,_,_,rfl,by rw[ZaF (Zag p2 n3)]; exact p2,T.ZbQ,T.Zda,by have:=z1 (.ref t1); have:=z2 (.ref t2) (putF "names" (.ref t1) []); rw[length_nil]at *; omega,?_⟩;obtain⟨b3,p3,e3⟩:=Zl6 (o':=.ins t.Zau dx (putF "bads" (.ref t3) (putF "starts" (.ref t2) (putF "names" (.ref t1) [])))) (ys:=xb) p2 n3;generalize upd (upd H2 t3 (.tup xb)) p (.ins t.Zau dx (putF "bads" (.ref t3) (putF "starts" (.ref t2) (putF "names" (.ref t1) []))))=H3 at b3 p3 e3 ⊢;walk_at "";refine ZmO (b3 _ _ nv (b2 _ _ nv (b1 _ _ nv hv))) fun t4 n4=>?_;walk_at "";refine⟨p,_,_,_,rfl,by rw[ZaF (Zag p3 n4)]; exact p3,T.ZbQ,T.ZbU,by have:=z1 (.ref t1); have:=z2 (.ref t2) (putF "names" (.ref t1) []); have:=z3 (.ref t3) (putF "starts" (.ref t2) (putF "names" (.ref t1) [])); rw[length_nil]at *; omega,?_⟩;obtain⟨b4,p4,e4⟩:=Zl6 (o':=.ins t.Zau dx (macF t1 t2 t3 t4)) (ys:=xv) p3 n4;have n1p:t1≠p:=Zcm e1 p1 (fun z=>nomatch z);have n2p:t2≠p:=Zcm e2 p2 (fun z=>nomatch z);have n3p:t3≠p:=Zcm e3 p3 (fun z=>nomatch z);exact q t1 t2 t3 t4 _ (But.trans (But.trans (But.trans b1 b2) b3) b4) (b4 _ _ n1p (b3 _ _ n1p (b2 _ _ n1p e1))) (b4 _ _ n2p (b3 _ _ n2p e2)) (b4 _ _ n3p e3) e4 p4
def ZBm (t:Ad) (C:Addr):Prop:=C=t.Zau
end
section
variable {P:Program} {w:World} {K:W.Frag} {mg:Str→Option Value} {base:Heap} {t:Ad} {n:Nat}
def ZCi (t:Ad):Sp:=fun vs H Q _=>∃(a:Addr) (m:Nat) (sp:List (Addr×Fm)),vs=[.ref a,.int (m:Int)]∧m≤6∧H a=some (.tup ((sp.map Prod.fst).map V.ref))∧Paired (FmAt t H 62) (sp.map Prod.fst) (sp.map Prod.snd)∧Q (.int ((anyN m (sp.map Prod.snd):Nat):Int)) H
theorem Znf (T:Txt K mg t):FnS P w K mg base 64 "crowd_of_any" ["formulas","many"] (ZCi t):=by
 refine⟨_,_,T.Zce.ok Zef (fun vs H Q E h=>?_) (fun cdv A outer s H vs Q E hr h=>?_),T.Zja,T.Zce.kp,T.Zjd⟩
 ·obtain⟨a,m,sp,rfl,hm,ha,hf,q⟩:=h
  rfl
 obtain⟨a,m,sp,rfl,hm,ha,hf,q⟩:=h;have D_crowd:=Zn8 (P:=P) (w:=w) (base:=base) T 62
 refine⟨_,(Zab (ss 2 Zef.nd Zac)
   (Zab (ZaS PassesOwn.never rfl (Za6 (pv 0)) (sg 3 Zef.nd)
   (Zae (ss 2 Zef.nd (Zai ZlY (pv 2) (ZfS D_crowd hr (pv 3) (Zaa (pv 1) Zad))))))
   (Zae (Zao (pv 2))))),?_⟩
 walk_at "rd0";refine seqT (xs:=(sp.map Prod.fst).map V.ref) (fun i σ H'=>H'=H∧∃v,σ=[some (.ref a),some (.int (m:Int)),some (.int ((anyN m ((sp.map Prod.snd).take i):Nat):Int)),v]) ⟨rfl,_,rfl⟩ (fun i σ H' _ hp=>by obtain⟨rfl,_⟩:=hp; exact SqT.of ha) ?_ ?_
 ·rintro i y σ H' hy ⟨rfl,v,rfl⟩
  obtain⟨p,rfl,hx'⟩:=Zbf hy;obtain⟨f,hgi,hf'⟩:=Zbt hf hx';obtain⟨C,dx',fs',e',hC,hl⟩:=hf'.ins "crowd" (by decide +kernel) (by decide +kernel) (by decide +kernel) (by decide +kernel);walk_at "";refine⟨p,C,dx',fs',rfl,e',hC,hl,?_⟩;walk_at "";refine⟨e',p,m,f,rfl,hm,hf',?_⟩;walk_at "";rw[Zjf];refine⟨rfl,some (.ref p),?_⟩;rw[ZaD hgi,Zmj]
  all_goals rfl
 ·rintro σ H' ⟨rfl,v,rfl⟩
  rw[length_map,length_map];have e:(sp.map Prod.snd).take sp.length=sp.map Prod.snd:=List.take_of_length_le (by rw[length_map]; exact Nat.le_refl _);rw[e];walk_at "";exact q
def Zzw (t:Ad):Sp:=fun vs H Q _=>∃(x dx n s b v:Addr) (xs:List V) (sp bp:List (Addr×Fm)) (ms:List Addr) (mv:List Mv) (k m:Nat),vs=[.ref x,.int (k:Int)]∧MacAt t H x dx n s b v xs sp bp ms mv∧m≤6∧k < 2 ^ m∧(∀u∈mv,GoodMv m u)∧Q (.int ((stN k mv:Nat):Int)) H
theorem Zmd (T:Txt K mg t):∀C,ZBm t C→MeS P w K mg base 65 C "steps_from" ["self","stand"] (spAt (Zzw t) C):=by
 rintro C rfl;refine⟨T.ZbQ,_,_,T.Za7.ok ZbF (fun vs H Q E h=>?_) (fun cdv A outer s H vs Q E hr h=>?_),T.Ze9,T.Zfb⟩
 ·obtain⟨⟨x,dx,n,s,b,v,xs,sp,bp,ms,mv,k,m,rfl,_⟩,_⟩:=h
  rfl
 obtain⟨⟨x,dx,n,s,b,v,xs,sp,bp,ms,mv,k,m,rfl,A,hm,hk,g,q⟩,_⟩:=h;have D_fits:=Zp3 (P:=P) (w:=w) (base:=base) (n:=62) T;have D_onward:=Zmc (P:=P) (w:=w) (base:=base) (n:=62) T;have hp:=ZbV hm
 refine⟨_,(Zab (ss 2 ZbF.nd Zac)
   (Zab (ZaS PassesOwn.never rfl (Za6 (Zbi (pv 0) rfl)) (sg 3 ZbF.nd)
   (Zae (ZaB (ZaL (ZfS D_fits hr (pv 3) (Zaa (pv 1) Zad)) (fun _=>rfl))
   (Zae (ss 2 ZbF.nd (Zai ZlY (pv 2) (Zai Zba Zac (ZfS D_onward hr (pv 3) (Zaa (pv 1) Zad))))))
   Zap)))
   (Zae (Zao (pv 2))))),?_⟩
 walk_at "rd0";refine⟨x,_,_,_,_,rfl,A.ob,T.ZbQ,T.ZbU,Zt7 _ _ _ _,?_⟩;refine seqT (xs:=ms.map V.ref) (fun i σ H'=>H'=H∧∃v,σ=[some (.ref x),some (.int (k:Int)),some (.int ((stN k (mv.take i):Nat):Int)),v]) ⟨rfl,_,rfl⟩ (fun i σ H' _ hp=>by obtain⟨rfl,_⟩:=hp; exact SqT.of A.ev) ?_ ?_
 ·rintro i y σ H' hy ⟨rfl,v',rfl⟩
  obtain⟨p,rfl,hx'⟩:=Zbf hy;obtain⟨u,hgi,hu⟩:=Zbt A.fv hx';have gu:=g u (mem_of_getElem? hgi);have hlt:=Zxj hk gu.lo;obtain⟨C,dx',fs',e',hC,hl⟩:=MvAt.ins hu "fits" (by decide +kernel) (by decide +kernel);obtain⟨C2,dx2,fs2,e2,hC2,hl2⟩:=MvAt.ins hu "onward" (by decide +kernel) (by decide +kernel);have hs':=ZpW k (mv.take i) u;rw[←ZaD hgi]at hs';walk_at "";refine⟨p,C,dx',fs',rfl,e',hC,hl,?_⟩;walk_at "";refine⟨e',p,u.1.1,k,u.1.2,u.2,rfl,hu,?_⟩;walk_at "";refine ZnR (fun hb=>?_) (fun hb=>?_)
  ·walk_at ""
   refine⟨p,C2,dx2,fs2,rfl,e2,hC2,hl2,?_⟩;walk_at "";refine⟨e2,p,u.1.1,k,u.1.2,u.2,rfl,hu,fun c h=>by have:=gu.lo c h; omega,?_⟩;walk_at "";rw[Zbj,Zjf];refine⟨rfl,some (.ref p),?_⟩;rw[hs',if_pos hb]
   all_goals rfl
  ·walk_at ""
   refine⟨rfl,some (.ref p),?_⟩;rw[hs',if_neg (by rw[hb]; exact Bool.false_ne_true)]
   all_goals rfl
 ·rintro σ H' ⟨rfl,v',rfl⟩
  rw[length_map,Zak A.fv,take_length];walk_at "";exact q
def afN (m:Nat) (mv:List Mv):List Nat:=(List.range (2 ^ m)).map fun s=>stN s mv
def ZxP (t:Ad):Sp:=fun vs H Q _=>∃(x dx n s b v:Addr) (xs:List V) (sp bp:List (Addr×Fm)) (ms:List Addr) (mv:List Mv) (m:Nat),vs=[.ref x]∧MacAt t H x dx n s b v xs sp bp ms mv∧xs.length=m∧1≤m∧m≤6∧(∀u∈mv,GoodMv m u)∧
 ∀y H',Same H H'→ZhN t H' y m (anyN m (sp.map Prod.snd):Nat) (anyN m (bp.map Prod.snd):Nat) (afN m mv)→Q (.ref y) H'
theorem ZuH (T:Txt K mg t):∀C,ZBm t C→MeS P w K mg base 67 C "chart" ["self"] (spAt (ZxP t) C):=by
 rintro C rfl;refine⟨T.ZbQ,_,_,T.ZbL.ok Ze5 (fun vs H Q E h=>?_) (fun cdv A outer s H vs Q E hr h=>?_),T.ZhS,T.Zh4⟩
 ·obtain⟨⟨x,dx,n,s,b,v,xs,sp,bp,ms,mv,m,rfl,_⟩,_⟩:=h
  rfl
 obtain⟨⟨x,dx,n,s,b,v,xs,sp,bp,ms,mv,m,rfl,A,hx,h1,hm,g,q⟩,_⟩:=h;have Zi5:=Znf (P:=P) (w:=w) (base:=base) T;have D_steps_from:=Zmd (P:=P) (w:=w) (base:=base) T;have ZAO:=ZyX (P:=P) (w:=w) (base:=base) T;have hp:=ZbV hm;have hp0:=Int.natCast_nonneg (2 ^ m);have en:=A.en
 refine⟨_,(Zab (ss 1 Ze5.nd (Zaw Zaz rfl T.B.len Za4 (Zaa (Zbi (pv 0) rfl) Zad)))
   (Zab (ZkX 2 Ze5.nd (sc:=Zah Zd8) (N:=["self","many","after"]) (ns:=["self"]) (ix:=[0]) rfl rfl (by decide +kernel) rfl (ZaZ rfl T.B.range (Zaa (Zai Zba Zac (pv 1)) Zad)) (fun _ _ _ _=>Zhm) (fun _ _ _ _=>(ZfS D_steps_from hr (pv 1) (Zaa (pv 0) Zad))))
   (Zae (Zao (Zn2 ZAO hr (Zaa (pv 1) (Zaa (ZaE Zi5 hr (Zaa (Zbi (pv 0) rfl) (Zaa (pv 1) Zad))) (Zaa (ZaE Zi5 hr (Zaa (Zbi (pv 0) rfl) (Zaa (pv 1) Zad))) (Zaa (pv 2) Zad))))))))),?_⟩
 walk_at "rd0";refine⟨x,_,_,_,_,rfl,A.ob,T.ZbQ,T.Zcz,ZyR _ _ _ _,?_⟩;walk_at "";rw[hx,Zbj];refine⟨_,rfl,by omega,by omega,?_⟩;rw[Int.toNat_natCast];refine Zgv (fun i ys=>ys=(nums ((List.range i).map fun s=>stN s mv)).map V.int) (Zgr 0 (2 ^ m) H) (by simp; omega) rfl ?_ ?_
 ·intro i y ys acc H' hy s1 hacc ea hys _ R kk
  obtain⟨hi,rfl⟩:=ZqI hy;rw[Int.zero_add]at kk ⊢;simp only [subS,map_cons,map_nil];walk_at "";refine kk true H' (Same.refl _) (fun z=>by cases z) fun _ R2 k2=>?_;have A':=A.ext (Ext.of s1);walk_at "";refine⟨x,_,_,_,rfl,A'.ob,rfl,ZBG _ _ _ _ _ (by decide +kernel) (by decide +kernel) (by decide +kernel) (by decide +kernel),?_⟩;walk_at "";refine⟨A'.ob,x,dx,n,s,b,v,xs,sp,bp,ms,mv,i,m,rfl,A',hm,hi,g,?_⟩;refine k2 _ H' (Same.refl _) ?_;rw[range_succ,map_append,hys];exact(Zxb _ _).symm
 ·intro acc ys H' nacc s1 ea hys
  rw[length_map,length_range]at hys;have A':=A.ext (Ext.of s1)
  have af:H' acc=some (.lst ((nums (afN m mv)).map V.int)):=by rw[ea,hys]; rfl
  walk_at "";refine⟨x,_,_,_,_,rfl,A'.ob,T.ZbQ,T.Zb8,ZwZ _ _ _ _,?_⟩;walk_at "";refine⟨s,m,sp,rfl,hm,A'.es,A'.fs,?_⟩;walk_at "";refine⟨x,_,_,_,_,rfl,A'.ob,T.ZbQ,T.Zda,ZBF _ _ _ _,?_⟩;walk_at "";refine⟨b,m,bp,rfl,hm,A'.eb,A'.fb,?_⟩;walk_at "";refine ZBc af ⟨h1,hm,Zsj m _ _ rfl,Zsj m _ _ rfl,by unfold afN; rw[length_map,length_range],fun u hu=>?_⟩ fun y H2 s2 _ hc=>q y H2 (s1.trans s2) hc;unfold afN at hu;obtain⟨k,hk,rfl⟩:=mem_map.mp hu;exact ZAD (mem_range.mp hk) _ mv rfl g
end
section
variable {P:Program} {w:World} {K:W.Frag} {mg:Str→Option Value} {base:Heap} {t:Ad} {n:Nat}
def fitN (s o:Nat) (v:Mv):Bool:=v.1.2.holds s && decide (onN s v.2=o)
def wV (s o:Nat) (mv:List Mv):V:=match mv.findIdx? (fitN s o) with
 | some k=>.int (k:Int)
 | none=>.non
theorem Zya {s o i:Nat} {mv:List Mv} {v:Mv} (h:mv[i]?=some v) (f:fitN s o v=true) (b:∀j u,j < i→mv[j]?=some u→fitN s o u=false):wV s o mv=.int (i:Int):=by
 have e:mv.findIdx? (fitN s o)=some i:=by
  obtain⟨hi,hv⟩:=List.getElem?_eq_some_iff.mp h;rw[List.findIdx?_eq_some_iff_getElem];refine⟨hi,by rw[hv]; exact f,fun j hj=>?_⟩;have:=b j mv[j] hj (List.getElem?_eq_getElem (by omega));rw[this]; exact Bool.false_ne_true
 unfold wV;rw[e]
theorem Zx9 {s o:Nat} {mv:List Mv} (b:∀j u,j < mv.length→mv[j]?=some u→fitN s o u=false):wV s o mv=.non:=by
 have e:mv.findIdx? (fitN s o)=none:=by
  rw[List.findIdx?_eq_none_iff];intro x hx;obtain⟨j,hj,rfl⟩:=List.mem_iff_getElem.mp hx;exact b j _ hj (List.getElem?_eq_getElem hj)
 unfold wV;rw[e]
def ZCt (t:Ad):Sp:=fun vs H Q _=>∃(x dx n s b v:Addr) (xs:List V) (sp bp:List (Addr×Fm)) (ms:List Addr) (mv:List Mv) (k o m:Nat),vs=[.ref x,.int (k:Int),.int (o:Int)]∧MacAt t H x dx n s b v xs sp bp ms mv∧m≤6∧(∀u∈mv,GoodMv m u)∧∀H',Same H H'→Q (wV k o mv) H'
theorem ZuI (T:Txt K mg t):∀C,ZBm t C→MeS P w K mg base 64 C "which" ["self","stand","other"] (spAt (ZCt t) C):=by
 rintro C rfl;refine⟨T.ZbQ,_,_,T.ZbM.ok Ze6 (fun vs H Q E h=>?_) (fun cdv A outer s H vs Q E hr h=>?_),T.ZhT,T.Zh5⟩
 ·obtain⟨⟨x,dx,n,s,b,v,xs,sp,bp,ms,mv,k,o,m,rfl,_⟩,_⟩:=h
  rfl
 obtain⟨⟨x,dx,n,s,b,v,xs,sp,bp,ms,mv,k,o,m,rfl,A,hm,g,q⟩,_⟩:=h;have D_fits:=Zp3 (P:=P) (w:=w) (base:=base) (n:=62) T;have D_onward:=Zmc (P:=P) (w:=w) (base:=base) (n:=62) T
 refine⟨_,(Zab (ZaS PassesOwn.never rfl (Ztk rfl T.B.enumerate (Zbi (pv 0) rfl)) (Znn rfl (Zco (sg 3 Ze6.nd) (Zco (sg 4 Ze6.nd) Zjw)))
   (Zae (ZaB (PW.pt (Zd7 (ZaL (ZfS D_fits hr (pv 4) (Zaa (pv 1) Zad)) (fun _=>rfl)) (Zc2 (Zaj (ZaA hr.units) (ZfS D_onward hr (pv 4) (Zaa (pv 1) Zad)) (pv 2) (Zan _)))))
   (Zae (Zao (pv 3)))
   Zap)))
   (Zae (Zao Zuo))),?_⟩
 walk_at "rd0";refine⟨x,_,_,_,_,rfl,A.ob,T.ZbQ,T.ZbU,Zt7 _ _ _ _,?_⟩;refine ZEA (xs:=ms.map V.ref) (fun i σ H'=>Same H H'∧(∀j u,j < i→mv[j]?=some u→fitN k o u=false)∧∃v3 v4,σ=[some (.ref x),some (.int (k:Int)),some (.int (o:Int)),v3,v4]) ⟨Same.refl _,fun j u h=>absurd h (by omega),_,_,rfl⟩ (fun i σ H' _ hp=>SqT.of (hp.1 _ _ A.ev)) ?_ ?_
 ·rintro i y T' σ H0 H' hy ⟨s1,bf,v3,v4,rfl⟩ s2 n2 eT
  obtain⟨p,rfl,hx'⟩:=Zbf hy;obtain⟨u,hgi,hu0⟩:=Zbt A.fv hx';have hu:=MvAt.ext (Ext.of (s1.trans s2)) hu0;have gu:=g u (mem_of_getElem? hgi);obtain⟨C,dx',fs',e',hC,hl⟩:=MvAt.ins hu "fits" (by decide +kernel) (by decide +kernel);obtain⟨C2,dx2,fs2,e2,hC2,hl2⟩:=MvAt.ins hu "onward" (by decide +kernel) (by decide +kernel)
  have nxt:fitN k o u=false→∀j u',j < i+1→mv[j]?=some u'→fitN k o u'=false:=fun hf j u' hj e=>by
   by_cases z:j=i
   ·subst z
    rw[hgi]at e
    cases e
    exact hf
   ·exact bf j u' (by omega) e
  refine ZsH eT ?_;walk_at "";refine⟨p,C,dx',fs',rfl,e',hC,hl,?_⟩;walk_at "";refine⟨e',p,u.1.1,k,u.1.2,u.2,rfl,hu,?_⟩;walk_at "";refine ZnR (fun hb=>?_) (fun hb=>?_)
  ·walk_at ""
   refine⟨p,C2,dx2,fs2,rfl,e2,hC2,hl2,?_⟩;walk_at "";refine⟨e2,p,u.1.1,k,u.1.2,u.2,rfl,hu,fun c h=>by have:=gu.lo c h; omega,?_⟩;walk_at "";refine Zb7 (fun h0=>?_) (fun h0=>?_)
   ·walk_at ""
    have:=Zya (s:=k) (o:=o) hgi (by unfold fitN; rw[hb,Bool.true_and]; exact decide_eq_true (by omega)) bf;rw[this]at q;exact q H' (s1.trans s2)
   ·walk_at ""
    exact⟨s1.trans s2,nxt (by unfold fitN; rw[hb,Bool.true_and]; exact decide_eq_false (by omega)),_,_,rfl⟩
  ·refine ZaI rfl ?_
   walk_at "";exact⟨s1.trans s2,nxt (by unfold fitN; rw[hb]; rfl),_,_,rfl⟩
 ·rintro σ H' ⟨s1,bf,v3,v4,rfl⟩
  rw[length_map,Zak A.fv]at bf;rw[Zx9 bf]at q;walk_at "";exact q H' s1
end
section
variable {P:Program} {w:World} {K:W.Frag} {mg:Str→Option Value} {base:Heap} {t:Ad} {n:Nat}
def ChW (t:Ad) (H:Hp) (p:Addr) (c:Nat×Fm):Prop:=∃b,H p=some (.tup [.int (c.1:Int),.ref b])∧FmE t H b c.2
def MvW (t:Ad) (H:Hp) (x:Addr) (v:Fm×List (Nat×Fm)):Prop:=∃dx g tp hs,H x=some (.ins t.ZbA dx (Zpn g tp))∧H tp=some (.tup (hs.map V.ref))∧FmE t H g v.1∧Paired (ChW t H) hs v.2
def MacW (t:Ad) (H:Hp) (x:Addr) (ns:List Str) (ss bs:List Fm) (vs:List (Fm×List (Nat×Fm))):Prop:=
 ∃dx n s b v ps pb pv,H x=some (.ins t.Zau dx (macF n s b v))∧H n=some (.tup (ns.map V.str))∧H s=some (.tup (ps.map V.ref))∧H b=some (.tup (pb.map V.ref))∧H v=some (.tup (pv.map V.ref))∧Paired (FmE t H) ps ss∧Paired (FmE t H) pb bs∧Paired (MvW t H) pv vs
theorem FmE.ext {H H':Hp} (s:Ext H H') {p:Addr} {f:Fm} (h:FmE t H p f):FmE t H' p f:=let ⟨n,h⟩:=h; ⟨n,h.mono s⟩
theorem ChW.ext {H H':Hp} (s:Ext H H') {p:Addr} {c:Nat×Fm} (h:ChW t H p c):ChW t H' p c:=by
 obtain⟨b,e,f⟩:=h;exact⟨b,s _ _ e (fun _ z=>nomatch z),f.ext s⟩
theorem MvW.ext {H H':Hp} (s:Ext H H') {x:Addr} {v:Fm×List (Nat×Fm)} (h:MvW t H x v):MvW t H' x v:=by
 obtain⟨dx,g,tp,hs,e1,e2,f,p⟩:=h;exact⟨dx,g,tp,hs,s _ _ e1 (fun _ z=>nomatch z),s _ _ e2 (fun _ z=>nomatch z),f.ext s,Zaf (fun _ _ q=>q.ext s) p⟩
theorem ZBi {l g:Addr} {hs:List Addr} {v:Fm×List (Nat×Fm)} {H:Hp} {Q:VK} (hl:H l=some (.lst (hs.map V.ref))) (hf:FmE t H g v.1) (hc:Paired (ChW t H) hs v.2) (h:∀(x:Addr) (H':Hp),Same H H'→H x=none→MvW t H' x v→Q (.ref x) H') :
  MkG t.ZbA (ZxS t.ZbA) [.ref g,.ref l] H Q:=by
 intro x dx hx hdx ne;have s2:=ZgV hx hdx (.ins t.ZbA dx []) (.own x);refine⟨x,dx,g,l,_,rfl,Zax,s2 _ _ hl,fun tp H' s3 h1 h2=>⟨rfl,?_⟩⟩;have s4:Same H H':=fun b o e=>s3 b o (Zag e hx) (s2 b o e);exact h x H' s4 hx ⟨dx,g,tp,hs,h2,h1,hf.ext (Ext.of s4),Zaf (fun _ _ q=>q.ext (Ext.of s4)) hc⟩
theorem Zvf {ln ls lb lv:Addr} {ns:List Str} {ss bs:List Fm} {ps pb pv:List Addr} {vs:List (Fm×List (Nat×Fm))} {H:Hp} {Q:VK} (hn:H ln=some (.lst (ns.map V.str))) (hs:H ls=some (.lst (ps.map V.ref))) (hb:H lb=some (.lst (pb.map V.ref))) (hv:H lv=some (.lst (pv.map V.ref)))
  (fs:Paired (FmE t H) ps ss) (fb:Paired (FmE t H) pb bs) (fv:Paired (MvW t H) pv vs)
  (h:∀(x:Addr) (H':Hp),Same H H'→H x=none→MacW t H' x ns ss bs vs→Q (.ref x) H') :
  MkG t.Zau (ZrQ t.Zau) [.ref ln,.ref ls,.ref lb,.ref lv] H Q:=by
 intro x dx hx hdx ne;have s2:=ZgV hx hdx (.ins t.Zau dx []) (.own x);refine⟨x,dx,ln,ls,lb,lv,_,_,_,_,rfl,Zax,s2 _ _ hn,s2 _ _ hs,s2 _ _ hb,s2 _ _ hv,fun n s b v H' s3 h1 h2 h3 h4 h5=>⟨rfl,?_⟩⟩;have s4:Same H H':=fun b o e=>s3 b o (Zag e hx) (s2 b o e);exact h x H' s4 hx ⟨dx,n,s,b,v,ps,pb,pv,h5,h1,h2,h3,h4,Zaf (fun _ _ q=>q.ext (Ext.of s4)) fs,Zaf (fun _ _ q=>q.ext (Ext.of s4)) fb,Zaf (fun _ _ q=>q.ext (Ext.of s4)) fv⟩
end
def Zeg (pcs:List (List Str)) (z:Str):List (List Str):=if z = "," then pcs++[[]] else pcs.dropLast++[(pcs.getLast?.getD [])++[z]]
def ZeL (ws:List Str):List (List Str):=ws.foldl Zeg [[]]
theorem Zuy (pcs:List (List Str)) (z:Str):Zeg pcs z≠[]:=by
 unfold Zeg
 split <;> simp
theorem Zkk (ws:List Str):ZeL ws≠[]:=by
 unfold ZeL
 have:∀(ws:List Str) (pcs:List (List Str)),pcs≠[]→ws.foldl Zeg pcs≠[]:=by
  intro ws
  induction ws with
  | nil=>intro pcs h; exact h
  | cons z r ih=>intro pcs _; exact ih _ (Zuy pcs z)
 exact this ws [[]] (by simp)
theorem ZvI (ws:List Str) (z:Str):ZeL (ws++[z])=Zeg (ZeL ws) z:=by
 unfold ZeL;rw[foldl_append];rfl
theorem ZmI:∀(p:List Str) (pcs:List (List Str)) (cur:List Str),("," : Str)∉p→p.foldl Zeg (pcs++[cur])=pcs++[cur++p]
 | [],pcs,cur,_=>by simp
 | z::p,pcs,cur,h=>by
  have hz : ¬z = ",":=fun e=>h (by rw[e]; simp);have hp:("," : Str)∉p:=fun e=>h (mem_cons_of_mem _ e);show p.foldl Zeg (Zeg (pcs++[cur]) z)=_
  have e:Zeg (pcs++[cur]) z=pcs++[cur++[z]]:=by
   unfold Zeg;rw[if_neg hz];simp
  rw[e,ZmI p pcs (cur++[z]) hp];simp
theorem Zor:∀(ps:List (List Str)) (pcs:List (List Str)),ps≠[]→(∀p∈ps,("," : Str)∉p)→(jnW "," ps).foldl Zeg (pcs++[[]])=pcs++ps
 | [],_,h,_=>absurd rfl h
 | [p],pcs,_,h=>by
  have:=ZmI p pcs [] (h p mem_cons_self)
  simpa [jnW] using this
 | p::q::r,pcs,_,h=>by
  have e:jnW "," (p::q::r)=p++("," : Str)::jnW "," (q::r):=rfl;rw[e,foldl_append,ZmI p pcs [] (h p mem_cons_self)];show(jnW "," (q::r)).foldl Zeg (Zeg (pcs++[[]++p]) ",")=_
  have e2:Zeg (pcs++[[]++p]) "," = (pcs++[p])++[[]]:=by unfold Zeg; rw[if_pos rfl]; simp
  rw[e2,Zor (q::r) (pcs++[p]) (by simp) fun x hx=>h x (mem_cons_of_mem _ hx)];simp
theorem ZvH {ps:List (List Str)} (hn:ps≠[]) (h:∀p∈ps,("," : Str)∉p):ZeL (jnW "," ps)=ps:=by
 have:=Zor ps [] hn h
 simpa [ZeL] using this
theorem ZzA {pcs:List (List Str)} {z:Str} {B:Nat} (h:∀pc∈pcs,pc.length≤B):∀pc∈Zeg pcs z,pc.length≤B+1:=by
 intro pc hp;unfold Zeg at hp
 split at hp
 ·rcases mem_append.mp hp with hp | hp
  ·exact Nat.le_succ_of_le (h pc hp)
  ·rw[mem_singleton.mp hp]; exact Nat.zero_le _
 ·rcases mem_append.mp hp with hp | hp
  ·exact Nat.le_succ_of_le (h pc ((List.dropLast_sublist _).subset hp))
  ·rw[mem_singleton.mp hp,length_append,length_singleton]
   cases e:pcs.getLast? with
   | none=>simp
   | some q=>exact Nat.succ_le_succ (h q (List.mem_of_getLast? e))
theorem Zxn (ws:List Str):(ZeL ws).length≤ws.length+1:=by
 have:∀(ws:List Str) (pcs:List (List Str)),pcs≠[]→(ws.foldl Zeg pcs).length≤pcs.length+ws.length:=by
  intro ws
  induction ws with
  | nil=>intro pcs _; exact Nat.le_refl _
  | cons z r ih=>
   intro pcs hp;have h1:=ih (Zeg pcs z) (Zuy pcs z)
   have h2:(Zeg pcs z).length≤pcs.length+1:=by
    unfold Zeg
    split
    ·simp
    ·rw[length_append,List.length_dropLast,length_singleton]; omega
   rw[length_cons];exact Nat.le_trans h1 (by omega)
 have:=this ws [[]] (by simp);simp only [length_singleton]at this;unfold ZeL;omega
theorem Zum (ws:List Str):∀pc∈ZeL ws,pc.length≤ws.length:=by
 have:∀(ws:List Str) (pcs:List (List Str)) (B:Nat),(∀pc∈pcs,pc.length≤B)→∀pc∈ws.foldl Zeg pcs,pc.length≤B+ws.length:=by
  intro ws
  induction ws with
  | nil=>intro pcs B h; exact h
  | cons z r ih=>
   intro pcs B h pc hp;have:=ih (Zeg pcs z) (B+1) (ZzA h) pc hp;rw[length_cons];omega
 intro pc hp;have:=this ws [[]] 0 (fun pc h=>by rw[mem_singleton.mp h]; exact Nat.le_refl _) pc hp;omega
seal PE PA PS PSs
section
variable {P:Program} {w:World} {K:W.Frag} {mg:Str→Option Value} {base:Heap} {t:Ad} {n:Nat}
def ZFx:Sp:=fun vs H Q _=>∃z:Str,vs=[.str z]∧Asc z∧z.length≤16000∧okW z=true∧Txt.words (pad z)≠[]∧∀p H',Same H H'→H p=none→H' p=some (.lst ((Txt.words (pad z)).map V.str))→Q (.ref p) H'
theorem ZhJ (T:Txt K mg t):FnS P w K mg base 3 "words_of_line" ["line"] (ZFx):=by
 refine⟨_,_,T.ZbO.ok ZhK (fun vs H Q E h=>?_) (fun cdv A outer s H vs Q E hr h=>?_),T.ZhY,T.ZbO.kp,T.Zic⟩
 ·obtain⟨z,rfl,ha,hz,hok,hne,q⟩:=h
  rfl
 obtain⟨z,rfl,ha,hz,hok,hne,q⟩:=h;have ZAL:=Zy6 (P:=P) (w:=w) (base:=base) T
 refine⟨_,(Zab (ss 1 ZhK.nd (ZaE ZAL hr (Zaa (pv 0) Zad)))
   (Zab (ZaB (PW.pt (Zih (Zaj ZD0 (pv 1) Zuo (Zan _)) (ZfT (Zaj (ZaA hr.units) (Zaw Zaz rfl T.B.len Za4 (Zaa (pv 1) Zad)) Zac (Zan _)))))
   (Zae Zd6)
   Zap)
   (Zae (Zao (pv 1))))),?_⟩
 walk_at "rd0";refine⟨z,rfl,ha,hz,fun h=>(absurd h (by rw[hok]; decide)),fun _ H1 p s1 n1 e1=>?_⟩;walk_at "";refine⟨rfl,?_⟩;walk_at "";refine ZaI (by simp) ?_;walk_at "";rw[length_map];refine ZaI (decide_eq_false fun e=>hne (length_eq_zero_iff.mp (by omega))) ?_;walk_at "";exact q p H1 s1 n1 e1
theorem ZjZ {ps:List Str} {i:Nat} {x:V} (h:(ps.map V.str)[i]?=some x):∃p,x=V.str p∧ps[i]?=some p:=by
 rw[getElem?_map]at h
 cases e:ps[i]? with
 | none=>rw[e]at h; cases h
 | some p=>rw[e]at h; cases h; exact⟨p,rfl,rfl⟩
theorem Zhk {α β:Type} {R S:α→β→Prop}:∀{as:List α} {bs:List β},Paired R as bs→(∀a b,a∈as→R a b→S a b)→Paired S as bs
 | _,_,.nil,_=>.nil
 | _,_,.cons h r,f=>.cons (f _ _ mem_cons_self h) (Zhk r fun a b ha z=>f a b (mem_cons_of_mem _ ha) z)
def ZAP (H0 H:Hp) (ps:List Addr) (pcs:List (List Str)):Prop:=Paired (fun p pc=>H0 p=none∧H p=some (.lst (pc.map V.str))) ps pcs
def Zzs:Sp:=fun vs H Q _=>∃(l:Addr) (ws:List Str),vs=[.ref l]∧H l=some (.lst (ws.map V.str))∧ws.length≤100000∧∀o ps H',Same H H'→H o=none→H' o=some (.lst (ps.map V.ref))→ZAP H H' ps (ZeL ws)→Q (.ref o) H'
theorem ZkW {α β:Type} {R:α→β→Prop}:∀{as:List α} {bs:List β},Paired R as bs→∀a∈as,∃b,R a b
 | _,_,.nil,a,h=>by cases h
 | _,_,.cons h r,a,ha=>by
  rcases mem_cons.mp ha with rfl | ha
  ·exact⟨_,h⟩
  ·exact ZkW r a ha
theorem ZaJ {α β:Type} {R:α→β→Prop}:∀{as:List α} {bs:List β},Paired R as bs→∀{i:Nat} {a:α},as[i]?=some a→∃b,bs[i]?=some b∧R a b
 | _,_,.nil,i,a,h=>by cases h
 | _,_,.cons h r,0,a,ha=>by cases ha; exact⟨_,rfl,h⟩
 | _,_,.cons h r,i+1,a,ha=>ZaJ r (i:=i) (by simpa using ha)
theorem ZoE {α β:Type} {R:α→β→Prop}:∀{as:List α} {bs:List β},Paired R as bs→∀{i:Nat} {b:β},bs[i]?=some b→∃a,as[i]?=some a∧R a b
 | _,_,.nil,i,a,h=>by cases h
 | _,_,.cons h r,0,a,ha=>by cases ha; exact⟨_,rfl,h⟩
 | _,_,.cons h r,i+1,a,ha=>ZoE r (i:=i) (by simpa using ha)
theorem ZiW {α β γ:Type} {R:α→β→Prop} {S:α→γ→Prop} {f:β→γ} (h:∀a b,R a b→S a (f b)):∀{as:List α} {bs:List β},Paired R as bs→Paired S as (bs.map f)
 | _,_,.nil=>.nil
 | _,_,.cons h1 r=>.cons (h _ _ h1) (ZiW h r)
theorem ZxM {α β:Type} {R:α→β→Prop} {as:List α} {bs:List β} (h:Paired R as bs) (hb:bs≠[]):∃as' a,as=as'++[a]∧Paired R as' bs.dropLast∧R a (bs.getLast hb):=by
 induction h with
 | nil=>exact absurd rfl hb
 | cons h1 h2 ih=>
  rename_i a b as bs
  cases h2 with
  | nil=>exact⟨[],a,rfl,.nil,h1⟩
  | cons h3 h4=>
   obtain⟨as',a',e,h5,h6⟩:=ih (by simp);refine⟨a::as',a',by rw[e]; rfl,?_,?_⟩
   ·rw[List.dropLast_cons_cons]
    exact .cons h1 h5
   ·rw[List.getLast_cons_cons]
    exact h6
theorem Zjt (T:Txt K mg t):FnS P w K mg base 1 "parted_by_commas" ["found"] (Zzs):=by
 refine⟨_,_,T.Zbk.ok Zdp (fun vs H Q E h=>?_) (fun cdv A outer s H vs Q E hr h=>?_),T.Zf1,T.Zbk.kp,T.Zgo⟩
 ·obtain⟨l,ws,rfl,hl,hz,q⟩:=h
  rfl
 obtain⟨l,ws,rfl,hl,hz,q⟩:=h
 refine⟨_,(Zab (ss 1 Zdp.nd (ZaO (Zaa (ZaO Zad) Zad)))
   (Zab (ZaS PassesOwn.never rfl (Za6 (pv 0)) (sg 2 Zdp.nd)
   (Zae (ZaB (Zaj (ZaA hr.units) (pv 2) Zal (Zan _))
   (Zae (ZaQ (ZcB F.plainAttrs_list F.slot_list_append F.type_list_append ZaK (pv 1) (Zaa (ZaO Zad) Zad))))
   (Zae (ZaQ (ZcB F.plainAttrs_list F.slot_list_append F.type_list_append ZaK (Zav Zam (pv 1) (Ztj ZoK Zac) (fun _ _=>rfl)) (Zaa (pv 2) Zad)))))))
   (Zae (Zao (pv 1))))),?_⟩
 walk_at "rd0";refine ZbW (by simp) fun p0 H0 s0 n0 e0=>?_;walk_at "";refine ZbW (by simp) fun o H1 s1 n1 e1=>?_;walk_at "";have no:H o=none:=s0.free n1
 have nd0:(o::[p0]).Nodup:=by
  rw[nodup_cons];refine⟨fun hm=>?_,by simp⟩;rw[mem_singleton.mp hm,e0]at n1
  cases n1
 refine seqL (xs:=ws.map V.str) (fun i σ H'=>∃ps v2,σ=[some (.ref l),some (.ref o),v2]∧Same H H'∧H' o=some (.lst (ps.map V.ref))∧ZAP H H' ps (ZeL (ws.take i))∧(o::ps).Nodup∧(ZeL (ws.take i)).length≤i+1)
  ⟨[p0],_,rfl,s0.trans s1,e1,.cons ⟨n0,s1 _ _ e0⟩ .nil,nd0,Nat.le_refl _⟩ (fun i σ H' _ hp=>by obtain⟨ps,v2,_,s,_⟩:=hp; exact SqL.of (s _ _ hl)) ?_ ?_
 ·rintro i x σ H2 hx ⟨ps,v2,rfl,s2,e2,pp,nd,hln⟩
  obtain⟨z,rfl,hz'⟩:=ZjZ hx;have hil:i < ws.length:=(List.getElem?_eq_some_iff.mp hz').1;rw[nodup_cons]at nd;have hpl:=Zak pp
  have ets:ZeL (ws.take (i+1))=Zeg (ZeL (ws.take i)) z:=by rw[ZaD hz',ZvI]
  walk_at "";refine Zb7 (fun h=>?_) (fun h=>?_)
  ·walk_at ""
   refine⟨tyL e2,?_⟩;walk_at "";refine ZbW (by simp) fun p3 H3 s3 n3 e3=>?_;have e23:=s3 _ _ e2;walk_at "";refine Za5 e23 (by rw[length_map]; omega) fun H4 b4 e4=>?_;walk_at "";have n3':H p3=none:=s2.free n3
   have np:p3∉ps:=fun hm=>by
    obtain⟨pc,_,e⟩:=ZkW pp p3 hm;rw[n3]at e; cases e
   have neo:o≠p3:=fun e=>by rw[←e]at n3; rw[n3]at e2; cases e2
   refine⟨ps++[p3],_,rfl,b4.same no (s2.trans s3),by rw[e4,map_append]; rfl,?_,?_,?_⟩
   ·rw[ets]
    unfold Zeg;rw[if_pos h];refine Zaq (Zhk pp fun p pc hp z=>⟨z.1,b4 _ _ (fun e=>nd.1 (by rw[←e]; exact hp)) (s3 _ _ z.2)⟩) (.cons ⟨n3',b4 _ _ (fun e=>neo e.symm) e3⟩ .nil)
   ·rw[nodup_cons]
    refine⟨?_,?_⟩
    ·simp only [mem_append,mem_singleton,not_or]
     exact⟨nd.1,neo⟩
    ·rw[nodup_append]
     exact⟨nd.2,by simp,fun a ha b hb e=>np (by rw[←mem_singleton.mp hb,←e]; exact ha)⟩
   ·rw[ets]
    unfold Zeg;rw[if_pos h,length_append,length_singleton];omega
  ·walk_at ""
   obtain⟨ps',p,rfl,pp',hp⟩:=ZxM pp (Zkk _);obtain⟨np,ep⟩:=hp
   have hlast:Zeg (ZeL (ws.take i)) z=(ZeL (ws.take i)).dropLast++[(ZeL (ws.take i)).getLast (Zkk _)++[z]]:=by
    unfold Zeg;rw[if_neg h,List.getLast?_eq_some_getLast (Zkk _)];rfl
   have e2':H2 o=some (.lst (ps'.map V.ref++[V.ref p])):=by rw[e2,map_append]; rfl
   refine ZtX e2' (ZtF _ _) ?_;walk_at "";refine⟨tyL ep,?_⟩;have hpl':=Zak pp'
   have hlz:((ZeL (ws.take i)).getLast (Zkk _)).length≤100000:=by
    have:=Zum (ws.take i) _ (List.getLast_mem (Zkk _));rw[length_take]at this;omega
   walk_at "";refine Za5 ep (by rw[length_map]; omega) fun H4 b4 e4=>?_;walk_at "";have nd':=nd;rw[nodup_append]at nd';have nop:o≠p:=fun e=>nd.1 (by rw[e]; simp);refine⟨ps'++[p],_,rfl,b4.same np s2,b4 _ _ nop e2,?_,?_,?_⟩
   ·rw[ets,hlast]
    refine Zaq (Zhk pp' fun a pc ha z=>⟨z.1,b4 _ _ (fun e=>nd'.2.2.2 a ha p (mem_singleton.mpr rfl) e) z.2⟩) (.cons ⟨np,by rw[e4,map_append]; rfl⟩ .nil)
   ·rw[nodup_cons]; exact nd
   ·rw[ets,hlast,length_append,List.length_dropLast,length_singleton]; omega
 ·rintro σ H2 ⟨ps,v2,rfl,s2,e2,pp,nd,hln⟩
  walk_at "";rw[length_map,take_length]at pp;exact q o ps H2 s2 no e2 pp
theorem ZmP {z:Str}:∀{ns:List Str} {k:Nat},ns.Nodup→ns[k]?=some z→idxS z ns=some k
 | [],k,_,h=>by simp at h
 | y::r,k,nd,h=>by
  unfold idxS;rw[nodup_cons]at nd
  cases k with
  | zero=>
   have:y=z:=by simpa using h
   rw[if_pos this]
  | succ k=>
   have h:r[k]?=some z:=by simpa using h
   have : ¬y=z:=fun e=>nd.1 (by rw[e]; exact mem_of_getElem? h);rw[if_neg this,ZmP nd.2 h];rfl
theorem ZDo {p:Addr} {x:Str} {ns:List Str} {H:Hp} {Q:VK} (h:H p=some (.lst (ns.map V.str))∨H p=some (.tup (ns.map V.str))) (k:Q (.bl (!decide (x∈ns))) H):Ztm K (.str x) (.ref p) H Q:=by
 refine .inr ⟨p,ns.map V.str,rfl,h.imp SqL.of SqT.of,rfl,?_,?_⟩
 ·rw[all_eq_true]
  intro v hv;obtain⟨z,_,rfl⟩:=mem_map.mp hv;rfl
 ·rw[Zj4]
  exact k
theorem ZDp {p:Addr} {x:Str} {ns:List Str} {H:Hp} {Q:VK} (h:SqT K H p (ns.map V.str)) (k:Q (.bl (!decide (x∈ns))) H):Ztm K (.str x) (.ref p) H Q:=by
 refine .inr ⟨p,ns.map V.str,rfl,.inr h,rfl,?_,?_⟩
 ·rw[all_eq_true]
  intro v hv;obtain⟨z,_,rfl⟩:=mem_map.mp hv;rfl
 ·rw[Zj4]
  exact k
def Zrs (ks:List Nat):List V:=ks.map fun k:Nat=>V.int (k:Int)
theorem Zw8 {α:Type}:∀{l:List α} {i j:Nat} {x:α},l.Nodup→l[i]?=some x→l[j]?=some x→i=j
 | [],i,j,x,_,h,_=>by simp at h
 | y::l,0,0,x,_,_,_=>rfl
 | y::l,0,j+1,x,nd,h1,h2=>by
  rw[nodup_cons]at nd
  have h1:y=x:=by simpa using h1
  have h2:l[j]?=some x:=by simpa using h2
  exact absurd (mem_of_getElem? h2) (by rw[←h1]; exact nd.1)
 | y::l,i+1,0,x,nd,h1,h2=>by
  rw[nodup_cons]at nd
  have h2:y=x:=by simpa using h2
  have h1:l[i]?=some x:=by simpa using h1
  exact absurd (mem_of_getElem? h1) (by rw[←h2]; exact nd.1)
 | y::l,i+1,j+1,x,nd,h1,h2=>by
  rw[nodup_cons]at nd;exact congrArg (· + 1) (Zw8 nd.2 (by simpa using h1) (by simpa using h2))
theorem ZtZ (x:Nat):∀ns:List Nat,inV (.int (x:Int)) (Zrs ns)=decide (x∈ns)
 | []=>by simp[inV,Zrs]
 | y::ns=>by
  have ih:=ZtZ x ns;unfold inV Zrs at ih ⊢;rw[map_cons,any_cons,ih]
  have e:eqV (.int (y:Int)) (.int (x:Int))=decide (y=x):=by
   show decide ((y:Int)=(x:Int))=_;exact decide_eq_decide.mpr (by omega)
  rw[e]
  by_cases h:y=x
  ·simp[h]
  ·have h' : ¬x=y:=fun z=>h z.symm
   simp[h,h']
theorem ZBg {p:Addr} {x:Nat} {ns:List Nat} {H:Hp} {Q:VK} (h:H p=some (.lst (Zrs ns))) (k:Q (.bl (decide (x∈ns))) H):rInG K (.int (x:Int)) (.ref p) H Q:=by
 refine .inr ⟨p,Zrs ns,rfl,.inl (SqL.of h),rfl,?_,?_⟩
 ·rw[all_eq_true]
  intro v hv;obtain⟨z,_,rfl⟩:=mem_map.mp hv;rfl
 ·rw[ZtZ]
  exact k
theorem ZE8 {ws:List Str} {k:Nat} (h:k≤ws.length):cutV (ws.map V.str) none (some (k:Int))=(ws.take k).map V.str:=by
 rw[Zwh (by rw[length_map]; exact h),map_take]
theorem Zl4 {a b:List Str} (h:("then" : Str)∉a):(a++("then" : Str)::b)[a.length]?=some "then"∧∀m,m < a.length→(a++("then" : Str)::b)[m]?≠some "then":=by
 refine⟨by simp,fun m hm e=>?_⟩;rw[List.getElem?_append_left hm]at e;exact h (mem_of_getElem? e)
def Zzt:Sp:=fun vs H Q _=>∃(l:Addr) (a b:List Str),vs=[.ref l]∧H l=some (.lst ((a++("then" : Str)::b).map V.str))∧("then" : Str)∉a∧a.length+b.length≤90000∧∀o ps H',Same H H'→H o=none→H' o=some (.lst (ps.map V.ref))→ZAP H H' ps (ZeL b)→Q (.ref o) H'
theorem ZlL (T:Txt K mg t):FnS P w K mg base 3 "pieces_in" ["found"] (Zzt):=by
 refine⟨_,_,T.Zew.ok ZrN (fun vs H Q E h=>?_) (fun cdv A outer s H vs Q E hr h=>?_),T.Zmv,T.Zew.kp,T.Znb⟩
 ·obtain⟨l,a,b,rfl,hl,ha,hz,q⟩:=h
  rfl
 obtain⟨l,a,b,rfl,hl,ha,hz,q⟩:=h;have ZjO:=Zjt (P:=P) (w:=w) (base:=base) T;refine⟨_,(Zae (Zao (ZaE ZjO hr (Zaa (Za9 Zc1 (pv 0) (Zbn (Zai Zay (ZcB F.plainAttrs_list F.slot_list_index F.type_list_index Zkh (pv 0) (Zaa Zal Zad)) Zac)) Zb5) Zad)))),?_⟩;walk_at "rd0";refine⟨tyL hl,?_⟩;walk_at "";refine ZmN hl (Zl4 ha).1 (Zl4 ha).2 (by omega) ?_;walk_at ""
 have ec:cutV ((a++("then" : Str)::b).map V.str) (some ((a.length:Int)+1)) none=b.map V.str:=by
  have:=ZdX (xs:=(a++("then" : Str)::b).map V.str) (k:=a.length+1) (by simp)
  have e:(a++("then" : Str)::b).drop (a.length+1)=b:=by
   rw[show a++("then" : Str)::b=(a++[("then" : Str)])++b by simp,List.drop_left' (by simp)]
  rw[←map_drop,e]at this;exact this
 refine ZkO (SqL.of hl) ec fun l2 H1 s1 n1 e1=>?_;walk_at "";refine⟨l2,b,rfl,e1,by omega,fun o ps H2 s2 n2 e2 pp=>?_⟩;exact q o ps H2 (s1.trans s2) (s1.free n2) e2 (Zaf (fun _ _ z=>⟨s1.free z.1,z.2⟩) pp)
def ZEH:Sp:=fun vs H Q _=>∃(l:Addr) (ws:List Str),vs=[.ref l]∧H l=some (.lst (ws.map V.str))∧2≤ws.length∧ws.length≤7∧Q .non H
theorem Zn0 (T:Txt K mg t):FnS P w K mg base 1 "check_lamps" ["found"] (ZEH):=by
 refine⟨_,_,T.ZcL.ok Zn6 (fun vs H Q E h=>?_) (fun cdv A outer s H vs Q E hr h=>?_),T.ZjX,T.ZcL.kp,T.Zkf⟩
 ·obtain⟨l,ws,rfl,hl,h2,h7,q⟩:=h
  rfl
 obtain⟨l,ws,rfl,hl,h2,h7,q⟩:=h
 refine⟨_,(Zae (ZaB (PW.pt (Zih (Zaj ZvF (Zaw Zaz rfl T.B.len Za4 (Zaa (pv 0) Zad)) Zac (Zan _)) (ZfT (Zaj Zju (Zaw Zaz rfl T.B.len Za4 (Zaa (pv 0) Zad)) (Zai Zay (Zn1 rfl T.g_MOST_LAMPS) Zac) (Zan _)))))
   (Zae Zd6)
   Zap)),?_⟩
 walk_at "rd0";rw[length_map];refine ZaI (decide_eq_false (by omega)) ?_;walk_at "";rw[length_map];refine ZaI (decide_eq_false (by omega)) ?_;walk_at "";exact q
structure MvWs (a b:List Str):Prop where
 na:("then" : Str)∉a
 nb:("then" : Str)∉b
 ln:a.length+b.length≤90000
 pc:∀p∈ZeL b,2≤p.length∧p[1]?=some ("is" : Str)
def ZEI:Sp:=fun vs H Q _=>∃(l:Addr) (a b:List Str),vs=[.ref l]∧H l=some (.lst ((a++("then" : Str)::b).map V.str))∧MvWs a b∧∀H',Same H H'→Q .non H'
theorem Zpu (T:Txt K mg t):FnS P w K mg base 5 "check_move" ["found"] (ZEI):=by
 refine⟨_,_,T.ZdD.ok Zkp (fun vs H Q E h=>?_) (fun cdv A outer s H vs Q E hr h=>?_),T.Zlr,T.ZdD.kp,T.ZlI⟩
 ·obtain⟨l,a,b,rfl,hl,M,q⟩:=h
  rfl
 obtain⟨l,a,b,rfl,hl,M,q⟩:=h;have Zjh:=ZlL (P:=P) (w:=w) (base:=base) T
 refine⟨_,(Zab (ZaB (Zaj (Zje hr.units) (ZcB F.plainAttrs_list F.slot_list_count F.type_list_count Zw7 (pv 0) (Zaa Zal Zad)) Zac (Zan _))
   (Zae Zd6)
   Zap)
   (Zae (ZaS PassesOwn.never rfl (Za6 (ZaE Zjh hr (Zaa (pv 0) Zad))) (sg 1 Zkp.nd)
   (Zae (ZaB (PW.pt (Zih (Zaj ZvF (Zaw Zaz rfl T.B.len Za4 (Zaa (pv 1) Zad)) Zac (Zan _)) (ZfT (Zaj (Zje hr.units) (Zav Zam (pv 1) Zac (fun _ _=>rfl)) Zal (Zan _)))))
   (Zae Zd6)
   Zap))))),?_⟩
 walk_at "rd0";refine⟨tyL hl,?_⟩;walk_at "";refine ZyC hl ?_
 have hc:(a++("then" : Str)::b).count ("then" : Str)=1:=by
  rw[List.count_append,List.count_cons_self,List.count_eq_zero.mpr M.na,List.count_eq_zero.mpr M.nb]
 rw[hc];walk_at "";refine ZaI (by decide) ?_;walk_at "";refine⟨l,a,b,rfl,hl,M.na,M.ln,fun o ps H1 s1 n1 e1 pp=>?_⟩;refine seqL (xs:=ps.map V.ref) (fun i σ H'=>H'=H1∧∃v1,σ=[some (.ref l),v1]) ⟨rfl,_,rfl⟩ (fun i σ H' _ hp=>by obtain⟨rfl,_⟩:=hp; exact SqL.of e1) ?_ ?_
 ·rintro i x σ H' hx ⟨rfl,v1,rfl⟩
  obtain⟨p,rfl,hp⟩:=Zbf hx;obtain⟨pc,hpc,np,ep⟩:=ZaJ pp hp;obtain⟨h2,h1⟩:=M.pc pc (mem_of_getElem? hpc);walk_at "";rw[length_map];refine ZaI (decide_eq_false (by omega)) ?_;walk_at "";refine ZbJ (j:=1) ep (v:=.str "is") (by rw[getElem?_map,h1]; rfl) ?_;walk_at "";refine ZaI (by decide) ?_;walk_at "";exact⟨rfl,_,rfl⟩
 ·rintro σ H' ⟨rfl,v1,rfl⟩
  walk_at "";exact q _ s1
def ZEG:Sp:=fun vs H Q _=>∃(l:Addr) (x:Str) (ws:List Str),vs=[.ref l]∧H l=some (.lst ((x::ws).map V.str))∧(x = "lamps"→1≤ws.length∧ws.length≤6)∧(x = "move"→∃a b,ws=a++("then" : Str)::b∧MvWs ("move"::a) b)∧∀H',Same H H'→Q .non H'
theorem Zki (T:Txt K mg t):FnS P w K mg base 7 "check_form" ["found"] (ZEG):=by
 refine⟨_,_,T.ZdC.ok ZpS (fun vs H Q E h=>?_) (fun cdv A outer s H vs Q E hr h=>?_),T.Zlq,T.ZdC.kp,T.ZlH⟩
 ·obtain⟨l,x,ws,rfl,hl,h1,h2,q⟩:=h
  rfl
 obtain⟨l,x,ws,rfl,hl,h1,h2,q⟩:=h;have ZoO:=Zn0 (P:=P) (w:=w) (base:=base) T;have Zp9:=Zpu (P:=P) (w:=w) (base:=base) T
 refine⟨_,(Zab (ZaB (Zaj (ZaA hr.units) (Zav Zam (pv 0) Zac (fun _ _=>rfl)) Zal (Zan _))
   (Zae (ZaQ (ZaE ZoO hr (Zaa (pv 0) Zad))))
   Zap)
   (Zae (ZaB (Zaj (ZaA hr.units) (Zav Zam (pv 0) Zac (fun _ _=>rfl)) Zal (Zan _))
   (Zae (ZaQ (ZaE Zp9 hr (Zaa (pv 0) Zad))))
   Zap))),?_⟩
 walk_at "rd0";refine ZbJ (j:=0) hl (v:=.str x) rfl ?_;walk_at "";refine Zb7 (fun h=>?_) (fun h=>?_)
 ·obtain⟨a1,a6⟩:=h1 h
  subst h;walk_at "";refine⟨l,_,rfl,hl,by rw[length_cons]; omega,by rw[length_cons]; omega,?_⟩;walk_at "";refine ZbJ (j:=0) hl (v:=.str "lamps") rfl ?_;walk_at "";refine ZaI (by decide) ?_;walk_at "";exact q _ (Same.refl _)
 ·walk_at ""
  refine ZbJ (j:=0) hl (v:=.str x) rfl ?_;walk_at "";refine Zb7 (fun h'=>?_) (fun h'=>?_)
  ·obtain⟨a,b,rfl,M⟩:=h2 h'
   subst h';walk_at "";refine⟨l,"move"::a,b,rfl,hl,M,fun H1 s1=>?_⟩;walk_at "";exact q _ s1
  ·walk_at ""
   exact q _ (Same.refl _)
def noNm:List Str:=["and","or","not","either","yes","no","then","is","(",")",","]
def ZEM:Sp:=fun vs H Q _=>∃(l:Addr) (x:Str) (ns:List Str),vs=[.ref l]∧H l=some (.lst ((x::ns).map V.str))∧ns.length≤6∧(∀z∈ns,z∉noNm∧z.length≤8)∧ns.Nodup∧∀p H',Same H H'→H p=none→H' p=some (.lst (ns.map V.str))→Q (.ref p) H'
theorem Ztd (T:Txt K mg t):FnS P w K mg base 1 "names_in" ["found"] (ZEM):=by
 refine⟨_,_,T.Zfx.ok ZhD (fun vs H Q E h=>?_) (fun cdv A outer s H vs Q E hr h=>?_),T.Zoh,T.Zfx.kp,T.ZoB⟩
 ·obtain⟨l,x,ns,rfl,hl,h6,hn,nd,q⟩:=h
  rfl
 obtain⟨l,x,ns,rfl,hl,h6,hn,nd,q⟩:=h
 refine⟨_,(Zab (ss 1 ZhD.nd (Za9 Zc1 (pv 0) (Zbn Zac) Zb5))
   (Zab (ZaS PassesOwn.never rfl (Ztk rfl T.B.enumerate (pv 1)) (Znn rfl (Zco (sg 2 ZhD.nd) (Zco (sg 3 ZhD.nd) Zjw)))
   (Zab (ZaB (PW.pt (Zih (Zaj Zni (pv 3) (Zn1 rfl T.g_NO_NAMES) (by with_unfolding_all rfl)) (ZfT (Zaj Zju (Zaw Zaz rfl T.B.len Za4 (Zaa (pv 3) Zad)) (Zn1 rfl T.g_LONGEST_NAME) (Zan _)))))
   (Zae Zd6)
   Zap)
   (Zae (ZaB (Zaj Zni (pv 3) (Za9 Zc1 (pv 1) Zb5 (Zbn (pv 2))) (by with_unfolding_all rfl))
   (Zae Zd6)
   Zap))))
   (Zae (Zao (pv 1))))),?_⟩
 walk_at "rd0";refine ZkO (SqL.of hl) (ZdX (k:=1) (by simp)) fun nl H1 s1 n1 e1=>?_;have e1:H1 nl=some (.lst (ns.map V.str)):=e1;walk_at "";refine ZFv (xs:=ns.map V.str) (fun i σ H'=>Same H1 H'∧∃v v',σ=[some (.ref l),some (.ref nl),v,v']) ⟨Same.refl _,_,_,rfl⟩ (fun i σ H' _ hp=>SqL.of (hp.1 _ _ e1)) ?_ ?_
 ·rintro i x T' σ H0 H' hx ⟨s2,v,v',rfl⟩ s3 n3 eT
  obtain⟨z,rfl,hz⟩:=ZjZ hx;obtain⟨z1,z2⟩:=hn z (mem_of_getElem? hz);have hil:=(List.getElem?_eq_some_iff.mp hz).1;refine ZsH eT ?_;walk_at "";refine ZDh (T.q_NO_NAMES H') ?_;walk_at "";refine ZaI (decide_eq_false z1) ?_;walk_at "";refine ZDj (Zc4 (by omega)) ?_;walk_at "";refine ZaI (decide_eq_false (by omega)) ?_;walk_at "";have w3:=s2.trans s3;refine ZkO (SqL.of (w3 _ _ e1)) (ZE8 (by omega)) fun l2 H4 s4 n4 e4=>?_;walk_at "";refine ZyD (.inl e4) ?_;walk_at "";refine ZaI (decide_eq_false fun hm=>?_) ?_
  ·obtain⟨j,hj,ej⟩:=List.getElem_of_mem hm
   rw[length_take]at hj;rw[List.getElem_take]at ej;have x1:=ZmP nd hz;have x2:=ZmP nd (k:=j) (z:=z) (by rw[List.getElem?_eq_getElem (by omega),ej]);rw[x1]at x2;have:=Option.some.inj x2;omega
  walk_at "";exact⟨w3.trans s4,_,_,rfl⟩
 ·rintro σ H' ⟨s2,v,v',rfl⟩
  walk_at "";exact q nl H' (s1.trans s2) n1 (s2 _ _ e1)
def ZxV:Sp:=fun vs H Q _=>∃(o nl:Addr) (ps:List Addr) (pcs:List (List Str)) (ns:List Str) (ls:List Nat),vs=[.ref o,.ref nl]∧H o=some (.lst (ps.map V.ref))∧Paired (fun p pc=>H p=some (.lst (pc.map V.str))) ps pcs∧H nl=some (.lst (ns.map V.str))∧ns.length≤6∧Paired (fun pc k=>∃z r,pc=z::r∧idxS z ns=some k) pcs ls∧ls.Nodup∧∀p H',Same H H'→H p=none→H' p=some (.lst (ls.map fun k:Nat=>V.int (k:Int)))→Q (.ref p) H'
theorem Ztc (T:Txt K mg t):FnS P w K mg base 1 "lamps_in" ["pieces","names"] (ZxV):=by
 refine⟨_,_,T.Zfw.ok ZhC (fun vs H Q E h=>?_) (fun cdv A outer s H vs Q E hr h=>?_),T.Zog,T.Zfw.kp,T.ZoA⟩
 ·obtain⟨o,nl,ps,pcs,ns,ls,rfl,ho,hp,hn,h6,hk,nd,q⟩:=h
  rfl
 obtain⟨o,nl,ps,pcs,ns,ls,rfl,ho,hp,hn,h6,hk,nd,q⟩:=h;have hpl:=Zak hp;have hkl:=Zak hk
 have hnl:ls.length≤6:=by
  have:∀k∈ls,k < 6:=fun k hm=>by
   obtain⟨i,hi,e⟩:=List.getElem_of_mem hm;obtain⟨pc,_,z,r,_,hx⟩:=ZoE hk (i:=i) (b:=k) (by rw[List.getElem?_eq_getElem hi,e]);have:=(List.getElem?_eq_some_iff.mp (Zj3 hx).1).1;omega
  have:=Zxw (fun i=>ls.getD i 0) ls.length (List.range 6) (fun i hi=>by
   rw[mem_range];apply this;rw[getD_eq_getElem?_getD,List.getElem?_eq_getElem hi]
   exact List.getElem_mem hi) (fun i j hij hj e=>by
   rw[getD_eq_getElem?_getD,getD_eq_getElem?_getD,List.getElem?_eq_getElem (by omega),List.getElem?_eq_getElem hj]at e;have:=Zw8 nd (List.getElem?_eq_getElem (l:=ls) (i:=i) (by omega)) (by rw[List.getElem?_eq_getElem hj]; exact congrArg some e.symm)
   omega)
  simpa using this
 refine⟨_,(Zab (ss 2 ZhC.nd (ZaO Zad))
   (Zab (ZaS PassesOwn.never rfl (Za6 (pv 0)) (sg 3 ZhC.nd)
   (Zab (ss 4 ZhC.nd (Zav Zam (pv 3) Zac (fun _ _=>rfl)))
   (Zab (ZaB (PW.pt (Zih (Zaj ZgU (pv 4) (pv 1) (by with_unfolding_all rfl)) (ZfT (Zaj Zni (ZcB F.plainAttrs_list F.slot_list_index F.type_list_index Zkh (pv 1) (Zaa (pv 4) Zad)) (pv 2) (by with_unfolding_all rfl)))))
   (Zae Zd6)
   Zap)
   (Zae (ZaQ (ZcB F.plainAttrs_list F.slot_list_append F.type_list_append ZaK (pv 2) (Zaa (ZcB F.plainAttrs_list F.slot_list_index F.type_list_index Zkh (pv 1) (Zaa (pv 4) Zad)) Zad)))))))
   (Zae (Zao (pv 2))))),?_⟩
 walk_at "rd0";refine ZbW (by simp) fun a H1 s1 n1 e1=>?_;walk_at "";refine seqL (xs:=ps.map V.ref) (fun i σ H'=>Same H H'∧H' a=some (.lst (Zrs (ls.take i)))∧∃v3 v4,σ=[some (.ref o),some (.ref nl),some (.ref a),v3,v4]) ⟨s1,e1,_,_,rfl⟩ (fun i σ H' _ hp=>SqL.of (hp.1 _ _ ho)) ?_ ?_
 ·rintro i x σ H2 hx ⟨s2,e2,v3,v4,rfl⟩
  obtain⟨p,rfl,hpi⟩:=Zbf hx;obtain⟨pc,hpc,ep⟩:=ZaJ hp hpi;obtain⟨k,hki,z,r,rfl,hix⟩:=ZaJ hk hpc;obtain⟨ix1,ix2⟩:=Zj3 hix;have hil:=(List.getElem?_eq_some_iff.mp hki).1;have hk6:=(List.getElem?_eq_some_iff.mp ix1).1;have ep2:=s2 _ _ ep;have hn2:=s2 _ _ hn;walk_at "";refine ZbJ (j:=0) ep2 (v:=.str z) rfl ?_;walk_at "";refine ZDo (.inl hn2) ?_;rw[decide_eq_true (mem_of_getElem? ix1)];walk_at "";refine ZaI rfl ?_;walk_at "";refine⟨tyL hn2,?_⟩;walk_at "";refine ZmN hn2 ix1 ix2 (by omega) ?_;walk_at "";refine ZBg e2 ?_;walk_at "";refine ZaI (decide_eq_false fun hm=>?_) ?_
  ·obtain⟨j,hj,ej⟩:=List.getElem_of_mem hm
   rw[length_take]at hj;rw[List.getElem_take]at ej;have:=Zw8 nd (i:=j) (by rw[List.getElem?_eq_getElem (by omega),ej]) hki;omega
  walk_at "";refine⟨tyL e2,?_⟩;walk_at "";refine⟨tyL hn2,?_⟩;walk_at "";refine ZmN hn2 ix1 ix2 (by omega) ?_;walk_at "";refine Za5 e2 (by unfold Zrs; rw[length_map,length_take]; omega) fun H3 b3 e3=>?_;walk_at "";refine⟨b3.same n1 s2,?_,_,_,rfl⟩;rw[e3,ZaD hki];unfold Zrs;rw[map_append];rfl
 ·rintro σ H2 ⟨s2,e2,v3,v4,rfl⟩
  walk_at "";rw[length_map,hpl,hkl,take_length]at e2;exact q a H2 s2 n1 e2
structure MvRd (ns a b:List Str) (v:Fm×List (Nat×Fm)):Prop where
 ws:MvWs ("move"::a) b
 gd:ZkY ns a=some v.1
 cs:Paired (fun pc (c:Nat×Fm)=>∃z r,pc=z::("is" : Str)::r∧idxS z ns=some c.1∧ZkY ns r=some c.2) (ZeL b) v.2
 nd:(v.2.map Prod.fst).Nodup
 pa:∀z∈a,ZnG z
 pb:∀p∈ZeL b,∀z∈p,ZnG z
def Zzq (t:Ad):Sp:=fun vs H Q _=>∃(l nl:Addr) (a b ns:List Str) (v:Fm×List (Nat×Fm)),vs=[.ref l,.ref nl]∧H l=some (.lst ((("move" : Str)::(a++("then" : Str)::b)).map V.str))∧H nl=some (.lst (ns.map V.str))∧ns.length≤6∧MvRd ns a b v∧∀x H',Same H H'→MvW t H' x v→Q (.ref x) H'
theorem ZvD (T:Txt K mg t):FnS P w K mg base 12 "move_in" ["found","names"] ((Zzq t)):=by
 refine⟨_,_,T.ZgI.ok ZeP (fun vs H Q E h=>?_) (fun cdv A outer s H vs Q E hr h=>?_),T.Zqp,T.ZgI.kp,T.Zro⟩
 ·obtain⟨l,nl,a,b,ns,v,rfl,hl,hn,h6,M,q⟩:=h
  rfl
 obtain⟨l,nl,a,b,ns,v,rfl,hl,hn,h6,M,q⟩:=h;have Zjh:=ZlL (P:=P) (w:=w) (base:=base) T;have ZuL:=Ztc (P:=P) (w:=w) (base:=base) T;have Zf0:=Zkj (P:=P) (w:=w) (base:=base) T;have ZCI:=ZBN (P:=P) (w:=w) (base:=base) T;have hln:=M.ws.ln;have hl':H l=some (.lst (((("move" : Str)::a)++("then" : Str)::b).map V.str)):=hl
 refine⟨_,(Zab (ss 2 ZeP.nd (ZaE Zjh hr (Zaa (pv 0) Zad)))
   (Zab (ss 3 ZeP.nd (ZaE ZuL hr (Zaa (pv 2) (Zaa (pv 1) Zad))))
   (Zab (ss 4 ZeP.nd (Zxs Zf0 hr (Zaa (Za9 Zc1 (pv 0) (Zbn Zac) (Zbn (ZcB F.plainAttrs_list F.slot_list_index F.type_list_index Zkh (pv 0) (Zaa Zal Zad)))) (Zaa (pv 1) Zad))))
   (Zab (ss 5 ZeP.nd (ZaO Zad))
   (Zab (ZaS PassesOwn.never rfl (ZEe rfl T.B.zip (Zaa (pv 3) (Zaa (pv 2) Zad))) (Znn rfl (Zco (sg 6 ZeP.nd) (Zco (sg 7 ZeP.nd) Zjw)))
   (Zae (ZaQ (ZcB F.plainAttrs_list F.slot_list_append F.type_list_append ZaK (pv 5) (Zaa (Zc0 (Zaa (pv 6) (Zaa (Zxs Zf0 hr (Zaa (Za9 Zc1 (pv 7) (Zbn Zac) Zb5) (Zaa (pv 1) Zad))) Zad))) Zad)))))
   (Zae (Zao (Zn2 ZCI hr (Zaa (pv 4) (Zaa (pv 5) Zad)))))))))),?_⟩
 walk_at "rd0";refine⟨l,"move"::a,b,rfl,hl',M.ws.na,M.ws.ln,fun o ps H1 s1 n1 e1 pp=>?_⟩;walk_at "";have hcl:=Zak M.cs;have hpl:=Zak pp;refine⟨o,nl,ps,ZeL b,ns,v.2.map Prod.fst,rfl,e1,Zaf (fun _ _ z=>z.2) pp,s1 _ _ hn,h6,ZiW (fun _ _ ⟨z,r,e,hx,_⟩=>⟨z,_,e,hx⟩) M.cs,M.nd,fun la H2 s2 n2 e2=>?_⟩;walk_at "";refine⟨tyL ((s1.trans s2) _ _ hl'),?_⟩;walk_at "";refine ZmN ((s1.trans s2) _ _ hl') (Zl4 M.ws.na).1 (Zl4 M.ws.na).2 (by omega) ?_;walk_at ""
 have ec:cutV (((("move" : Str)::a)++("then" : Str)::b).map V.str) (some 1) (some (((("move" : Str)::a).length:Nat):Int))=a.map V.str:=by
  have:=Zwg (((("move" : Str)::a)++("then" : Str)::b).map V.str) 1 (("move" : Str)::a).length;refine this.trans ?_;rw[←map_drop,←map_take]
  congr 1
  simp
 refine ZkO (SqL.of ((s1.trans s2) _ _ hl')) ec fun l3 H3 s3 n3 e3=>?_;have w3:=s1.trans (s2.trans s3);walk_at "";refine⟨l3,nl,a,ns,rfl,e3,w3 _ _ hn,by omega,by simp only [length_cons]at hln; omega,M.pa,fun h=>(by rw[M.gd]at h; cases h),fun f hf g H4 s4 fE=>?_⟩;obtain rfl:v.1=f:=Option.some.inj (M.gd.symm.trans hf);walk_at "";refine ZbW (by simp) fun cl H5 s5 n5 e5=>?_;walk_at "";have w5:=w3.trans (s4.trans s5);have e2':=(s3.trans (s4.trans s5)) _ _ e2;have e1':=(s2.trans (s3.trans (s4.trans s5))) _ _ e1;have n5':H cl=none:=(w3.trans s4).free n5;have nla:la≠cl:=Zag ((s3.trans s4) _ _ e2) n5;have no:o≠cl:=Zag ((s2.trans (s3.trans s4)) _ _ e1) n5
 have nps:∀a∈ps,a≠cl:=fun a ha=>by
  obtain⟨pc,_,e⟩:=ZkW pp a ha;exact Zag ((s2.trans (s3.trans s4)) _ _ e) n5
 have hpc:=Zxn b;refine⟨la,o,_,_,rfl,SqL.of e2',SqL.of e1',?_⟩;refine ZFo v.2.length (by rw[length_map,length_map,length_map]; omega) (fun i σ H'=>Same H H'∧FmE t H' g v.1∧H' la=some (.lst ((v.2.map Prod.fst).map fun k:Nat=>V.int (k:Int)))∧H' o=some (.lst (ps.map V.ref))∧Paired (fun p pc=>H' p=some (.lst (pc.map V.str))) ps (ZeL b)∧(∃hs,H' cl=some (.lst (hs.map V.ref))∧Paired (ChW t H') hs (v.2.take i))∧∃v6 v7,σ=[some (.ref l),some (.ref nl),some (.ref o),some (.ref la),some (.ref g),some (.ref cl),v6,v7]) ⟨w5,fE.same s5,e2',e1',Zaf (fun _ _ z=>(s2.trans (s3.trans (s4.trans s5))) _ _ z.2) pp,⟨[],e5,.nil⟩,_,_,rfl⟩ (fun i σ H' _ hp=>⟨SqL.of hp.2.2.1,SqL.of hp.2.2.2.1⟩) ?_ ?_
 ·rintro i x y T' σ H6 H7 hx hy ⟨s6,f6,e6,o6,p6,⟨hs,c6,d6⟩,v6,v7,rfl⟩ s7 n7 eT
  obtain⟨p,rfl,hpi⟩:=Zbf hy;obtain⟨pc,hpc,ep⟩:=ZaJ p6 hpi;obtain⟨c,hci,z,r,rfl,hix,hrd⟩:=ZaJ M.cs hpc
  have ex:x=.int (c.1:Int):=by
   rw[getElem?_map,getElem?_map,hci]at hx;exact(Option.some.inj hx).symm
  subst ex;have hil:=(List.getElem?_eq_some_iff.mp hci).1;have hmem:=mem_of_getElem? hpc;have hle:=Zum b _ hmem;simp only [length_cons]at hle hln;have hcl':=c6;refine ZsH eT ?_;walk_at "";refine⟨tyL (s7 _ _ c6),?_⟩;walk_at "";refine ZkO (SqL.of (s7 _ _ ep)) (ZdX (k:=2) (by simp)) fun l8 H8 s8 n8 e8=>?_;walk_at "";have w8:=s7.trans s8;refine⟨l8,nl,r,ns,rfl,e8,(s6.trans w8) _ _ hn,by omega,by omega,fun z hz=>M.pb _ hmem z (mem_cons_of_mem _ (mem_cons_of_mem _ hz)),fun h=>(by rw[hrd]at h; cases h),fun f hf g9 H9 s9 fE9=>?_⟩;obtain rfl:c.2=f:=Option.some.inj (hrd.symm.trans hf);walk_at "";refine ZfY (by simp) fun tp H10 s10 n10 e10=>?_;walk_at "";have w10:=w8.trans (s9.trans s10);have c10:=w10 _ _ c6;have hsl:=Zak d6;rw[length_take]at hsl
  have hsl2:hs.length≤v.2.length:=by rw[hsl]; exact Nat.min_le_right _ _
  refine Za5 c10 (by rw[length_map]; omega) fun H11 b11 e11=>?_;walk_at "";have x11:=b11.ext c10;refine⟨b11.same n5' (s6.trans w10),(f6.ext (Ext.of w10)).ext x11,b11 _ _ nla (w10 _ _ e6),b11 _ _ no (w10 _ _ o6),Zhk p6 fun a pc ha e=>b11 _ _ (nps a ha) (w10 _ _ e),⟨hs++[tp],by rw[e11,map_append]; rfl,?_⟩,_,_,rfl⟩
  ·rw[ZaD hci]
   exact Zaq (Zaf (fun _ _ z=>(z.ext (Ext.of w10)).ext x11) d6) (.cons ⟨g9,x11 _ _ e10 (fun _ z=>nomatch z),(fE9.ext (Ext.of s10)).ext x11⟩ .nil)
 ·rintro σ H6 ⟨s6,f6,e6,o6,p6,⟨hs,c6,d6⟩,v6,v7,rfl⟩
  walk_at "";rw[take_length]at d6;refine ZBi c6 f6 d6 fun x H7 s7 n7 mv=>?_;exact q x H7 (s6.trans s7) mv
inductive Ent
 | st (f:Fm)
 | bd (f:Fm)
 | mv (v:Fm×List (Nat×Fm))
inductive EntW (ns:List Str):List Str→Ent→Prop
 | st {r:List Str} {f:Fm}:ZkY ns r=some f→(∀z∈r,ZnG z)→r.length≤90000→EntW ns ("start"::r) (.st f)
 | bd {r:List Str} {f:Fm}:ZkY ns r=some f→(∀z∈r,ZnG z)→r.length≤90000→EntW ns ("bad"::r) (.bd f)
 | mv {a b:List Str} {v:Fm×List (Nat×Fm)}:MvRd ns a b v→EntW ns ("move"::(a++("then" : Str)::b)) (.mv v)
def ZE5 (t:Ad) (H:Hp) (x:Addr):Ent→Prop
 | .st f=>FmE t H x f
 | .bd f=>FmE t H x f
 | .mv v=>MvW t H x v
def ZCs (t:Ad):Sp:=fun vs H Q _=>∃(l nl:Addr) (ws ns:List Str) (e:Ent),vs=[.ref l,.ref nl]∧H l=some (.lst (ws.map V.str))∧H nl=some (.lst (ns.map V.str))∧ns.length≤6∧EntW ns ws e∧∀x H',Same H H'→ZE5 t H' x e→Q (.ref x) H'
theorem Zte (T:Txt K mg t):FnS P w K mg base 14 "thing_in" ["found","names"] ((ZCs t)):=by
 refine⟨_,_,T.Zfy.ok Ztt (fun vs H Q E h=>?_) (fun cdv A outer s H vs Q E hr h=>?_),T.Zoi,T.Zfy.kp,T.ZoC⟩
 ·obtain⟨l,nl,ws,ns,e,rfl,hl,hn,h6,E0,q⟩:=h
  rfl
 obtain⟨l,nl,ws,ns,e,rfl,hl,hn,h6,E0,q⟩:=h;have ZvV:=ZvD (P:=P) (w:=w) (base:=base) T;have Zf0:=Zkj (P:=P) (w:=w) (base:=base) T
 refine⟨_,(Zab (ZaB (Zaj (ZaA hr.units) (Zav Zam (pv 0) Zac (fun _ _=>rfl)) Zal (Zan _))
   (Zae (Zao (ZaE ZvV hr (Zaa (pv 0) (Zaa (pv 1) Zad)))))
   Zap)
   (Zae (Zao (Zxs Zf0 hr (Zaa (Za9 Zc1 (pv 0) (Zbn Zac) Zb5) (Zaa (pv 1) Zad)))))),?_⟩
 walk_at "rd0"
 cases E0 with
 | st h1 h2 h3=>
  refine ZbJ (j:=0) hl (v:=.str "start") rfl ?_;walk_at "";refine ZaI (by decide) ?_;walk_at "";refine ZkO (SqL.of hl) (ZdX (k:=1) (by simp)) fun l2 H1 s1 n1 e1=>?_;walk_at "";refine⟨l2,nl,_,ns,rfl,e1,s1 _ _ hn,by omega,by omega,h2,fun h=>(by rw[h1]at h; cases h),fun f' hf y H2 s2 fE=>?_⟩;obtain rfl:=Option.some.inj (h1.symm.trans hf);exact q y H2 (s1.trans s2) fE
 | bd h1 h2 h3=>
  refine ZbJ (j:=0) hl (v:=.str "bad") rfl ?_;walk_at "";refine ZaI (by decide) ?_;walk_at "";refine ZkO (SqL.of hl) (ZdX (k:=1) (by simp)) fun l2 H1 s1 n1 e1=>?_;walk_at "";refine⟨l2,nl,_,ns,rfl,e1,s1 _ _ hn,by omega,by omega,h2,fun h=>(by rw[h1]at h; cases h),fun f' hf y H2 s2 fE=>?_⟩;obtain rfl:=Option.some.inj (h1.symm.trans hf);exact q y H2 (s1.trans s2) fE
 | mv M=>
  refine ZbJ (j:=0) hl (v:=.str "move") rfl ?_;walk_at "";refine ZbT (by decide) ?_;walk_at "";exact⟨l,nl,_,_,ns,_,rfl,hl,hn,h6,M,fun x H1 s1 mv=>q x H1 s1 mv⟩
structure LmpW (ns:List Str):Prop where
 n1:1≤ns.length
 n6:ns.length≤6
 no:∀z∈ns,z∉noNm∧z.length≤8
 nd:ns.Nodup
def LnW (z:Str) (ws:List Str):Prop:=Asc z∧z.length≤16000∧okW z=true∧Txt.words (pad z)=ws∧ws≠[]
def ZCk:Sp:=fun vs H Q _=>∃(z:Str) (ns:List Str),vs=[.str z]∧LnW z ("lamps"::ns)∧LmpW ns∧∀p H',Same H H'→H p=none→H' p=some (.lst (ns.map V.str))→Q (.ref p) H'
theorem ZkV (T:Txt K mg t):FnS P w K mg base 9 "names_of_first" ["line"] (ZCk):=by
 refine⟨_,_,T.ZbB.ok ZgW (fun vs H Q E h=>?_) (fun cdv A outer s H vs Q E hr h=>?_),T.ZhG,T.ZbB.kp,T.ZhI⟩
 ·obtain⟨z,ns,rfl,⟨ha,hz,hok,hw,hne⟩,L,q⟩:=h
  rfl
 obtain⟨z,ns,rfl,⟨ha,hz,hok,hw,hne⟩,L,q⟩:=h;have ZfM:=ZhJ (P:=P) (w:=w) (base:=base) T;have ZhP:=Zki (P:=P) (w:=w) (base:=base) T;have ZuM:=Ztd (P:=P) (w:=w) (base:=base) T
 refine⟨_,(Zab (ss 1 ZgW.nd (ZaE ZfM hr (Zaa (pv 0) Zad)))
   (Zab (ZaB (Zaj (Zje hr.units) (Zav Zam (pv 1) Zac (fun _ _=>rfl)) Zal (Zan _))
   (Zae Zd6)
   Zap)
   (Zab (ZaQ (ZaE ZhP hr (Zaa (pv 1) Zad)))
   (Zae (Zao (ZaE ZuM hr (Zaa (pv 1) Zad))))))),?_⟩
 walk_at "rd0";refine⟨z,rfl,ha,hz,hok,by rw[hw]; exact hne,fun p H1 s1 n1 e1=>?_⟩;rw[hw]at e1;walk_at "";refine ZbJ (j:=0) e1 (v:=.str "lamps") rfl ?_;walk_at "";refine ZaI (by decide) ?_;walk_at "";refine⟨p,"lamps",ns,rfl,e1,fun _=>⟨L.n1,L.n6⟩,fun h=>absurd h (by decide),fun H2 s2=>?_⟩;walk_at "";refine⟨p,"lamps",ns,rfl,s2 _ _ e1,L.n6,L.no,L.nd,fun p3 H3 s3 n3 e3=>?_⟩;exact q p3 H3 (s1.trans (s2.trans s3)) ((s1.trans s2).free n3) e3
def stE (es:List Ent):List Fm:=es.filterMap fun | .st f=>some f | _=>none
def bdE (es:List Ent):List Fm:=es.filterMap fun | .bd f=>some f | _=>none
def mvE (es:List Ent):List (Fm×List (Nat×Fm)):=es.filterMap fun | .mv v=>some v | _=>none
def ZCo (t:Ad):Sp:=fun vs H Q _=>∃(l:Addr) (z0:Str) (zs:List Str) (ns:List Str) (es:List Ent),vs=[.ref l]∧H l=some (.lst ((z0::zs).map V.str))∧LnW z0 ("lamps"::ns)∧LmpW ns∧Paired (fun z e=>∃ws,LnW z ws∧EntW ns ws e) zs es∧zs.length≤1000∧∀x H',Same H H'→MacW t H' x ns (stE es) (bdE es) (mvE es)→Q (.ref x) H'
def ZCg:List Str:=["start","bad","move"]
def thK (as:List Addr):List (Key×V):=List.zipWith (fun s a=>((Sum.inr s:Key),V.ref a)) ZCg as
structure MI (t:Ad) (H H':Hp) (d s b m:Addr) (ps pb pv:List Addr) (es:List Ent):Prop where
 sm:Same H H'
 ed:H' d=some (.dK (thK [s,b,m]))
 e1:H' s=some (.lst (ps.map V.ref))
 e2:H' b=some (.lst (pb.map V.ref))
 e3:H' m=some (.lst (pv.map V.ref))
 f1:H s=none
 f2:H b=none
 f3:H m=none
 d1:s≠b
 d2:s≠m
 d3:b≠m
 p1:Paired (FmE t H') ps (stE es)
 p2:Paired (FmE t H') pb (bdE es)
 p3:Paired (MvW t H') pv (mvE es)
theorem MI.same {H H' H'':Hp} {d s b m:Addr} {ps pb pv:List Addr} {es:List Ent} (I:MI t H H' d s b m ps pb pv es) (x:Same H' H''):MI t H H'' d s b m ps pb pv es:=
 ⟨I.sm.trans x,x _ _ I.ed,x _ _ I.e1,x _ _ I.e2,x _ _ I.e3,I.f1,I.f2,I.f3,I.d1,I.d2,I.d3,Zaf (fun _ _ z=>z.ext (Ext.of x)) I.p1,Zaf (fun _ _ z=>z.ext (Ext.of x)) I.p2,Zaf (fun _ _ z=>z.ext (Ext.of x)) I.p3⟩
theorem ZpV (es:List Ent) (e:Ent):stE (es++[e])=stE es++stE [e]:=filterMap_append ..
theorem ZoU (es:List Ent) (e:Ent):bdE (es++[e])=bdE es++bdE [e]:=filterMap_append ..
theorem Zpo (es:List Ent) (e:Ent):mvE (es++[e])=mvE es++mvE [e]:=filterMap_append ..
theorem MI.ne {H H':Hp} {d s b m:Addr} {ps pb pv:List Addr} {es:List Ent} (I:MI t H H' d s b m ps pb pv es):d≠s∧d≠b∧d≠m:=⟨Zcm I.ed I.e1 (fun z=>nomatch z),Zcm I.ed I.e2 (fun z=>nomatch z),Zcm I.ed I.e3 (fun z=>nomatch z)⟩
theorem MI.st {H H' H'':Hp} {d s b m y:Addr} {ps pb pv:List Addr} {es:List Ent} {f:Fm} (I:MI t H H' d s b m ps pb pv es) (h:FmE t H' y f) (c:But s H' H'') (e:H'' s=some (.lst (ps.map V.ref++[V.ref y]))):MI t H H'' d s b m (ps++[y]) pb pv (es++[.st f]):=by
 have x:=c.ext I.e1;refine⟨c.same I.f1 I.sm,c _ _ I.ne.1 I.ed,by rw[e,map_append]; rfl,c _ _ I.d1.symm I.e2,c _ _ I.d2.symm I.e3,I.f1,I.f2,I.f3,I.d1,I.d2,I.d3,?_,?_,?_⟩
 ·rw[ZpV]; exact Zaq (Zaf (fun _ _ z=>z.ext x) I.p1) (.cons (h.ext x) .nil)
 ·rw[ZoU]; exact(append_nil (bdE es)).symm ▸ Zaf (fun _ _ z=>z.ext x) I.p2
 ·rw[Zpo]; exact(append_nil (mvE es)).symm ▸ Zaf (fun _ _ z=>z.ext x) I.p3
theorem MI.bd {H H' H'':Hp} {d s b m y:Addr} {ps pb pv:List Addr} {es:List Ent} {f:Fm} (I:MI t H H' d s b m ps pb pv es) (h:FmE t H' y f) (c:But b H' H'') (e:H'' b=some (.lst (pb.map V.ref++[V.ref y]))):MI t H H'' d s b m ps (pb++[y]) pv (es++[.bd f]):=by
 have x:=c.ext I.e2;refine⟨c.same I.f2 I.sm,c _ _ I.ne.2.1 I.ed,c _ _ I.d1 I.e1,by rw[e,map_append]; rfl,c _ _ I.d3.symm I.e3,I.f1,I.f2,I.f3,I.d1,I.d2,I.d3,?_,?_,?_⟩
 ·rw[ZpV]; exact(append_nil (stE es)).symm ▸ Zaf (fun _ _ z=>z.ext x) I.p1
 ·rw[ZoU]; exact Zaq (Zaf (fun _ _ z=>z.ext x) I.p2) (.cons (h.ext x) .nil)
 ·rw[Zpo]; exact(append_nil (mvE es)).symm ▸ Zaf (fun _ _ z=>z.ext x) I.p3
theorem MI.mv {H H' H'':Hp} {d s b m y:Addr} {ps pb pv:List Addr} {es:List Ent} {v:Fm×List (Nat×Fm)} (I:MI t H H' d s b m ps pb pv es) (h:MvW t H' y v) (c:But m H' H'') (e:H'' m=some (.lst (pv.map V.ref++[V.ref y]))):MI t H H'' d s b m ps pb (pv++[y]) (es++[.mv v]):=by
 have x:=c.ext I.e3;refine⟨c.same I.f3 I.sm,c _ _ I.ne.2.2 I.ed,c _ _ I.d2 I.e1,c _ _ I.d3 I.e2,by rw[e,map_append]; rfl,I.f1,I.f2,I.f3,I.d1,I.d2,I.d3,?_,?_,?_⟩
 ·rw[ZpV]; exact(append_nil (stE es)).symm ▸ Zaf (fun _ _ z=>z.ext x) I.p1
 ·rw[ZoU]; exact(append_nil (bdE es)).symm ▸ Zaf (fun _ _ z=>z.ext x) I.p2
 ·rw[Zpo]; exact Zaq (Zaf (fun _ _ z=>z.ext x) I.p3) (.cons (h.ext x) .nil)
theorem EntW.hd {ns ws:List Str} {e:Ent} (h:EntW ns ws e):∃x r,ws=x::r∧x∈ZCg∧x≠"lamps"∧(x = "move"→∃a b,r=a++("then" : Str)::b∧MvWs ("move"::a) b):=by
 cases h with
 | st _ _ _=>exact⟨_,_,rfl,by decide,by decide,fun h=>absurd h (by decide)⟩
 | bd _ _ _=>exact⟨_,_,rfl,by decide,by decide,fun h=>absurd h (by decide)⟩
 | mv M=>exact⟨_,_,rfl,by decide,by decide,fun _=>⟨_,_,rfl,M.ws⟩⟩
theorem ZBq {σ:St} {H:Hp} {Q:VK} (k:∀d H',Same H H'→H d=none→H' d=some (.dK [])→Q (.ref d) H'):ZAG σ H Q:=fun d hd=>k d _ (Zcp hd _) hd Zax
theorem ZDb {σ:St} {H:Hp} {td ty tv:TE} {D:Ends} (h:tv σ H fun v H1=>td σ H1 fun x H2=>ty σ H2 fun y H3=>∃a H4,x=.ref a∧DPut H3 a y v H4∧D.nx σ H4):ZEw td ty tv D σ H:=h
theorem ZEP (es:List Ent):(stE es).length≤es.length∧(bdE es).length≤es.length∧(mvE es).length≤es.length:=⟨List.length_filterMap_le ..,List.length_filterMap_le ..,List.length_filterMap_le ..⟩
theorem Zpv (T:Txt K mg t):FnS P w K mg base 16 "machine_of" ["lines"] ((ZCo t)):=by
 refine⟨_,_,T.ZdF.ok ZcZ (fun vs H Q E h=>?_) (fun cdv A outer s H vs Q E hr h=>?_),T.Zlt,T.ZdF.kp,T.ZlK⟩
 ·obtain⟨l,z0,zs,ns,es,rfl,hl,L0,L,pe,hz,q⟩:=h
  rfl
 obtain⟨l,z0,zs,ns,es,rfl,hl,L0,L,pe,hz,q⟩:=h;have ZlU:=ZkV (P:=P) (w:=w) (base:=base) T;have ZfM:=ZhJ (P:=P) (w:=w) (base:=base) T;have ZhP:=Zki (P:=P) (w:=w) (base:=base) T;have ZuN:=Zte (P:=P) (w:=w) (base:=base) T;have ZvX:=ZvA (P:=P) (w:=w) (base:=base) T
 refine⟨_,(Zab (ZaB (Zaj (ZaA hr.units) (Zaw Zaz rfl T.B.len Za4 (Zaa (pv 0) Zad)) Zac (Zan _))
   (Zae Zd6)
   Zap)
   (Zab (ss 1 ZcZ.nd (ZaE ZlU hr (Zaa (Zav Zam (pv 0) Zac (fun _ _=>rfl)) Zad)))
   (Zab (ss 2 ZcZ.nd Zy9)
   (Zab (ZaS PassesOwn.never rfl (Za6 (Zn1 rfl T.g_SORTS)) (sg 3 ZcZ.nd)
   (Zae (ZB8 (Nat.lt_of_le_of_lt (Nat.add_le_add_left (by decide) _) hr.units) (pv 2) (pv 3) (ZaO Zad) rfl)))
   (Zab (ZaS PassesOwn.never rfl (Za6 (Za9 Zc1 (pv 0) (Zbn Zac) Zb5)) (sg 4 ZcZ.nd)
   (Zab (ss 5 ZcZ.nd (ZaE ZfM hr (Zaa (pv 4) Zad)))
   (Zab (ZaB (Zaj ZgU (Zav Zam (pv 5) Zac (fun _ _=>rfl)) (Zn1 rfl T.g_SORTS) (by with_unfolding_all rfl))
   (Zae Zd6)
   Zap)
   (Zab (ZaQ (ZaE ZhP hr (Zaa (pv 5) Zad)))
   (Zae (ZaQ (ZcB F.plainAttrs_list F.slot_list_append F.type_list_append ZaK (Zpy (Nat.lt_of_le_of_lt (Nat.add_le_add_left (by decide) _) hr.units) (pv 2) (Zav Zam (pv 5) Zac (fun _ _=>rfl)) (fun _ _=>rfl)) (Zaa (ZaE ZuN hr (Zaa (pv 5) (Zaa (pv 1) Zad))) Zad))))))))
   (Zae (Zao (Zn2 ZvX hr (Zaa (pv 1) (Zaa (Zpy (Nat.lt_of_le_of_lt (Nat.add_le_add_left (by decide) _) hr.units) (pv 2) Zal (fun _ _=>rfl)) (Zaa (Zpy (Nat.lt_of_le_of_lt (Nat.add_le_add_left (by decide) _) hr.units) (pv 2) Zal (fun _ _=>rfl)) (Zaa (Zpy (Nat.lt_of_le_of_lt (Nat.add_le_add_left (by decide) _) hr.units) (pv 2) Zal (fun _ _=>rfl)) Zad)))))))))))),?_⟩
 walk_at "rd0";rw[length_map];refine ZaI (decide_eq_false (by rw[length_cons]; omega)) ?_;walk_at "";refine ZbJ (j:=0) hl (v:=.str z0) rfl ?_;walk_at "";refine⟨z0,ns,rfl,L0,L,fun nl H1 s1 n1 e1=>?_⟩;walk_at "";refine ZBq fun d H2 s2 n2 e2=>?_;walk_at "";have nd:H d=none:=s1.free n2;have w2:=s1.trans s2;refine seqT (xs:=ZCg.map V.str) (fun i σ H'=>∃as:List Addr,as.length=i∧Same H1 H'∧H' d=some (.dK (thK as))∧(∀a∈as,H1 a=none∧H' a=some (.lst []))∧as.Nodup∧∃v3,σ=[some (.ref l),some (.ref nl),some (.ref d),v3,none,none]) ⟨[],rfl,s2,e2,(fun a ha=>by cases ha),nodup_nil,_,rfl⟩ (fun i σ H' _ _=>T.q_SORTS H') ?_ ?_
 ·rintro i x σ H3 hx ⟨as,hal,s3,e3,ha,hnd,v3,rfl⟩
  obtain⟨z,rfl,hz'⟩:=ZjZ hx;walk_at "";refine ZDb ?_;walk_at "";refine ZbW (by simp) fun a H4 s4 n4 e4=>?_;walk_at "";have hi3:i < 3:=(List.getElem?_eq_some_iff.mp hz').1
  have kv:valV (thK as) (Sum.inr z:Key)=none∧putK (thK as) (Sum.inr z:Key) (V.ref a)=thK (as++[a])∧(thK as).length≤3:=by
   match as,i,hal,hz' with
   | [],0,_,hz'=>cases hz'; exact⟨rfl,rfl,by decide⟩
   | [a1],1,_,hz'=>cases hz'; exact⟨rfl,rfl,by show 1≤3; decide⟩
   | [a1,a2],2,_,hz'=>cases hz'; exact⟨rfl,rfl,by show 2≤3; decide⟩
   | _::_::_::_,i,hal,_=>simp only [length_cons]at hal; omega
  have na:H1 a=none:=s3.free n4
  have nad:a≠d:=fun e=>by rw[e]at n4; rw[n4]at e3; cases e3
  refine⟨d,_,rfl,DPut.k (k:=Sum.inr z) (s4 _ _ e3) (Zc4 (by omega)),?_⟩;rw[kv.2.1];have b5:But d H4 (upd H4 d (.dK (thK (as++[a])))):=Zg0;refine⟨as++[a],by rw[length_append,hal]; rfl,b5.same n2 (s3.trans s4),Zax,fun y hy=>?_,?_,_,rfl⟩
  ·rcases mem_append.mp hy with hy | hy
   ·obtain⟨h1,h2⟩:=ha y hy
    exact⟨h1,b5 _ _ (Zcm h2 e3 (fun z=>nomatch z)) (s4 _ _ h2)⟩
   ·rw[mem_singleton.mp hy]
    exact⟨na,b5 _ _ nad e4⟩
  ·rw[nodup_append]
   refine⟨hnd,by simp,fun y hy y' hy' e=>?_⟩;rw[mem_singleton.mp hy']at e;rw[e]at hy;rw[(ha a hy).2]at n4
   cases n4
 rintro σ H3 ⟨as,hal,s3,e3,ha,hnd,v3,rfl⟩
 obtain⟨s,b,m,rfl⟩ : ∃s b m,as=[s,b,m]:=by
  match as,hal with
  | [s,b,m],_=>exact⟨s,b,m,rfl⟩
 simp only [nodup_cons,mem_cons,not_mem_nil,or_false,not_or,nodup_nil,not_false_eq_true,and_true]at hnd;have w3:=s1.trans s3;have I0:MI t H H3 d s b m [] [] [] []:=⟨w3,e3,(ha s (by simp)).2,(ha b (by simp)).2,(ha m (by simp)).2,s1.free (ha s (by simp)).1,s1.free (ha b (by simp)).1,s1.free (ha m (by simp)).1,hnd.1.1,hnd.1.2,hnd.2,.nil,.nil,.nil⟩;have nlm:nl≠s∧nl≠b∧nl≠m:=⟨Zag e1 (ha s (by simp)).1,Zag e1 (ha b (by simp)).1,Zag e1 (ha m (by simp)).1⟩;have el3:=s3 _ _ e1;clear ha e3 e2 hnd;walk_at "";refine ZkO (SqL.of (w3 _ _ hl)) (ZdX (k:=1) (by simp)) fun tl H4 s4 n4 e4=>?_;have e4:H4 tl=some (.lst (zs.map V.str)):=e4;walk_at "";have hes:=Zak pe;have ntl:tl≠s∧tl≠b∧tl≠m:=⟨(Zag I0.e1 n4).symm,(Zag I0.e2 n4).symm,(Zag I0.e3 n4).symm⟩;refine seqL (xs:=zs.map V.str) (fun i σ H'=>∃ps pb pv v4 v5,MI t H H' d s b m ps pb pv (es.take i)∧H' nl=some (.lst (ns.map V.str))∧H' tl=some (.lst (zs.map V.str))∧σ=[some (.ref l),some (.ref nl),some (.ref d),v3,v4,v5]) ⟨[],[],[],_,_,I0.same s4,s4 _ _ el3,e4,rfl⟩ (fun i σ H' _ hp=>by obtain⟨_,_,_,_,_,_,_,h,_⟩:=hp; exact SqL.of h) ?_ ?_
 ·rintro i x σ H5 hx ⟨ps,pb,pv,v4,v5,I,en5,et5,rfl⟩
  obtain⟨z,rfl,hz'⟩:=ZjZ hx;obtain⟨e,hei,ws,⟨ha,hzl,hok,hw,hne⟩,E1⟩:=ZaJ pe hz';obtain⟨x,r,rfl,hx1,hx2,hx3⟩:=E1.hd;walk_at "";refine⟨z,rfl,ha,hzl,hok,by rw[hw]; exact hne,fun p H6 s6 n6 e6=>?_⟩;rw[hw]at e6;walk_at "";refine ZbJ (j:=0) e6 (v:=.str x) rfl ?_;walk_at "";refine ZDp (T.q_SORTS H6) ?_;have hx1':x∈([Str.ofString "start",Str.ofString "bad",Str.ofString "move"]:List Str):=hx1;rw[decide_eq_true hx1'];walk_at "";refine ZaI rfl ?_;walk_at "";refine⟨p,x,r,rfl,e6,fun h=>absurd h hx2,hx3,fun H7 s7=>?_⟩;walk_at "";have I7:=I.same (s6.trans s7);have e7:=s7 _ _ e6;have en7:=(s6.trans s7) _ _ en5;have et7:=(s6.trans s7) _ _ et5;have hil:=(List.getElem?_eq_some_iff.mp hei).1;have hst:=ZEP (es.take i);rw[length_take]at hst
  cases E1 with
  | st h1 h2 h3=>
   refine ZbJ (j:=0) e7 (v:=.str "start") rfl ?_;walk_at "";refine⟨d,.ref s,rfl,DGet.k (k:=Sum.inr "start") I7.ed,?_⟩;walk_at "";refine⟨tyL I7.e1,?_⟩;walk_at "";refine⟨p,nl,_,ns,_,rfl,e7,en7,L.n6,.st h1 h2 h3,fun y H8 s8 hy=>?_⟩;walk_at "";have I8:=I7.same s8;have hln:=Zak I8.p1;refine Za5 I8.e1 (by rw[length_map]; omega) fun H9 b9 e9=>?_;walk_at "";refine⟨ps++[y],pb,pv,_,_,?_,b9 _ _ nlm.1 (s8 _ _ en7),b9 _ _ ntl.1 (s8 _ _ et7),rfl⟩;rw[ZaD hei];exact I8.st hy b9 e9
  | bd h1 h2 h3=>
   refine ZbJ (j:=0) e7 (v:=.str "bad") rfl ?_;walk_at "";refine⟨d,.ref b,rfl,DGet.k (k:=Sum.inr "bad") I7.ed,?_⟩;walk_at "";refine⟨tyL I7.e2,?_⟩;walk_at "";refine⟨p,nl,_,ns,_,rfl,e7,en7,L.n6,.bd h1 h2 h3,fun y H8 s8 hy=>?_⟩;walk_at "";have I8:=I7.same s8;have hln:=Zak I8.p2;refine Za5 I8.e2 (by rw[length_map]; omega) fun H9 b9 e9=>?_;walk_at "";refine⟨ps,pb++[y],pv,_,_,?_,b9 _ _ nlm.2.1 (s8 _ _ en7),b9 _ _ ntl.2.1 (s8 _ _ et7),rfl⟩;rw[ZaD hei];exact I8.bd hy b9 e9
  | mv M=>
   refine ZbJ (j:=0) e7 (v:=.str "move") rfl ?_;walk_at "";refine⟨d,.ref m,rfl,DGet.k (k:=Sum.inr "move") I7.ed,?_⟩;walk_at "";refine⟨tyL I7.e3,?_⟩;walk_at "";refine⟨p,nl,_,ns,_,rfl,e7,en7,L.n6,.mv M,fun y H8 s8 hy=>?_⟩;walk_at "";have I8:=I7.same s8;have hln:=Zak I8.p3;refine Za5 I8.e3 (by rw[length_map]; omega) fun H9 b9 e9=>?_;walk_at "";refine⟨ps,pb,pv++[y],_,_,?_,b9 _ _ nlm.2.2 (s8 _ _ en7),b9 _ _ ntl.2.2 (s8 _ _ et7),rfl⟩;rw[ZaD hei];exact I8.mv hy b9 e9
 ·rintro σ H5 ⟨ps,pb,pv,v4,v5,I,en5,et5,rfl⟩
  rw[length_map,hes,take_length]at I;walk_at "";refine⟨d,.ref s,rfl,DGet.k (k:=Sum.inr "start") I.ed,?_⟩;walk_at "";refine⟨d,.ref b,rfl,DGet.k (k:=Sum.inr "bad") I.ed,?_⟩;walk_at "";refine⟨d,.ref m,rfl,DGet.k (k:=Sum.inr "move") I.ed,?_⟩;walk_at "";exact Zvf en5 I.e1 I.e2 I.e3 I.p1 I.p2 I.p3 fun x H6 s6 _ M=>q x H6 (I.sm.trans s6) M
end
unseal PE PA PS PSs
theorem ZtR (π:Nat→Nat):∀ts:List Tr,fmTL π ts=ts.map (fmT π)
 | []=>rfl
 | t::ts=>congrArg (fmT π t :: ·) (ZtR π ts)
theorem Zuf {ts:List Tr} {tr:Tr} (h:tr∈ts):nT tr≤nTL ts:=by
 induction ts with
 | nil=>cases h
 | cons x r ih=>
  show _≤nT x+nTL r
  rcases mem_cons.mp h with rfl | h
  ·omega
  ·have:=ih h; omega
theorem Zjn (p:Nat→Bool) (n:Nat):(List.range (n+1)).filter p=(List.range n).filter p++(if p n=true then [n] else []):=by
 rw[range_succ,List.filter_append]
 by_cases h:p n=true
 ·simp[h]
 ·simp[h]
theorem ZfG {n i:Nat} {lo:Int} {x:V} (h:((List.range n).map fun i:Nat=>V.int (lo+(i:Int)))[i]?=some x):i < n∧x=.int (lo+(i:Int)):=by
 rw[getElem?_map]at h
 by_cases hi:i < n
 ·rw[List.getElem?_range hi]at h
  exact⟨hi,(Option.some.inj h).symm⟩
 ·rw[List.getElem?_eq_none (by rw[length_range]; omega)]at h
  cases h
section
variable {P:Program} {w:World} {K:W.Frag} {mg:Str→Option Value} {base:Heap} {t:Ad} {n:Nat}
theorem ZwC {td ty tx:TE} {σ:St} {H:Hp} {Q:VK} (h:td σ H fun x H1=>∃a,x=.ref a∧IsD H1 a∧ty σ H1 fun y H2=>tx σ H2 fun z H3=>∃o,DGet H3 a y o∧Q (o.getD z) H3):ZAF td ty tx σ H Q:=h
theorem ZzU {trs:List (TE×TE)} {σ:St} {H:Hp} {Q:VK} (h:∀p,H p=none→ZoJ trs σ (upd H p (.dK [])) fun ps H2=>H2 p=some (.dK [])∧∃kvs:List (Key×V),ps=kvs.map (fun kv=>(kV kv.1,kv.2))∧kvs.length≤15∧Q (.ref p) (upd H2 p (.dK (Zie [] kvs)))):ZES trs σ H Q:=h
seal PE PA PS PSs
def ZxY:Sp:=fun vs H Q _=>∃(p:Addr) (b:Bool) (S:Addr→Prop) (n:Nat) (tr:Tr),vs=[.ref p,.bl b]∧TwAt S H n p tr∧∀H',Same H H'→Q (.int (rkG b tr:Int)) H'
theorem Zxf (T:Txt K mg t):FnS P w K mg base 1 "_law_rank" ["_law_tree","_law_wraps"] (ZxY):=by
 refine⟨_,_,T.Zeu.ok ZlQ (fun vs H Q E h=>?_) (fun cdv A outer s H vs Q E hr h=>?_),T.Zmt,T.Zeu.kp,T.Zm9⟩
 ·obtain⟨p,b,S,n,tr,rfl,hT,q⟩:=h
  rfl
 obtain⟨p,b,S,n,tr,rfl,hT,q⟩:=h
 refine⟨_,(Zab (ZpF PassesOwn.never (PW.pt (Zd7 (Zaj (ZaA hr.units) (Zav Zam (pv 0) Zac (fun _ _=>rfl)) Zal (Zan _)) (Zc2 (Zgp (ZaL (pv 1) (fun _=>rfl))))))
   (Zae (ss 0 ZlQ.nd (Zav Zam (Zav Zam (pv 0) Zac (fun _ _=>rfl)) Zac (fun _ _=>rfl)))))
   (Zae (Zao (Zl8 (Nat.lt_of_le_of_lt (Nat.add_le_add_left (by decide) _) hr.units) (Zpz (Zb6 Zal Zac (Zb6 Zal Zac (Zb6 Zal Zac ZpD))) rfl rfl (cons_ne_nil _ _) (Nat.le_of_ble_eq_true rfl)) (Zav Zam (pv 0) Zac (fun _ _=>rfl)) Zac ⟨rfl,rfl,rfl,rfl⟩)))),?_⟩
 walk_at "rs0";refine Zh8 (fun σ H'=>H=H'∧∃p' t' v,H p'=some (.tup [.str (Zq0 t'),v])∧rkK t'=rkG b tr∧σ=[some (.ref p'),some (.bl b)]) ?_ ?_
 rotate_left
 ·intro Kn hK
  refine⟨fun mm σ H'=>H=H'∧∃p' t',TwAt S H mm p' t'∧rkG b t'=rkG b tr∧σ=[some (.ref p'),some (.bl b)],⟨n,rfl,p,tr,hT,rfl,rfl⟩,?_⟩;rintro mm σ H' ⟨rfl,p',t',h',e',rfl⟩;obtain⟨v,ek⟩:=h'.kind;walk_at "";refine Za8 ek (v:=.str (Zq0 t')) rfl ?_;walk_at ""
  have out:(∀g,t'=.wrap g→b=true)→Kn [some (.ref p'),some (.bl b)] H:=fun hw=>by
   refine hK _ _ ⟨rfl,p',t',v,ek,?_,rfl⟩;rw[←e']
   cases t' with
   | wrap g=>rw[hw g rfl]; rfl
   | _=>rfl
  cases t' with
  | wrap g=>
   refine ZbT rfl ?_;walk_at ""
   cases b with
   | true=>
    refine ZaI rfl ?_;exact out fun _ _=>rfl
   | false=>
    refine ZbT rfl ?_
    cases mm with
    | zero=>exact h'.elim
    | succ mm=>
     obtain⟨l,q',e1,sl,e2,hq⟩:=h';refine⟨_,fun σ' H'' z=>z,?_⟩;walk_at "";refine Za8 e1 (v:=.ref l) rfl ?_;walk_at "";refine ZbJ (j:=0) e2 (v:=.ref q') rfl ?_;walk_at "";exact⟨mm,Nat.lt_succ_self _,rfl,q',g,hq,e',rfl⟩
  | lamp k=>exact ZaI rfl (ZaI rfl (out fun g z=>nomatch z))
  | sure k=>exact ZaI rfl (ZaI rfl (out fun g z=>nomatch z))
  | neg k=>exact ZaI rfl (ZaI rfl (out fun g z=>nomatch z))
  | join u gs=>exact ZaI (by cases u <;> rfl) (ZaI rfl (out fun g z=>nomatch z))
 rintro σ H' ⟨rfl,p',t',v,ek,er,rfl⟩;walk_at "";refine ZwC ?_;refine ZzU fun d hd=>?_;simp only [ZoJ];walk_at "";refine⟨Zax,[(Sum.inr "and",.int 1),(Sum.inr "either",.int 2),(Sum.inr "or",.int 3)],rfl,by decide,d,rfl,.inl ⟨_,.inl Zax⟩,?_⟩;walk_at ""
 have ek':(upd (upd H d (.dK [])) d (.dK (Zie [] [(Sum.inr "and",V.int 1),(Sum.inr "either",.int 2),(Sum.inr "or",.int 3)]))) p'=some (.tup [.str (Zq0 t'),v]):=by
  have hbd:p'≠d:=Zag ek hd;rw[ZaF hbd,ZaF hbd];exact ek
 refine Za8 ek' (v:=.str (Zq0 t')) rfl ?_;walk_at "";refine⟨_,DGet.k (k:=Sum.inr (Zq0 t')) Zax,?_⟩
 have e:(valV (Zie [] [(Sum.inr "and",V.int 1),(Sum.inr "either",.int 2),(Sum.inr "or",.int 3)]) (Sum.inr (Zq0 t'):Key)).getD (.int 0)=.int (rkK t':Int):=by
  cases t' with
  | lamp k=>rfl
  | sure b=>rfl
  | neg g=>rfl
  | wrap g=>rfl
  | join w gs=>cases w <;> rfl
 rw[e,er];refine q _ fun b u hb=>?_;have hbd:b≠d:=Zag hb hd;rw[ZaF hbd,ZaF hbd];exact hb
unseal PE PA PS PSs
end
seal PE PA PS PSs
section
variable {P:Program} {w:World} {K:W.Frag} {mg:Str→Option Value} {base:Heap} {t:Ad} {n:Nat}
def ZrS (n:Nat):Sp:=fun vs H Q _=>∃(p nl:Addr) (b:Bool) (tr:Tr) (ns:List Str),vs=[.ref p,.ref nl,.bl b]∧TwAt anyA H n p tr∧H nl=some (.lst (ns.map V.str))∧okT ns.length tr=true∧nT tr≤61∧∀l H',Same H H'→H l=none→H' l=some (.lst ((wdG b ns tr).map V.str))→Q (.ref l) H'
theorem Zoa (T:Txt K mg t):∀n:Nat,FnS P w K mg base (n+2) "_law_words_of" ["_law_tree","_law_names_here","_law_wraps"] (ZrS n)
 | 0=>by
  have no:∀vs H Q E,¬ZrS 0 vs H Q E:=fun vs H Q E h=>by
   obtain⟨p,nl,b,tr,ns,_,h,_⟩:=h;exact h
  exact⟨_,_,⟨fun vs H Q E h=>absurd h (no vs H Q E),fun A outer s H args us vs Q E _ _ _ _ h=>absurd h (no vs H Q E)⟩,T.ZfN,T.Zbu.kp,T.ZfP⟩
 | n+1=>by
  have ZbP:=Zoa T n;refine⟨_,_,T.Zbu.ok Zat (fun vs H Q E h=>?_) (fun cdv A outer s H vs Q E hr h=>?_),T.ZfN,T.Zbu.kp,T.ZfP⟩
  ·obtain⟨p,nl,b,tr,ns,rfl,_⟩:=h
   rfl
  obtain⟨p,nl,b,tr,ns,rfl,hT,hn,hok,hnT,q⟩:=h;have Zex:=Zxf (P:=P) (w:=w) (base:=base) T;obtain⟨v,ek⟩:=hT.kind
  have body:∀(z:Str) (bd:Nat) (l:Addr) (ps:List Addr) (gs:List Tr),Zq0 tr=z→z≠"lamp"→z≠"sure"→H p=some (.tup [.str z,.ref l])→H l=some (.lst (ps.map V.ref))→Paired (TwAt anyA H n) ps gs→(∀g∈gs,okT ns.length g=true)→nTL gs≤60→(valV (Zie [] [(Sum.inr "not",V.int 1),(Sum.inr "and",V.int 1),(Sum.inr "either",.int 2),(Sum.inr "or",.int 3)]) (Sum.inr z:Key)).getD (.int 4)=.int (bd:Int)→(gs.map (Zei b ns z bd)).foldl (ZfZ z) (if z = "not" then ["not"] else [])=wdG b ns tr→∃tb,PSs (cxOf CX0 P w K mg base ["_law_tree","_law_names_here","_law_wraps","_law_kind","_law_bind","_law_found","_law_part","_law_inner"] "_law_words_of" (Zah ZcC) t.Zbx cdv A outer s H E).nox (ZfO ZcC) tb∧tb { nx:=fun _ H'=>Q V.non H',rt:=Q } (L2.start ["_law_tree","_law_names_here","_law_wraps","_law_kind","_law_bind","_law_found","_law_part","_law_inner"] [.ref p,.ref nl,.bl b]) H:=by
   intro z bd l ps gs ez nz1 nz2 e1 e2 hps hgs hng hbd hfold;have hgl:=Zak hps;have hgn:=ZwV gs
   refine⟨_,(Zab (ss 3 Zat.nd (Zav Zam (pv 0) Zac (fun _ _=>rfl)))
   (Zab (ZaB (Zaj (ZaA hr.units) (pv 3) Zal (Zan _))
   (Zae (Zao (ZaO (Zaa (Zav Zam (pv 1) (Zav Zam (pv 0) Zac (fun _ _=>rfl)) (fun _ _=>rfl)) Zad))))
   Zap)
   (Zab (ZaB (Zaj (ZaA hr.units) (pv 3) Zal (Zan _))
   (Zae (Zao (ZaO (Zaa (Zav Zam (ZaO (Zaa Zal (Zaa Zal Zad))) (Zbb Zc8 rfl T.B.int ZhH (Zaa (Zav Zam (pv 0) Zac (fun _ _=>rfl)) Zad)) (fun _ _=>rfl)) Zad))))
   Zap)
   (Zab (ss 4 Zat.nd (Zl8 (Nat.lt_of_le_of_lt (Nat.add_le_add_left (by decide) _) hr.units) (Zpz (Zb6 Zal Zac (Zb6 Zal Zac (Zb6 Zal Zac (Zb6 Zal Zac ZpD)))) rfl rfl (cons_ne_nil _ _) (Nat.le_of_ble_eq_true rfl)) (pv 3) Zac ⟨rfl,rfl,rfl,rfl⟩))
   (Zab (ss 5 Zat.nd (ZaO Zad))
   (Zab (ZaB (Zaj (ZaA hr.units) (pv 3) Zal (Zan _))
   (Zae (ZaQ (ZcB F.plainAttrs_list F.slot_list_append F.type_list_append ZaK (pv 5) (Zaa Zal Zad))))
   Zap)
   (Zab (ZaS PassesOwn.never rfl (Za6 (Zav Zam (pv 0) Zac (fun _ _=>rfl))) (sg 6 Zat.nd)
   (Zab (ss 7 Zat.nd (ZaE ZbP hr (Zaa (pv 6) (Zaa (pv 1) (Zaa (pv 2) Zad)))))
   (Zab (ZaB (PW.pt (Zih (PW.pt (Zd7 (Zaj (ZaA hr.units) (pv 3) Zal (Zan _)) (Zc2 (ZaL (pv 2) (fun _=>rfl))))) (ZfT (Zaj Zy7 (ZaE Zex hr (Zaa (pv 6) (Zaa (pv 2) Zad))) (pv 4) (Zan _)))))
   (Zae (ss 7 Zat.nd (Zai Zay (Zai Zay (ZaO (Zaa Zal Zad)) (pv 7)) (ZaO (Zaa Zal Zad)))))
   Zap)
   (Zab (ZaB (PW.pt (Zd7 (Zaj Zju (Zaw Zaz rfl T.B.len Za4 (Zaa (pv 5) Zad)) Zac (Zan _)) (Zc2 (Zaj (Zje hr.units) (pv 3) Zal (Zan _)))))
   (Zae (ZaQ (ZcB F.plainAttrs_list F.slot_list_append F.type_list_append ZaK (pv 5) (Zaa (pv 3) Zad))))
   Zap)
   (Zae (ss 5 Zat.nd (Zai Zay (pv 5) (pv 7))))))))
   (Zae (Zao (pv 5)))))))))),?_⟩
   walk_at "rd0";refine Za8 e1 (v:=.str z) rfl ?_;walk_at "";refine ZaI (decide_eq_false nz1) ?_;walk_at "";refine ZaI (decide_eq_false nz2) ?_;walk_at "";refine ZwC ?_;refine ZzU fun d hd=>?_;simp only [ZoJ];walk_at "";refine⟨Zax,[(Sum.inr "not",.int 1),(Sum.inr "and",.int 1),(Sum.inr "either",.int 2),(Sum.inr "or",.int 3)],rfl,by decide,d,rfl,.inl ⟨_,.inl Zax⟩,?_⟩;walk_at "";refine⟨_,DGet.k (k:=Sum.inr z) Zax,?_⟩;rw[hbd]
   have sd:Same H (upd (upd H d (.dK [])) d (.dK (Zie [] [(Sum.inr "not",V.int 1),(Sum.inr "and",V.int 1),(Sum.inr "either",.int 2),(Sum.inr "or",.int 3)]))):=fun x u hb=>by
    have hbd:x≠d:=Zag hb hd;rw[ZaF hbd,ZaF hbd];exact hb
   generalize upd (upd H d (.dK [])) d (.dK (Zie [] [(Sum.inr "not",V.int 1),(Sum.inr "and",V.int 1),(Sum.inr "either",.int 2),(Sum.inr "or",.int 3)]))=H1 at sd ⊢;walk_at "";refine ZbW (by simp) fun f0 H2 s2 n2 e3=>?_;have nf0:H f0=none:=sd.free n2;walk_at "rs";refine Zh8 (fun σ H'=>Same H H'∧H' f0=some (.lst ((if z = "not" then(["not"]:List Str) else []).map V.str))∧σ=[some (.ref p),some (.ref nl),some (.bl b),some (.str z),some (.int (bd:Int)),some (.ref f0),none,none]) ?_ ?_
   rotate_left
   ·intro Kn hK
    walk_at "rs";refine Zb7 (fun hz=>?_) (fun hz=>?_)
    ·walk_at "rs"
     refine⟨tyL e3,?_⟩;walk_at "rs";refine Za5 e3 (by simp) fun H3 b3 e4=>?_;walk_at "rs";exact hK _ _ ⟨b3.same nf0 (sd.trans s2),by rw[if_pos hz]; exact e4,rfl⟩
    ·walk_at "rs"
     exact hK _ _ ⟨sd.trans s2,by rw[if_neg hz]; exact e3,rfl⟩
   rintro σ H3 ⟨s3,ef,rfl⟩;walk_at "rs";refine ZhM ?_;walk_at "rs";refine Za8 (s3 _ _ e1) (v:=.ref l) rfl ?_;walk_at "rs";refine seqL (xs:=ps.map V.ref) (fun i σ H'=>∃fl v6 v7,Same H H'∧H fl=none∧H' fl=some (.lst ((((gs.take i).map (Zei b ns z bd)).foldl (ZfZ z) (if z = "not" then ["not"] else [])).map V.str))∧(((gs.take i).map (Zei b ns z bd)).foldl (ZfZ z) (if z = "not" then ["not"] else [])).length≤1+300 * i∧σ=[some (.ref p),some (.ref nl),some (.bl b),some (.str z),some (.int (bd:Int)),some (.ref fl),v6,v7]) ⟨f0,_,_,s3,nf0,ef,by show(if z = "not" then(["not"]:List Str) else []).length≤_; by_cases hz:z = "not" <;> simp[hz],rfl⟩ (fun i σ H' _ hp=>by obtain⟨fl,v6,v7,s',_⟩:=hp; exact SqL.of (s' _ _ e2)) ?_ ?_
   ·rintro i x σ H4 hx ⟨fl,v6,v7,s4,nfl,efl,hF,rfl⟩
    obtain⟨pa,rfl,hpa⟩:=Zbf hx;obtain⟨g,hg,hga⟩:=Zbt hps hpa;have hil:i < gs.length:=(List.getElem?_eq_some_iff.mp hg).1;have gm:=mem_of_getElem? hg;have gn:=Zuf gm;have hwl:=ZlR b ns g;generalize hFF:((gs.take i).map (Zei b ns z bd)).foldl (ZfZ z) (if z = "not" then ["not"] else [])=F at efl hF
    have nx:((gs.take (i+1)).map (Zei b ns z bd)).foldl (ZfZ z) (if z = "not" then ["not"] else [])=ZfZ z F (Zei b ns z bd g):=by rw[ZaD hg,map_append,foldl_append,hFF]; rfl
    walk_at "";refine⟨pa,nl,b,g,ns,rfl,hga.same s4,s4 _ _ hn,hgs g gm,by omega,fun il H5 s5 n5 e5=>?_⟩;have s45:=s4.trans s5;walk_at "rs";refine Zh8 (fun σ H'=>∃il',Same H H'∧Same H4 H'∧H4 il'=none∧H' il'=some (.lst ((Zei b ns z bd g).map V.str))∧σ=[some (.ref p),some (.ref nl),some (.bl b),some (.str z),some (.int (bd:Int)),some (.ref fl),some (.ref pa),some (.ref il')]) ?_ ?_
    rotate_left
    ·intro Kn hK
     have yes:(decide (z = "wrap"∧b=true) || decide (bd≤rkG b g))=true→∀KK,KK.nx=Kn→∀H6,Same H5 H6→tAsg (tOp ZpG (tOp ZpG (tLst (Zla (tC (V.str "(")) tNil)) (tVar 7)) (tLst (Zla (tC (V.str ")")) tNil))) (ZmJ 7) KK [some (.ref p),some (.ref nl),some (.bl b),some (.str z),some (.int (bd:Int)),some (.ref fl),some (.ref pa),some (.ref il)] H6:=fun hc KK hKK H6 s6=>by
      walk_at "rs";refine ZbW (by simp) fun o1 H7 s7 n7 e7=>?_;walk_at "rs";refine ZkN e7 (s7 _ _ (s6 _ _ e5)) (by rw[length_map]; simp; omega) fun o2 H8 s8 n8 e8=>?_;walk_at "rs";refine ZbW (by simp) fun o3 H9 s9 n9 e9=>?_;refine ZkN (s9 _ _ e8) e9 (by simp only [length_append,length_map,length_singleton,length_cons,length_nil]; omega) fun o4 H10 s10 n10 e10=>?_;walk_at "rs";show KK.nx _ _;rw[hKK];have sA:=s6.trans (s7.trans (s8.trans (s9.trans s10)));refine hK _ _ ⟨o4,s45.trans sA,s5.trans sA,(s5.trans (s6.trans (s7.trans (s8.trans s9)))).free n10,?_,rfl⟩;unfold Zei brW;rw[hc,if_pos rfl,e10];simp
     have no:(decide (z = "wrap"∧b=true) || decide (bd≤rkG b g))=false→∀H6,Same H5 H6→Kn [some (.ref p),some (.ref nl),some (.bl b),some (.str z),some (.int (bd:Int)),some (.ref fl),some (.ref pa),some (.ref il)] H6:=fun hc H6 s6=>by
      refine hK _ _ ⟨il,s45.trans s6,s5.trans s6,n5,?_,rfl⟩;unfold Zei brW;rw[hc,if_neg (by decide)];exact s6 _ _ e5
     have rnk:∀(Q':VK),(¬(z = "wrap"∧b=true))→(∀H6,Same H5 H6→Q' (.int (rkG b g:Int)) H6)→ZxY [.ref pa,.bl b] H5 Q' (fun _ _ _=>False):=fun Q' _ kk=>⟨pa,b,anyA,n,g,rfl,hga.same s45,kk⟩;walk_at "rs"
     by_cases hw:z = "wrap"
     ·refine ZbT (decide_eq_true hw) ?_
      walk_at "rs"
      by_cases hb:b=true
      ·refine ZbT hb ?_
       refine ZbT rfl ?_;exact yes (by rw[decide_eq_true ⟨hw,hb⟩]; rfl) _ rfl H5 (fun _ _ h=>h)
      ·refine ZaI (by cases b <;> first | rfl | exact absurd rfl hb) ?_
       walk_at "rs";refine rnk _ (fun y=>hb y.2) fun H6 s6=>?_;walk_at "rs";refine Zb7 (fun hr=>?_) (fun hr=>?_)
       ·exact yes (by rw[decide_eq_true (show bd≤rkG b g by omega),Bool.or_true]) _ rfl H6 s6
       ·walk_at "rs"
        exact no (by rw[decide_eq_false (show ¬bd≤rkG b g by omega),Bool.or_false]; exact decide_eq_false fun y=>hb y.2) H6 s6
     ·refine ZaI (decide_eq_false hw) ?_
      walk_at "rs";refine ZaI rfl ?_;walk_at "rs";refine rnk _ (fun y=>hw y.1) fun H6 s6=>?_;walk_at "rs";refine Zb7 (fun hr=>?_) (fun hr=>?_)
      ·exact yes (by rw[decide_eq_true (show bd≤rkG b g by omega),Bool.or_true]) _ rfl H6 s6
      ·walk_at "rs"
       exact no (by rw[decide_eq_false (show ¬bd≤rkG b g by omega),Bool.or_false]; exact decide_eq_false fun y=>hw y.1) H6 s6
    rintro σ H6 ⟨il',s6,s46,n6,e6,rfl⟩;walk_at "rs";refine Zh8 (fun σ H'=>Same H H'∧H' il'=some (.lst ((Zei b ns z bd g).map V.str))∧H' fl=some (.lst ((if 0 < F.length∧z≠"not" then F++[z] else F).map V.str))∧σ=[some (.ref p),some (.ref nl),some (.bl b),some (.str z),some (.int (bd:Int)),some (.ref fl),some (.ref pa),some (.ref il')]) ?_ ?_
    rotate_left
    ·intro Kn hK
     have efl6:=s46 _ _ efl;walk_at "rs";have hFm:(F.map V.str).length=F.length:=length_map ..;refine Zb7 (fun h0=>?_) (fun h0=>?_)
     ·walk_at "rs"
      rw[show(!decide (z = "not"))=decide (z≠"not") from(decide_not ..).symm];refine Zb7 (fun hz=>?_) (fun hz=>?_)
      ·walk_at "rs"
       refine⟨tyL efl6,?_⟩;walk_at "rs";refine Za5 efl6 (by simp; omega) fun H7 b7 e7=>?_;walk_at "rs";exact hK _ _ ⟨b7.same nfl s6,b7 _ _ (Zag efl n6).symm e6,by rw[if_pos ⟨by omega,hz⟩,e7]; simp,rfl⟩
      ·walk_at "rs"
       exact hK _ _ ⟨s6,e6,by rw[if_neg (fun y=>hz y.2)]; exact efl6,rfl⟩
     ·walk_at "rs"
      exact hK _ _ ⟨s6,e6,by rw[if_neg (fun y=>h0 (by omega))]; exact efl6,rfl⟩
    rintro σ H7 ⟨s7,e7,e8,rfl⟩;walk_at "rs"
    have hin:(Zei b ns z bd g).length≤246:=by
     have:=ZoV (decide (z = "wrap"∧b=true) || decide (bd≤rkG b g)) (wdG b ns g);unfold Zei;omega
    have hst:(if 0 < F.length∧z≠"not" then F++[z] else F).length≤F.length+1:=by
     by_cases hc:0 < F.length∧z≠"not"
     ·rw[if_pos hc,length_append]; exact Nat.le_refl _
     ·rw[if_neg hc]; omega
    refine ZkN e8 e7 (by rw[length_map,length_map]; omega) fun o H8 s8 n8 e9=>?_;walk_at "rs";refine⟨o,_,_,s7.trans s8,s7.free n8,by rw[nx,e9]; simp[ZfZ],?_,rfl⟩;rw[nx];unfold ZfZ;rw[length_append];omega
   ·rintro σ H4 ⟨fl,v6,v7,s4,nfl,efl,hF,rfl⟩
    rw[length_map,hgl,take_length,hfold]at efl;walk_at "";exact q fl H4 s4 nfl efl
  cases tr with
  | lamp k=>
   have hp:H p=some (.tup [.str "lamp",.int (k:Int)]):=hT
   have hk:k < ns.length:=by simpa [okT] using hok
   refine⟨_,(Zab (ss 3 Zat.nd (Zav Zam (pv 0) Zac (fun _ _=>rfl)))
   (Zab (ZaB (Zaj (ZaA hr.units) (pv 3) Zal (Zan _))
   (Zae (Zao (ZaO (Zaa (Zav Zam (pv 1) (Zav Zam (pv 0) Zac (fun _ _=>rfl)) (fun _ _=>rfl)) Zad))))
   Zap)
   (Zab (ZaB (Zaj (ZaA hr.units) (pv 3) Zal (Zan _))
   (Zae (Zao (ZaO (Zaa (Zav Zam (ZaO (Zaa Zal (Zaa Zal Zad))) (Zbb Zc8 rfl T.B.int ZhH (Zaa (Zav Zam (pv 0) Zac (fun _ _=>rfl)) Zad)) (fun _ _=>rfl)) Zad))))
   Zap)
   (Zab (ss 4 Zat.nd (Zl8 (Nat.lt_of_le_of_lt (Nat.add_le_add_left (by decide) _) hr.units) (Zpz (Zb6 Zal Zac (Zb6 Zal Zac (Zb6 Zal Zac (Zb6 Zal Zac ZpD)))) rfl rfl (cons_ne_nil _ _) (Nat.le_of_ble_eq_true rfl)) (pv 3) Zac ⟨rfl,rfl,rfl,rfl⟩))
   (Zab (ss 5 Zat.nd (ZaO Zad))
   (Zab (ZaB (Zaj (ZaA hr.units) (pv 3) Zal (Zan _))
   (Zae (ZaQ (ZcB F.plainAttrs_list F.slot_list_append F.type_list_append ZaK (pv 5) (Zaa Zal Zad))))
   Zap)
   (Zab (ZaS PassesOwn.never rfl (Za6 (Zav Zam (pv 0) Zac (fun _ _=>rfl))) (sg 6 Zat.nd)
   (Zab (ss 7 Zat.nd (ZaE ZbP hr (Zaa (pv 6) (Zaa (pv 1) (Zaa (pv 2) Zad)))))
   (Zab (ZaB (PW.pt (Zih (PW.pt (Zd7 (Zaj (ZaA hr.units) (pv 3) Zal (Zan _)) (Zc2 (ZaL (pv 2) (fun _=>rfl))))) (ZfT (Zaj Zy7 (ZaE Zex hr (Zaa (pv 6) (Zaa (pv 2) Zad))) (pv 4) (Zan _)))))
   (Zae (ss 7 Zat.nd (Zai Zay (Zai Zay (ZaO (Zaa Zal Zad)) (pv 7)) (ZaO (Zaa Zal Zad)))))
   Zap)
   (Zab (ZaB (PW.pt (Zd7 (Zaj Zju (Zaw Zaz rfl T.B.len Za4 (Zaa (pv 5) Zad)) Zac (Zan _)) (Zc2 (Zaj (Zje hr.units) (pv 3) Zal (Zan _)))))
   (Zae (ZaQ (ZcB F.plainAttrs_list F.slot_list_append F.type_list_append ZaK (pv 5) (Zaa (pv 3) Zad))))
   Zap)
   (Zae (ss 5 Zat.nd (Zai Zay (pv 5) (pv 7))))))))
   (Zae (Zao (pv 5)))))))))),?_⟩
   walk_at "rd0";refine Za8 hp (v:=.str "lamp") rfl ?_;walk_at "";refine ZbT rfl ?_;walk_at "";refine Za8 hp (v:=.int (k:Int)) rfl ?_;walk_at "";refine ZbJ (v:=.str (ns.getD k Str.empty)) hn (by rw[getElem?_map,getD_eq_getElem?_getD,List.getElem?_eq_getElem hk]; rfl) ?_;walk_at "";refine ZbW (by simp) fun l H1 s1 n1 e1=>?_;exact q l H1 s1 n1 e1
  | sure c=>
   have hp:H p=some (.tup [.str "sure",.bl c]):=hT
   refine⟨_,(Zab (ss 3 Zat.nd (Zav Zam (pv 0) Zac (fun _ _=>rfl)))
   (Zab (ZaB (Zaj (ZaA hr.units) (pv 3) Zal (Zan _))
   (Zae (Zao (ZaO (Zaa (Zav Zam (pv 1) (Zav Zam (pv 0) Zac (fun _ _=>rfl)) (fun _ _=>rfl)) Zad))))
   Zap)
   (Zab (ZaB (Zaj (ZaA hr.units) (pv 3) Zal (Zan _))
   (Zae (Zao (ZaO (Zaa (Zav Zam (ZaO (Zaa Zal (Zaa Zal Zad))) (Zbb Zc8 rfl T.B.int ZhH (Zaa (Zav Zam (pv 0) Zac (fun _ _=>rfl)) Zad)) (fun _ _=>rfl)) Zad))))
   Zap)
   (Zab (ss 4 Zat.nd (Zl8 (Nat.lt_of_le_of_lt (Nat.add_le_add_left (by decide) _) hr.units) (Zpz (Zb6 Zal Zac (Zb6 Zal Zac (Zb6 Zal Zac (Zb6 Zal Zac ZpD)))) rfl rfl (cons_ne_nil _ _) (Nat.le_of_ble_eq_true rfl)) (pv 3) Zac ⟨rfl,rfl,rfl,rfl⟩))
   (Zab (ss 5 Zat.nd (ZaO Zad))
   (Zab (ZaB (Zaj (ZaA hr.units) (pv 3) Zal (Zan _))
   (Zae (ZaQ (ZcB F.plainAttrs_list F.slot_list_append F.type_list_append ZaK (pv 5) (Zaa Zal Zad))))
   Zap)
   (Zab (ZaS PassesOwn.never rfl (Za6 (Zav Zam (pv 0) Zac (fun _ _=>rfl))) (sg 6 Zat.nd)
   (Zab (ss 7 Zat.nd (ZaE ZbP hr (Zaa (pv 6) (Zaa (pv 1) (Zaa (pv 2) Zad)))))
   (Zab (ZaB (PW.pt (Zih (PW.pt (Zd7 (Zaj (ZaA hr.units) (pv 3) Zal (Zan _)) (Zc2 (ZaL (pv 2) (fun _=>rfl))))) (ZfT (Zaj Zy7 (ZaE Zex hr (Zaa (pv 6) (Zaa (pv 2) Zad))) (pv 4) (Zan _)))))
   (Zae (ss 7 Zat.nd (Zai Zay (Zai Zay (ZaO (Zaa Zal Zad)) (pv 7)) (ZaO (Zaa Zal Zad)))))
   Zap)
   (Zab (ZaB (PW.pt (Zd7 (Zaj Zju (Zaw Zaz rfl T.B.len Za4 (Zaa (pv 5) Zad)) Zac (Zan _)) (Zc2 (Zaj (Zje hr.units) (pv 3) Zal (Zan _)))))
   (Zae (ZaQ (ZcB F.plainAttrs_list F.slot_list_append F.type_list_append ZaK (pv 5) (Zaa (pv 3) Zad))))
   Zap)
   (Zae (ss 5 Zat.nd (Zai Zay (pv 5) (pv 7))))))))
   (Zae (Zao (pv 5)))))))))),?_⟩
   walk_at "rd0";refine Za8 hp (v:=.str "sure") rfl ?_;walk_at "";refine ZaI rfl ?_;walk_at "";refine ZbT rfl ?_;walk_at "";refine ZbW (by simp) fun l0 H1 s1 n1 e1=>?_;walk_at "";refine Za8 (s1 _ _ hp) (v:=.bl c) rfl ?_;walk_at ""
   cases c with
   | true=>
    refine ZbJ (j:=1) (v:=.str "yes") e1 rfl ?_;walk_at "";refine ZbW (by simp) fun l H2 s2 n2 e2=>?_;exact q l H2 (s1.trans s2) (s1.free n2) e2
   | false=>
    refine ZbJ (j:=0) (v:=.str "no") e1 rfl ?_;walk_at "";refine ZbW (by simp) fun l H2 s2 n2 e2=>?_;exact q l H2 (s1.trans s2) (s1.free n2) e2
  | neg g=>
   obtain⟨l,q',e1,_,e2,hq⟩:=hT;have hn1:nT (.neg g)=1+nT g:=rfl;refine body "not" 1 l [q'] [g] rfl (by decide) (by decide) e1 e2 (.cons hq .nil) (fun x hx=>by rw[mem_singleton.mp hx]; simpa [okT] using hok) (by rw[ZkT]; omega) rfl ?_;show ZfZ "not" (["not"]:List Str) (Zei b ns "not" 1 g)=("not" : Str)::brW (decide (1≤rkG b g)) (wdG b ns g);unfold ZfZ Zei;rw[if_neg (fun y=>y.2 rfl),show decide (("not" : Str) = "wrap"∧b=true)=false from decide_eq_false fun y=>absurd y.1 (by decide),Bool.false_or];rfl
  | wrap g=>
   obtain⟨l,q',e1,_,e2,hq⟩:=hT;have hn1:nT (.wrap g)=1+nT g:=rfl;refine body "wrap" 4 l [q'] [g] rfl (by decide) (by decide) e1 e2 (.cons hq .nil) (fun x hx=>by rw[mem_singleton.mp hx]; simpa [okT] using hok) (by rw[ZkT]; omega) rfl ?_;show ZfZ "wrap" [] (Zei b ns "wrap" 4 g)=brW b (wdG b ns g);unfold ZfZ Zei;have:=ZEr b g;rw[if_neg (by simp),show decide (4≤rkG b g)=false from decide_eq_false (by omega),Bool.or_false,show decide (("wrap" : Str) = "wrap"∧b=true)=b by cases b <;> decide];rfl
  | join v gs=>
   obtain⟨l,ps,e1,_,e2,hq⟩:=hT;have hn1:nT (.join v gs)=1+nTL gs:=rfl;simp only [okT,Bool.and_eq_true,decide_eq_true_iff]at hok
   have ok':∀g∈gs,okT ns.length g=true:=by
    have:=hok.2;rw[Zl7,all_eq_true]at this;exact this
   refine body (kw3 v) (Znp v) l ps gs rfl (by cases v <;> decide) (by cases v <;> decide) e1 e2 hq ok' (by omega) (by cases v <;> rfl) ?_
   have nn:kw3 v≠"not":=by cases v <;> decide
   have nw:kw3 v≠"wrap":=by cases v <;> decide
   rw[if_neg nn,Zyv _ nn]
   ·show _=jnW (kw3 v) (wdGL b ns (Znp v) gs)
    rw[ZuE]
    congr 1
    refine List.map_congr_left fun g hg=>?_;unfold Zei;rw[show decide (kw3 v = "wrap"∧b=true)=false from decide_eq_false fun y=>nw y.1,Bool.false_or]
   ·intro x hx
    obtain⟨g,hg,rfl⟩:=mem_map.mp hx;have:=ZE2 b ns ns.length g (ok' g hg);unfold Zei brW
    by_cases hc:(decide (kw3 v = "wrap"∧b=true) || decide (Znp v≤rkG b g))=true
    ·rw[if_pos hc]; simp
    ·rw[if_neg hc]; exact this
end
unseal PE PA PS PSs
def isMk (z:Str):Bool:=decide (cl1 z=[40]) || decide (cl1 z=[41]) || decide (cl1 z=[44])
def Wd3 (p:List Nat):Prop:=p=[40]∨p=[41]∨p=[44]∨(p≠[]∧∀c∈p,97≤c∧c≤122)
def WdX (z:Str):Prop:=Wd3 (cl1 z)∧z.length≤9
theorem WdS.x {z:Str} (h:WdS z):WdX z:=⟨by rcases h.1 with e | e | e; exact .inl e; exact .inr (.inl e); exact .inr (.inr (.inr e)),by have:=h.2; omega⟩
theorem Zt0 {z:Str} (h:WdX z):(!(Builtin.Str.occurrences "()," z 0 (Str.length "(),") 1).isEmpty)=isMk z:=by
 rcases h.1 with e | e | e | e
 ·have:z = "(":=Ztw e
  subst this;decide +kernel
 ·have:z = ")":=Ztw e
  subst this;decide +kernel
 ·have:z = ",":=Ztw e
  subst this;decide +kernel
 ·have hm:isMk z=false:=by
   unfold isMk;rw[Bool.or_eq_false_iff,Bool.or_eq_false_iff];refine⟨⟨decide_eq_false fun y=>?_,decide_eq_false fun y=>?_⟩,decide_eq_false fun y=>?_⟩
   ·have:=e.2 40 (by rw[y]; simp); omega
   ·have:=e.2 41 (by rw[y]; simp); omega
   ·have:=e.2 44 (by rw[y]; simp); omega
  rw[hm];refine Bool.eq_false_iff.mpr fun y=>?_;obtain⟨i,hi,hs⟩:=(StrLaws.found_iff "()," z).mp y;unfold Builtin.Str.subAt at hs;have e1:=congrArg Array.toList (eq_of_beq hs);obtain⟨c,hc⟩:=List.exists_mem_of_ne_nil _ e.1
  have hc2:c∈(Str.cps "(),").toList:=by
   have hc1:c∈z.cps.toList:=hc;rw[←e1,Array.toList_extract]at hc1;exact List.mem_of_mem_drop (mem_of_mem_take hc1)
  have hc3:c∈[40,41,44]:=hc2;have:=e.2 c hc;simp only [mem_cons,not_mem_nil,or_false]at hc3;omega
theorem Zmx:∀g:Nat,g≤2→cl1 (Txt.mul " " (g:Int))=List.replicate g 32:=by
 intro g hg
 match g,hg with
 | 0,_=>decide +kernel
 | 1,_=>decide +kernel
 | 2,_=>decide +kernel
seal PE PA PS PSs
section
variable {P:Program} {w:World} {K:W.Frag} {mg:Str→Option Value} {base:Heap} {t:Ad} {n:Nat}
def ZrR:Sp:=fun vs H Q _=>∃(l:Addr) (ws:List Str) (c:Int),vs=[.ref l,.int c]∧H l=some (.lst (ws.map V.str))∧(∀z∈ws,WdX z)∧ws.length≤1430∧∀x:Str,(∀d∈x.cps.toList,al d=true)→x.length≤16000→Txt.words (pad x)=ws→Q (.str x) H
def fits (last:Str) (r:List Nat):Prop:=isMk last=true∨opn r
theorem ZAq:∀g:Nat,g≤2→MulOk " " (g:Int):=by
 intro g hg
 match g,hg with
 | 0,_=>exact⟨by decide,fun h _=>absurd (by decide) h,fun h _=>absurd (by decide) h⟩
 | 1,_=>exact⟨by decide,fun _ _=>by decide,fun _ _=>by decide +kernel⟩
 | 2,_=>exact⟨by decide,fun _ _=>by decide,fun _ _=>by decide +kernel⟩
theorem ZFz {p:List Nat} (h:Wd3 p):∀d∈p,al d=true:=by
 intro d hd
 rcases h with rfl | rfl | rfl | h
 ·rw[mem_singleton.mp hd]; decide
 ·rw[mem_singleton.mp hd]; decide
 ·rw[mem_singleton.mp hd]; decide
 ·have:=h.2 d hd
  unfold al isL;rw[decide_eq_true this.1,decide_eq_true this.2];rfl
theorem Zx2 {z:Str} (zw:WdX z) {r:List Nat} (h:fits z r):Ww1 (cl1 z++r)=cl1 z::Ww1 r:=by
 rcases zw.1 with e | e | e | e
 ·rw[e]; exact Zsa (by decide) r
 ·rw[e]; exact Zsa (by decide) r
 ·rw[e]; exact Zsa (by decide) r
 ·refine ZAR e.1 e.2 (h.resolve_left fun y=>?_)
  unfold isMk at y;rw[Bool.or_eq_true,Bool.or_eq_true,decide_eq_true_iff,decide_eq_true_iff,decide_eq_true_iff]at y
  rcases y with(y | y) | y
  ·have:=e.2 40 (by rw[y]; simp); omega
  ·have:=e.2 41 (by rw[y]; simp); omega
  ·have:=e.2 44 (by rw[y]; simp); omega
theorem Zwr {z last:Str} (zw:WdX z) {g:Nat} {r:List Nat} (h:g=0→isMk z=true∨isMk last=true):fits last (List.replicate g 32++(cl1 z++r)):=by
 cases g with
 | succ g=>exact .inr (.inr ⟨32,_,rfl,.inl rfl⟩)
 | zero=>
  rcases h rfl with y | y
  ·unfold isMk at y
   rw[Bool.or_eq_true,Bool.or_eq_true,decide_eq_true_iff,decide_eq_true_iff,decide_eq_true_iff]at y
   rcases y with(y | y) | y
   ·exact .inr (.inr ⟨40,r,by rw[y]; rfl,.inr (by decide)⟩)
   ·exact .inr (.inr ⟨41,r,by rw[y]; rfl,.inr (by decide)⟩)
   ·exact .inr (.inr ⟨44,r,by rw[y]; rfl,.inr (by decide)⟩)
  ·exact .inl y
theorem Zrz (T:Txt K mg t):FnS P w K mg base 1 "_law_spaced" ["_law_some","_law_seed"] ZrR:=by
 refine⟨_,_,T.ZcJ.ok Za3 (fun vs H Q E h=>?_) (fun cdv A outer s H vs Q E hr h=>?_),T.ZjV,T.ZcJ.kp,T.Zkd⟩
 ·obtain⟨l,ws,c,rfl,_⟩:=h
  rfl
 obtain⟨l,ws,c,rfl,hl,hw,hwn,q⟩:=h
 refine⟨_,(Zab (ss 2 Za3.nd Zal)
   (Zab (ss 3 Za3.nd Zal)
   (Zab (ss 4 Za3.nd (Zai ZaR (pv 1) Zac))
   (Zab (ZaS PassesOwn.never rfl (Za6 (pv 0)) (sg 5 Za3.nd)
   (Zab (ss 4 Za3.nd (Zai ZaR (Zai Zay (Zai Ztf (pv 4) Zac) Zac) Zac))
   (Zab (ss 6 Za3.nd (Zaw (Zqx rfl) rfl T.B.max ZzJ (Zaa Zac (Zaa (Zai ZfQ (Zai ZaR (Zai ZaU (pv 4) Zac) Zac) Zac) Zad))))
   (Zab (ZaB (PW.pt (Zd7 (Zaj (ZaA hr.units) (pv 6) Zac (Zan _)) (Zd7 (Zaj ZgU (pv 5) Zal (by with_unfolding_all rfl)) (Zc2 (Zaj ZgU (pv 3) Zal (by with_unfolding_all rfl))))))
   (Zae (ss 6 Za3.nd Zac))
   Zap)
   (Zab (ss 2 Za3.nd (Zai Zay (Zai Zay (pv 2) (Zai Ztf Zal (pv 6))) (pv 5)))
   (Zae (ss 3 Za3.nd (pv 5))))))))
   (Zae (Zao (Zai Zay (pv 2) (Zai Ztf Zal (Zai ZaR (pv 1) Zac))))))))),?_⟩
 walk_at "rd0";refine seqL (xs:=ws.map V.str) (fun i σ H'=>H'=H∧∃(x last:Str) (st:Int) (v6 v7:Option V),0≤st∧WdX last∧(∀d∈x.cps.toList,al d=true)∧x.length≤11 * i∧(∀r,fits last r→Ww1 (cl1 x++r)=(ws.take i).map cl1++Ww1 r)∧σ=[some (.ref l),some (.int (c:Int)),some (.str x),some (.str last),some (.int st),v6,v7]) ⟨rfl,"","(",_,_,_,by omega,(ZwT _ (by decide)).x,by decide,by decide,fun r _=>rfl,rfl⟩ (fun i σ H' _ hp=>by obtain⟨rfl,_⟩:=hp; exact SqL.of hl) ?_ ?_
 ·rintro i z σ H' hx ⟨rfl,x,last,st,v6,v7,hst,hlast,hal,hxl,hW,rfl⟩
  obtain⟨z,rfl,hz⟩:=ZjZ hx;have zw:=hw z (mem_of_getElem? hz);walk_at "";refine .inl (Zgm (.inr ⟨by decide,by decide⟩) ?_);walk_at "rs"
  have hst2:0≤(st * 48271+11) % 2147483647:=by omega
  generalize (st * 48271+11) % 2147483647=st2 at hst2 ⊢;refine ZhM ?_;walk_at "rs"
  (try refine ZBh ?_)
  obtain⟨g,hg,hg2⟩ : ∃g:Nat,max 0 (st2 / 512 % 5 - 2)=(g:Int)∧g≤2:=⟨(max 0 (st2 / 512 % 5 - 2)).toNat,by omega,by omega⟩;rw[hg];walk_at "rs";refine Zh8 (fun σ H1=>H1=H'∧∃g':Nat,g'≤2∧(g'=0→isMk z=true∨isMk last=true)∧σ=[some (.ref l),some (.int (c:Int)),some (.str x),some (.str last),some (.int st2),some (.str z),some (.int (g':Int))]) ?_ ?_
  rotate_left
  ·intro Kn hK
   walk_at "rs";refine Zb7 (fun h0=>?_) (fun h0=>?_)
   ·walk_at "rs"
    refine .inl ⟨_,_,rfl,rfl,?_⟩;rw[Zt0 zw]
    dsimp only
    walk_at "rs"
    cases hz1:isMk z with
    | true=>
     refine ZaI rfl ?_;refine ZaI rfl ?_;walk_at "rs";exact hK _ _ ⟨rfl,g,hg2,fun _=>.inl hz1,rfl⟩
    | false=>
     refine ZbT rfl ?_;walk_at "rs";refine .inl ⟨_,_,rfl,rfl,?_⟩;rw[Zt0 hlast]
     dsimp only
     walk_at "rs"
     cases hz2:isMk last with
     | true=>
      refine ZaI rfl ?_;walk_at "rs";exact hK _ _ ⟨rfl,g,hg2,fun _=>.inr hz2,rfl⟩
     | false=>
      refine ZbT rfl ?_;walk_at "rs";exact hK _ _ ⟨rfl,1,by decide,fun e=>absurd e (by decide),rfl⟩
   ·walk_at "rs"
    exact hK _ _ ⟨rfl,g,hg2,fun e=>absurd (show(g:Int)=0 by omega) h0,rfl⟩
  rintro σ H1 ⟨rfl,g',hg',hgm,rfl⟩;have eb:=Zmx g' hg'
  have lb:(Txt.mul " " (g':Int)).length=g':=by
   show Array.size _=_;rw[←Array.length_toList];have:=congrArg List.length eb;rw[List.length_replicate]at this;exact this
  have hil:i < ws.length:=(List.getElem?_eq_some_iff.mp hz).1;have zl:=zw.2;walk_at "rs";refine ZhM ?_;walk_at "rs";refine .inr ⟨" ",(g':Int),rfl,rfl,ZAq g' hg',?_⟩;refine Zlv (Zc4 (by rw[lb]; omega)) ?_;walk_at "rs";refine Zlv (Zc4 (by rw[ZaT,lb]; omega)) ?_;walk_at "rs"
  have e1:∀r,cl1 (x++Txt.mul " " (g':Int)++z)++r=cl1 x++(List.replicate g' 32++(cl1 z++r)):=fun r=>by
   have:cl1 (x++Txt.mul " " (g':Int)++z)=cl1 x++cl1 (Txt.mul " " (g':Int))++cl1 z:=by
    show(x++Txt.mul " " (g':Int)++z).cps.toList=_;rw[list_append,list_append];rfl
   rw[this,eb,append_assoc,append_assoc]
  refine⟨rfl,_,z,st2,_,_,hst2,zw,?_,?_,?_,rfl⟩
  ·intro d hd
   have hd':d∈cl1 (x++Txt.mul " " (g':Int)++z)++[]:=by rw[append_nil]; exact hd
   rw[e1,append_nil]at hd'
   rcases mem_append.mp hd' with hd | hd
   ·exact hal d hd
   ·rcases mem_append.mp hd with hd | hd
    ·rw[(mem_replicate.mp hd).2]; decide
    ·exact ZFz zw.1 d hd
  ·rw[ZaT,ZaT,lb]; omega
  ·intro r hr
   rw[e1,hW _ (Zwr zw hgm),Zmf,Zx2 zw hr,ZaD hz,map_append,append_assoc];rfl
 ·rintro σ H' ⟨rfl,x,last,st,v6,v7,hst,hlast,hal,hxl,hW,rfl⟩
  walk_at "";obtain⟨g,hg,hg2⟩ : ∃g:Nat,(c:Int) % 3=(g:Int)∧g≤2:=⟨(c % 3).toNat,by omega,by omega⟩;rw[hg];have eb:=Zmx g hg2
  have lb:(Txt.mul " " (g:Int)).length=g:=by
   show Array.size _=_;rw[←Array.length_toList];have:=congrArg List.length eb;rw[List.length_replicate]at this;exact this
  have hxl:x.length≤11 * ws.length:=by rw[length_map]at hxl; exact hxl
  refine .inr ⟨" ",(g:Int),rfl,rfl,ZAq g hg2,?_⟩;refine Zlv (Zc4 (by rw[lb]; omega)) ?_
  have e1:cl1 (x++Txt.mul " " (g:Int))=cl1 x++(List.replicate g 32++[]):=by
   show(x++Txt.mul " " (g:Int)).cps.toList=_;rw[list_append,append_nil,←eb];rfl
  have hal2:∀d∈(x++Txt.mul " " (g:Int)).cps.toList,al d=true:=by
   intro d hd;have hd':d∈cl1 (x++Txt.mul " " (g:Int)):=hd;rw[e1,append_nil]at hd'
   rcases mem_append.mp hd' with hd | hd
   ·exact hal d hd
   ·rw[(mem_replicate.mp hd).2]; decide
  refine q _ hal2 (by rw[ZaT,lb]; omega) ?_;refine Zrl ?_;have hww:=ZzF hal2;refine hww.trans ?_;show Ww1 (cl1 (x++Txt.mul " " (g:Int)))=_;rw[e1,hW _ (.inr ?_),Zmf,length_map,take_length]
  ·exact append_nil _
  ·cases g with
   | zero=>exact .inl rfl
   | succ g=>exact .inr ⟨32,_,rfl,.inl rfl⟩
end
unseal PE PA PS PSs
def Nm8 (z:Str):Prop:=Lt z∧1≤z.length∧z.length≤8
section
variable {P:Program} {w:World} {K:W.Frag} {mg:Str→Option Value} {base:Heap} {t:Ad} {n:Nat}
def ZxW:Sp:=fun vs H Q _=>∃(sd:Int) (sz:Nat),vs=[.int sd,.int (sz:Int)]∧sz≤8∧∀z,Lt z→z.length=sz→Q (.str z) H
theorem ZvC (T:Txt K mg t):FnS P w K mg base 1 "_law_letters" ["_law_seed","_law_size"] (ZxW):=by
 refine⟨_,_,T.Zcd.ok Zbz (fun vs H Q E h=>?_) (fun cdv A outer s H vs Q E hr h=>?_),T.Zi9,T.Zcd.kp,T.Zjc⟩
 ·obtain⟨sd,sz,rfl,hsz,q⟩:=h
  rfl
 obtain⟨sd,sz,rfl,hsz,q⟩:=h
 refine⟨_,(Zab (ss 2 Zbz.nd Zal)
   (Zab (ss 3 Zbz.nd Zal)
   (Zab (ss 4 Zbz.nd (Zai ZaR (pv 0) Zac))
   (Zab (ZaS PassesOwn.never rfl (ZaZ rfl T.B.range (Zaa (pv 1) Zad)) (sg 5 Zbz.nd)
   (Zab (ss 4 Zbz.nd (Zai ZaR (Zai Zay (Zai ZcA (pv 4) Zac) Zac) Zac))
   (Zae (ss 3 Zbz.nd (Zai Zay (pv 3) (Zav Zam (pv 2) (Zai ZaR (Zai ZaU (pv 4) Zac) Zac) (fun _ _=>rfl)))))))
   (Zae (Zao (pv 3))))))),?_⟩
 walk_at "rd0";refine⟨_,rfl,by omega,by omega,?_⟩;rw[show((sz:Int)).toNat=sz by omega];refine Zly (n:=sz) (fun i σ H'=>H'=H∧∃(z:Str) (st:Int) (v:Option V),Lt z∧z.length=i∧σ=[some (.int sd),some (.int (sz:Int)),some (.str "abcdefghijklmnopqrstuvwxyz"),some (.str z),some (.int st),v]) ⟨rfl,"",_,_,(fun c hc=>by cases hc),rfl,rfl⟩ ?_ ?_
 ·rintro i σ H' hi ⟨rfl,z,st,v,hz,hl,rfl⟩
  walk_at "";refine Zgm (.inr ⟨by decide,by decide⟩) ?_;walk_at "";obtain⟨k,hk,hk26⟩ : ∃k:Nat,(st * 48271+7919) % 2147483647 / 64 % 26=(k:Int)∧k < 26:=⟨((st * 48271+7919) % 2147483647 / 64 % 26).toNat,by omega,by omega⟩;rw[hk];refine Zve (by decide) (ZgY (ZwW k hk26)) ?_;refine Zlv (Zc4 (by show _+1≤_; omega)) ?_;walk_at "";exact⟨rfl,_,_,_,ZgR hz (Zt8 hk26),by rw[ZaT,hl]; rfl,rfl⟩
 ·rintro σ H' ⟨rfl,z,st,v,hz,hl,rfl⟩
  walk_at "";exact q z hz hl
def Zhh:List Str:=["and","or","not","either","yes","no","then","is"]
def ZBz:List Str:=["lamps","start","bad","move","drop","show","judge","fence","always","reach"]
def okN (z:Str):Bool:=z.cps.toList.all (fun c=>decide (97≤c) && decide (c≤122)) && decide (1≤z.length) && decide (z.length≤7)
theorem ZAt {z:Str} (h:okN z=true):Lt z∧1≤z.length∧z.length≤7:=by
 unfold okN at h;rw[Bool.and_eq_true,Bool.and_eq_true,all_eq_true]at h;refine⟨fun c hc=>?_,of_decide_eq_true h.1.2,of_decide_eq_true h.2⟩;have:=h.1.1 c hc;rw[Bool.and_eq_true]at this;exact⟨of_decide_eq_true this.1,of_decide_eq_true this.2⟩
theorem ZBu:∀k,k < 8→∃z,Zhh[k]?=some z∧okN z=true:=by
 have h:∀k,k < 8→(Zhh[k]?).any okN=true:=by decide +kernel
 intro k hk;have:=h k hk
 cases e:Zhh[k]? with
 | none=>rw[e]at this; exact absurd this (by decide)
 | some z=>rw[e]at this; exact⟨z,rfl,this⟩
theorem ZBA:∀k,k < 10→∃z,ZBz[k]?=some z∧okN z=true:=by
 have h:∀k,k < 10→(ZBz[k]?).any okN=true:=by decide +kernel
 intro k hk;have:=h k hk
 cases e:ZBz[k]? with
 | none=>rw[e]at this; exact absurd this (by decide)
 | some z=>rw[e]at this; exact⟨z,rfl,this⟩
theorem ZAp {ns:List Str} {k:Nat} {z:Str} (h:ns[k]?=some z):(ns.map V.str)[k]?=some (.str z):=by rw[getElem?_map,h]; rfl
seal PE PA PS PSs
def ZEL:Sp:=fun vs H Q _=>∃(k:Nat) (c:Int),vs=[.int (k:Int),.int c]∧k < 6∧∀z H',Same H H'→Nm8 z→Q (.str z) H'
theorem ZBQ (T:Txt K mg t):FnS P w K mg base 3 "_law_name" ["_law_k","_law_cell"] (ZEL):=by
 refine⟨_,_,T.Zer.ok Zb0 (fun vs H Q E h=>?_) (fun cdv A outer s H vs Q E hr h=>?_),T.Zmq,T.Zer.kp,T.Zm6⟩
 ·obtain⟨k,c,rfl,hk6,q⟩:=h
  rfl
 obtain⟨k,c,rfl,hk6,q⟩:=h;have Zi4:=ZvC (P:=P) (w:=w) (base:=base) T
 refine⟨_,(Zab (ss 2 Zb0.nd Zal)
   (Zab (ss 3 Zb0.nd (Zai ZaR (pv 1) Zac))
   (Zab (ss 4 Zb0.nd (Zai Zay Zac (Zai ZaR (Zai ZaU (pv 1) Zac) Zac)))
   (Zab (ss 5 Zb0.nd (ZaE Zi4 hr (Zaa (pv 1) (Zaa Zac Zad))))
   (Zab (ZaB (Zaj (ZaA hr.units) (pv 3) Zac (Zan _))
   (Zab (ss 6 Zb0.nd (Zai ZaR (Zai ZaU (pv 1) Zac) (pv 4)))
   (Zab (ss 7 Zb0.nd (Zai Zay (ZcB F.plainAttrs_str F.slot_str_find F.type_str_find Zw6 (pv 2) (Zaa (Zav Zam (pv 5) (pv 6) (fun _ _=>rfl)) Zad)) (Zai ZcA (Zai Zay Zac (Zai ZcA Zac (Zai ZaR (Zai ZaU (pv 1) Zac) Zac))) (pv 0))))
   (Zae (Zao (Zai Zay (Zai Zay (Za9 Zc1 (pv 5) Zb5 (Zbn (pv 6))) (Zav Zam (pv 2) (Zai ZaR (pv 7) Zac) (fun _ _=>rfl))) (Za9 Zc1 (pv 5) (Zbn (Zai Zay (pv 6) Zac)) (Zbn (pv 4))))))))
   Zap)
   (Zab (ZaB (Zaj (ZaA hr.units) (pv 3) Zac (Zan _))
   (Zae (Zao (ZaE Zi4 hr (Zaa (Zai Zay (pv 1) (Zai ZcA Zac (pv 0))) (Zaa (Zai Zay Zac (Zai ZaR (Zai Zay (pv 4) (Zai ZcA Zac (pv 0))) Zac)) Zad)))))
   Zap)
   (Zab (ZaB (Zaj (ZaA hr.units) (pv 3) Zac (Zan _))
   (Zae (Zao (Za9 Zc1 (pv 5) Zb5 (Zbn (Zai Zay Zac (Zai ZaR (Zai Zay (pv 4) (pv 0)) Zac))))))
   Zap)
   (Zab (ZaB (Zaj (ZaA hr.units) (Zai ZaR (Zai ZaU (pv 1) Zac) Zac) Zac (Zan _))
   (Zab (ss 2 Zb0.nd (ZaO (ZvG (ZvG (Zaa Zal (Zaa Zal Zad))))))
   (Zae (Zao (Zav Zam (pv 2) (Zai ZaR (Zai Zay (pv 4) (pv 0)) Zac) (fun _ _=>rfl)))))
   Zap)
   (Zae (Zao (Zai Zay (Zav Zam (ZaO (ZvG (ZvG Zad))) (Zai ZaR (Zai Zay (pv 4) (pv 0)) Zac) (fun _ _=>rfl)) (Zav Zam (pv 5) (pv 0) (fun _ _=>rfl))))))))))))),?_⟩
 walk_at "rd0";refine⟨c,8,rfl,by omega,fun w hw hw8=>?_⟩;walk_at "";obtain⟨sz,hsz,hs1,hs8⟩ : ∃sz:Nat,1+c / 4 % 8=(sz:Int)∧1≤sz∧sz≤8:=⟨(1+c / 4 % 8).toNat,by omega,by omega,by omega⟩;rw[hsz];clear hsz;refine Zb7 (fun h0=>?_) (fun h0=>?_)
 ·walk_at ""
  obtain⟨pl,hpl,hps⟩ : ∃pl:Nat,c / 32 % (sz:Int)=(pl:Int)∧pl < sz:=by
   have v1:=Int.emod_nonneg (c / 32) (show(sz:Int)≠0 by omega);have v2:=Int.emod_lt_of_pos (c / 32) (show(0:Int) < (sz:Int) by omega);exact⟨(c / 32 % (sz:Int)).toNat,by omega,by omega⟩
  rw[hpl];clear hpl h0;refine⟨tyS,?_⟩;walk_at "";obtain⟨d,hd⟩:=Zsy (z:=w) (k:=pl) (by omega);refine Zve (Zc4 (by omega)) (ZgY hd) ?_;walk_at "";refine⟨_,_,rfl,rfl,?_⟩;walk_at "";refine Zgm (.inl ⟨by decide,by decide⟩) ?_;walk_at "";refine Zgm (.inr ⟨by omega,by omega⟩) ?_;walk_at "";refine ZyE (by omega) ?_;walk_at ""
  have l1:(Txt.slice w none (some (pl:Int))).length=pl:=by
   rcases PyProof.Rows.slice_ns_cases' w (pl:Int) with⟨a,b⟩ | ⟨a,b,c⟩ | ⟨a,b⟩ <;> omega
  refine ZFb fun e he26=>?_;refine Zlv (Zc4 (by show _+1≤_; omega)) ?_;walk_at "";refine ZyE (by omega) ?_
  have l2:(Txt.slice w (some ((pl:Int)+1)) (some (sz:Int))).length=sz - (pl+1):=by
   show(StrLaws.sliceText w (some ((pl:Int)+1)) (some (sz:Int))).length=_
   have hl0:w.cps.toList.length=w.length:=by simp[Str.length]
   rw[StrLaws.sliceText_plain (by refine⟨?_,?_,?_⟩ <;> omega)];show((w.cps.toList.drop _).take _).toArray.size=_;rw[List.size_toArray,length_take,length_drop];omega
  have l3:Str.length ⟨#[97+e]⟩=1:=rfl;refine Zlv (Zc4 (by rw[ZaT]; omega)) ?_;refine q _ _ (Same.refl _) ⟨ZgR (ZgR (Zl5 hw _ _) (Zt8 he26)) (Zl5 hw _ _),?_,?_⟩
  ·rw[ZaT,ZaT]; omega
  ·rw[ZaT,ZaT]; omega
 walk_at "";refine Zb7 (fun h1=>?_) (fun h1=>?_)
 ·walk_at ""
  refine Zgm (.inl ⟨by decide,by decide⟩) ?_;walk_at "";refine Zgm (.inl ⟨by decide,by decide⟩) ?_;walk_at "";obtain⟨e,he,he1,he8⟩ : ∃e:Nat,1+((sz:Int)+3 * (k:Int)) % 8=(e:Int)∧1≤e∧e≤8:=⟨(1+((sz:Int)+3 * (k:Int)) % 8).toNat,by omega,by omega,by omega⟩;rw[he];clear he;refine⟨_,e,rfl,by omega,fun z hz hzl=>?_⟩;exact q _ _ (Same.refl _) ⟨hz,by omega,by omega⟩
 walk_at "";refine Zb7 (fun h2=>?_) (fun h2=>?_)
 ·walk_at ""
  refine ZyE (by omega) ?_;refine q _ _ (Same.refl _) ⟨Zl5 hw _ _,?_,?_⟩
  ·rcases PyProof.Rows.slice_ns_cases' w (1+((sz:Int)+(k:Int)) % 8) with⟨a,b⟩ | ⟨a,b,c⟩ | ⟨a,b⟩ <;> omega
  ·have:=Txt.slice_le w none (some (1+((sz:Int)+(k:Int)) % 8))
   omega
 walk_at "";refine Zb7 (fun h3=>?_) (fun h3=>?_)
 ·walk_at ""
  refine ZbW (by simp) fun l1 H1 s1 n1 e1=>?_;walk_at "";obtain⟨e,he,he10⟩ : ∃e:Nat,((sz:Int)+(k:Int)) % 10=(e:Int)∧e < 10:=⟨(((sz:Int)+(k:Int)) % 10).toNat,by omega,by omega⟩;rw[he];clear he;obtain⟨z,hz,ok⟩:=ZBA e he10;obtain⟨o1,o2,o3⟩:=ZAt ok;exact ZbJ e1 (ZAp hz) (q _ _ s1 ⟨o1,o2,by omega⟩)
 ·walk_at ""
  refine ZbW (by simp) fun l1 H1 s1 n1 e1=>?_;walk_at "";obtain⟨e,he,he10⟩ : ∃e:Nat,((sz:Int)+(k:Int)) % 8=(e:Int)∧e < 8:=⟨(((sz:Int)+(k:Int)) % 8).toNat,by omega,by omega⟩;rw[he];clear he;obtain⟨z,hz,ok⟩:=ZBu e he10;obtain⟨o1,o2,o3⟩:=ZAt ok;refine ZbJ e1 (ZAp hz) ?_;walk_at "";obtain⟨d,hd⟩:=Zsy (z:=w) (k:=k) (by omega);refine Zve (Zc4 (by omega)) (ZgY hd) ?_;have hd2:=hw d (mem_of_getElem? hd);have l3:Str.length ⟨#[d]⟩=1:=rfl;refine Zlv (Zc4 (by omega)) ?_;refine q _ _ s1 ⟨ZgR o1 (fun x hx=>?_),by rw[ZaT]; omega,by rw[ZaT]; omega⟩;have hx:x∈[d]:=hx;rw[mem_singleton.mp hx];exact hd2
unseal PE PA PS PSs
def ZCl:Sp:=fun vs H Q _=>∃(z:Str) (l:Addr) (ns:List Str),vs=[.str z,.ref l]∧H l=some (.lst (ns.map V.str))∧ns.length≤5∧Nm8 z∧∀z' H',Same H H'→Nm8 z'→z'∉ns→z'∉Zhh→Q (.str z') H'
theorem ZyJ:Zhh.length=8:=rfl
theorem Zy1 (T:Txt K mg t):FnS P w K mg base 1 "_law_fresh" ["_law_name_here","_law_names_here"] (ZCl):=by
 refine⟨_,_,T.Zdw.ok ZhA (fun vs H Q E h=>?_) (fun cdv A outer s H vs Q E hr h=>?_),T.Zlk,T.Zdw.kp,T.ZlB⟩
 ·obtain⟨z,l,ns,rfl,hl,hn5,⟨hz,hz1,hz2⟩,q⟩:=h
  rfl
 obtain⟨z,l,ns,rfl,hl,hn5,⟨hz,hz1,hz2⟩,q⟩:=h;obtain⟨c,hc,ez⟩:=Zwf hz1 hz;generalize eu:Txt.slice z none (some (-1))=u at ez
 have hu:Lt u:=by rw[←eu]; exact Zl5 hz _ _
 have hul:u.length+1=z.length:=by rw[ez]; unfold rot; rw[ZaT]; rfl
 have hrl:∀j,(rot u c j).length=u.length+1:=fun j=>by unfold rot; rw[ZaT]; rfl
 refine⟨_,(Zab (ss 2 ZhA.nd Zal)
   (Zab (ZpF PassesOwn.never (PW.pt (Zih (Zaj Zni (pv 0) (pv 1) (by with_unfolding_all rfl)) (ZfT (Zaj Zni (pv 0) (Zc0 (ZvG (ZvG Zad))) (by with_unfolding_all rfl)))))
   (Zae (ss 0 ZhA.nd (Zai Zay (Za9 Zc1 (pv 0) Zb5 (Zbn (Ztj ZoK Zac))) (Zav Zam (pv 2) (Zai ZaR (Zai Zay (ZcB F.plainAttrs_str F.slot_str_find F.type_str_find Zw6 (pv 2) (Zaa (Zav Zam (pv 0) (Ztj ZoK Zac) (fun _ _=>rfl)) Zad)) Zac) Zac) (fun _ _=>rfl))))))
   (Zae (Zao (pv 0))))),?_⟩
 walk_at "rd0";refine⟨fun m σ H'=>∃j,m+j=14∧j≤13∧Same H H'∧(∀i,i < j→rot u c i∈ns++Zhh)∧σ=[some (.str (rot u c j)),some (.ref l),some (.str "abcdefghijklmnopqrstuvwxyz")],⟨14,0,rfl,by omega,Same.refl _,fun i hi=>absurd hi (by omega),by rw[←ez]⟩,?_⟩;rintro m σ H1 ⟨j,hm,hj,s1,hin,rfl⟩
 have go:rot u c j∈ns++Zhh→j+1≤13:=fun h=>by
  have:=Zxw (rot u c) (j+1) (ns++Zhh) (fun i hi=>by
   rcases(show i=j∨i < j by omega) with rfl | h'
   ·exact h
   ·exact hin i h') (fun i i' h1 h2=>ZEs h1 (by omega))
  rw[length_append,ZyJ]at this;omega
 have step:∀(H2:Hp),Same H1 H2→rot u c j∈ns++Zhh→∃N:St→Hp→Prop,(∀σ' H',N σ' H'→∃m',m' < m∧∃j,m'+j=14∧j≤13∧Same H H'∧(∀i,i < j→rot u c i∈ns++Zhh)∧σ'=[some (.str (rot u c j)),some (.ref l),some (.str "abcdefghijklmnopqrstuvwxyz")])∧∀σ' H',σ'=[some (.str (rot u c (j+1))),some (.ref l),some (.str "abcdefghijklmnopqrstuvwxyz")]→Same H H'→N σ' H':=fun H2 s2 h=>by
  have:=go h;refine⟨fun σ' H'=>Same H H'∧σ'=[some (.str (rot u c (j+1))),some (.ref l),some (.str "abcdefghijklmnopqrstuvwxyz")],fun σ' H' ⟨a,b⟩=>⟨m - 1,by omega,j+1,by omega,this,a,fun i hi=>?_,b⟩,fun σ' H' a b=>⟨b,a⟩⟩
  rcases(show i=j∨i < j by omega) with rfl | h'
  ·exact h
  ·exact hin i h'
 have nxt:Txt.slice (rot u c j) none (some (-1))++(⟨#[97+(c+j+1) % 26]⟩ : Str)=rot u c (j+1):=by rw[ZxH]; rfl
 have h1:=hrl j;walk_at ""
 have bod:∀(H2:Hp) (N:St→Hp→Prop) (rt:VK) (bk:St→Hp→Prop),Same H1 H2→(∀σ' H',σ'=[some (.str (rot u c (j+1))),some (.ref l),some (.str "abcdefghijklmnopqrstuvwxyz")]→Same H H'→N σ' H')→tAsg (tOp ZpG (tSl (rSlA K) (tVar 0) Ztx (ZCC (tUn (rU fun i=>V.int (-i)) (tC (.int 1))))) (tOp (rIx K) (tVar 2) (tOp (rI (fun x j=>0 < j) fun i j=>V.int (i % j)) (tOp ZpG (tBM K "str" ZEj (tVar 2) (Zla (tOp (rIx K) (tVar 0) (tUn (rU fun i=>V.int (-i)) (tC (.int 1)))) tNil)) (tC (.int 1))) (tC (.int 26))))) (ZmJ 0) { nx:=N,rt:=rt,bk:=bk,ct:=N } [some (.str (rot u c j)),some (.ref l),some (.str "abcdefghijklmnopqrstuvwxyz")] H2:=fun H2 N rt bk s2 n2=>by
  walk_at "";refine ZyE (by omega) ?_;walk_at "";refine⟨tyS,?_⟩;walk_at "";refine Zve (Zc4 (by omega)) (Zzk u c j) ?_;walk_at "";refine⟨_,_,rfl,rfl,?_⟩;walk_at "";have e0:Txt.find "abcdefghijklmnopqrstuvwxyz" ⟨#[97+(c+j) % 26]⟩=(((c+j) % 26:Nat):Int):=ZyO _ (by omega);rw[e0]
  have e1:((((c+j) % 26:Nat):Int)+1) % 26=(((c+j+1) % 26:Nat):Int):=by omega
  rw[e1];refine Zve (by decide) (ZgY (ZwW _ (by omega))) ?_;have l3:=Txt.slice_le (rot u c j) none (some (-1));refine Zlv (Zc4 (by show _+1≤_; omega)) ?_;walk_at "";exact n2 _ _ (by rw[nxt]) (s1.trans s2)
 have memD:rot u c j∈ns++Zhh→Lt (rot u c j):=fun _=>ZgR hu (Zt8 (by omega));walk_at "";refine ZyD (.inl (s1 _ _ hl)) ?_;walk_at "";refine Zb7 (fun hA=>?_) (fun hA=>?_)
 ·obtain⟨N,n1,n2⟩:=step H1 (Same.refl _) (List.mem_append_left _ hA)
  refine ZbT rfl ⟨N,n1,?_⟩;exact bod H1 N _ _ (Same.refl _) n2
 ·walk_at ""
  refine ZfY (by simp) fun l1 H2 s2 n2 e2=>?_;refine ZyD (ns:=Zhh) (.inr e2) ?_;walk_at "";refine Zb7 (fun hB=>?_) (fun hB=>?_)
  ·obtain⟨N,n1,n2⟩:=step H2 s2 (List.mem_append_right _ hB)
   refine⟨N,n1,?_⟩;exact bod H2 N _ _ s2 n2
  ·walk_at ""
   exact q _ _ (s1.trans s2) ⟨ZgR hu (Zt8 (by omega)),by omega,by omega⟩ hA hB
def ZCq:Sp:=fun vs H Q _=>∃(m:Nat) (c:Int),vs=[.int (m:Int),.int c]∧m≤6∧∀(l:Addr) (ns:List Str) (H':Hp),Same H H'→H l=none→H' l=some (.lst (ns.map V.str))→ns.length=m→(∀z∈ns,Nm8 z∧z∉Zhh)→ns.Nodup→Q (.ref l) H'
theorem Zy4 (T:Txt K mg t):FnS P w K mg base 5 "_law_names" ["_law_many","_law_cell"] (ZCq):=by
 refine⟨_,_,T.ZdA.ok ZhB (fun vs H Q E h=>?_) (fun cdv A outer s H vs Q E hr h=>?_),T.Zlo,T.ZdA.kp,T.ZlF⟩
 ·obtain⟨m,c,rfl,hm6,q⟩:=h
  rfl
 obtain⟨m,c,rfl,hm6,q⟩:=h;have Zr6:=ZBQ (P:=P) (w:=w) (base:=base) T;have Zp5:=Zy1 (P:=P) (w:=w) (base:=base) T
 refine⟨_,(Zab (ss 2 ZhB.nd (ZaO Zad))
   (Zab (ZaS PassesOwn.never rfl (ZaZ rfl T.B.range (Zaa (pv 0) Zad)) (sg 3 ZhB.nd)
   (Zae (ZaQ (ZcB F.plainAttrs_list F.slot_list_append F.type_list_append ZaK (pv 2) (Zaa (ZaE Zp5 hr (Zaa (ZaE Zr6 hr (Zaa (pv 3) (Zaa (pv 1) Zad))) (Zaa (pv 2) Zad))) Zad)))))
   (Zae (Zao (pv 2))))),?_⟩
 walk_at "rd0";refine ZbW (by simp) fun l H1 s1 n1 e1=>?_;walk_at "";refine⟨_,rfl,by omega,by omega,?_⟩;rw[show((m:Int)).toNat=m by omega];refine Zly (n:=m) (fun i σ H'=>∃(ns:List Str) (v:Option V),Same H H'∧H' l=some (.lst (ns.map V.str))∧ns.length=i∧(∀z∈ns,Nm8 z∧z∉Zhh)∧ns.Nodup∧σ=[some (.int (m:Int)),some (.int c),some (.ref l),v]) ⟨[],_,s1,e1,rfl,(fun z hz=>by cases hz),nodup_nil,rfl⟩ ?_ ?_
 ·rintro i σ H2 hi ⟨ns,v,s2,e2,hl2,hn2,hd2,rfl⟩
  walk_at "";refine⟨tyL e2,?_⟩;walk_at "";refine⟨i,c,rfl,by omega,fun z H3 s3 hz=>?_⟩;walk_at "";refine⟨z,l,ns,rfl,s3 _ _ e2,by omega,hz,fun z' H4 s4 hz4 hn4 hk4=>?_⟩;walk_at "";refine Za5 (s4 _ _ (s3 _ _ e2)) (by rw[length_map]; omega) fun H5 b5 e5=>?_;walk_at "";refine⟨ns++[z'],_,b5.same n1 (s2.trans (s3.trans s4)),by rw[e5,map_append]; rfl,by rw[length_append]; simp[hl2],fun y hy=>?_,?_,rfl⟩
  ·rcases mem_append.mp hy with h | h
   ·exact hn2 y h
   ·rw[mem_singleton.mp h]; exact⟨hz4,hk4⟩
  ·rw[nodup_append]
   refine⟨hd2,by simp,fun a ha b hb e=>?_⟩;rw[mem_singleton.mp hb]at e;rw[e]at ha;exact hn4 ha
 ·rintro σ H2 ⟨ns,v,s2,e2,hl2,hn2,hd2,rfl⟩
  walk_at "";exact q l ns H2 s2 n1 e2 hl2 hn2 hd2
end
theorem ZuA (p:Nat→Bool):∀n:Nat,((((List.range n).filter p).map fun s=>((2 ^ s:Nat):Int)).sum:Int)=((bits p n:Nat):Int)
 | 0=>by simp[bits]
 | n+1=>by
  have ih:=ZuA p n;rw[Zjn,map_append,List.sum_append,ih]
  by_cases h:p n=true
  ·rw[if_pos h]
   simp[bits,h]
  ·rw[if_neg h]
   simp[bits,h]
theorem ZCz {x n:Nat} (h:x < 2 ^ n):(2 ^ n - 1) - x=(2 ^ n - 1) ^^^ x:=by
 apply Nat.eq_of_testBit_eq;intro i;rw[Nat.testBit_xor,show 2 ^ n - 1 - x=2 ^ n - (x+1) by omega,Nat.testBit_two_pow_sub_succ h,Nat.testBit_two_pow_sub_one]
 by_cases hi:i < n
 ·rw[decide_eq_true hi]; simp
 ·rw[decide_eq_false hi,Nat.testBit_lt_two_pow (Nat.lt_of_lt_of_le h (Nat.pow_le_pow_right (by decide) (by omega)))]
  rfl
theorem Zom (v:W3) (n:Nat):∀(fs A:List Fm),(fs.map fun f=>f.crowd n).foldl (ZuX v) ((Fm.join v A).crowd n)=(Fm.join v (A++fs)).crowd n
 | [],A=>by rw[append_nil]; rfl
 | f::fs,A=>by
  show(fs.map fun f=>f.crowd n).foldl (ZuX v) (ZuX v ((Fm.join v A).crowd n) (f.crowd n))=_;rw[←ZdW,Zom v n fs (A++[f]),append_assoc];rfl
theorem Zv2 (s k:Nat):decide ((s:Int) / ((2 ^ k:Nat):Int) % 2=1)=s.testBit k:=by
 have e:(s:Int) / ((2 ^ k:Nat):Int) % 2=((s / 2 ^ k % 2:Nat):Int):=by
  rw[←Int.natCast_ediv]; omega
 rw[e,Nat.testBit_eq_decide_div_mod_eq];exact decide_eq_decide.mpr (by omega)
def cmb (z:Str) (a b:Nat):Nat:=if z = "and" then a &&& b else if z = "or" then a ||| b else a ^^^ b
seal PE PA PS PSs
section
variable {P:Program} {w:World} {K:W.Frag} {mg:Str→Option Value} {base:Heap} {t:Ad} {n:Nat}
def crT (m:Nat) (t:Tr):Nat:=(fmT id t).crowd (2 ^ m)
theorem ZCT (m:Nat) (t:Tr):crT m t < 2 ^ 2 ^ m:=Zkz _ _
def Zuu (n:Nat):Sp:=fun vs H Q _=>∃(p:Addr) (m:Nat) (tr:Tr),vs=[.ref p,.int (m:Int)]∧m≤6∧TwAt anyA H n p tr∧okT m tr=true∧nT tr≤61∧∀H',Same H H'→Q (.int (crT m tr:Int)) H'
theorem ZtD (T:Txt K mg t):∀n:Nat,FnS P w K mg base (n+1) "_law_crowd" ["_law_tree","_law_many"] (Zuu n)
 | 0=>by
  have no:∀vs H Q E,¬Zuu 0 vs H Q E:=fun vs H Q E h=>by
   obtain⟨p,m,tr,_,_,h,_⟩:=h;exact h
  exact⟨_,_,⟨fun vs H Q E h=>absurd h (no vs H Q E),fun A outer s H args us vs Q E _ _ _ _ h=>absurd h (no vs H Q E)⟩,T.ZhX,T.Zcq.kp,T.Zib⟩
 | n+1=>by
  have Zbp:=ZtD T n;refine⟨_,_,T.Zcq.ok Zas (fun vs H Q E h=>?_) (fun cdv A outer s H vs Q E hr h=>?_),T.ZhX,T.Zcq.kp,T.Zib⟩
  ·obtain⟨p,m,tr,rfl,_⟩:=h
   rfl
  obtain⟨p,m,tr,rfl,hm,hT,hok,hnT,q⟩:=h;have hp2:=ZbV hm;have hp0:=Int.natCast_nonneg (2 ^ m)
  have eW:((2 ^ 2 ^ m:Nat):Int) - 1=((2 ^ 2 ^ m - 1:Nat):Int):=by
   have:1≤2 ^ 2 ^ m:=Nat.one_le_two_pow;omega
  have body:∀(z:Str) (l p0:Addr) (ps:List Addr) (g0:Tr) (gs:List Tr),z≠"lamp"→z≠"sure"→z≠"not"→H p=some (.tup [.str z,.ref l])→H l=some (.lst ((p0::ps).map V.ref))→Paired (TwAt anyA H n) (p0::ps) (g0::gs)→(∀g∈g0::gs,okT m g=true)→nTL (g0::gs)≤60→(gs.map (crT m)).foldl (cmb z) (crT m g0)=crT m tr→∃tb,PSs (cxOf CX0 P w K mg base ["_law_tree","_law_many","_law_every","_law_found","_law_part","_law_one"] "_law_crowd" (Zah ZbE) t.Zcx cdv A outer s H E).nox (ZfO ZbE) tb∧tb { nx:=fun _ H'=>Q V.non H',rt:=Q } (L2.start ["_law_tree","_law_many","_law_every","_law_found","_law_part","_law_one"] [.ref p,.int (m:Int)]) H:=by
   intro z l p0 ps g0 gs nz1 nz2 nz3 e1 e2 hps hgs hng hfold
   cases hps with
   | cons h0 hps=>
   have hgl:=Zak hps;have g0n:=Zuf (mem_cons_self (a:=g0) (l:=gs))
   refine⟨_,(Zab (ZaB (Zaj (ZaA hr.units) (Zav Zam (pv 0) Zac (fun _ _=>rfl)) Zal (Zan _))
   (Zae (Zao (Zaw (ZhZ rfl) rfl T.B.sum Zqv (Zaa (ZfR (sc:=Zah ZbE) (N:=["_law_tree","_law_many","_law_every","_law_found","_law_part","_law_one"]) (ns:=["_law_tree"]) (ix:=[0]) rfl rfl (by decide +kernel) rfl (ZaZ rfl T.B.range (Zaa (Zai Zba Zac (pv 1)) Zad)) (fun _ _ _ _=>(Zig (Zaj (ZaA hr.units) (Zai ZaR (Zai ZaU (pv 0) (Zai Zba Zac (Zav (Zd4 (K:=K) rfl) (pv 1) Zac (fun _ _=>rfl)))) Zac) Zac (Zan _)))) (fun _ _ _ _=>(Zai Zba Zac (pv 0)))) Zad))))
   Zap)
   (Zab (ss 2 Zas.nd (Zai ZfQ (Zai Zba Zac (Zai Zba Zac (pv 1))) Zac))
   (Zab (ZaB (Zaj (ZaA hr.units) (Zav Zam (pv 0) Zac (fun _ _=>rfl)) Zal (Zan _))
   (Zae (Zao (Zai ZcA (pv 2) (Zbb Zc8 rfl T.B.int ZhH (Zaa (Zav Zam (pv 0) Zac (fun _ _=>rfl)) Zad)))))
   Zap)
   (Zab (ss 3 Zas.nd (ZaE Zbp hr (Zaa (Zav Zam (Zav Zam (pv 0) Zac (fun _ _=>rfl)) Zac (fun _ _=>rfl)) (Zaa (pv 1) Zad))))
   (Zab (ZaB (Zaj (ZaA hr.units) (Zav Zam (pv 0) Zac (fun _ _=>rfl)) Zal (Zan _))
   (Zae (Zao (Zai ZfQ (pv 2) (pv 3))))
   Zap)
   (Zab (ZaS PassesOwn.never rfl (Za6 (Za9 Zc1 (Zav Zam (pv 0) Zac (fun _ _=>rfl)) (Zbn Zac) Zb5)) (sg 4 Zas.nd)
   (Zab (ss 5 Zas.nd (ZaE Zbp hr (Zaa (pv 4) (Zaa (pv 1) Zad))))
   (Zae (ZaB (Zaj (ZaA hr.units) (Zav Zam (pv 0) Zac (fun _ _=>rfl)) Zal (Zan _))
   (Zae (ss 3 Zas.nd (Zai ZlM (pv 3) (pv 5))))
   (Zae (ZaB (Zaj (ZaA hr.units) (Zav Zam (pv 0) Zac (fun _ _=>rfl)) Zal (Zan _))
   (Zae (ss 3 Zas.nd (Zai ZlY (pv 3) (pv 5))))
   (Zae (ss 3 Zas.nd (Zai ZoD (pv 3) (pv 5))))))))))
   (Zae (Zao (pv 3))))))))),?_⟩
   walk_at "rd0";refine Za8 e1 (v:=.str z) rfl ?_;walk_at "";refine ZaI (decide_eq_false nz1) ?_;walk_at "";rw[Zbj];refine i_rI ⟨by omega,by omega,by decide⟩ ?_;walk_at "";rw[Zbj,eW];refine Za8 e1 (v:=.str z) rfl ?_;walk_at "";refine ZaI (decide_eq_false nz2) ?_;walk_at "";refine Za8 e1 (v:=.ref l) rfl ?_;walk_at "";refine ZbJ (j:=0) (v:=.ref p0) e2 rfl ?_;walk_at "";refine⟨p0,m,g0,rfl,hm,h0,hgs g0 mem_cons_self,by omega,fun H1 s1=>?_⟩;walk_at "";refine Za8 (s1 _ _ e1) (v:=.str z) rfl ?_;walk_at "";refine ZaI (decide_eq_false nz3) ?_;walk_at "";refine Za8 (s1 _ _ e1) (v:=.ref l) rfl ?_;walk_at "";refine .inl (ZFg (s1 _ _ e2) fun sl hsl=>?_);rw[show cutV ((p0::ps).map V.ref) (some 1) none=ps.map V.ref from ZdX (k:=1) (by simp)];have s2:Same H (upd H1 sl (.lst (ps.map V.ref))):=s1.trans (Zcp hsl _);have e3:(upd H1 sl (.lst (ps.map V.ref))) sl=some (.lst (ps.map V.ref)):=Zax;generalize upd H1 sl (.lst (ps.map V.ref))=H2 at s2 e3 ⊢;refine seqL (xs:=ps.map V.ref) (fun i σ H'=>Same H2 H'∧∃v4 v5,σ=[some (.ref p),some (.int (m:Int)),some (.int ((2 ^ 2 ^ m - 1:Nat):Int)),some (.int ((((gs.take i).map (crT m)).foldl (cmb z) (crT m g0):Nat):Int)),v4,v5]) ⟨Same.refl _,_,_,rfl⟩ (fun i σ H' _ hp=>by obtain⟨s',_⟩:=hp; exact SqL.of (s' _ _ e3)) ?_ ?_
   ·rintro i x σ H4 hx ⟨s4,v4,v5,rfl⟩
    obtain⟨pa,rfl,hpa⟩:=Zbf hx;obtain⟨g,hg,hga⟩:=Zbt hps hpa;have gm:g∈g0::gs:=mem_cons_of_mem _ (mem_of_getElem? hg);have gn:=Zuf gm
    have nx:((gs.take (i+1)).map (crT m)).foldl (cmb z) (crT m g0)=cmb z (((gs.take i).map (crT m)).foldl (cmb z) (crT m g0)) (crT m g):=by rw[ZaD hg,map_append,foldl_append]; rfl
    rw[nx];generalize ((gs.take i).map (crT m)).foldl (cmb z) (crT m g0)=F;have s24:=s2.trans s4;walk_at "";refine⟨pa,m,g,rfl,hm,hga.same s24,hgs g gm,by omega,fun H5 s5=>?_⟩;have s45:=s24.trans s5;walk_at "";refine Za8 (s45 _ _ e1) (v:=.str z) rfl ?_;walk_at "";refine Zb7 (fun ha=>?_) (fun ha=>?_)
    ·walk_at ""
     refine⟨s4.trans s5,some (.ref pa),some (.int (crT m g:Int)),?_⟩;rw[Zkv];unfold cmb;rw[if_pos ha]
    ·walk_at ""
     refine Za8 (s45 _ _ e1) (v:=.str z) rfl ?_;walk_at "";refine Zb7 (fun ho=>?_) (fun ho=>?_)
     ·walk_at ""
      refine⟨s4.trans s5,some (.ref pa),some (.int (crT m g:Int)),?_⟩;rw[Zjf];unfold cmb;rw[if_neg ha,if_pos ho]
     ·walk_at ""
      refine⟨s4.trans s5,some (.ref pa),some (.int (crT m g:Int)),?_⟩;rw[ZtB];unfold cmb;rw[if_neg ha,if_neg ho]
   ·rintro σ H4 ⟨s4,v4,v5,rfl⟩
    rw[length_map,hgl,take_length,hfold];walk_at "";exact q H4 (s2.trans s4)
  cases tr with
  | lamp k=>
   have hp:H p=some (.tup [.str "lamp",.int (k:Int)]):=hT
   have hk:k < m:=by simpa [okT] using hok
   refine⟨_,(Zab (ZaB (Zaj (ZaA hr.units) (Zav Zam (pv 0) Zac (fun _ _=>rfl)) Zal (Zan _))
   (Zae (Zao (Zaw (ZhZ rfl) rfl T.B.sum Zqv (Zaa (ZfR (sc:=Zah ZbE) (N:=["_law_tree","_law_many","_law_every","_law_found","_law_part","_law_one"]) (ns:=["_law_tree"]) (ix:=[0]) rfl rfl (by decide +kernel) rfl (ZaZ rfl T.B.range (Zaa (Zai Zba Zac (pv 1)) Zad)) (fun _ _ _ _=>(Zig (Zaj (ZaA hr.units) (Zai ZaR (Zai ZaU (pv 0) (Zai Zba Zac (Zav (Zd4 (K:=K) rfl) (pv 1) Zac (fun _ _=>rfl)))) Zac) Zac (Zan _)))) (fun _ _ _ _=>(Zai Zba Zac (pv 0)))) Zad))))
   Zap)
   (Zab (ss 2 Zas.nd (Zai ZfQ (Zai Zba Zac (Zai Zba Zac (pv 1))) Zac))
   (Zab (ZaB (Zaj (ZaA hr.units) (Zav Zam (pv 0) Zac (fun _ _=>rfl)) Zal (Zan _))
   (Zae (Zao (Zai ZcA (pv 2) (Zbb Zc8 rfl T.B.int ZhH (Zaa (Zav Zam (pv 0) Zac (fun _ _=>rfl)) Zad)))))
   Zap)
   (Zab (ss 3 Zas.nd (ZaE Zbp hr (Zaa (Zav Zam (Zav Zam (pv 0) Zac (fun _ _=>rfl)) Zac (fun _ _=>rfl)) (Zaa (pv 1) Zad))))
   (Zab (ZaB (Zaj (ZaA hr.units) (Zav Zam (pv 0) Zac (fun _ _=>rfl)) Zal (Zan _))
   (Zae (Zao (Zai ZfQ (pv 2) (pv 3))))
   Zap)
   (Zab (ZaS PassesOwn.never rfl (Za6 (Za9 Zc1 (Zav Zam (pv 0) Zac (fun _ _=>rfl)) (Zbn Zac) Zb5)) (sg 4 Zas.nd)
   (Zab (ss 5 Zas.nd (ZaE Zbp hr (Zaa (pv 4) (Zaa (pv 1) Zad))))
   (Zae (ZaB (Zaj (ZaA hr.units) (Zav Zam (pv 0) Zac (fun _ _=>rfl)) Zal (Zan _))
   (Zae (ss 3 Zas.nd (Zai ZlM (pv 3) (pv 5))))
   (Zae (ZaB (Zaj (ZaA hr.units) (Zav Zam (pv 0) Zac (fun _ _=>rfl)) Zal (Zan _))
   (Zae (ss 3 Zas.nd (Zai ZlY (pv 3) (pv 5))))
   (Zae (ss 3 Zas.nd (Zai ZoD (pv 3) (pv 5))))))))))
   (Zae (Zao (pv 3))))))))),?_⟩
   walk_at "rd0";refine Za8 hp (v:=.str "lamp") rfl ?_;walk_at "";refine ZbT rfl ?_;walk_at "";rw[Zbj];refine⟨_,rfl,by omega,by omega,?_⟩;rw[Int.toNat_natCast];refine Zgv (fun i ys=>ys=(((List.range i).filter fun s=>s.testBit k).map fun s=>((2 ^ s:Nat):Int)).map V.int) (Zgr 0 (2 ^ m) H) (by simp; omega) rfl ?_ ?_
   ·intro i x ys acc H' hx s1 hacc ea hy _ R kk
    obtain⟨hi,rfl⟩:=ZfG hx;rw[Int.zero_add];rw[Int.zero_add]at kk;simp only [subS,map_cons,map_nil];walk_at "";refine Za8 (s1 _ _ hp) (v:=.int (k:Int)) rfl ?_;refine i_rI ⟨by omega,by omega,by decide⟩ ?_;rw[Zbj];have hkp:1≤2 ^ k:=Nat.one_le_two_pow;have hk64:=ZbV (show k≤6 by omega);refine i_rI (by show ZAJ _ _; unfold ZAJ; omega) ?_;walk_at "";rw[Zv2];refine kk _ H' (Same.refl _) (fun z=>?_) fun z R2 k2=>?_
    ·rw[Zjn,z,if_neg Bool.false_ne_true,append_nil]
     exact hy
    ·walk_at ""
     rw[Zbj];refine k2 _ H' (Same.refl _) ?_;rw[Zjn,z,if_pos rfl,hy];rw[map_append,map_append];rfl
   intro dl ys H3 n3 s3 e3 hy;rw[length_map,length_range]at hy;subst hy;walk_at "";refine ZDu (SqL.of e3) ?_;rw[ZuA];exact q H3 s3
  | sure c=>
   have hp:H p=some (.tup [.str "sure",.bl c]):=hT
   refine⟨_,(Zab (ZaB (Zaj (ZaA hr.units) (Zav Zam (pv 0) Zac (fun _ _=>rfl)) Zal (Zan _))
   (Zae (Zao (Zaw (ZhZ rfl) rfl T.B.sum Zqv (Zaa (ZfR (sc:=Zah ZbE) (N:=["_law_tree","_law_many","_law_every","_law_found","_law_part","_law_one"]) (ns:=["_law_tree"]) (ix:=[0]) rfl rfl (by decide +kernel) rfl (ZaZ rfl T.B.range (Zaa (Zai Zba Zac (pv 1)) Zad)) (fun _ _ _ _=>(Zig (Zaj (ZaA hr.units) (Zai ZaR (Zai ZaU (pv 0) (Zai Zba Zac (Zav (Zd4 (K:=K) rfl) (pv 1) Zac (fun _ _=>rfl)))) Zac) Zac (Zan _)))) (fun _ _ _ _=>(Zai Zba Zac (pv 0)))) Zad))))
   Zap)
   (Zab (ss 2 Zas.nd (Zai ZfQ (Zai Zba Zac (Zai Zba Zac (pv 1))) Zac))
   (Zab (ZaB (Zaj (ZaA hr.units) (Zav Zam (pv 0) Zac (fun _ _=>rfl)) Zal (Zan _))
   (Zae (Zao (Zai ZcA (pv 2) (Zbb Zc8 rfl T.B.int ZhH (Zaa (Zav Zam (pv 0) Zac (fun _ _=>rfl)) Zad)))))
   Zap)
   (Zab (ss 3 Zas.nd (ZaE Zbp hr (Zaa (Zav Zam (Zav Zam (pv 0) Zac (fun _ _=>rfl)) Zac (fun _ _=>rfl)) (Zaa (pv 1) Zad))))
   (Zab (ZaB (Zaj (ZaA hr.units) (Zav Zam (pv 0) Zac (fun _ _=>rfl)) Zal (Zan _))
   (Zae (Zao (Zai ZfQ (pv 2) (pv 3))))
   Zap)
   (Zab (ZaS PassesOwn.never rfl (Za6 (Za9 Zc1 (Zav Zam (pv 0) Zac (fun _ _=>rfl)) (Zbn Zac) Zb5)) (sg 4 Zas.nd)
   (Zab (ss 5 Zas.nd (ZaE Zbp hr (Zaa (pv 4) (Zaa (pv 1) Zad))))
   (Zae (ZaB (Zaj (ZaA hr.units) (Zav Zam (pv 0) Zac (fun _ _=>rfl)) Zal (Zan _))
   (Zae (ss 3 Zas.nd (Zai ZlM (pv 3) (pv 5))))
   (Zae (ZaB (Zaj (ZaA hr.units) (Zav Zam (pv 0) Zac (fun _ _=>rfl)) Zal (Zan _))
   (Zae (ss 3 Zas.nd (Zai ZlY (pv 3) (pv 5))))
   (Zae (ss 3 Zas.nd (Zai ZoD (pv 3) (pv 5))))))))))
   (Zae (Zao (pv 3))))))))),?_⟩
   walk_at "rd0";refine Za8 hp (v:=.str "sure") rfl ?_;walk_at "";refine ZaI rfl ?_;walk_at "";rw[Zbj];refine i_rI ⟨by omega,by omega,by decide⟩ ?_;walk_at "";rw[Zbj,eW];refine Za8 hp (v:=.str "sure") rfl ?_;walk_at "";refine ZbT rfl ?_;walk_at "";refine Za8 hp (v:=.bl c) rfl ?_;walk_at "";refine Zgm (.inr ?_) ?_
   ·cases c <;> exact⟨by decide,by decide⟩
   have e:((2 ^ 2 ^ m - 1:Nat):Int) * (if c=true then 1 else 0)=(crT m (.sure c):Int):=by
    have e3:crT m (.sure c)=if c then 2 ^ 2 ^ m - 1 else 0:=Zon _ _;rw[e3]
    cases c <;> simp
   rw[e];exact q H (Same.refl _)
  | neg g=>
   obtain⟨l,q',e1,_,e2,hq⟩:=hT;have hn1:nT (.neg g)=1+nT g:=rfl
   have hg6:okT m g=true:=by simpa [okT] using hok
   refine⟨_,(Zab (ZaB (Zaj (ZaA hr.units) (Zav Zam (pv 0) Zac (fun _ _=>rfl)) Zal (Zan _))
   (Zae (Zao (Zaw (ZhZ rfl) rfl T.B.sum Zqv (Zaa (ZfR (sc:=Zah ZbE) (N:=["_law_tree","_law_many","_law_every","_law_found","_law_part","_law_one"]) (ns:=["_law_tree"]) (ix:=[0]) rfl rfl (by decide +kernel) rfl (ZaZ rfl T.B.range (Zaa (Zai Zba Zac (pv 1)) Zad)) (fun _ _ _ _=>(Zig (Zaj (ZaA hr.units) (Zai ZaR (Zai ZaU (pv 0) (Zai Zba Zac (Zav (Zd4 (K:=K) rfl) (pv 1) Zac (fun _ _=>rfl)))) Zac) Zac (Zan _)))) (fun _ _ _ _=>(Zai Zba Zac (pv 0)))) Zad))))
   Zap)
   (Zab (ss 2 Zas.nd (Zai ZfQ (Zai Zba Zac (Zai Zba Zac (pv 1))) Zac))
   (Zab (ZaB (Zaj (ZaA hr.units) (Zav Zam (pv 0) Zac (fun _ _=>rfl)) Zal (Zan _))
   (Zae (Zao (Zai ZcA (pv 2) (Zbb Zc8 rfl T.B.int ZhH (Zaa (Zav Zam (pv 0) Zac (fun _ _=>rfl)) Zad)))))
   Zap)
   (Zab (ss 3 Zas.nd (ZaE Zbp hr (Zaa (Zav Zam (Zav Zam (pv 0) Zac (fun _ _=>rfl)) Zac (fun _ _=>rfl)) (Zaa (pv 1) Zad))))
   (Zab (ZaB (Zaj (ZaA hr.units) (Zav Zam (pv 0) Zac (fun _ _=>rfl)) Zal (Zan _))
   (Zae (Zao (Zai ZfQ (pv 2) (pv 3))))
   Zap)
   (Zab (ZaS PassesOwn.never rfl (Za6 (Za9 Zc1 (Zav Zam (pv 0) Zac (fun _ _=>rfl)) (Zbn Zac) Zb5)) (sg 4 Zas.nd)
   (Zab (ss 5 Zas.nd (ZaE Zbp hr (Zaa (pv 4) (Zaa (pv 1) Zad))))
   (Zae (ZaB (Zaj (ZaA hr.units) (Zav Zam (pv 0) Zac (fun _ _=>rfl)) Zal (Zan _))
   (Zae (ss 3 Zas.nd (Zai ZlM (pv 3) (pv 5))))
   (Zae (ZaB (Zaj (ZaA hr.units) (Zav Zam (pv 0) Zac (fun _ _=>rfl)) Zal (Zan _))
   (Zae (ss 3 Zas.nd (Zai ZlY (pv 3) (pv 5))))
   (Zae (ss 3 Zas.nd (Zai ZoD (pv 3) (pv 5))))))))))
   (Zae (Zao (pv 3))))))))),?_⟩
   walk_at "rd0";refine Za8 e1 (v:=.str "not") rfl ?_;walk_at "";refine ZaI rfl ?_;walk_at "";rw[Zbj];refine i_rI ⟨by omega,by omega,by decide⟩ ?_;walk_at "";rw[Zbj,eW];refine Za8 e1 (v:=.str "not") rfl ?_;walk_at "";refine ZaI rfl ?_;walk_at "";refine Za8 e1 (v:=.ref l) rfl ?_;walk_at "";refine ZbJ (j:=0) (v:=.ref q') e2 rfl ?_;walk_at "";refine⟨q',m,g,rfl,hm,hq,hg6,by omega,fun H1 s1=>?_⟩;walk_at "";refine Za8 (s1 _ _ e1) (v:=.str "not") rfl ?_;walk_at "";refine ZbT rfl ?_;walk_at "";have hlt:=ZCT m g
   have e:((2 ^ 2 ^ m - 1:Nat):Int) - (crT m g:Int)=(crT m (.neg g):Int):=by
    have e3:crT m (.neg g)=(2 ^ 2 ^ m - 1) - crT m g:=by
     rw[ZCz hlt];exact Zqy _ _
    omega
   rw[e];exact q H1 s1
  | wrap g=>
   obtain⟨l,q',e1,_,e2,hq⟩:=hT;have hn1:nT (.wrap g)=1+nT g:=rfl
   have hg6:okT m g=true:=by simpa [okT] using hok
   exact body "wrap" l q' [] g [] (by decide) (by decide) (by decide) e1 e2 (.cons hq .nil) (fun x hx=>by rw[mem_singleton.mp hx]; exact hg6) (by rw[ZkT]; omega) rfl
  | join v gs=>
   obtain⟨l,ps,e1,_,e2,hq⟩:=hT;have hn1:nT (.join v gs)=1+nTL gs:=rfl;simp only [okT,Bool.and_eq_true,decide_eq_true_iff]at hok
   have ok':∀g∈gs,okT m g=true:=by
    have:=hok.2;rw[Zl7,all_eq_true]at this;exact this
   cases gs with
   | nil=>exact absurd hok.1 (by decide)
   | cons g0 gs0=>
    cases hq with
    | cons h0 hr0=>
    refine body (kw3 v) l _ _ _ _ (by cases v <;> decide) (by cases v <;> decide) (by cases v <;> decide) e1 e2 (.cons h0 hr0) ok' (by omega) ?_;show((gs0.map (crT m)).foldl (cmb (kw3 v)) (crT m g0))=(Fm.join v (fmTL id (g0::gs0))).crowd (2 ^ m)
    have hc:cmb (kw3 v)=ZuX v:=by cases v <;> rfl
    have:=Zom v (2 ^ m) (gs0.map (fmT id)) [fmT id g0];rw[ZnK,map_map]at this;rw[hc];refine Eq.trans ?_ (this.trans ?_)
    ·rfl
    ·show(Fm.join v (fmT id g0::gs0.map (fmT id))).crowd (2 ^ m)=_
     rw[ZtR];rfl
end
unseal PE PA PS PSs
end LW
open PySem L2
namespace LW
open PySem L2 EM
open List (all_eq_true any_cons append_assoc append_nil cons_ne_nil drop_left drop_nil filterMap_append foldl_append getD_eq_getElem?_getD getElem?_map length_append length_cons length_drop length_eq_zero_iff length_map length_nil length_range length_singleton length_take map_append map_cons map_drop map_map map_nil map_take mem_append mem_cons mem_cons_of_mem mem_cons_self mem_filter mem_map mem_map_of_mem mem_of_getElem? mem_of_mem_take mem_range mem_replicate mem_singleton nodup_append nodup_cons nodup_nil not_mem_nil range_succ take_left take_length take_nil take_zero)
def EnA (S:Addr→Prop) (H:Hp) (n:Nat) (x:Addr) (tr:Tr):Prop:=∃(p:Addr) (o k l:Int),H x=some (.tup [.ref p,.int o,.int k,.int l])∧TwAt S H n p tr
theorem EnA.imp {S S':Addr→Prop} {H H':Hp} (ht:∀p xs,H p=some (.tup xs)→H' p=some (.tup xs)) (hl:∀l xs,S l→H l=some (.lst xs)→S' l∧H' l=some (.lst xs)) {n m:Nat} (hm:n≤m) {x:Addr} {f:Tr} (h:EnA S H n x f):EnA S' H' m x f:=by
 obtain⟨p,o,k,l,h1,h2⟩:=h;exact⟨p,o,k,l,ht _ _ h1,(h2.imp ht hl).le hm⟩
seal PE PA PS PSs
section
variable {P:Program} {w:World} {K:W.Frag} {mg:Str→Option Value} {base:Heap} {t:Ad} {n:Nat}
def Zuv:Sp:=fun vs H Q _=>∃(pl:Addr) (kd mo:Int) (es:List Addr) (ts:List Tr) (n m:Nat),vs=[.ref pl,.int kd,.int mo]∧H pl=some (.lst (es.map V.ref))∧Paired (EnA (· ≠ pl) H n) es ts∧4≤kd∧kd≤8∧0 < es.length∧(4 < kd→kd < 8→1 < es.length)∧es.length≤100∧(∀tr∈ts,okT m tr=true)∧
 ∀(a:Addr) (es':List Addr) (ts':List Tr) H',Same H H'→(a=pl∨H a=none)→H' a=some (.lst (es'.map V.ref))→Paired (EnA (· ≠ a) H' (n+1)) es' ts'→(∀tr∈ts',okT m tr=true)→nTL ts'≤nTL ts+1→es'.length≤es.length→Q (.ref a) H'
theorem ZBR (T:Txt K mg t):FnS P w K mg base 3 "_law_over" ["_law_pile_here","_law_kind","_law_more"] (Zuv):=by
 refine⟨_,_,T.Zes.ok Za0 (fun vs H Q E h=>?_) (fun cdv A outer s H vs Q E hr h=>?_),T.Zmr,T.Zes.kp,T.Zm7⟩
 ·obtain⟨pl,kd,mo,es,ts,n,m,rfl,hp,hE,k4,k8,h0,h1,h100,hok,q⟩:=h
  rfl
 obtain⟨pl,kd,mo,es,ts,n,m,rfl,hp,hE,k4,k8,h0,h1,h100,hok,q⟩:=h;have Zex:=Zxf (P:=P) (w:=w) (base:=base) T;have hgl:=Zak hE;have hlen:(es.map V.ref).length=es.length:=length_map _;obtain⟨es0,el,rfl⟩:=ZgG (l:=es) (fun e=>by rw[e]at h0; exact absurd h0 (by decide));obtain⟨ts0,tl,rfl⟩:=ZgG (l:=ts) (fun e=>by rw[e]at hgl; simp at hgl);obtain⟨E0,pt,po,pk,pv',ht1,ht2⟩:=Zth hE;have hp':=hp;rw[map_append,map_cons,map_nil]at hp'
 have hl0:(es0++[el]).length=es0.length+1:=by simp
 have keep:∀H',Same H H'→Q (.ref pl) H':=fun H' s=>q pl _ _ H' s (.inl rfl) (s _ _ hp) (Zaf (fun _ _ h=>h.imp (fun _ _ e=>s _ _ e) (fun _ _ z e=>⟨z,s _ _ e⟩) (Nat.le_succ _)) hE) hok (Nat.le_succ _) (Nat.le_refl _)
 have cut:∀c,nTL (ts0++[tl])=nTL ((ts0++[tl]).take c)+nTL ((ts0++[tl]).drop c):=fun c=>by rw[←ZgT,List.take_append_drop]
 have cl:(ts0++[tl]).take ts0.length=ts0∧(ts0++[tl]).drop ts0.length=[tl]:=⟨take_left,drop_left⟩;have z0:es0.length=ts0.length:=Zak E0;have tl1:=hok tl (by simp)
 have ls:((es0.length+1:Nat):Int) - 1=(es0.length:Int):=by omega
 have tw:∀H',Same H H'→TwAt (fun l=>H' l≠none) H' n pt tl:=fun H' s=>ht2.imp (fun _ _ e=>s _ _ e) fun l xs _ e=>⟨by show H' l≠none; rw[s _ _ e]; simp,s _ _ e⟩
 refine⟨_,(Zab (ss 3 Za0.nd (Zai ZfQ (Zaw Zaz rfl T.B.len Za4 (Zaa (pv 0) Zad)) Zac))
   (Zab (ss 4 Za0.nd (Zav Zam (pv 0) (Ztj ZoK Zac) (fun _ _=>rfl)))
   (Zab (ZaB (Zaj (ZaA hr.units) (pv 1) Zac (Zan _))
   (Zae (ss 5 Za0.nd (Zc0 (Zaa (Zc0 (Zaa Zal (Zaa (ZaO (Zaa (Zav Zam (pv 4) Zac (fun _ _=>rfl)) Zad)) Zad))) (Zaa (Zai Zay (Zav Zam (pv 4) Zac (fun _ _=>rfl)) Zac) (Zaa (Zav Zam (pv 4) Zac (fun _ _=>rfl)) (Zaa (Zav Zam (pv 4) Zac (fun _ _=>rfl)) Zad)))))))
   (Zae (ZaB (Zaj (ZaA hr.units) (pv 1) Zac (Zan _))
   (Zab (ss 6 Za0.nd (Zai Zay (Zav Zam (pv 4) Zac (fun _ _=>rfl)) (Zbb Zc8 rfl T.B.int ZhH (Zaa (Zjv Zju (ZaE Zex hr (Zaa (Zav Zam (pv 4) Zac (fun _ _=>rfl)) (Zaa Zfl Zad))) Zac (Zan _)) Zad))))
   (Zae (ss 5 Za0.nd (Zc0 (Zaa (Zc0 (Zaa Zal (Zaa (ZaO (Zaa (Zav Zam (pv 4) Zac (fun _ _=>rfl)) Zad)) Zad))) (Zaa (pv 6) (Zaa (Zai Zay Zac (Zav Zam (pv 4) Zac (fun _ _=>rfl))) (Zaa (Zav Zam (pv 4) Zac (fun _ _=>rfl)) Zad))))))))
   (Zab (ss 3 Za0.nd (Zai ZfQ (Zaw Zaz rfl T.B.len Za4 (Zaa (pv 0) Zad)) (Zaw (Zv9 rfl) rfl T.B.min ZCQ (Zaa (Zaw Zaz rfl T.B.len Za4 (Zaa (pv 0) Zad)) (Zaa (Zai Zay Zac (Zai ZaU (Zai ZaR (pv 2) Zac) Zac)) Zad)))))
   (Zab (ss 6 Za0.nd Zac)
   (Zab (ZaS PassesOwn.never rfl (Za6 (Za9 Zc1 (pv 0) (Zbn (pv 3)) Zb5)) (sg 7 Za0.nd)
   (Zae (ss 6 Za0.nd (Zaw (Zqx rfl) rfl T.B.max ZzJ (Zaa (pv 6) (Zaa (Zai Zay (Zav Zam (pv 7) Zac (fun _ _=>rfl)) (Zbb Zc8 rfl T.B.int ZhH (Zaa (Zjv Zy7 (ZaE Zex hr (Zaa (Zav Zam (pv 7) Zac (fun _ _=>rfl)) (Zaa Zfl Zad))) (Zai ZfQ (pv 1) Zac) (Zan _)) Zad))) Zad))))))
   (Zab (ZkX 8 Za0.nd (sc:=Zah ZfW) (N:=["_law_pile_here","_law_kind","_law_more","_law_left","_law_top","_law_made","_law_opened","_law_entry","_law_parts","_law_leaves"]) (ns:=[]) (ix:=[]) rfl rfl (by decide +kernel) rfl (Za6 (Za9 Zc1 (pv 0) (Zbn (pv 3)) Zb5)) (fun _ _ _ _=>Zhm) (fun _ _ _ _=>(Zav (Zd4 (K:=K) rfl) (pv 0) Zac (fun _ _=>rfl))))
   (Zab (ss 9 Za0.nd (Zaw (ZhZ rfl) rfl T.B.sum Zqv (Zaa (ZfR (sc:=Zah ZfW) (N:=["_law_pile_here","_law_kind","_law_more","_law_left","_law_top","_law_made","_law_opened","_law_entry","_law_parts","_law_leaves"]) (ns:=[]) (ix:=[]) rfl rfl (by decide +kernel) rfl (Za6 (Za9 Zc1 (pv 0) (Zbn (pv 3)) Zb5)) (fun _ _ _ _=>Zhm) (fun _ _ _ _=>(Zav (Zd4 (K:=K) rfl) (pv 0) Zac (fun _ _=>rfl)))) Zad)))
   (Zae (ss 5 Za0.nd (Zc0 (Zaa (Zc0 (Zaa (Zav Zam (ZaO (Zaa Zal (Zaa Zal (Zaa Zal Zad)))) (Zai ZfQ (pv 1) Zac) (fun _ _=>rfl)) (Zaa (pv 8) Zad))) (Zaa (pv 6) (Zaa Zac (Zaa (pv 9) Zad)))))))))))))))
   (Zab (ZaB (PW.pt (Zih (Zaj Zju (Zav Zam (pv 5) Zac (fun _ _=>rfl)) Zac (Zan _)) (Zih (Zaj Zju (Zav Zam (pv 5) Zac (fun _ _=>rfl)) Zac (Zan _)) (ZfT (Zaj Zju (Zav Zam (pv 5) Zac (fun _ _=>rfl)) Zac (Zan _))))))
   (Zae (Zao (pv 0)))
   Zap)
   (Zae (Zao (Zai Zay (Za9 Zc1 (pv 0) Zb5 (Zbn (pv 3))) (ZaO (Zaa (pv 5) Zad))))))))),?_⟩
 walk_at "rs0";refine ZhM ?_;walk_at "rs"
 have hlen2:(List.map V.ref es0++[V.ref el]).length=es0.length+1:=by simp
 first
  | rw[hlen,hl0,ls]
  | rw[hlen2,ls]
 refine ZhM ?_;walk_at "rs";refine ZtX hp' (ZtF _ _) ?_;walk_at "rs";refine Zh8 (fun σ H'=>∃(y r:Addr) (o k l:Int) (tr:Tr) (c:Nat) (v4 v6 v7 v8 v9:Option V),Same H H'∧H' y=some (.tup [.ref r,.int o,.int k,.int l])∧TwAt (fun l=>H' l≠none) H' (n+1) r tr∧okT m tr=true∧c≤es0.length∧nTL ((ts0++[tl]).take c)+nT tr≤nTL (ts0++[tl])+1∧σ=[some (.ref pl),some (.int kd),some (.int mo),some (.int (c:Int)),v4,some (.ref y),v6,v7,v8,v9]) ?_ ?_
 rotate_left
 ·intro Kn hK
  have done:∀(H':Hp) (y r:Addr) (o k l:Int) (tr:Tr) (v6:Option V),Same H H'→H' y=some (.tup [.ref r,.int o,.int k,.int l])→TwAt (fun l=>H' l≠none) H' (n+1) r tr→okT m tr=true→nT tr=1+nT tl→Kn [some (.ref pl),some (.int kd),some (.int mo),some (.int (es0.length:Int)),some (.ref el),some (.ref y),v6,none,none,none] H':=fun H' y r o k l tr v6 s e h1 h2 h3=>by
   refine hK _ _ ⟨y,r,o,k,l,tr,es0.length,_,_,_,_,_,s,e,h1,h2,Nat.le_refl _,?_,rfl⟩;rw[z0,cl.1,ZgT,ZkT,h3];omega
  walk_at "rs";refine Zb7 (fun h3=>?_) (fun h3=>?_)
  ·walk_at "rs"
   refine Za8 ht1 (v:=.ref pt) rfl ?_;walk_at "rs";refine ZbW (by simp) fun l1 H1 s1 n1 e1=>?_;walk_at "rs";refine ZfY (by simp) fun r H2 s2 n2 e2=>?_;walk_at "rs";refine Za8 ((s1.trans s2) _ _ ht1) (v:=.int po) rfl ?_;walk_at "rs";refine Za8 ((s1.trans s2) _ _ ht1) (v:=.int pk) rfl ?_;walk_at "rs";refine Za8 ((s1.trans s2) _ _ ht1) (v:=.int pv') rfl ?_;walk_at "rs";refine ZfY (by simp) fun y H3 s3 n3 e3=>?_;walk_at "rs";have s13:=s1.trans (s2.trans s3);exact done H3 y r _ _ _ (.wrap tl) none s13 e3 ⟨l1,pt,s3 _ _ e2,by show H3 l1≠none; rw[s3 _ _ (s2 _ _ e1)]; simp,s3 _ _ (s2 _ _ e1),tw _ s13⟩ (by simpa [okT] using tl1) rfl
  walk_at "rs";refine Zb7 (fun h4=>?_) (fun h4=>?_)
  ·walk_at "rs"
   refine ZhM ?_;walk_at "rs";refine Za8 ht1 (v:=.int po) rfl ?_;walk_at "rs";refine Za8 ht1 (v:=.ref pt) rfl ?_;walk_at "rs";refine⟨pt,true,_,n,tl,rfl,ht2,fun H0 s0=>?_⟩;have ht0:=s0 _ _ ht1;walk_at "rs";refine Za8 ht0 (v:=.ref pt) rfl ?_;walk_at "rs";refine ZbW (by simp) fun l1 H1 s1 n1 e1=>?_;walk_at "rs";refine ZfY (by simp) fun r H2 s2 n2 e2=>?_;walk_at "rs";refine Za8 ((s1.trans s2) _ _ ht0) (v:=.int pk) rfl ?_;walk_at "rs";refine Za8 ((s1.trans s2) _ _ ht0) (v:=.int pv') rfl ?_;walk_at "rs";refine ZfY (by simp) fun y H3 s3 n3 e3=>?_;walk_at "rs";have s13:=s0.trans (s1.trans (s2.trans s3));exact done H3 y r _ _ _ (.neg tl) _ s13 e3 ⟨l1,pt,s3 _ _ e2,by show H3 l1≠none; rw[s3 _ _ (s2 _ _ e1)]; simp,s3 _ _ (s2 _ _ e1),tw _ s13⟩ (by simpa [okT] using tl1) rfl
  have hj:=h1 (by omega) (by omega);obtain⟨c,hc,hc2⟩ : ∃c:Nat,((es0.length+1:Nat):Int) - min ((es0.length+1:Nat):Int) (2+mo % 3 / 2)=(c:Int)∧c+2≤es0.length+1:=⟨(((es0.length+1:Nat):Int) - min ((es0.length+1:Nat):Int) (2+mo % 3 / 2)).toNat,by omega,by omega⟩;obtain⟨j,hj',hj3⟩ : ∃j:Nat,kd - 5=(j:Int)∧j < 3:=⟨(kd - 5).toNat,by omega,by omega⟩;walk_at "rs";refine ZhM ?_;walk_at "rs"
  first
   | rw[hlen,hl0,hc]
   | rw[hlen2,hc]
  walk_at "rs";refine ZhM ?_;walk_at "rs"
  have ld:((es0++[el]).drop c).length=es0.length+1 - c:=by rw[length_drop,hl0]
  have Ed:∀H',Same H H'→Paired (EnA (fun l=>H' l≠none) H' n) ((es0++[el]).drop c) ((ts0++[tl]).drop c):=fun H' s=>Zhj c (Zaf (fun _ _ h=>h.imp (fun _ _ e=>s _ _ e) (fun l xs _ e=>⟨by show H' l≠none; rw[s _ _ e]; simp,s _ _ e⟩) (Nat.le_refl _)) hE);refine Zh8 (fun σ H'=>∃(op:Int) (v7:Option V),Same H H'∧σ=[some (.ref pl),some (.int kd),some (.int mo),some (.int (c:Int)),some (.ref el),none,some (.int op),v7,none,none]) ?_ ?_
  rotate_left
  ·intro Kn2 hK2
   walk_at "rs";refine ZkO (SqL.of hp) (ZdX (k:=c) (by rw[hlen]; omega)) fun a2 H3 s3 n3 e3=>?_;rw[←map_drop]at e3;refine seqL (xs:=((es0++[el]).drop c).map V.ref) (fun i σ H'=>∃(op:Int) (v7:Option V),Same H H'∧H' a2=some (.lst (((es0++[el]).drop c).map V.ref))∧σ=[some (.ref pl),some (.int kd),some (.int mo),some (.int (c:Int)),some (.ref el),none,some (.int op),v7,none,none]) ⟨_,_,s3,e3,rfl⟩ (fun i σ H' _ hp=>by obtain⟨_,_,_,e,_⟩:=hp; exact SqL.of e) ?_ ?_
   ·rintro i x σ H4 hx ⟨op,v7,s4,e4,rfl⟩
    obtain⟨xa,rfl,hxa⟩:=Zbf hx;obtain⟨tr,htr,xp,xo,xk,xl,hx1,hx2⟩:=ZaJ (Ed H4 s4) hxa;walk_at "rs";refine Za8 hx1 (v:=.int xo) rfl ?_;walk_at "rs";refine Za8 hx1 (v:=.ref xp) rfl ?_;walk_at "rs";refine⟨xp,true,_,n,tr,rfl,hx2,fun H5 s5=>?_⟩;walk_at "rs";exact⟨_,_,s4.trans s5,s5 _ _ e4,rfl⟩
   ·rintro σ H4 ⟨op,v7,s4,e4,rfl⟩
    exact hK2 _ _ ⟨op,v7,s4,rfl⟩
  rintro σ H3 ⟨op,v7,s3,rfl⟩;walk_at "rs";refine ZhM ?_;walk_at "rs";refine ZkO (SqL.of (s3 _ _ hp)) (ZdX (k:=c) (by rw[hlen]; omega)) fun a3 H6 s6 n6 e6=>?_;rw[←map_drop]at e6;have E6:=Ed H6 (s3.trans s6);walk_at "rs";refine .inl ⟨a3,_,rfl,SqL.of e6,?_⟩;refine Zgv (fun i ys=>∃ps:List Addr,ys=ps.map V.ref∧Paired (TwAt (fun l=>H6 l≠none) H6 n) ps (((ts0++[tl]).drop c).take i)) (Zlb (SqL.of e6)) (by rw[length_map]; omega) ⟨[],rfl,.nil⟩ ?_ ?_
  ·rintro i x ys acc H' hx s1 hacc ea ⟨ps,rfl,hps⟩ _ R kk
   obtain⟨xa,rfl,hxa⟩:=Zbf hx;obtain⟨tr,htr,xp,xo,xk,xl,hx1,hx2⟩:=ZaJ E6 hxa;simp only [subS,map_nil];walk_at "";refine kk _ H' (Same.refl _) (fun z=>nomatch z) fun z R2 k2=>?_;walk_at "";refine Za8 (s1 _ _ hx1) (v:=.ref xp) rfl ?_;refine k2 _ H' (Same.refl _) ⟨ps++[xp],by rw[map_append]; rfl,?_⟩;rw[ZaD htr];exact Zaq hps (.cons hx2 .nil)
  rintro acc2 ys2 H7 n7 s7 e7 ⟨ps,rfl,hps⟩;rw[length_map,ld,List.take_of_length_le (by rw[length_drop,length_append,length_singleton]; omega)]at hps;have s37:=s3.trans (s6.trans s7);walk_at "rs";refine ZhM ?_;walk_at "rs";refine ZkO (SqL.of (s37 _ _ hp)) (ZdX (k:=c) (by rw[hlen]; omega)) fun a4 H8 s8 n8 e8=>?_;rw[←map_drop]at e8;have E8:=Ed H8 (s37.trans s8);walk_at "rs";refine .inl ⟨a4,_,rfl,SqL.of e8,?_⟩;refine Zgv (fun i ys=>∃zs:List Int,ys=zs.map V.int) (Zlb (SqL.of e8)) (by rw[length_map]; omega) ⟨[],rfl⟩ ?_ ?_
  ·rintro i x ys acc H' hx s1 hacc ea ⟨zs,rfl⟩ _ R kk
   obtain⟨xa,rfl,hxa⟩:=Zbf hx;obtain⟨tr,htr,xp,xo,xk,xl,hx1,hx2⟩:=ZaJ E8 hxa;simp only [subS,map_nil];walk_at "";refine kk _ H' (Same.refl _) (fun z=>nomatch z) fun z R2 k2=>?_;walk_at "";refine Za8 (s1 _ _ hx1) (v:=.int xl) rfl ?_;exact k2 _ H' (Same.refl _) ⟨zs++[xl],by rw[map_append]; rfl⟩
  rintro acc3 ys3 H9 n9 s9 e9 ⟨zs,rfl⟩;walk_at "rs";refine ZDu (SqL.of e9) ?_;walk_at "rs";refine ZbW (by simp) fun wl H10 s10 n10 e10=>?_;walk_at "rs";rw[hj'];refine ZbJ e10 (ZE1 hj3) ?_;walk_at "rs";refine ZfY (by simp) fun r H11 s11 n11 e11=>?_;walk_at "rs";refine ZfY (by simp) fun y H12 s12 n12 e12=>?_;walk_at "rs";have s712:=s8.trans (s9.trans (s10.trans (s11.trans s12)));refine hK _ _ ⟨y,r,_,_,_,.join (w3of j) ((ts0++[tl]).drop c),c,_,_,_,_,_,s37.trans s712,e12,⟨acc2,ps,s12 _ _ e11,by show H12 acc2≠none; rw[s712 _ _ e7]; simp,s712 _ _ e7,Zaf (fun _ _ h=>h.imp (fun _ _ e=>(s7.trans s712) _ _ e) fun l xs _ e=>⟨by show H12 l≠none; rw[(s7.trans s712) _ _ e]; simp,(s7.trans s712) _ _ e⟩) hps⟩,?_,by omega,?_,rfl⟩
  ·simp only [okT,Bool.and_eq_true,decide_eq_true_iff]
   have dl:((ts0++[tl]).drop c).length=es0.length+1 - c:=by rw[length_drop,length_append,length_singleton]; omega
   refine⟨by omega,?_⟩;rw[Zl7,all_eq_true];exact fun g hg=>hok g (List.mem_of_mem_drop hg)
  ·have:=cut c
   show _+(1+nTL ((ts0++[tl]).drop c))≤_;omega
 rintro σ H1 ⟨y,r,o,k,l,tr,c,v4,v6,v7,v8,v9,s1,e1,h2,h3,hc,hw,rfl⟩;have hp1:=s1 _ _ hp;refine(fun(key : ?G2)=>?main2) ?key2
 case main2=>
  walk_at "rs";refine ZhM ?_;walk_at "rs";refine Za8 e1 (v:=.int o) rfl ?_;walk_at "rs";refine Zb7 (fun h4=>?_) (fun h4=>?_)
  ·refine ZbT rfl ?_
   walk_at "rs";exact keep _ s1
  ·walk_at "rs"
   refine Za8 e1 (v:=.int k) rfl ?_;walk_at "rs";refine Zb7 (fun h5=>?_) (fun h5=>?_)
   ·refine ZbT rfl ?_
    walk_at "rs";exact keep _ s1
   ·walk_at "rs"
    refine Za8 e1 (v:=.int l) rfl ?_;walk_at "rs";refine Zb7 (fun h6=>?_) (fun h6=>?_)
    ·walk_at "rs"
     exact keep _ s1
    ·walk_at "rs"
     exact key
 walk_at "";refine .inl (j_sl (SqL.of hp1) (Zwh (by rw[hlen]; omega)) fun a1 H2 s2 n2 e2=>?_);rw[←map_take]at e2;walk_at "";refine ZbW (by simp) fun a3 H3 s3 n3 e3=>?_;refine ZkN (s3 _ _ e2) e3 (by rw[length_map,length_take]; simp; omega) fun a4 H4 s4 n4 e4=>?_;have s14:=s2.trans (s3.trans s4);have s04:=s1.trans s14;have n10:H1 a4=none:=(s2.trans s3).free n4;refine q a4 ((es0++[el]).take c++[y]) ((ts0++[tl]).take c++[tr]) H4 s04 (.inr (s1.free n10)) (by rw[e4,map_append]; rfl) ?_ ?_ ?_ ?_
 ·refine Zaq (Zhl c (Zaf (fun _ _ h=>h.imp (fun _ _ e=>s04 _ _ e) (fun l xs _ e=>⟨Zag (s1 _ _ e) n10,s04 _ _ e⟩) (Nat.le_succ _)) hE)) (.cons ⟨r,o,k,l,s14 _ _ e1,h2.imp (fun _ _ e=>s14 _ _ e) fun l xs z e=>⟨Zag e n10,s14 _ _ e⟩⟩ .nil)
 ·intro g hg
  rcases mem_append.mp hg with h | h
  ·exact hok g (mem_of_mem_take h)
  ·rw[mem_singleton.mp h]; exact h3
 ·rw[ZgT,ZkT]
  exact hw
 ·rw[length_append,length_take,length_singleton,hl0]
  omega
end
unseal PE PA PS PSs
seal PE PA PS PSs
section
variable {P:Program} {w:World} {K:W.Frag} {mg:Str→Option Value} {base:Heap} {t:Ad} {n:Nat}
structure PW17 (H0 H:Hp) (mp:Addr) (n m:Nat) (es:List Addr) (ts:List Tr):Prop where
 sm:Same H0 H
 nm:H0 mp=none
 fm:H mp=some (.lst (es.map V.ref))
 ff:Paired (EnA (· ≠ mp) H (n+1)) es ts
 ok:∀tr∈ts,okT m tr=true
 wt:nTL ts≤n
 ln:es.length≤n
def Zzu:Sp:=fun vs H Q _=>∃(l:Addr) (cs:List Int) (m:Nat),vs=[.ref l,.int (m:Int)]∧H l=some (.lst (cs.map V.int))∧cs.length≤50∧1≤m∧m≤6∧∀a ps ts H',Same H H'→H a=none→H' a=some (.lst (ps.map V.ref))→Paired (TwAt anyA H' 52) ps ts→(∀tr∈ts,okT m tr=true∧nT tr≤51)→1≤ts.length→ts.length≤51→Q (.ref a) H'
theorem ZBS (T:Txt K mg t):FnS P w K mg base 4 "_law_pile" ["_law_cells","_law_many"] (Zzu):=by
 refine⟨_,_,T.Zet.ok ZdT (fun vs H Q E h=>?_) (fun cdv A outer s H vs Q E hr h=>?_),T.Zms,T.Zet.kp,T.Zm8⟩
 ·obtain⟨l,cs,m,rfl,hl,hz,h1,hm,q⟩:=h
  rfl
 obtain⟨l,cs,m,rfl,hl,hz,h1,hm,q⟩:=h;have Zr7:=ZBR (P:=P) (w:=w) (base:=base) T
 have md:∀z:Int,∃k:Nat,z % (m:Int)=(k:Int)∧k < m:=fun z=>by
  have v1:=Int.emod_nonneg z (show(m:Int)≠0 by omega);have v2:=Int.emod_lt_of_pos z (show(0:Int) < (m:Int) by omega);exact⟨(z % (m:Int)).toNat,by omega,by omega⟩
 refine⟨_,(Zab (ss 2 ZdT.nd (ZaO Zad))
   (Zab (ZaS PassesOwn.never rfl (Za6 (pv 0)) (sg 3 ZdT.nd)
   (Zab (ss 4 ZdT.nd (Zai ZaR (pv 3) Zac))
   (Zab (ss 5 ZdT.nd (Zai ZaU (pv 3) Zac))
   (Zae (ZaB (PW.pt (Zd7 (Zaj Zju (pv 4) Zac (Zan _)) (Zc2 (Zaj Zju (Zaw Zaz rfl T.B.len Za4 (Zaa (pv 2) Zad)) (Zbb Zc8 rfl T.B.int ZhH (Zaa (Zun ZvF ZvF Zac (pv 4) Zac) Zad)) (Zan _)))))
   (Zae (ss 2 ZdT.nd (ZaE Zr7 hr (Zaa (pv 2) (Zaa (pv 4) (Zaa (pv 5) Zad))))))
   (Zae (ZaB (Zaj (ZaA hr.units) (pv 4) Zac (Zan _))
   (Zae (ZaQ (ZcB F.plainAttrs_list F.slot_list_append F.type_list_append ZaK (pv 2) (Zaa (Zc0 (Zaa (Zc0 (Zaa Zal (Zaa (Zjv (ZaA hr.units) (Zai ZaR (pv 5) Zac) Zac (Zan _)) Zad))) (Zaa Zac (Zaa Zac (Zaa Zac Zad))))) Zad))))
   (Zae (ZaQ (ZcB F.plainAttrs_list F.slot_list_append F.type_list_append ZaK (pv 2) (Zaa (Zc0 (Zaa (Zc0 (Zaa Zal (Zaa (Zai ZaR (pv 5) (pv 1)) Zad))) (Zaa Zac (Zaa Zac (Zaa Zac Zad))))) Zad)))))))))))
   (Zab (ZaB (Zaj (ZaA hr.units) (Zaw Zaz rfl T.B.len Za4 (Zaa (pv 2) Zad)) Zac (Zan _))
   (Zae (ZaQ (ZcB F.plainAttrs_list F.slot_list_append F.type_list_append ZaK (pv 2) (Zaa (Zc0 (Zaa (Zc0 (Zaa Zal (Zaa (Zai ZaR (Zaw Zaz rfl T.B.len Za4 (Zaa (pv 0) Zad)) (pv 1)) Zad))) (Zaa Zac (Zaa Zac (Zaa Zac Zad))))) Zad))))
   Zap)
   (Zae (Zao (ZfR (sc:=Zah Zhv) (N:=["_law_cells","_law_many","_law_pile_here","_law_cell","_law_kind","_law_more"]) (ns:=[]) (ix:=[]) rfl rfl (by decide +kernel) rfl (Za6 (pv 2)) (fun _ _ _ _=>Zhm) (fun _ _ _ _=>(Zav (Zd4 (K:=K) rfl) (pv 0) Zac (fun _ _=>rfl))))))))),?_⟩
 walk_at "rd0";refine ZbW (by simp) fun mp0 H0 s0 n0 e0=>?_;walk_at ""
 refine seqL (xs:=cs.map V.int) (fun i σ H'=>∃mp es ts v6 v7 v8,σ=[some (.ref l),some (.int (m:Int)),some (.ref mp),v6,v7,v8]∧PW17 H H' mp i m es ts)
  ⟨mp0,[],[],_,_,_,rfl,s0,n0,e0,.nil,(fun f hf=>by cases hf),Nat.le_refl _,Nat.le_refl _⟩ (fun i σ H' _ hp=>by obtain⟨mp,es,ts,v6,v7,v8,_,L⟩:=hp; exact SqL.of (L.sm _ _ hl)) ?_ ?_
 ·rintro i x σ H1 hx ⟨mp,es,ts,v6,v7,v8,rfl,L⟩
  obtain⟨c,rfl,hci⟩:=ZA4 hx;have hil:i < cs.length:=(List.getElem?_eq_some_iff.mp hci).1;have hlen:(es.map V.ref).length=es.length:=length_map _;have hmp:=L.fm;have hw:=L.wt;have hln:=L.ln;have hc0:=Int.emod_nonneg c (show(9:Int)≠0 by decide);have hc1:=Int.emod_lt_of_pos c (show(0:Int) < 9 by decide)
  have leaf:∀(r y:Addr) (f:Tr) (H2 H3:Hp),Same H1 H2→H2 y=some (.tup [.ref r,.int 0,.int 0,.int 1])→TwAt (fun l=>l≠mp) H2 1 r f→okT m f=true→nT f=1→But mp H2 H3→H3 mp=some (.lst (es.map V.ref++[.ref y]))→PW17 H H3 mp (i+1) m (es++[y]) (ts++[f]):=fun r y f H2 H3 s2 ey f2 ok nf b3 e3=>by
   have tk:∀p xs,H2 p=some (.tup xs)→H3 p=some (.tup xs):=fun p xs ep=>b3 _ _ (Zcm ep (s2 _ _ L.fm) (by intro z; cases z)) ep;refine⟨b3.same L.nm (L.sm.trans s2),L.nm,by rw[e3,map_append]; rfl,Zaq (Zaf (fun _ _ h=>h.imp (fun p xs e=>tk _ _ (s2 _ _ e)) (fun l xs sl e=>⟨sl,b3 _ _ sl (s2 _ _ e)⟩) (by omega)) L.ff) (.cons ⟨r,0,0,1,tk _ _ ey,(f2.imp tk fun l xs sl e=>⟨sl,b3 _ _ sl e⟩).le (by omega)⟩ .nil),fun g hg=>?_,by rw[ZgT,ZkT,nf]; omega,by rw[length_append,length_singleton]; omega⟩
   rcases mem_append.mp hg with h | h
   ·exact L.ok g h
   ·rw[mem_singleton.mp h]; exact ok
  obtain⟨k,hk,hkm⟩:=md (c / 9)
  by_cases hA:3 < c % 9∧0 < es.length∧(4 < c % 9→c % 9 < 8→1 < es.length)
  ·obtain⟨hA1,hA2,hA3⟩:=hA
   have go:Zuv [.ref mp,.int (c % 9),.int (c / 9)] H1 (fun x H'=>∃mp' es' ts' v6 v7 v8,[some (.ref l),some (.int (m:Int)),some x,some (.int c),some (.int (c % 9)),some (.int (c / 9))]=[some (.ref l),some (.int (m:Int)),some (.ref mp'),v6,v7,v8]∧PW17 H H' mp' (i+1) m es' ts') (fun _ _ _=>False):=by
    refine⟨mp,_,_,es,ts,i+1,m,rfl,hmp,L.ff,by omega,by omega,hA2,hA3,by omega,L.ok,fun a es' ts' H' s' ha ea E' ok' w' l'=>⟨a,es',ts',_,_,_,rfl,?_⟩⟩;refine⟨L.sm.trans s',?_,ea,E',ok',by omega,by omega⟩
    rcases ha with rfl | z
    ·exact L.nm
    ·exact L.sm.free z
   by_cases hB:4 < c % 9∧c % 9 < 8
   ·walk_at "tst"
    exact go
   ·by_cases hC:4 < c % 9
    ·walk_at "tst"
     (try (refine ZbT (decide_eq_true (by first | (rw[if_neg (by decide),hlen]; omega) | (rw[show decide (c % 9 < 8)=false from decide_eq_false (by omega),if_neg (by decide),hlen]; omega) | (rw[show decide (c % 9 < 8)=true from decide_eq_true (by omega),if_pos rfl,hlen]; omega))) ?_))
     walk_at "tst";exact go
    ·walk_at "tst"
     (try (refine ZbT (decide_eq_true (by first | (rw[if_neg (by decide),hlen]; omega) | (rw[show decide (c % 9 < 8)=false from decide_eq_false (by omega),if_neg (by decide),hlen]; omega) | (rw[show decide (c % 9 < 8)=true from decide_eq_true (by omega),if_pos rfl,hlen]; omega))) ?_))
     walk_at "tst";exact go
  ·by_cases h3:c % 9=3
   ·walk_at "tst"
    refine⟨tyL hmp,?_⟩;walk_at "";refine ZfY (by simp) fun r H2 s2 n2 e2=>?_;walk_at "";refine ZfY (by simp) fun y H3 s3 n3 e3=>?_;walk_at "";refine Za5 ((s2.trans s3) _ _ hmp) (by rw[hlen]; omega) fun H4 b4 e4=>?_;walk_at "";exact⟨mp,_,_,_,_,_,rfl,leaf r y (.sure (decide (c / 9 % 2=0))) H3 H4 (s2.trans s3) e3 (s3 _ _ e2) rfl rfl b4 e4⟩
   ·have lampG:∀(H2:Hp) (r:Addr),Same H1 H2→H2 r=some (.tup [.str "lamp",.int (k:Int)])→True:=fun _ _ _ _=>trivial
    rcases(show c % 9 < 3∨(3 < c % 9∧es.length=0∧c % 9≤4)∨(4 < c % 9∧c % 9 < 8∧es.length≤1)∨(c % 9=8∧es.length=0) by omega) with hc | hc | hc | hc
    all_goals
     walk_at "tst"
     (try (refine ZaI (decide_eq_false (by first | (rw[if_neg (by decide),hlen]; omega) | (rw[show decide (c % 9 < 8)=false from decide_eq_false (by omega),if_neg (by decide),hlen]; omega) | (rw[show decide (c % 9 < 8)=true from decide_eq_true (by omega),if_pos rfl,hlen]; omega))) ?_))
     walk_at "tst";refine⟨tyL hmp,?_⟩;walk_at "";rw[hk];refine ZfY (by simp) fun r H2 s2 n2 e2=>?_;walk_at "";refine ZfY (by simp) fun y H3 s3 n3 e3=>?_;walk_at "";refine Za5 ((s2.trans s3) _ _ hmp) (by rw[hlen]; omega) fun H4 b4 e4=>?_;walk_at "";exact⟨mp,_,_,_,_,_,rfl,leaf r y (.lamp k) H3 H4 (s2.trans s3) e3 (s3 _ _ e2) (decide_eq_true hkm) rfl b4 e4⟩
 ·rintro σ H1 ⟨mp,es,ts,v6,v7,v8,rfl,L⟩
  rw[length_map]at L
  dsimp only
  refine Zh8 (fun σ H'=>∃es ts,PW17 H H' mp (cs.length+1) m es ts∧1≤es.length∧σ=[some (.ref l),some (.int (m:Int)),some (.ref mp),v6,v7,v8]) ?_ ?_
  rotate_left
  ·intro Kn hK
   have hmp:=L.fm;have hgl:=Zak L.ff;have hlen:(es.map V.ref).length=es.length:=length_map _;walk_at "rs";rw[hlen];refine Zb7 (fun hA=>?_) (fun hA=>?_)
   ·walk_at "rs"
    refine⟨tyL hmp,?_⟩;walk_at "rs";refine ZqS (L.sm _ _ hl) ?_;walk_at "rs";obtain⟨k,hk,hkm⟩:=md ((cs.map V.int).length:Int)
    (try refine i_rI (by omega) ?_)
    rw[hk];walk_at "rs";refine ZfY (by simp) fun r H2 s2 n2 e2=>?_;walk_at "rs";refine ZfY (by simp) fun y H3 s3 n3 e3=>?_;walk_at "rs";refine Za5 ((s2.trans s3) _ _ hmp) (by rw[hlen]; omega) fun H4 b4 e4=>?_;walk_at "rs";have e0:es=[]:=length_eq_zero_iff.mp (by omega);subst e0;have t0:ts=[]:=length_eq_zero_iff.mp (by rw[←hgl]; rfl);subst t0;have hmp3:=(s2.trans s3) _ _ hmp;have tk:∀p xs,H3 p=some (.tup xs)→H4 p=some (.tup xs):=fun p xs ep=>b4 _ _ (Zcm ep hmp3 (by intro z; cases z)) ep;refine hK _ _ ⟨[y],[.lamp k],⟨b4.same L.nm (L.sm.trans (s2.trans s3)),L.nm,e4,.cons ⟨r,0,0,1,tk _ _ e3,tk _ _ (s3 _ _ e2)⟩ .nil,fun g hg=>?_,?_,?_⟩,Nat.le_refl _,rfl⟩
    ·rw[mem_singleton.mp hg]; exact decide_eq_true hkm
    ·show 1+0≤_; omega
    ·show 1≤_; omega
   ·walk_at "rs"
    exact hK _ _ ⟨es,ts,⟨L.sm,L.nm,L.fm,Zaf (fun _ _ h=>h.imp (fun _ _ e=>e) (fun _ _ z e=>⟨z,e⟩) (Nat.le_succ _)) L.ff,L.ok,by have:=L.wt; omega,by have:=L.ln; omega⟩,by omega,rfl⟩
  clear L;rintro σ H4 ⟨es,ts,L,h1e,rfl⟩;have hmp4:=L.fm;have hln:=L.ln;have hwt:=L.wt;have hgl:=Zak L.ff;walk_at "";refine .inl ⟨mp,_,rfl,SqL.of hmp4,?_⟩;refine Zgv (fun i ys=>∃ps:List Addr,ys=ps.map V.ref∧Paired (TwAt anyA H4 (cs.length+2)) ps (ts.take i)) (Zlb (SqL.of hmp4)) (by rw[length_map]; omega) ⟨[],rfl,.nil⟩ ?_ ?_
  ·rintro i x ys acc H' hx s1 hacc ea ⟨ps,rfl,hps⟩ _ R kk
   obtain⟨xa,rfl,hxa⟩:=Zbf hx;obtain⟨tr,htr,xp,xo,xk,xl,hx1,hx2⟩:=ZaJ L.ff hxa;simp only [subS,map_nil];walk_at "";refine kk _ H' (Same.refl _) (fun z=>nomatch z) fun z R2 k2=>?_;walk_at "";refine Za8 (s1 _ _ hx1) (v:=.ref xp) rfl ?_;refine k2 _ H' (Same.refl _) ⟨ps++[xp],by rw[map_append]; rfl,?_⟩;rw[ZaD htr];exact Zaq hps (.cons hx2.any .nil)
  rintro acc ys H5 n5 s5 e5 ⟨ps,rfl,hps⟩;rw[length_map,hgl,take_length]at hps;exact q acc ps ts H5 (L.sm.trans s5) (L.sm.free n5) e5 (Zaf (fun _ _ h=>(h.same s5).le (by omega)) hps) (fun g hg=>⟨L.ok g hg,by have:=Zuf hg; omega⟩) (by omega) (by omega)
end
unseal PE PA PS PSs
def PrA (m:Nat) (H:Hp) (x:Addr) (tr:Tr):Prop:=∃p,H x=some (.tup [.ref p,.int (crT m tr:Int)])∧TwAt anyA H 52 p tr
theorem PrA.same {m:Nat} {H H':Hp} (s:Same H H') {x:Addr} {tr:Tr} (h:PrA m H x tr):PrA m H' x tr:=by
 obtain⟨p,e,a⟩:=h;exact⟨p,s _ _ e,a.same s⟩
def CgA (m:Nat) (H:Hp) (h:Addr) (c:Nat×Tr):Prop:=∃q,H h=some (.tup [.int (c.1:Int),.ref q])∧PrA m H q c.2
inductive EnT
 | st (g:Tr)
 | bd (g:Tr)
 | mv (v:Tr×List (Nat×Tr))
def EnTA (m:Nat) (H:Hp) (x:Addr):EnT→Prop
 | .st g=>∃q,H x=some (.tup [.str "start",.ref q])∧PrA m H q g
 | .bd g=>∃q,H x=some (.tup [.str "bad",.ref q])∧PrA m H q g
 | .mv v=>∃q cl hs,H x=some (.tup [.str "move",.ref q,.ref cl])∧PrA m H q v.1∧H cl=some (.lst (hs.map V.ref))∧Paired (CgA m H) hs v.2
theorem CgA.same {m:Nat} {H H':Hp} (s:Same H H') {x:Addr} {c:Nat×Tr} (h:CgA m H x c):CgA m H' x c:=by
 obtain⟨p,e,a⟩:=h;exact⟨p,s _ _ e,a.same s⟩
theorem EnTA.same {m:Nat} {H H':Hp} (s:Same H H') {x:Addr} {e:EnT} (h:EnTA m H x e):EnTA m H' x e:=by
 cases e with
 | st g=>obtain⟨q,e,a⟩:=h; exact⟨q,s _ _ e,a.same s⟩
 | bd g=>obtain⟨q,e,a⟩:=h; exact⟨q,s _ _ e,a.same s⟩
 | mv v=>obtain⟨q,cl,hs,e,a,e2,p⟩:=h; exact⟨q,cl,hs,s _ _ e,a.same s,s _ _ e2,Zaf (fun _ _ z=>z.same s) p⟩
def chgs (cs:List (Nat×Tr)):List Chg:=cs.map fun c=>(c.1,(0,fmT id c.2))
def mvD (v:Tr×List (Nat×Tr)):Mv:=((0,fmT id v.1),chgs v.2)
structure OkM17 (m:Nat) (v:Tr×List (Nat×Tr)):Prop where
 gd:okT m v.1=true∧nT v.1≤51
 cs:∀c∈v.2,(okT m c.2=true∧nT c.2≤51)∧c.1 < m
 nd:(v.2.map Prod.fst).Nodup
 l1:1≤v.2.length
 l6:v.2.length≤6
theorem ZtM (cs:List (Nat×Tr)):(chgs cs).map Prod.fst=cs.map Prod.fst:=by unfold chgs; rw[map_map]; rfl
theorem ZzK {m s:Nat} (hs:s < 2 ^ m) (tr:Tr):(crT m tr).testBit s=(fmT id tr).holds s:=by
 unfold crT Fm.crowd;rw[ZaP,decide_eq_true hs,Bool.true_and]
seal PE PA PS PSs
section
variable {P:Program} {w:World} {K:W.Frag} {mg:Str→Option Value} {base:Heap} {t:Ad} {n:Nat}
def ZCj:Sp:=fun vs H Q _=>∃(bag:Addr) (c:Int) (k:Nat),vs=[.ref bag,.int (k:Int)]∧H bag=some (.lst [.int c])∧0 < k∧k≤1000∧∀(d:Nat) (c':Int) (H':Hp),But bag H H'→H' bag=some (.lst [.int c'])→d < k→Q (.int (d:Int)) H'
theorem Zy0 (T:Txt K mg t):FnS P w K mg base 1 "_law_digit" ["_law_bag","_law_many"] (ZCj):=by
 refine⟨_,_,T.Zdv.ok Zko (fun vs H Q E h=>?_) (fun cdv A outer s H vs Q E hr h=>?_),T.Zlj,T.Zdv.kp,T.ZlA⟩
 ·obtain⟨bag,c,k,rfl,hb,hk0,hk1,q⟩:=h
  rfl
 obtain⟨bag,c,k,rfl,hb,hk0,hk1,q⟩:=h
 obtain⟨d,hd,hdk⟩ : ∃d:Nat,c % (k:Int)=(d:Int)∧d < k:=by
  have a:=Int.emod_nonneg c (show(k:Int)≠0 by omega);have b:=Int.emod_lt_of_pos c (show(0:Int) < (k:Int) by omega);exact⟨(c % (k:Int)).toNat,by omega,by omega⟩
 refine⟨_,(Zab (ss 2 Zko.nd (Zai ZaR (Zav Zam (pv 0) Zac (fun _ _=>rfl)) (pv 1)))
   (Zab (ZEh (Zai ZaU (Zav Zam (pv 0) Zac (fun _ _=>rfl)) (pv 1)) (ZEd (pv 0) Zac Zzo))
   (Zae (Zao (pv 2))))),?_⟩
 walk_at "rd0";refine ZbJ (j:=0) hb (v:=.int c) rfl ?_;walk_at "";rw[hd];refine ZbJ (j:=0) hb (v:=.int c) rfl ?_;walk_at "";refine ZFk (j:=0) hb (by simp) fun H' b e=>?_;walk_at "";exact q d _ H' b e hdk
def ZFw:Sp:=fun vs H Q _=>∃c:Int,vs=[.int c,.int c]∧Q (.bl true) H
theorem Zry (T:Txt K mg t):FnS P w K mg base 1 "_law_number" ["_law_found","_law_due"] (ZFw):=by
 refine⟨_,_,T.ZcH.ok Zn5 (fun vs H Q E h=>?_) (fun cdv A outer s H vs Q E hr h=>?_),T.ZjT,T.ZcH.kp,T.Zkb⟩
 ·obtain⟨c,rfl,q⟩:=h
  rfl
 obtain⟨c,rfl,q⟩:=h;refine⟨_,(Zae (Zao (ZrD (Zaw ZiI rfl T.B.isinstance ZcN (Zaa (pv 0) (Zaa (Znm (v:=.ty "int") rfl T.B.int ZhH rfl) Zad))) (ZrD (ZpA (Zaw ZiI rfl T.B.isinstance ZcN (Zaa (pv 0) (Zaa (Znm (v:=.ty "bool") rfl T.B.bool Zv4 rfl) Zad)))) (Zup (Zjv (ZaA hr.units) (pv 0) (pv 1) (Zan _))))))),?_⟩;walk_at "rd0";refine ZbT rfl ?_;walk_at "";refine ZbT rfl ?_;walk_at "";rw[decide_eq_true rfl];exact q
def ZCr:Sp:=fun vs H Q _=>∃(s m:Nat) (l:Addr) (hs:List Addr) (cs:List (Nat×Tr)),vs=[.int (s:Int),.ref l]∧m≤6∧s < 2 ^ m∧H l=some (.lst (hs.map V.ref))∧Paired (CgA m H) hs cs∧(∀c∈cs,c.1 < m)∧(cs.map Prod.fst).Nodup∧Q (.int ((onN s (chgs cs):Nat):Int)) H
theorem Znh (T:Txt K mg t):FnS P w K mg base 1 "_law_onward" ["_law_stand","_law_changes"] (ZCr):=by
 refine⟨_,_,T.ZcI.ok Zdd (fun vs H Q E h=>?_) (fun cdv A outer s H vs Q E hr h=>?_),T.ZjU,T.ZcI.kp,T.Zkc⟩
 ·obtain⟨s0,m,l,hs,cs,rfl,hm,hs0,hl,hg,hc,nd,q⟩:=h
  rfl
 obtain⟨s0,m,l,hs,cs,rfl,hm,hs0,hl,hg,hc,nd,q⟩:=h;have hp:=ZbV hm;have hs64:2 ^ s0≤2 ^ 64:=Nat.pow_le_pow_right (by decide) (by omega);have hsp:0 < 2 ^ s0:=Nat.two_pow_pos s0
 refine⟨_,(Zab (ss 2 Zdd.nd (pv 0))
   (Zab (ZaS PassesOwn.never rfl (Za6 (pv 1)) (Znn rfl (Zco (sg 3 Zdd.nd) (Zco (sg 4 Zdd.nd) Zjw)))
   (Zae (ss 2 Zdd.nd (Zai Zay (pv 2) (Zai ZcA (Zai ZfQ (Zai ZaR (Zai ZaU (Zav Zam (pv 4) Zac (fun _ _=>rfl)) (Zai Zba Zac (pv 0))) Zac) (Zai ZaR (Zai ZaU (pv 0) (Zai Zba Zac (pv 3))) Zac)) (Zai Zba Zac (pv 3)))))))
   (Zae (Zao (pv 2))))),?_⟩
 walk_at "rd0";refine seqL (xs:=hs.map V.ref) (fun k σ H'=>H'=H∧∃v3 v4,σ=[some (.int (s0:Int)),some (.ref l),some (.int (onI s0 (chgs (cs.take k)))),v3,v4]) ⟨rfl,_,_,rfl⟩ (fun k σ H' _ hp=>by obtain⟨rfl,_⟩:=hp; exact SqL.of hl) ?_ ?_
 ·rintro k y σ H' hy ⟨rfl,v3,v4,rfl⟩
  obtain⟨h,rfl,hx'⟩:=Zbf hy;obtain⟨c,hgi,q',ht,p',hq1,hq2⟩:=ZaJ hg hx';have hcm:=hc c (mem_of_getElem? hgi);have hpc:0 < 2 ^ c.1:=Nat.two_pow_pos c.1;have hpc6:=ZbV (show c.1≤6 by omega)
  have hs':onI s0 (chgs (cs.take (k+1)))=onI s0 (chgs (cs.take k))+(bI ((fmT id c.2).holds s0) - bI (s0.testBit c.1)) * ((2 ^ c.1:Nat):Int):=by
   have:=Zuh s0 (chgs (cs.take k)) (c.1,(0,fmT id c.2));rw[←this,ZaD hgi];unfold chgs;rw[map_append];rfl
  refine ZsH ht ?_;walk_at "";refine Za8 hq1 (v:=.int ((crT m c.2:Nat):Int)) rfl ?_;walk_at "";rw[Zbj];refine i_rI ⟨by omega,by omega⟩ ?_;walk_at "";rw[Zbj];refine i_rI ⟨by omega,by omega⟩ ?_;walk_at "";rw[Zwn,Zwn,ZzK hs0];refine Zgm (.inl ⟨by split <;> split <;> decide,by split <;> split <;> decide⟩) ?_;walk_at "";rw[Zbj];refine⟨rfl,some (.int (c.1:Int)),some (.ref q'),?_⟩;rw[hs']
  all_goals rfl
 ·rintro σ H' ⟨rfl,v3,v4,rfl⟩
  rw[length_map,Zak hg,take_length,ZAu s0 _ (chgs cs) rfl (by rw[ZtM]; exact nd)];walk_at "";exact q
def ZCn:Sp:=fun vs H Q _=>∃(x:Addr) (s m o:Nat) (v:Tr×List (Nat×Tr)),vs=[.ref x,.int (s:Int),.int (o:Int)]∧m≤6∧s < 2 ^ m∧EnTA m H x (.mv v)∧OkM17 m v∧Q (.bl (fitN s o (mvD v))) H
theorem Zug (T:Txt K mg t):FnS P w K mg base 3 "_law_leads" ["_law_move","_law_stand","_law_other"] (ZCn):=by
 refine⟨_,_,T.Zdx.ok ZpQ (fun vs H Q E h=>?_) (fun cdv A outer s H vs Q E hr h=>?_),T.Zll,T.Zdx.kp,T.ZlC⟩
 ·obtain⟨x,s0,m,o,v,rfl,hm,hs0,⟨q',cl,hs,e1,⟨p',e2,hT⟩,e3,pc⟩,ok,q⟩:=h
  rfl
 obtain⟨x,s0,m,o,v,rfl,hm,hs0,⟨q',cl,hs,e1,⟨p',e2,hT⟩,e3,pc⟩,ok,q⟩:=h;have ZdV:=Znh (P:=P) (w:=w) (base:=base) T;have hp:=ZbV hm;have hs64:2 ^ s0≤2 ^ 64:=Nat.pow_le_pow_right (by decide) (by omega);have hsp:0 < 2 ^ s0:=Nat.two_pow_pos s0;unfold fitN mvD at q;refine⟨_,(Zae (Zao (ZrD (Zjv (ZaA hr.units) (Zai ZaR (Zai ZaU (Zav Zam (Zav Zam (pv 0) Zac (fun _ _=>rfl)) Zac (fun _ _=>rfl)) (Zai Zba Zac (pv 1))) Zac) Zac (Zan _)) (Zup (Zjv (ZaA hr.units) (ZaE ZdV hr (Zaa (pv 1) (Zaa (Zav Zam (pv 0) Zac (fun _ _=>rfl)) Zad))) (pv 2) (Zan _)))))),?_⟩;walk_at "rd0";refine Za8 e1 (v:=.ref q') rfl ?_;walk_at "";refine Za8 e2 (v:=.int ((crT m v.1:Nat):Int)) rfl ?_;walk_at "";rw[Zbj];refine i_rI ⟨by omega,by omega⟩ ?_;walk_at "";rw[Zv2,ZzK hs0]
 cases hh:(fmT id v.1).holds s0 with
 | false=>
  rw[hh]at q;refine ZaI rfl ?_;exact q
 | true=>
  rw[hh]at q;refine ZbT rfl ?_;walk_at "";refine Za8 e1 (v:=.ref cl) rfl ?_;walk_at "";refine⟨s0,m,cl,hs,v.2,rfl,hm,hs0,e3,pc,fun c hc=>(ok.cs c hc).2,ok.nd,?_⟩;walk_at "";have e:decide (((onN s0 (chgs v.2):Nat):Int)=(o:Int))=decide (onN s0 (chgs v.2)=o):=decide_eq_decide.mpr (by omega);rw[e];exact q
end
unseal PE PA PS PSs
def stT (es:List EnT):List Tr:=es.filterMap fun | .st g=>some g | _=>none
def bdT (es:List EnT):List Tr:=es.filterMap fun | .bd g=>some g | _=>none
def mvT (es:List EnT):List (Tr×List (Nat×Tr)):=es.filterMap fun | .mv v=>some v | _=>none
theorem Zzz (es:List EnT) (e:EnT):stT (es++[e])=stT es++stT [e]:=filterMap_append ..
theorem Zyo (es:List EnT) (e:EnT):bdT (es++[e])=bdT es++bdT [e]:=filterMap_append ..
theorem Zue (es:List EnT) (e:EnT):mvT (es++[e])=mvT es++mvT [e]:=filterMap_append ..
def kdE:EnT→Str
 | .st _=>"start"
 | .bd _=>"bad"
 | .mv _=>"move"
def ofE (z:Str) (es:List EnT):List Tr:=if z = "start" then stT es else bdT es
theorem Zwb {m:Nat} {v:Tr×List (Nat×Tr)} (ok:OkM17 m v):∀c∈(mvD v).2,c.1 < m:=fun c hc=>by
 have hc:c∈v.2.map fun c=>(c.1,((0:Addr),fmT id c.2)):=hc;obtain⟨d,hd,rfl⟩:=mem_map.mp hc;exact(ok.cs d hd).2
seal PE PA PS PSs
section
variable {P:Program} {w:World} {K:W.Frag} {mg:Str→Option Value} {base:Heap} {t:Ad} {n:Nat}
def ZxN:Sp:=fun vs H Q _=>∃(s m:Nat) (l:Addr) (xs:List Addr) (us:List (Tr×List (Nat×Tr))),vs=[.int (s:Int),.ref l]∧m≤6∧s < 2 ^ m∧H l=some (.lst (xs.map V.ref))∧Paired (fun x v=>EnTA m H x (.mv v)) xs us∧(∀v∈us,OkM17 m v)∧Q (.int ((stN s (us.map mvD):Nat):Int)) H
theorem ZyZ (T:Txt K mg t):FnS P w K mg base 5 "_law_after" ["_law_stand","_law_moves_here"] (ZxN):=by
 refine⟨_,_,T.Zdu.ok Zee (fun vs H Q E h=>?_) (fun cdv A outer s H vs Q E hr h=>?_),T.Zli,T.Zdu.kp,T.Zlz⟩
 ·obtain⟨s0,m,l,xs,us,rfl,hm,hs0,hl,hx,ok,q⟩:=h
  rfl
 obtain⟨s0,m,l,xs,us,rfl,hm,hs0,hl,hx,ok,q⟩:=h;have ZdV:=Znh (P:=P) (w:=w) (base:=base) T;have ZhO:=Zug (P:=P) (w:=w) (base:=base) T;have hp:=ZbV hm
 refine⟨_,(Zab (ss 2 Zee.nd Zac)
   (Zab (ZaS PassesOwn.never rfl (Za6 (pv 1)) (sg 3 Zee.nd)
   (Zab (ss 4 Zee.nd (ZaE ZdV hr (Zaa (pv 0) (Zaa (Zav Zam (pv 3) Zac (fun _ _=>rfl)) Zad))))
   (Zae (ZaB (ZaL (ZaE ZhO hr (Zaa (pv 3) (Zaa (pv 0) (Zaa (pv 4) Zad)))) (fun _=>rfl))
   (Zae (ss 2 Zee.nd (Zai ZlY (pv 2) (Zai Zba Zac (pv 4)))))
   Zap))))
   (Zae (Zao (pv 2))))),?_⟩
 walk_at "rd0";refine seqL (xs:=xs.map V.ref) (fun k σ H'=>H'=H∧∃v3 v4,σ=[some (.int (s0:Int)),some (.ref l),some (.int ((stN s0 ((us.take k).map mvD):Nat):Int)),v3,v4]) ⟨rfl,_,_,rfl⟩ (fun k σ H' _ hp=>by obtain⟨rfl,_⟩:=hp; exact SqL.of hl) ?_ ?_
 ·rintro k y σ H' hy ⟨rfl,v3,v4,rfl⟩
  obtain⟨x,rfl,hx'⟩:=Zbf hy;obtain⟨v,hgi,M⟩:=ZaJ hx hx';have okv:=ok v (mem_of_getElem? hgi);have M':=M;obtain⟨q',cl,hs,e1,_,e3,pc⟩:=M';have hlt:onN s0 (chgs v.2) < 2 ^ m:=Zxj hs0 (Zwb okv);have hs':=ZpW s0 ((us.take k).map mvD) (mvD v)
  have et:(us.take (k+1)).map mvD=(us.take k).map mvD++[mvD v]:=by rw[ZaD hgi,map_append]; rfl
  rw[←et]at hs';walk_at "";refine Za8 e1 (v:=.ref cl) rfl ?_;walk_at "";refine⟨s0,m,cl,hs,v.2,rfl,hm,hs0,e3,pc,fun c hc=>(okv.cs c hc).2,okv.nd,?_⟩;walk_at "";refine⟨x,s0,m,onN s0 (chgs v.2),v,rfl,hm,hs0,M,okv,?_⟩
  have ef:fitN s0 (onN s0 (chgs v.2)) (mvD v)=(mvD v).1.2.holds s0:=by
   unfold fitN;rw[decide_eq_true (show onN s0 (mvD v).2=onN s0 (chgs v.2) from rfl),Bool.and_true]
  rw[ef];walk_at "";refine ZnR (fun hb=>?_) (fun hb=>?_)
  ·walk_at ""
   rw[Zbj,Zjf];refine⟨rfl,some (.ref x),some (.int ((onN s0 (chgs v.2):Nat):Int)),?_⟩;rw[hs',if_pos hb]
   all_goals rfl
  ·walk_at ""
   refine⟨rfl,some (.ref x),some (.int ((onN s0 (chgs v.2):Nat):Int)),?_⟩;rw[hs',if_neg (by rw[hb]; exact Bool.false_ne_true)]
   all_goals rfl
 ·rintro σ H' ⟨rfl,v3,v4,rfl⟩
  rw[length_map,Zak hx,take_length];walk_at "";exact q
theorem at_0 {a:V} {l:List V}:atI (a::l) 0=some a:=by
 have:=ZgY (xs:=a::l) (j:=0) (v:=a) rfl;exact this
theorem at_1 {a b:V} {l:List V}:atI (a::b::l) 1=some b:=by
 have:=ZgY (xs:=a::b::l) (j:=1) (v:=b) rfl;exact this
theorem EnTA.kd {m:Nat} {H:Hp} {x:Addr} {e:EnT} (h:EnTA m H x e):∃(q:Addr) (r:List V) (g:Tr),H x=some (.tup (.str (kdE e)::.ref q::r))∧PrA m H q g∧(e=.st g∨e=.bd g∨∃cs,e=.mv (g,cs)):=by
 cases e with
 | st g=>obtain⟨q,e,a⟩:=h; exact⟨q,[],g,e,a,.inl rfl⟩
 | bd g=>obtain⟨q,e,a⟩:=h; exact⟨q,[],g,e,a,.inr (.inl rfl)⟩
 | mv v=>obtain⟨q,cl,hs,e,a,e2,p⟩:=h; exact⟨q,[.ref cl],v.1,e,a,.inr (.inr ⟨v.2,rfl⟩)⟩
def ZCh:Sp:=fun vs H Q _=>∃(m:Nat) (l:Addr) (xs:List Addr) (es:List EnT) (z:Str),vs=[.ref l,.str z]∧(z = "start"∨z = "bad")∧H l=some (.lst (xs.map V.ref))∧Paired (EnTA m H) xs es∧Q (.int ((anyN m ((ofE z es).map (fmT id)):Nat):Int)) H
theorem ZDW (T:Txt K mg t):FnS P w K mg base 1 "_law_any" ["_law_rest","_law_word"] (ZCh):=by
 refine⟨_,_,T.Zfs.ok Zhz (fun vs H Q E h=>?_) (fun cdv A outer s H vs Q E hr h=>?_),T.Zoc,T.Zfs.kp,T.Zow⟩
 ·obtain⟨m,l,xs,es,z,rfl,hz,hl,hx,q⟩:=h
  rfl
 obtain⟨m,l,xs,es,z,rfl,hz,hl,hx,q⟩:=h
 refine⟨_,(Zab (ss 2 Zhz.nd Zac)
   (Zab (ZaS PassesOwn.never rfl (Za6 (pv 0)) (sg 3 Zhz.nd)
   (Zae (ZaB (Zaj (ZaA hr.units) (Zav Zam (pv 3) Zac (fun _ _=>rfl)) (pv 1) (Zan _))
   (Zae (ss 2 Zhz.nd (Zai ZlY (pv 2) (Zav Zam (Zav Zam (pv 3) Zac (fun _ _=>rfl)) Zac (fun _ _=>rfl)))))
   Zap)))
   (Zae (Zao (pv 2))))),?_⟩
 walk_at "rd0";refine seqL (xs:=xs.map V.ref) (fun k σ H'=>H'=H∧∃v3,σ=[some (.ref l),some (.str z),some (.int ((anyN m ((ofE z (es.take k)).map (fmT id)):Nat):Int)),v3]) ⟨rfl,_,by unfold ofE; split <;> rfl⟩ (fun k σ H' _ hp=>by obtain⟨rfl,_⟩:=hp; exact SqL.of hl) ?_ ?_
 ·rintro k y σ H' hy ⟨rfl,v3,rfl⟩
  obtain⟨x,rfl,hx'⟩:=Zbf hy;obtain⟨e,hgi,M⟩:=ZaJ hx hx';obtain⟨q',r,g,e1,⟨p',e2,_⟩,hc⟩:=M.kd
  have et:ofE z (es.take (k+1))=ofE z (es.take k)++ofE z [e]:=by
   rw[ZaD hgi];unfold ofE
   split
   ·exact Zzz _ _
   ·exact Zyo _ _
  walk_at "";refine Za8 e1 (v:=.str (kdE e)) at_0 ?_;walk_at "";refine Zb7 (fun h=>?_) (fun h=>?_)
  ·have eg:ofE z [e]=[g]:=by
    unfold ofE
    rcases hz with rfl | rfl
    ·rw[if_pos rfl]
     rcases hc with rfl | rfl | ⟨cs,rfl⟩
     ·rfl
     ·exact absurd h (by show ¬("bad" : Str) = "start"; decide)
     ·exact absurd h (by show ¬("move" : Str) = "start"; decide)
    ·rw[if_neg (by decide)]
     rcases hc with rfl | rfl | ⟨cs,rfl⟩
     ·exact absurd h (by show ¬("start" : Str) = "bad"; decide)
     ·rfl
     ·exact absurd h (by show ¬("move" : Str) = "bad"; decide)
   walk_at "";refine Za8 e1 (v:=.ref q') at_1 ?_;walk_at "";refine Za8 e2 (v:=.int ((crT m g:Nat):Int)) rfl ?_;walk_at "";rw[Zjf];refine⟨rfl,some (.ref x),?_⟩;rw[et,eg,map_append,map_cons,map_nil,Zmj]
   all_goals rfl
  ·have eg:ofE z [e]=[]:=by
    unfold ofE
    rcases hz with rfl | rfl
    ·rw[if_pos rfl]
     rcases hc with rfl | rfl | ⟨cs,rfl⟩
     ·exact absurd rfl h
     ·rfl
     ·rfl
    ·rw[if_neg (by decide)]
     rcases hc with rfl | rfl | ⟨cs,rfl⟩
     ·rfl
     ·exact absurd rfl h
     ·rfl
   walk_at "";refine⟨rfl,some (.ref x),?_⟩;rw[et,eg,append_nil]
 ·rintro σ H' ⟨rfl,v3,rfl⟩
  rw[length_map,Zak hx,take_length];walk_at "";exact q
end
unseal PE PA PS PSs
seal PE PA PS PSs
section
variable {P:Program} {w:World} {K:W.Frag} {mg:Str→Option Value} {base:Heap} {t:Ad} {n:Nat}
def EntL (m:Nat) (H:Hp) (l:Addr) (es:List EnT):Prop:=∃xs,H l=some (.lst (xs.map V.ref))∧Paired (EnTA m H) xs es
def ZCp:Sp:=fun vs H Q _=>∃(m:Nat) (l:Addr) (es:List EnT) (c:Int),vs=[.ref l,.int c]∧EntL m H l es∧es.length≤100∧∀a es' H',Same H H'→EntL m H' a es'→(∀e∈es',e∈es)→es'.length≤es.length→Q (.ref a) H'
theorem Zy2 (T:Txt K mg t):FnS P w K mg base 1 "_law_mixed" ["_law_rest","_law_cell"] (ZCp):=by
 refine⟨_,_,T.Zdy.ok Zfo (fun vs H Q E h=>?_) (fun cdv A outer s H vs Q E hr h=>?_),T.Zlm,T.Zdy.kp,T.ZlD⟩
 ·obtain⟨m,l,es,c,rfl,⟨xs,hl,hx⟩,hz,q⟩:=h
  rfl
 obtain⟨m,l,es,c,rfl,⟨xs,hl,hx⟩,hz,q⟩:=h;have hxl:=Zak hx
 obtain⟨k,hk,hkn⟩ : ∃k:Nat,c % ((xs.length:Int)+1)=(k:Int)∧k < xs.length+1:=by
  have v1:=Int.emod_nonneg c (show(xs.length:Int)+1≠0 by omega);have v2:=Int.emod_lt_of_pos c (show(0:Int) < (xs.length:Int)+1 by omega);exact⟨(c % ((xs.length:Int)+1)).toNat,by omega,by omega⟩
 refine⟨_,(Zab (ss 2 Zfo.nd (Zai ZaR (pv 1) (Zai Zay (Zaw Zaz rfl T.B.len Za4 (Zaa (pv 0) Zad)) Zac)))
   (Zab (ss 0 Zfo.nd (Zai Zay (Za9 Zc1 (pv 0) (Zbn (pv 2)) Zb5) (Za9 Zc1 (pv 0) Zb5 (Zbn (pv 2)))))
   (Zab (ZaB (Zaj (ZaA hr.units) (Zai ZaR (Zai ZaU (pv 1) Zac) Zac) Zac (Zan _))
   (Zae (Zao (pv 0)))
   Zap)
   (Zab (ZkX 3 Zfo.nd (sc:=Zah Ze2) (N:=["_law_rest","_law_cell","_law_place","_law_evens"]) (ns:=["_law_rest"]) (ix:=[0]) rfl rfl (by decide +kernel) rfl (ZaZ rfl T.B.range (Zaa (Zaw Zaz rfl T.B.len Za4 (Zaa (pv 0) Zad)) Zad)) (fun _ _ _ _=>(Zig (Zaj (ZaA hr.units) (Zai ZaR (pv 0) Zac) Zac (Zan _)))) (fun _ _ _ _=>(Zav (Zd4 (K:=K) rfl) (pv 1) (pv 0) (fun _ _=>rfl))))
   (Zae (Zao (Zai Zay (ZfR (sc:=Zah Ze2) (N:=["_law_rest","_law_cell","_law_place","_law_evens"]) (ns:=["_law_rest"]) (ix:=[0]) rfl rfl (by decide +kernel) rfl (ZaZ rfl T.B.range (Zaa (Zaw Zaz rfl T.B.len Za4 (Zaa (pv 0) Zad)) Zad)) (fun _ _ _ _=>(Zig (Zaj (ZaA hr.units) (Zai ZaR (pv 0) Zac) Zac (Zan _)))) (fun _ _ _ _=>(Zav (Zd4 (K:=K) rfl) (pv 1) (pv 0) (fun _ _=>rfl)))) (pv 3)))))))),?_⟩
 walk_at "rd0";rw[length_map,hk];walk_at "";refine ZkO (SqL.of hl) (ZdX (k:=k) (by rw[length_map]; omega)) fun a1 H1 s1 n1 e1=>?_;walk_at "";refine ZkO (SqL.of (s1 _ _ hl)) (Zwh (k:=k) (by rw[length_map]; omega)) fun a2 H2 s2 n2 e2=>?_;rw[←map_drop]at e1;rw[←map_take]at e2;refine ZkN (s2 _ _ e1) e2 (by simp only [length_map,length_drop,length_take]; omega) fun a3 H3 s3 n3 e3=>?_;rw[←map_append]at e3;have w3:=s1.trans (s2.trans s3);have hx3:Paired (EnTA m H3) (xs.drop k++xs.take k) (es.drop k++es.take k):=Zaq (Zhj k (Zaf (fun _ _ z=>z.same w3) hx)) (Zhl k (Zaf (fun _ _ z=>z.same w3) hx));have hm3:∀e∈es.drop k++es.take k,e∈es:=fun e he=>(mem_append.mp he).elim List.mem_of_mem_drop mem_of_mem_take
 have hl3:(es.drop k++es.take k).length=es.length:=by rw[length_append,length_drop,length_take]; omega
 generalize xs.drop k++xs.take k=ys at e3 hx3;generalize es.drop k++es.take k=fs at hx3 hm3 hl3;have hyl:=Zak hx3;walk_at "";refine Zb7 (fun h=>?_) (fun h=>?_)
 ·walk_at ""
  exact q a3 fs H3 w3 ⟨ys,e3,hx3⟩ hm3 (by omega)
 walk_at "";refine⟨_,rfl,by rw[length_map]; omega,by rw[length_map]; omega,?_⟩;rw[length_map,show((ys.length:Int)).toNat=ys.length by omega];refine Zgv (fun i vs=>∃zs gs,vs=zs.map V.ref∧Paired (EnTA m H3) zs gs∧(∀e∈gs,e∈fs)∧gs.length≤(i+1) / 2) (Zgr 0 ys.length H3) (by rw[length_map,length_range]; omega) ⟨[],[],rfl,.nil,(fun e he=>by cases he),Nat.zero_le _⟩ ?_ ?_
 ·rintro i x vs acc H' hxi sH hacc ea ⟨zs,gs,rfl,pz,mz,lz⟩ _ R kk
  obtain⟨hi,rfl⟩:=ZfG hxi;obtain⟨y,hy⟩ : ∃y,ys[i]?=some y:=⟨_,List.getElem?_eq_getElem hi⟩;obtain⟨e,hei,hE⟩:=ZaJ hx3 hy;simp only [subS,map_cons,map_nil];walk_at "";refine kk _ H' (Same.refl _) (fun z=>?_) fun z R2 k2=>?_
  ·have z:=of_decide_eq_false z
   exact⟨zs,gs,rfl,pz,mz,by omega⟩
  ·have z:=of_decide_eq_true z
   walk_at "";rw[show(0:Int)+(i:Int)=(i:Int) by omega];refine ZbJ (j:=i) (sH _ _ e3) (v:=.ref y) (by rw[getElem?_map,hy]; rfl) ?_;refine k2 _ H' (Same.refl _) ⟨zs++[y],gs++[e],by rw[map_append]; rfl,Zaq pz (.cons hE .nil),fun e' he=>?_,by rw[length_append,length_singleton]; omega⟩
   rcases mem_append.mp he with he | he
   ·exact mz e' he
   ·rw[mem_singleton.mp he]; exact mem_of_getElem? hei
 rintro a4 vs H4 n4 s4 e4 ⟨zs,gs,rfl,pz,mz,lz⟩;rw[length_map,length_range]at lz;have e34:=s4 _ _ e3;have hx4:Paired (EnTA m H4) ys fs:=Zaf (fun _ _ z=>z.same s4) hx3;have pz4:Paired (EnTA m H4) zs gs:=Zaf (fun _ _ z=>z.same s4) pz;have hzl:=Zak pz4;walk_at "";refine⟨_,rfl,by rw[length_map]; omega,by rw[length_map]; omega,?_⟩;rw[length_map,show((ys.length:Int)).toNat=ys.length by omega];refine Zgv (fun i vs=>∃zs gs,vs=zs.map V.ref∧Paired (EnTA m H4) zs gs∧(∀e∈gs,e∈fs)∧gs.length≤i / 2) (Zgr 0 ys.length H4) (by rw[length_map,length_range]; omega) ⟨[],[],rfl,.nil,(fun e he=>by cases he),Nat.zero_le _⟩ ?_ ?_
 ·rintro i x vs acc H' hxi sH hacc ea ⟨zs,gs,rfl,pz,mz,lz⟩ _ R kk
  obtain⟨hi,rfl⟩:=ZfG hxi;obtain⟨y,hy⟩ : ∃y,ys[i]?=some y:=⟨_,List.getElem?_eq_getElem hi⟩;obtain⟨e,hei,hE⟩:=ZaJ hx4 hy;simp only [subS,map_cons,map_nil];walk_at "";refine kk _ H' (Same.refl _) (fun z=>?_) fun z R2 k2=>?_
  ·have z:=of_decide_eq_false z
   exact⟨zs,gs,rfl,pz,mz,by omega⟩
  ·have z:=of_decide_eq_true z
   walk_at "";rw[show(0:Int)+(i:Int)=(i:Int) by omega];refine ZbJ (j:=i) (sH _ _ e34) (v:=.ref y) (by rw[getElem?_map,hy]; rfl) ?_;refine k2 _ H' (Same.refl _) ⟨zs++[y],gs++[e],by rw[map_append]; rfl,Zaq pz (.cons hE .nil),fun e' he=>?_,by rw[length_append,length_singleton]; omega⟩
   rcases mem_append.mp he with he | he
   ·exact mz e' he
   ·rw[mem_singleton.mp he]; exact mem_of_getElem? hei
 rintro a5 vs H5 n5 s5 e5 ⟨zs2,gs2,rfl,pz2,mz2,lz2⟩;rw[length_map,length_range]at lz2;have hzl2:=Zak pz2;walk_at "";refine ZkN e5 (s5 _ _ e4) (by simp only [length_map]; omega) fun a6 H6 s6 n6 e6=>?_;rw[←map_append]at e6;refine q a6 (gs2++gs) H6 (w3.trans (s4.trans (s5.trans s6))) ⟨_,e6,Zaq (Zaf (fun _ _ z=>z.same (s5.trans s6)) pz2) (Zaf (fun _ _ z=>z.same (s5.trans s6)) pz4)⟩ (fun e he=>(mem_append.mp he).elim (fun h=>hm3 e (mz2 e h)) (fun h=>hm3 e (mz e h))) (by rw[length_append]; omega)
end
unseal PE PA PS PSs
theorem Zh1 {ns:List Str} {k:Nat} (h:k < ns.length):ns[k]?=some (ns.getD k Str.empty):=by
 rw[getD_eq_getElem?_getD,List.getElem?_eq_getElem h];rfl
theorem ZFp {z:Str} (h:Nm8 z) (hk:z∉Zhh):z∉(["yes","no","not","(",")"]:List Str):=by
 unfold Zhh at hk;simp only [mem_cons,not_mem_nil,or_false,not_or]at hk ⊢;refine⟨hk.2.2.2.2.1,hk.2.2.2.2.2.1,hk.2.2.1,?_,?_⟩
 ·rintro rfl
  have:=h.1 40 (by decide);omega
 ·rintro rfl
  have:=h.1 41 (by decide);omega
theorem ZDR {zs:List Str} (h:∀z∈zs,Nm8 z∧z∉Zhh) (nd:zs.Nodup):NmsOk zs zs id zs.length:=
 ⟨fun k hk=>ZmP nd (Zh1 hk),fun k hk=>by
  have:=h _ (mem_of_getElem? (Zh1 hk))
  exact ZFp this.1 this.2⟩
theorem ZAs {z:Str} (h:Nm8 z):NmL z∧z.length≤8:=⟨⟨fun e=>by
 have a:=h.2.1
 have b:z.cps.toList.length=z.length:=by simp[Str.length]
 rw[e]at b;simp at b
 omega,h.1⟩,h.2.2⟩
theorem Zkq {z:Str} (h:WdS z):ZnG z:=by
 unfold ZnG
 have a:=StrLaws.reprText_len z (fun c hc=>by
  rcases h.1 with e | e | e
  ·have hc:c∈cl1 z:=hc
   rw[e]at hc;rw[mem_singleton.mp hc];decide
  ·have hc:c∈cl1 z:=hc
   rw[e]at hc;rw[mem_singleton.mp hc];decide
  ·have:=e.2 c hc
   have:(128:Nat)≤16 ^ 8:=by decide
   omega)
 have:=h.2;omega
theorem ZzH {x:Str} (h:∀d∈x.cps.toList,al d=true):Asc x:=fun c hc=>by
 have:=h c hc;unfold al isL isM at this;simp only [Bool.or_eq_true,Bool.and_eq_true,decide_eq_true_iff,beq_iff_eq]at this;omega
section
variable {P:Program} {w:World} {K:W.Frag} {mg:Str→Option Value} {base:Heap} {t:Ad} {n:Nat}
end
theorem Zpb {Pz:Str→Prop} {k:Str} (hk:Pz k):∀{ps:List (List Str)},(∀p∈ps,∀z∈p,Pz z)→∀z∈jnW k ps,Pz z
 | [],_,z,h=>by cases h
 | [p],hp,z,h=>hp p mem_cons_self z h
 | p::q::r,hp,z,h=>by
  have h:z∈p++k::jnW k (q::r):=h
  rcases mem_append.mp h with h | h
  ·exact hp p mem_cons_self z h
  ·rcases mem_cons.mp h with rfl | h
   ·exact hk
   ·exact Zpb hk (fun x hx=>hp x (mem_cons_of_mem _ hx)) z h
theorem Zpc (k:Str) {B:Nat}:∀{ps:List (List Str)},(∀p∈ps,p.length≤B)→(jnW k ps).length≤(B+1) * ps.length
 | [],_=>Nat.zero_le _
 | [p],h=>by have:=h p mem_cons_self; show p.length≤_; simp only [length_singleton]; omega
 | p::q::r,h=>by
  have a:=h p mem_cons_self;have b:=Zpc k (ps:=q::r) fun x hx=>h x (mem_cons_of_mem _ hx);show(p++k::jnW k (q::r)).length≤_;rw[length_append,length_cons,length_cons (a:=p),Nat.mul_succ];omega
theorem Znk {α β γ:Type} {R:β→γ→Prop} {f:α→β} {g:α→γ}:∀{as:List α},(∀a∈as,R (f a) (g a))→Paired R (as.map f) (as.map g)
 | [],_=>.nil
 | a::as,h=>.cons (h a mem_cons_self) (Znk fun x hx=>h x (mem_cons_of_mem _ hx))
structure NmA (ns:List Str):Prop where
 nm:∀z∈ns,Nm8 z∧z∉Zhh
 nd:ns.Nodup
 n1:1≤ns.length
 n6:ns.length≤6
theorem NmA.lm {ns:List Str} (A:NmA ns):LmpW ns:=by
 refine⟨A.n1,A.n6,fun z hz=>⟨?_,(A.nm z hz).1.2.2⟩,A.nd⟩;obtain⟨a,b⟩:=A.nm z hz
 obtain⟨x1,x2,x3⟩ : z≠"("∧z≠")"∧z≠",":=by
  refine⟨?_,?_,?_⟩
  ·rintro rfl; have:=a.1 40 (by decide); omega
  ·rintro rfl; have:=a.1 41 (by decide); omega
  ·rintro rfl; have:=a.1 44 (by decide); omega
 unfold noNm;unfold Zhh at b;simp only [mem_cons,not_mem_nil,or_false,not_or]at b ⊢;exact⟨b.1,b.2.1,b.2.2.1,b.2.2.2.1,b.2.2.2.2.1,b.2.2.2.2.2.1,b.2.2.2.2.2.2.1,b.2.2.2.2.2.2.2,x1,x2,x3⟩
theorem NmA.wd {ns:List Str} (A:NmA ns):∀z∈ns,WdS z:=fun z hz=>⟨Wd.let (ZAs (A.nm z hz).1).1,(ZAs (A.nm z hz).1).2⟩
theorem NmA.get {ns:List Str} (A:NmA ns) {k:Nat} (hk:k < ns.length):ns.getD k Str.empty∈ns:=mem_of_getElem? (Zh1 hk)
def pc17 (ns:List Str) (c:Nat×Tr):List Str:=ns.getD c.1 Str.empty::("is" : Str)::wdG true ns c.2
def enW (ns:List Str):EnT→List Str
 | .st g=>"start"::wdG true ns g
 | .bd g=>"bad"::wdG true ns g
 | .mv v=>"move"::(wdG true ns v.1++("then" : Str)::jnW "," (v.2.map (pc17 ns)))
theorem Zt1 (k:Str):∀(ps:List (List Str)) (p:List Str),jnW k (ps++[p])=if ps=[] then p else jnW k ps++k::p
 | [],p=>rfl
 | [q],p=>rfl
 | q::r::ps,p=>by
  have ih:=Zt1 k (r::ps) p;rw[if_neg (by simp)]at ih ⊢;show q++k::jnW k (r::ps++[p])=(q++k::jnW k (r::ps))++k::p;rw[ih];simp
def OkE (m:Nat):EnT→Prop
 | .st g=>okT m g=true∧nT g≤51
 | .bd g=>okT m g=true∧nT g≤51
 | .mv v=>OkM17 m v
theorem ZpZ {ns:List Str} (A:NmA ns) {tr:Tr} (h:okT ns.length tr=true):∀z∈wdG true ns tr,WdX z:=fun z hz=>
 (ZrZ ZwT (m:=ns.length) (fun k hk=>A.wd _ (A.get hk)) tr h z hz).x
theorem ZuF {z:Str} (h:NmL z∧z.length≤9):WdX z:=⟨.inr (.inr (.inr h.1)),h.2⟩
seal PE PA PS PSs
section
variable {P:Program} {w:World} {K:W.Frag} {mg:Str→Option Value} {base:Heap} {t:Ad} {n:Nat}
def Zzp:Sp:=fun vs H Q _=>∃(x nl:Addr) (ns:List Str) (e:EnT) (c:Int),vs=[.ref x,.ref nl,.int c]∧EnTA ns.length H x e∧H nl=some (.lst (ns.map V.str))∧NmA ns∧OkE ns.length e∧∀z H',Same H H'→LnW z (enW ns e)→Q (.str z) H'
theorem ZBP (T:Txt K mg t):FnS P w K mg base 60 "_law_line" ["_law_entry","_law_names_here","_law_seed"] (Zzp):=by
 refine⟨_,_,T.Zeq.ok ZcD (fun vs H Q E h=>?_) (fun cdv A outer s H vs Q E hr h=>?_),T.Zmp,T.Zeq.kp,T.Zm5⟩
 ·obtain⟨x,nl,ns,e,c,rfl,hE,hn,A,ok,q⟩:=h
  rfl
 obtain⟨x,nl,ns,e,c,rfl,hE,hn,A,ok,q⟩:=h;have ZgX:=Zrz (P:=P) (w:=w) (base:=base) T;have ZbP:=Zoa (P:=P) (w:=w) (base:=base) T 52;obtain⟨q',r,g,e1,⟨p',e2,hT⟩,hc⟩:=hE.kd
 have okg:okT ns.length g=true∧nT g≤51:=by
  rcases hc with rfl | rfl | ⟨cs,rfl⟩
  ·exact ok
  ·exact ok
  ·exact ok.gd
 have wl:=ZlR true ns g;have fin:∀(ws:List Str) (l:Addr) (H':Hp),Same H H'→H' l=some (.lst (ws.map V.str))→(∀z∈ws,WdX z)→ws.length≤1430→ws≠[]→ws=enW ns e→ZrR [.ref l,.int c] H' Q (fun _ _ _=>False):=fun ws l H' s h1 h2 h3 h4 h5=>⟨l,ws,c,rfl,h1,h2,h3,fun z hz hl hw=>q z H' s (by rw[←h5]; exact⟨ZzH hz,hl,all_eq_true.mpr hz,hw,h4⟩)⟩
 have kw:∀z:Str,z∈(["start","bad","move","then","is"]:List Str)→WdX z:=fun z hz=>by
  simp only [mem_cons,not_mem_nil,or_false]at hz
  rcases hz with rfl | rfl | rfl | rfl | rfl <;> exact ZuF ⟨⟨by decide,by decide⟩,by decide⟩
 refine⟨_,(Zab (ss 3 ZcD.nd (Zai Zay (ZaO (Zaa (Zav Zam (pv 0) Zac (fun _ _=>rfl)) Zad)) (ZaE ZbP hr (Zaa (Zav Zam (Zav Zam (pv 0) Zac (fun _ _=>rfl)) Zac (fun _ _=>rfl)) (Zaa (pv 1) (Zaa Zfl Zad))))))
   (Zab (ZaB (Zaj (ZaA hr.units) (Zav Zam (pv 0) Zac (fun _ _=>rfl)) Zal (Zan _))
   (Zab (ss 4 ZcD.nd Zal)
   (Zae (ZaS PassesOwn.never rfl (Za6 (Zav Zam (pv 0) Zac (fun _ _=>rfl))) (Znn rfl (Zco (sg 5 ZcD.nd) (Zco (sg 6 ZcD.nd) Zjw)))
   (Zab (ss 3 ZcD.nd (Zai Zay (Zai Zay (pv 3) (ZaO (Zaa (pv 4) (Zaa (Zav Zam (pv 1) (pv 5) (fun _ _=>rfl)) (Zaa Zal Zad))))) (ZaE ZbP hr (Zaa (Zav Zam (pv 6) Zac (fun _ _=>rfl)) (Zaa (pv 1) (Zaa Zfl Zad))))))
   (Zae (ss 4 ZcD.nd Zal))))))
   Zap)
   (Zae (Zao (ZaE ZgX hr (Zaa (pv 3) (Zaa (pv 2) Zad))))))),?_⟩
 walk_at "rs0";refine ZhM ?_;walk_at "rs";refine Za8 e1 (v:=.str (kdE e)) at_0 ?_;walk_at "rs";refine ZbW (by simp) fun l1 H1 s1 n1 e3=>?_;walk_at "rs";refine Za8 (s1 _ _ e1) (v:=.ref q') at_1 ?_;walk_at "rs";refine Za8 (s1 _ _ e2) (v:=.ref p') rfl ?_;walk_at "rs";refine⟨p',nl,true,g,ns,rfl,hT.same s1,s1 _ _ hn,okg.1,by omega,fun l2 H2 s2 n2 e4=>?_⟩;refine ZkN (s2 _ _ e3) e4 (by simp only [length_map,length_singleton]; omega) fun l3 H3 s3 n3 e5=>?_;have w3:=s1.trans (s2.trans s3);have e5:H3 l3=some (.lst ((kdE e::wdG true ns g).map V.str)):=e5;walk_at "rs";refine Zh8 (fun σ H'=>∃l v4 v5 v6,Same H H'∧H' l=some (.lst ((enW ns e).map V.str))∧(∀z∈enW ns e,WdX z)∧(enW ns e).length≤1430∧σ=[some (.ref x),some (.ref nl),some (.int c),some (.ref l),v4,v5,v6]) ?_ ?_
 rotate_left
 ·intro Kn hK
  walk_at "rs";refine Za8 (w3 _ _ e1) (v:=.str (kdE e)) at_0 ?_;walk_at "rs"
  have one:∀z:Str,WdX z→∀y∈z::wdG true ns g,WdX y:=fun z hz y hy=>by
   rcases mem_cons.mp hy with rfl | hy
   ·exact hz
   ·exact ZpZ A okg.1 y hy
  rcases hc with rfl | rfl | ⟨cs,rfl⟩
  ·refine ZaI (by show decide (("start" : Str) = "move")=false; decide) ?_
   walk_at "rs";exact hK _ _ ⟨l3,_,_,_,w3,e5,one _ (kw _ (by simp)),by show(wdG true ns g).length+1≤_; omega,rfl⟩
  ·refine ZaI (by show decide (("bad" : Str) = "move")=false; decide) ?_
   walk_at "rs";exact hK _ _ ⟨l3,_,_,_,w3,e5,one _ (kw _ (by simp)),by show(wdG true ns g).length+1≤_; omega,rfl⟩
  ·refine ZbT (by show decide (("move" : Str) = "move")=true; decide) ?_
   obtain⟨q2,cl,hs,f1,_,f3,f4⟩:=hE;have hcl:=Zak f4;have l6:cs.length≤6:=ok.l6;have l1:1≤cs.length:=ok.l1;walk_at "rs";refine ZhM ?_;walk_at "rs";refine Za8 (w3 _ _ f1) (v:=.ref cl) rfl ?_
   let tlk:Nat→List Str:=fun k=>if k=0 then [] else("then" : Str)::jnW "," ((cs.take k).map (pc17 ns))
   have pcl:∀d∈cs,(pc17 ns d).length≤203:=fun d hd=>by
    have:=ZlR true ns d.2;have:=(ok.cs d hd).1.2;show(wdG true ns d.2).length+2≤_;omega
   have pcw:∀d∈cs,∀z∈pc17 ns d,WdX z:=fun d hd z hz=>by
    have hz:z∈ns.getD d.1 Str.empty::("is" : Str)::wdG true ns d.2:=hz
    rcases mem_cons.mp hz with rfl | hz
    ·exact(A.wd _ (A.get (ok.cs d hd).2)).x
    rcases mem_cons.mp hz with rfl | hz
    ·exact kw _ (by simp)
    ·exact ZpZ A (ok.cs d hd).1.1 z hz
   have tll:∀k,(tlk k).length≤1+204 * 6:=fun k=>by
    show(if k=0 then [] else("then" : Str)::jnW "," ((cs.take k).map (pc17 ns))).length≤_
    split
    ·simp
    ·have:=Zpc "," (B:=203) (ps:=(cs.take k).map (pc17 ns)) (fun p hp=>by obtain⟨d,hd,rfl⟩:=mem_map.mp hp; exact pcl d (mem_of_mem_take hd))
     rw[length_map,length_take]at this;have b:(203+1) * min k cs.length≤204 * 6:=Nat.mul_le_mul_left _ (by omega);rw[length_cons];omega
   refine seqL (xs:=hs.map V.ref) (fun k σ H'=>∃la v5 v6,Same H H'∧H' la=some (.lst ((("move" : Str)::(wdG true ns g++tlk k)).map V.str))∧σ=[some (.ref x),some (.ref nl),some (.int c),some (.ref la),some (.str (if k=0 then "then" else ",")),v5,v6]) ⟨l3,_,_,w3,by rw[e5]; simp[tlk,kdE],rfl⟩ (fun k σ H' _ hp=>by obtain⟨_,_,_,s,_⟩:=hp; exact SqL.of (s _ _ f3)) ?_ ?_
   ·rintro k y σ H4 hy ⟨la,v5,v6,s4,e6,rfl⟩
    obtain⟨h,rfl,hh⟩:=Zbf hy;obtain⟨d,hdi,qd,ed,pd,ep,hTd⟩:=ZaJ f4 hh;have hdm:=mem_of_getElem? hdi;obtain⟨⟨okd,ntd⟩,hdl⟩:=ok.cs d hdm;have hil:k < cs.length:=(List.getElem?_eq_some_iff.mp hdi).1;have wd':=ZlR true ns d.2;have tl4:=tll k;refine ZsH (s4 _ _ ed) ?_;walk_at "rs";refine ZhM ?_;walk_at "rs";refine ZbJ (j:=d.1) (s4 _ _ hn) (v:=.str (ns.getD d.1 Str.empty)) (by rw[getElem?_map,Zh1 hdl]; rfl) ?_;walk_at "rs";refine ZbW (by simp) fun l5 H5 s5 n5 e7=>?_;refine ZkN (s5 _ _ e6) e7 (by simp only [length_map,length_cons,length_append,length_nil]; omega) fun l6' H6 s6 n6 e8=>?_;walk_at "rs";have w6:=s4.trans (s5.trans s6);refine Za8 (w6 _ _ ep) (v:=.ref pd) rfl ?_;walk_at "rs";refine⟨pd,nl,true,d.2,ns,rfl,hTd.same w6,w6 _ _ hn,okd,by omega,fun l7 H7 s7 n7 e9=>?_⟩;refine ZkN (s7 _ _ e8) e9 (by simp only [length_map,length_cons,length_append,length_nil]; omega) fun l8 H8 s8 n8 e10=>?_;walk_at "rs";refine⟨l8,_,_,w6.trans (s7.trans s8),?_,rfl⟩;rw[e10]
    have et:tlk (k+1)=tlk k++(if k=0 then("then" : Str) else ",")::pc17 ns d:=by
     show(if k+1=0 then [] else("then" : Str)::jnW "," ((cs.take (k+1)).map (pc17 ns)))=(if k=0 then [] else("then" : Str)::jnW "," ((cs.take k).map (pc17 ns)))++_;rw[if_neg (by omega),ZaD hdi,map_append,map_cons,map_nil,Zt1]
     by_cases hk:k=0
     ·subst hk
      simp
     ·have hne:(cs.take k).map (pc17 ns)≠[]:=fun z=>by
       rw[List.map_eq_nil_iff]at z;have hl0:=congrArg List.length z;rw[length_take]at hl0;have hl0:min k cs.length=0:=hl0;omega
      rw[if_neg hk,if_neg hk,if_neg hne];simp
    rw[et];have:pc17 ns d=ns.getD d.1 Str.empty::("is" : Str)::wdG true ns d.2:=rfl;rw[this];simp
   ·rintro σ H4 ⟨la,v5,v6,s4,e6,rfl⟩
    rw[length_map,hcl]at e6
    have ee:enW ns (.mv (g,cs))=("move" : Str)::(wdG true ns g++tlk cs.length):=by
     show("move" : Str)::(wdG true ns g++("then" : Str)::jnW "," (cs.map (pc17 ns)))=("move" : Str)::(wdG true ns g++(if cs.length=0 then [] else("then" : Str)::jnW "," ((cs.take cs.length).map (pc17 ns))));rw[if_neg (by omega),take_length]
    refine hK _ _ ⟨la,_,_,_,s4,by rw[ee]; exact e6,fun z hz=>?_,?_,rfl⟩
    ·have hz:z∈("move" : Str)::(wdG true ns g++("then" : Str)::jnW "," (cs.map (pc17 ns))):=hz
     rcases mem_cons.mp hz with rfl | hz
     ·exact kw _ (by simp)
     rcases mem_append.mp hz with hz | hz
     ·exact ZpZ A okg.1 z hz
     rcases mem_cons.mp hz with rfl | hz
     ·exact kw _ (by simp)
     ·exact Zpb (k:=",") ⟨.inr (.inr (.inl rfl)),by decide⟩ (ps:=cs.map (pc17 ns)) (fun p hp y hy=>by obtain⟨d,hd,rfl⟩:=mem_map.mp hp; exact pcw d hd y hy) z hz
    ·rw[ee,length_cons,length_append]
     have:=tll cs.length;omega
 rintro σ H4 ⟨l,v4,v5,v6,s4,e6,hw,hlen,rfl⟩;walk_at "";refine fin _ l H4 s4 e6 hw hlen ?_ rfl
 cases e <;> simp[enW]
end
unseal PE PA PS PSs
def dat (c:Chg):Nat×Fm:=(c.1,c.2.2)
def dv (v:Mv):Fm×List (Nat×Fm):=(v.1.2,v.2.map dat)
def onD (s:Nat) (ds:List (Nat×Fm)):Nat:=ds.foldl (fun f d=>if d.2.holds s then f ||| 2 ^ d.1 else f - (f &&& 2 ^ d.1)) s
theorem Zxi (s:Nat) (cs:List Chg):onN s cs=onD s (cs.map dat):=by
 unfold onN onD;rw[List.foldl_map];rfl
theorem ZAZ (s o:Nat):fitN s o=(fun d:Fm×List (Nat×Fm)=>d.1.holds s && decide (onD s d.2=o)) ∘ dv:=by
 funext v
 show(v.1.2.holds s && decide (onN s v.2=o))=_;rw[Zxi];rfl
theorem ZFy {mv mv0:List Mv} (h:mv.map dv=mv0.map dv) (s o:Nat):wV s o mv=wV s o mv0:=by
 unfold wV;rw[ZAZ,←List.findIdx?_map,←List.findIdx?_map,h]
theorem ZA7 {m:Nat} {v v0:Mv} (h:dv v=dv v0) (g:GoodMv m v0):GoodMv m v:=by
 have e:v.2.map dat=v0.2.map dat:=(Prod.mk.inj h).2
 have f:v.2.map Prod.fst=v0.2.map Prod.fst:=by
  have:=congrArg (List.map Prod.fst) e;rw[map_map,map_map]at this;exact this
 refine⟨fun c hc=>?_,by rw[f]; exact g.nd⟩
 have:c.1∈v0.2.map Prod.fst:=by rw[←f]; exact mem_map_of_mem hc
 obtain⟨c',hc',e'⟩:=mem_map.mp this;rw[←e'];exact g.lo c' hc'
theorem ZqJ {m:Nat} {mv mv0:List Mv} (h:mv.map dv=mv0.map dv) (g:∀u∈mv0,GoodMv m u):∀u∈mv,GoodMv m u:=fun u hu=>by
 have:dv u∈mv0.map dv:=by rw[←h]; exact mem_map_of_mem hu
 obtain⟨v0,h0,e⟩:=mem_map.mp this;exact ZA7 e.symm (g v0 h0)
theorem ZEO {mv mv0:List Mv} (h:mv.map dv=mv0.map dv) (s:Nat):stN s mv=stN s mv0:=by
 have e:∀l:List Mv,stN s l=(l.map dv).foldl (fun a d=>if d.1.holds s=true then a ||| 2 ^ onD s d.2 else a) 0:=fun l=>by
  unfold stN;rw[List.foldl_map]
  congr 1
  funext a v
  rw[Zxi];rfl
 rw[e,e,h]
def fm17 (v:Tr×List (Nat×Tr)):Fm×List (Nat×Fm):=(fmT id v.1,v.2.map fun c=>(c.1,fmT id c.2))
theorem ZCY (v:Tr×List (Nat×Tr)):dv (mvD v)=fm17 v:=by
 unfold dv mvD fm17 chgs;rw[map_map];rfl
def Dp (t:Ad) (f:Fm):Prop:=∀H p,FmE t H p f→FmAt t H 62 p f
theorem Zwc {t:Ad} {H:Hp}:∀{hs:List Addr} {cs:List (Nat×Fm)},Paired (ChW t H) hs cs→(∀c∈cs,Dp t c.2)→∃ds:List Chg,Paired (HdAt t H 62) hs ds∧ds.map dat=cs
 | _,_,.nil,_=>⟨[],.nil,rfl⟩
 | _::_,c::_,.cons ⟨b,e,f⟩ r,h=>by
  obtain⟨ds,p,q⟩:=Zwc r fun c hc=>h c (mem_cons_of_mem _ hc);exact⟨(c.1,(b,c.2))::ds,.cons ⟨e,h c mem_cons_self H b f⟩ p,by rw[map_cons,q]; rfl⟩
theorem ZAr {t:Ad} {H:Hp}:∀{xs:List Addr} {us:List (Fm×List (Nat×Fm))},Paired (MvW t H) xs us→(∀v∈us,Dp t v.1∧∀c∈v.2,Dp t c.2)→∃mv:List Mv,Paired (MvP t H) xs mv∧mv.map dv=us
 | _,_,.nil,_=>⟨[],.nil,rfl⟩
 | _::_,v::_,.cons ⟨dx,g,tp,hs,e1,e2,f,p⟩ r,h=>by
  obtain⟨mv,p2,q⟩:=ZAr r fun v hv=>h v (mem_cons_of_mem _ hv);obtain⟨h1,h2⟩:=h v mem_cons_self;obtain⟨ds,p3,q3⟩:=Zwc p h2;exact⟨((g,v.1),ds)::mv,.cons ⟨dx,tp,hs,e1,e2,h1 H g f,p3⟩ p2,by rw[map_cons,q]; unfold dv; rw[q3]⟩
theorem Zws {t:Ad} {H:Hp}:∀{xs:List Addr} {fs:List Fm},Paired (FmE t H) xs fs→(∀f∈fs,Dp t f)→∃sp:List (Addr×Fm),sp.map Prod.fst=xs∧sp.map Prod.snd=fs∧Paired (FmAt t H 62) (sp.map Prod.fst) (sp.map Prod.snd)
 | _,_,.nil,_=>⟨[],rfl,rfl,.nil⟩
 | a::_,f::_,.cons e r,h=>by
  obtain⟨sp,a1,a2,a3⟩:=Zws r fun f hf=>h f (mem_cons_of_mem _ hf);exact⟨(a,f)::sp,by rw[map_cons,a1],by rw[map_cons,a2],.cons (h f mem_cons_self H a e) a3⟩
theorem ZDN {t:Ad} {H:Hp} {x:Addr} {ns:List Str} {ss bs:List Fm} {us:List (Fm×List (Nat×Fm))} (h:MacW t H x ns ss bs us) (k1:∀f∈ss,Dp t f) (k2:∀f∈bs,Dp t f) (k3:∀v∈us,Dp t v.1∧∀c∈v.2,Dp t c.2) :
  ∃dx n s b v sp bp ms mv,MacAt t H x dx n s b v (ns.map V.str) sp bp ms mv∧sp.map Prod.snd=ss∧bp.map Prod.snd=bs∧mv.map dv=us:=by
 obtain⟨dx,n,s,b,v,ps,pb,pv,h1,h2,h3,h4,h5,p1,p2,p3⟩:=h;obtain⟨sp,a1,a2,a3⟩:=Zws p1 k1;obtain⟨bp,b1,b2,b3⟩:=Zws p2 k2;obtain⟨mv,c1,c2⟩:=ZAr p3 k3;exact⟨dx,n,s,b,v,sp,bp,pv,mv,⟨h1,h2,by rw[h3,a1],by rw[h4,b1],h5,a3,b3,c1⟩,a2,b2,c2⟩
theorem ZtU {m:Nat} {v:Tr×List (Nat×Tr)} (ok:OkM17 m v):GoodMv m (mvD v):=⟨Zwb ok,by show((chgs v.2).map Prod.fst).Nodup; rw[ZtM]; exact ok.nd⟩
theorem ZvT {s o:Nat} {us:List (Tr×List (Nat×Tr))} (d0:Tr×List (Nat×Tr)):(((List.range us.length).filter fun i=>fitN s o (mvD (us.getD i d0)))=[]∧wV s o (us.map mvD)=.non)∨∃k r,((List.range us.length).filter fun i=>fitN s o (mvD (us.getD i d0)))=k::r∧wV s o (us.map mvD)=.int (k:Int):=by
 have ge:∀i,i < us.length→(us.map mvD)[i]?=some (mvD (us.getD i d0)):=fun i hi=>by
  rw[getElem?_map,List.getElem?_eq_getElem hi,getD_eq_getElem?_getD,List.getElem?_eq_getElem hi]; rfl
 cases hF:((List.range us.length).filter fun i=>fitN s o (mvD (us.getD i d0))) with
 | nil=>
  refine .inl ⟨rfl,Zx9 fun j u hj hu=>?_⟩;rw[length_map]at hj;rw[ge j hj]at hu
  cases hu
  cases hf:fitN s o (mvD (us.getD j d0)) with
  | false=>rfl
  | true=>
   have:j∈(List.range us.length).filter fun i=>fitN s o (mvD (us.getD i d0)):=mem_filter.mpr ⟨mem_range.mpr hj,hf⟩;rw[hF]at this
   cases this
 | cons k r=>
  have hk:k∈(List.range us.length).filter fun i=>fitN s o (mvD (us.getD i d0)):=by rw[hF]; exact mem_cons_self
  obtain⟨h1,h2⟩:=mem_filter.mp hk;rw[mem_range]at h1;refine .inr ⟨k,r,rfl,Zya (ge k h1) h2 fun j u hj hu=>?_⟩;rw[ge j (by omega)]at hu
  cases hu
  cases hf:fitN s o (mvD (us.getD j d0)) with
  | false=>rfl
  | true=>
   have hm:j∈(List.range us.length).filter fun i=>fitN s o (mvD (us.getD i d0)):=mem_filter.mpr ⟨mem_range.mpr (by omega),hf⟩;have hsort:((List.range us.length).filter fun i=>fitN s o (mvD (us.getD i d0))).Pairwise (· < ·):=List.Pairwise.filter _ List.pairwise_lt_range;rw[hF]at hsort hm
   rcases mem_cons.mp hm with e | hm
   ·omega
   ·have:=(List.pairwise_cons.mp hsort).1 j hm
    omega
seal PE PA PS PSs
section
variable {P:Program} {w:World} {K:W.Frag} {mg:Str→Option Value} {base:Heap} {t:Ad} {n:Nat}
def ZvO (t:Ad):Sp:=fun vs H Q _=>∃(mc l:Addr) (s m:Nat) (xs:List Addr) (us:List (Tr×List (Nat×Tr))) (dx n0 s0 b0 v0:Addr) (ys:List V) (sp bp:List (Addr×Fm)) (ms:List Addr) (mv:List Mv),vs=[.ref mc,.ref l,.int (s:Int)]∧m≤6∧s < 2 ^ m∧MacAt t H mc dx n0 s0 b0 v0 ys sp bp ms mv∧mv.map dv=(us.map mvD).map dv∧H l=some (.lst (xs.map V.ref))∧Paired (fun x v=>EnTA m H x (.mv v)) xs us∧(∀v∈us,OkM17 m v)∧us.length≤100∧∀H',Same H H'→Q (.bl true) H'
theorem Zxh (T:Txt K mg t):FnS P w K mg base 66 "_law_whichs" ["_law_machine","_law_moves_here","_law_stand"] ((ZvO t)):=by
 refine⟨_,_,T.ZcK.ok Zde (fun vs H Q E h=>?_) (fun cdv A outer s H vs Q E hr h=>?_),T.ZjW,T.ZcK.kp,T.Zke⟩
 ·obtain⟨mc,l,s0,m,xs,us,dx,n0,ss0,b0,v0,ys,sp,bp,ms,mv,rfl,hm,hs0,MA,hdv,hl,hx,ok,hul,q⟩:=h
  rfl
 obtain⟨mc,l,s0,m,xs,us,dx,n0,ss0,b0,v0,ys,sp,bp,ms,mv,rfl,hm,hs0,MA,hdv,hl,hx,ok,hul,q⟩:=h;have ZdV:=Znh (P:=P) (w:=w) (base:=base) T;have ZhO:=Zug (P:=P) (w:=w) (base:=base) T;have ZcM:=Zry (P:=P) (w:=w) (base:=base) T;have D_which:=ZuI (P:=P) (w:=w) (base:=base) T;have hp:=ZbV hm;have hxl:=Zak hx
 have gd:∀u∈mv,GoodMv m u:=ZqJ hdv fun u hu=>by obtain⟨v,hv,rfl⟩:=mem_map.mp hu; exact ZtU (ok v hv)
 refine⟨_,(Zab (ZaS PassesOwn.never rfl (Za6 (pv 1)) (sg 3 Zde.nd)
   (Zab (ss 4 Zde.nd (ZaE ZdV hr (Zaa (pv 2) (Zaa (Zav Zam (pv 3) Zac (fun _ _=>rfl)) Zad))))
   (Zab (ZkX 5 Zde.nd (sc:=Zah Zfm) (N:=["_law_machine","_law_moves_here","_law_stand","_law_move","_law_there","_law_numbers","_law_found"]) (ns:=["_law_stand","_law_there","_law_moves_here"]) (ix:=[2,4,1]) rfl rfl (by decide +kernel) rfl (ZaZ rfl T.B.range (Zaa (Zaw Zaz rfl T.B.len Za4 (Zaa (pv 1) Zad)) Zad)) (fun _ _ _ _=>(Zig (ZxA (K:=K) rfl (ZaE ZhO hr (Zaa (Zav (Zd4 (K:=K) rfl) (pv 3) (pv 0) (fun _ _=>rfl)) (Zaa (pv 1) (Zaa (pv 2) Zad)))) (fun _=>rfl)))) (fun _ _ _ _=>(pv 0)))
   (Zab (ss 6 Zde.nd (ZfS D_which hr (pv 0) (Zaa (pv 2) (Zaa (pv 4) Zad))))
   (Zab (ZaB (PW.pt (Zd7 (Zaj (ZaA hr.units) (Zaw Zaz rfl T.B.len Za4 (Zaa (pv 5) Zad)) Zac (Zan _)) (Zc2 (Zaj ZBV (pv 6) Zuo (Zan _)))))
   (Zae (Zao Zfl))
   Zap)
   (Zae (ZaB (PW.pt (Zd7 (Zaj Zju (Zaw Zaz rfl T.B.len Za4 (Zaa (pv 5) Zad)) Zac (Zan _)) (Zc2 (Zgp (ZaL (ZaE ZcM hr (Zaa (pv 6) (Zaa (Zav Zam (pv 5) Zac (fun _ _=>rfl)) Zad))) (fun _=>rfl))))))
   (Zae (Zao Zfl))
   Zap)))))))
   (Zae (Zao Zfl))),?_⟩
 walk_at "rd0";refine seqL (xs:=xs.map V.ref) (fun k σ H'=>Same H H'∧∃v3 v4 v5 v6,σ=[some (.ref mc),some (.ref l),some (.int (s0:Int)),v3,v4,v5,v6]) ⟨Same.refl _,_,_,_,_,rfl⟩ (fun k σ H' _ hp=>SqL.of (hp.1 _ _ hl)) ?_ ?_
 ·rintro k y σ H1 hy ⟨s1,v3,v4,v5,v6,rfl⟩
  obtain⟨x,rfl,hx'⟩:=Zbf hy;obtain⟨v,hgi,M⟩:=ZaJ hx hx';have okv:=ok v (mem_of_getElem? hgi);obtain⟨q',cl,hs,e1,_,e3,pc⟩:=M.same s1;have hx1:Paired (fun x v=>EnTA m H1 x (.mv v)) xs us:=Zaf (fun _ _ z=>EnTA.same s1 z) hx;have hl1:=s1 _ _ hl;walk_at "";refine Za8 e1 (v:=.ref cl) rfl ?_;walk_at "";refine⟨s0,m,cl,hs,v.2,rfl,hm,hs0,e3,pc,fun c hc=>(okv.cs c hc).2,okv.nd,?_⟩;generalize onN s0 (chgs v.2)=o;walk_at "";refine⟨_,rfl,by rw[length_map]; omega,by rw[length_map]; omega,?_⟩;rw[length_map,hxl,show((us.length:Int)).toNat=us.length by omega];refine Zu0 (fun i=>fitN s0 o (mvD (us.getD i v))) (by omega) (fun i H' hi s2 R kk=>?_) (fun i H' hi s2 R kk=>?_) fun nu H2 n2 s2 e2=>?_
  ·have hxi:i < xs.length:=by omega
   obtain⟨u,hu,Mu⟩:=ZaJ hx1 (List.getElem?_eq_getElem hxi)
   have hgu:us.getD i v=u:=by rw[getD_eq_getElem?_getD,hu]; rfl
   simp only [subS,map_cons,map_nil];walk_at "";refine ZbJ (j:=i) (s2 _ _ hl1) (v:=.ref xs[i]) (by rw[getElem?_map,List.getElem?_eq_getElem hxi]; rfl) ?_;walk_at "";refine⟨xs[i],s0,m,o,u,rfl,hm,hs0,EnTA.same s2 Mu,ok u (mem_of_getElem? hu),?_⟩;walk_at "";rw[←hgu];exact kk H' (Same.refl _)
  ·simp only [subS,map_cons,map_nil]
   walk_at "";exact kk H' (Same.refl _)
  have w2:=s1.trans s2;have MA2:=MA.ext (Ext.of w2);walk_at "";refine⟨mc,_,_,_,rfl,MA2.ob,rfl,ZBG _ _ _ _ _ (by decide +kernel) (by decide +kernel) (by decide +kernel) (by decide +kernel),?_⟩;walk_at "";refine⟨MA2.ob,mc,dx,n0,ss0,b0,v0,ys,sp,bp,ms,mv,s0,o,m,rfl,MA2,hm,gd,fun H3 s3=>?_⟩;rw[ZFy hdv];have e23:=s3 _ _ e2
  rcases ZvT (s:=s0) (o:=o) (us:=us) v with⟨hF,hW⟩ | ⟨k0,r,hF,hW⟩
  ·rw[hF]at e23
   rw[hW];walk_at "tst";refine⟨rfl,?_⟩;walk_at "";refine ZaI (by decide) ?_;walk_at "tst";exact⟨w2.trans s3,_,_,_,_,rfl⟩
  ·rw[hF]at e23
   rw[hW]
   have hlen:((nums (k0::r)).map V.int).length=r.length+1:=by simp[nums]
   walk_at "";rw[hlen];refine ZaI (decide_eq_false (by omega)) ?_;refine ZaI rfl ?_;walk_at "";rw[hlen];refine ZbT (decide_eq_true (by omega)) ?_;walk_at "";refine ZbJ (j:=0) e23 (v:=.int (k0:Int)) rfl ?_;walk_at "";refine⟨(k0:Int),rfl,?_⟩;walk_at "";refine ZaI rfl ?_;walk_at "";exact⟨w2.trans s3,_,_,_,_,rfl⟩
 ·rintro σ H1 ⟨s1,v3,v4,v5,v6,rfl⟩
  walk_at "";exact q H1 s1
end
unseal PE PA PS PSs
def CgB (m:Nat) (H0 H:Hp) (h:Addr) (c:Nat×Tr):Prop:=∃q,H h=some (.tup [.int (c.1:Int),.ref q])∧PrA m H0 q c.2
def MvB (m:Nat) (S:Addr→Prop) (H0 H:Hp) (x:Addr) (v:Tr×List (Nat×Tr)):Prop:=∃q cl hs,H x=some (.tup [.str "move",.ref q,.ref cl])∧PrA m H0 q v.1∧S cl∧H cl=some (.lst (hs.map V.ref))∧Paired (CgB m H0 H) hs v.2
theorem CgB.imp {m:Nat} {H0 H H':Hp} (ht:∀p xs,H p=some (.tup xs)→H' p=some (.tup xs)) {h:Addr} {c:Nat×Tr} (a:CgB m H0 H h c):CgB m H0 H' h c:=by
 obtain⟨q,e,x⟩:=a;exact⟨q,ht _ _ e,x⟩
theorem MvB.imp {m:Nat} {S S':Addr→Prop} {H0 H H':Hp} (ht:∀p xs,H p=some (.tup xs)→H' p=some (.tup xs)) (hl:∀l xs,S l→H l=some (.lst xs)→S' l∧H' l=some (.lst xs)) {x:Addr} {v:Tr×List (Nat×Tr)} (a:MvB m S H0 H x v):MvB m S' H0 H' x v:=by
 obtain⟨q,cl,hs,e,p,sc,e2,pc⟩:=a;exact⟨q,cl,hs,ht _ _ e,p,(hl _ _ sc e2).1,(hl _ _ sc e2).2,Zaf (fun _ _ z=>z.imp ht) pc⟩
theorem MvB.en {m:Nat} {S:Addr→Prop} {H0 H:Hp} (s:Same H0 H) {x:Addr} {v:Tr×List (Nat×Tr)} (a:MvB m S H0 H x v):EnTA m H x (.mv v):=by
 obtain⟨q,cl,hs,e,p,_,e2,pc⟩:=a;exact⟨q,cl,hs,e,p.same s,e2,Zaf (fun _ _ ⟨q,e,p⟩=>⟨q,e,p.same s⟩) pc⟩
theorem ZvM {m:Nat} (a:Int) (h0:0 < m):∀z,z≤m→((List.range z).map fun j:Nat=>((a+(j:Int)) % (m:Int)).toNat).Nodup:=by
 intro z hz
 induction z with
 | zero=>simp
 | succ z ih=>
  rw[range_succ,map_append,nodup_append];refine⟨ih (by omega),by simp,fun x hx y hy e=>?_⟩;obtain⟨j,hj,rfl⟩:=mem_map.mp hx;rw[mem_range]at hj;simp only [map_cons,map_nil,mem_singleton]at hy;subst hy;have v1:=Int.emod_nonneg (a+(j:Int)) (show(m:Int)≠0 by omega);have v2:=Int.emod_nonneg (a+(z:Int)) (show(m:Int)≠0 by omega)
  have e2:(a+(j:Int)) % (m:Int)=(a+(z:Int)) % (m:Int):=by omega
  have d:((m:Int)) ∣ ((a+(z:Int)) - (a+(j:Int))):=Int.dvd_of_emod_eq_zero (by rw[Int.sub_emod,e2,Int.sub_self,Int.zero_emod])
  have d':(m:Int) ∣ ((z:Int) - (j:Int)):=by
   have:(a+(z:Int)) - (a+(j:Int))=(z:Int) - (j:Int):=by omega
   rw[this]at d; exact d
  have:=Int.le_of_dvd (by omega) d';omega
seal PE PA PS PSs
section
variable {P:Program} {w:World} {K:W.Frag} {mg:Str→Option Value} {base:Heap} {t:Ad} {n:Nat}
def ZxX:Sp:=fun vs H Q _=>∃(pl:Addr) (ps:List Addr) (ts:List Tr) (m cnt:Nat) (ce:Int),vs=[.ref pl,.int (m:Int),.int (cnt:Int),.int ce]∧H pl=some (.lst (ps.map V.ref))∧Paired (PrA m H) ps ts∧(∀g∈ts,okT m g=true∧nT g≤51)∧1≤ts.length∧ts.length≤60∧1≤m∧m≤6∧cnt≤8∧∀l xs us H',Same H H'→H l=none→H' l=some (.lst (xs.map V.ref))→Paired (fun x v=>EnTA m H' x (.mv v)) xs us→(∀v∈us,OkM17 m v)→us.length≤8→Q (.ref l) H'
theorem Zy3 (T:Txt K mg t):FnS P w K mg base 1 "_law_moves" ["_law_pairs","_law_many","_law_count","_law_cell"] (ZxX):=by
 refine⟨_,_,T.Zdz.ok ZcY (fun vs H Q E h=>?_) (fun cdv A outer s H vs Q E hr h=>?_),T.Zln,T.Zdz.kp,T.ZlE⟩
 ·obtain⟨pl,ps,ts,m,cnt,ce,rfl,hp,hP,okt,t1,t60,h1,h6,h8,q⟩:=h
  rfl
 obtain⟨pl,ps,ts,m,cnt,ce,rfl,hp,hP,okt,t1,t60,h1,h6,h8,q⟩:=h;have hpl:=Zak hP
 have pick:∀z:Int,∃k:Nat,z % (ps.length:Int)=(k:Int)∧∃x g,ps[k]?=some x∧PrA m H x g∧okT m g=true∧nT g≤51:=fun z=>by
  have v1:=Int.emod_nonneg z (show(ps.length:Int)≠0 by omega);have v2:=Int.emod_lt_of_pos z (show(0:Int) < (ps.length:Int) by omega)
  have hk:(z % (ps.length:Int)).toNat < ps.length:=by omega
  obtain⟨g,hg,hx⟩:=ZaJ hP (List.getElem?_eq_getElem hk);exact⟨(z % (ps.length:Int)).toNat,by omega,_,g,List.getElem?_eq_getElem hk,hx,(okt g (mem_of_getElem? hg)).1,(okt g (mem_of_getElem? hg)).2⟩
 refine⟨_,(Zab (ss 4 ZcY.nd (ZaO Zad))
   (Zab (ZaS PassesOwn.never rfl (ZaZ rfl T.B.range (Zaa (pv 2) Zad)) (sg 5 ZcY.nd)
   (Zab (ss 6 ZcY.nd (ZaO Zad))
   (Zab (ZaS PassesOwn.never rfl (ZaZ rfl T.B.range (Zaa (Zai Zay Zac (Zai ZaR (Zai Zay (pv 3) (Zai ZcA Zac (pv 5))) (pv 1))) Zad)) (sg 7 ZcY.nd)
   (Zab (ss 8 ZcY.nd (Zai ZaR (Zai Zay (Zai Zay (Zai ZaU (pv 3) Zac) (pv 5)) (pv 7)) (pv 1)))
   (Zae (ZaQ (ZcB F.plainAttrs_list F.slot_list_append F.type_list_append ZaK (pv 6) (Zaa (Zc0 (Zaa (pv 8) (Zaa (Zav Zam (pv 0) (Zai ZaR (Zai Zay (Zai Zay (Zai ZaU (pv 3) Zac) (Zai ZcA Zac (pv 5))) (Zai ZcA Zac (pv 7))) (Zaw Zaz rfl T.B.len Za4 (Zaa (pv 0) Zad))) (fun _ _=>rfl)) Zad))) Zad))))))
   (Zae (ZaQ (ZcB F.plainAttrs_list F.slot_list_append F.type_list_append ZaK (pv 4) (Zaa (Zc0 (Zaa Zal (Zaa (Zav Zam (pv 0) (Zai ZaR (Zai Zay (Zai ZaU (pv 3) Zac) (Zai ZcA Zac (pv 5))) (Zaw Zaz rfl T.B.len Za4 (Zaa (pv 0) Zad))) (fun _ _=>rfl)) (Zaa (pv 6) Zad)))) Zad)))))))
   (Zae (Zao (pv 4))))),?_⟩
 walk_at "rd0";refine ZbW (by simp) fun ml H1 s1 n1 e1=>?_;walk_at "";refine⟨_,rfl,by omega,by omega,?_⟩;rw[show((cnt:Int)).toNat=cnt by omega];refine Zly (n:=cnt) (fun i σ H'=>∃xs us a b c d,Same H H'∧H' ml=some (.lst (xs.map V.ref))∧us.length=i∧Paired (MvB m (· ≠ ml) H H') xs us∧(∀v∈us,OkM17 m v)∧σ=[some (.ref pl),some (.int (m:Int)),some (.int (cnt:Int)),some (.int ce),some (.ref ml),a,b,c,d]) ⟨[],[],_,_,_,_,s1,e1,rfl,.nil,(fun v hv=>by cases hv),rfl⟩ ?_ ?_
 ·rintro k σ H2 hk ⟨xs,us,a,b,c,d,s2,e2,hul,pu,oku,rfl⟩
  have hxl:=Zak pu;walk_at "";refine ZbW (by simp) fun cl H3 s3 n3 e3=>?_;have ncl:H cl=none:=s2.free n3;have e23:=s3 _ _ e2;have nmc:ml≠cl:=Zag e2 n3;have pu3:Paired (MvB m (fun l=>l≠ml∧l≠cl) H H3) xs us:=Zaf (fun _ _ z=>z.imp (fun _ _ e=>s3 _ _ e) fun l ys sl e=>⟨⟨sl,Zag e n3⟩,s3 _ _ e⟩) pu;walk_at "";refine Zgm (.inl ⟨by decide,by decide⟩) ?_;walk_at ""
  obtain⟨z,hz,hz1,hzm⟩ : ∃z:Nat,1+(ce+5 * (k:Int)) % (m:Int)=(z:Int)∧1≤z∧z≤m:=by
   have v1:=Int.emod_nonneg (ce+5 * (k:Int)) (show(m:Int)≠0 by omega);have v2:=Int.emod_lt_of_pos (ce+5 * (k:Int)) (show(0:Int) < (m:Int) by omega);exact⟨(1+(ce+5 * (k:Int)) % (m:Int)).toNat,by omega,by omega,by omega⟩
  rw[hz];refine⟨_,rfl,by omega,by omega,?_⟩;rw[show((z:Int)).toNat=z by omega];refine Zly (n:=z) (fun i σ H'=>∃hs ds c d,Same H H'∧H' ml=some (.lst (xs.map V.ref))∧H' cl=some (.lst (hs.map V.ref))∧Paired (MvB m (fun l=>l≠ml∧l≠cl) H H') xs us∧Paired (CgB m H H') hs ds∧ds.map Prod.fst=((List.range i).map fun j:Nat=>((ce / 6+(k:Int)+(j:Int)) % (m:Int)).toNat)∧(∀d∈ds,(okT m d.2=true∧nT d.2≤51)∧d.1 < m)∧σ=[some (.ref pl),some (.int (m:Int)),some (.int (cnt:Int)),some (.int ce),some (.ref ml),some (.int (k:Int)),some (.ref cl),c,d]) ⟨[],[],_,_,s2.trans s3,e23,e3,pu3,.nil,rfl,(fun d hd=>by cases hd),rfl⟩ ?_ ?_
  ·rintro j σ H4 hj ⟨hs,ds,c,d,s4,e4,f4,p4,t4,hd4,ok4,rfl⟩
   have hdl:hs.length=j:=by
    have a:=Zak t4;have b:=congrArg List.length hd4;rw[length_map,length_map,length_range]at b;omega
   obtain⟨lp,hlp,hlm⟩ : ∃lp:Nat,(ce / 6+(k:Int)+(j:Int)) % (m:Int)=(lp:Int)∧lp < m:=by
    have v1:=Int.emod_nonneg (ce / 6+(k:Int)+(j:Int)) (show(m:Int)≠0 by omega);have v2:=Int.emod_lt_of_pos (ce / 6+(k:Int)+(j:Int)) (show(0:Int) < (m:Int) by omega);exact⟨((ce / 6+(k:Int)+(j:Int)) % (m:Int)).toNat,by omega,by omega⟩
   walk_at ""
   (try refine i_rI (by omega) ?_)
   rw[hlp];walk_at "";refine⟨tyL f4,?_⟩;walk_at "";refine Zgm (.inl ⟨by decide,by decide⟩) ?_;walk_at "";refine Zgm (.inl ⟨by decide,by decide⟩) ?_;walk_at "";refine ZqS (s4 _ _ hp) ?_;rw[length_map]
   (try refine i_rI (by omega) ?_)
   obtain⟨ix,hix,x,g,hxg,hPx,o1,o2⟩:=pick (ce / 36+3 * (k:Int)+2 * (j:Int));rw[hix];refine ZbJ (j:=ix) (s4 _ _ hp) (v:=.ref x) (by rw[getElem?_map,hxg]; rfl) ?_;walk_at "";refine ZfY (by simp) fun tp H6 s6 n6 e6=>?_;walk_at "";have f6:=s6 _ _ f4;refine Za5 f6 (by rw[length_map]; omega) fun H7 b7 e7=>?_;walk_at "";have tk:∀p xs,H6 p=some (.tup xs)→H7 p=some (.tup xs):=fun p xs e=>b7 _ _ (Zcm e f6 (by intro z; cases z)) e;refine⟨hs++[tp],ds++[(lp,g)],_,_,b7.same ncl (s4.trans s6),b7 _ _ nmc (s6 _ _ e4),by rw[e7,map_append]; rfl,Zaf (fun _ _ x=>x.imp (fun p xs e=>tk _ _ (s6 _ _ e)) fun l ys sl e=>⟨sl,b7 _ _ sl.2 (s6 _ _ e)⟩) p4,Zaq (Zaf (fun _ _ x=>x.imp fun p xs e=>tk _ _ (s6 _ _ e)) t4) (.cons ⟨x,tk _ _ e6,hPx⟩ .nil),?_,?_,rfl⟩
   ·rw[map_append,hd4,range_succ,map_append]
    congr 1
    show [lp]=[((ce / 6+(k:Int)+(j:Int)) % (m:Int)).toNat];rw[hlp];rfl
   ·intro d hd
    rcases mem_append.mp hd with hd | hd
    ·exact ok4 d hd
    ·rw[mem_singleton.mp hd]; exact⟨⟨o1,o2⟩,hlm⟩
  ·rintro σ H4 ⟨hs,ds,c,d,s4,e4,f4,p4,t4,hd4,ok4,rfl⟩
   walk_at "";refine⟨tyL e4,?_⟩;walk_at "";refine Zgm (.inl ⟨by decide,by decide⟩) ?_;walk_at "";refine ZqS (s4 _ _ hp) ?_;rw[length_map]
   (try refine i_rI (by omega) ?_)
   obtain⟨ix,hix,x,g,hxg,hPx,o1,o2⟩:=pick (ce / 216+5 * (k:Int));rw[hix];refine ZbJ (j:=ix) (s4 _ _ hp) (v:=.ref x) (by rw[getElem?_map,hxg]; rfl) ?_;walk_at "";refine ZfY (by simp) fun tp H6 s6 n6 e6=>?_;walk_at "";have e46:=s6 _ _ e4;refine Za5 e46 (by rw[length_map]; omega) fun H7 b7 e7=>?_;walk_at "";have tk:∀p xs,H6 p=some (.tup xs)→H7 p=some (.tup xs):=fun p xs e=>b7 _ _ (Zcm e e46 (by intro z; cases z)) e;have hdl:=congrArg List.length hd4;rw[length_map,length_map,length_range]at hdl;refine⟨xs++[tp],us++[(g,ds)],_,_,_,_,b7.same n1 (s4.trans s6),by rw[e7,map_append]; rfl,by rw[length_append,hul]; rfl,Zaq (Zaf (fun _ _ x=>x.imp (fun p xs e=>tk _ _ (s6 _ _ e)) fun l ys sl e=>⟨sl.1,b7 _ _ sl.1 (s6 _ _ e)⟩) p4) (.cons ⟨x,cl,hs,tk _ _ e6,hPx,nmc.symm,b7 _ _ nmc.symm (s6 _ _ f4),Zaf (fun _ _ x=>x.imp fun p xs e=>tk _ _ (s6 _ _ e)) t4⟩ .nil),?_,rfl⟩;intro v hv
   rcases mem_append.mp hv with hv | hv
   ·exact oku v hv
   ·rw[mem_singleton.mp hv]
    exact⟨⟨o1,o2⟩,ok4,by show(ds.map Prod.fst).Nodup; rw[hd4]; exact ZvM _ (by omega) z hzm,by show 1≤ds.length; omega,by show ds.length≤6; omega⟩
 ·rintro σ H2 ⟨xs,us,a,b,c,d,s2,e2,hul,pu,oku,rfl⟩
  walk_at "";exact q ml xs us H2 s2 n1 e2 (Zaf (fun _ _ z=>z.en s2) pu) oku (by omega)
end
unseal PE PA PS PSs
def ZCJ (z:Str):Prop:=WdS z∧z≠"then"∧z≠","
theorem Zyd {ns:List Str} (A:NmA ns) {tr:Tr} (h:okT ns.length tr=true):∀z∈wdG true ns tr,ZCJ z:=by
 refine ZrZ (fun z hz=>?_) (m:=ns.length) (fun k hk=>?_) tr h
 ·refine⟨ZwT z hz,?_,?_⟩
  ·rintro rfl; exact absurd hz (by decide)
  ·rintro rfl; exact absurd hz (by decide)
 ·have hm:=A.get hk
  refine⟨A.wd _ hm,fun e=>(A.nm _ hm).2 (by rw[e]; decide),fun e=>?_⟩;have:=(A.nm _ hm).1.1 44 (by rw[e]; decide);omega
theorem rd17 {ns:List Str} (A:NmA ns) {tr:Tr} (h:okT ns.length tr=true):ZkY ns (wdG true ns tr)=some (fmT id tr):=ZxG (ZDR A.nm A.nd) h
theorem wl17 {ns:List Str} {tr:Tr} (h:nT tr≤51):(wdG true ns tr).length≤201:=by
 have:=ZlR true ns tr;omega
theorem mv17 {ns:List Str} (A:NmA ns) {v:Tr×List (Nat×Tr)} (o:OkM17 ns.length v):MvRd ns (wdG true ns v.1) (jnW "," (v.2.map (pc17 ns))) (fm17 v):=by
 have hc:v.2.map (pc17 ns)≠[]:=fun e=>by have:=o.l1; rw[List.map_eq_nil_iff]at e; rw[e]at this; simp at this
 have pw:∀p∈v.2.map (pc17 ns),∀z∈p,ZCJ z∨z = "is":=fun p hp z hz=>by
  obtain⟨c,hc',rfl⟩:=mem_map.mp hp;obtain⟨oc,hk⟩:=o.cs c hc';have hm:=A.get hk;have hz:z∈ns.getD c.1 Str.empty::("is" : Str)::wdG true ns c.2:=hz
  rcases mem_cons.mp hz with rfl | hz
  ·refine .inl ⟨A.wd _ hm,fun e=>(A.nm _ hm).2 (by rw[e]; decide),fun e=>?_⟩
   have:=(A.nm _ hm).1.1 44 (by rw[e]; decide);omega
  rcases mem_cons.mp hz with rfl | hz
  ·exact .inr rfl
  ·exact .inl (Zyd A oc.1 z hz)
 have ep:ZeL (jnW "," (v.2.map (pc17 ns)))=v.2.map (pc17 ns):=ZvH hc fun p hp hm=>by
  rcases pw p hp _ hm with h | h
  ·exact h.2.2 rfl
  ·exact absurd h (by decide)
 have hl6:=o.l6
 have pl:∀p∈v.2.map (pc17 ns),p.length≤203:=fun p hp=>by
  obtain⟨c,hc',rfl⟩:=mem_map.mp hp;have:=wl17 (ns:=ns) (o.cs c hc').1.2;show(wdG true ns c.2).length+2≤_;omega
 have pp:∀p∈ZeL (jnW "," (v.2.map (pc17 ns))),∀z∈p,ZnG z:=fun p hp z hz=>by
  rw[ep]at hp
  rcases pw p hp z hz with h | rfl
  ·exact Zkq h.1
  ·exact Zkq ⟨.inr (.inr ⟨by decide,by decide⟩),by decide⟩
 refine⟨⟨?_,?_,?_,?_⟩,rd17 A o.gd.1,?_,?_,fun z hz=>Zkq (Zyd A o.gd.1 z hz).1,pp⟩
 ·intro h
  rcases mem_cons.mp h with h | h
  ·exact absurd h (by decide)
  ·exact(Zyd A o.gd.1 _ h).2.1 rfl
 ·intro h
  have:=Zpb (Pz:=fun z=>z≠"then") (k:=",") (by decide) (ps:=v.2.map (pc17 ns)) (fun p hp z hz=>by
   rcases pw p hp z hz with h | rfl
   ·exact h.2.1
   ·decide) _ h
  exact this rfl
 ·have a:=wl17 (ns:=ns) o.gd.2
  have b:=Zpc "," pl;rw[length_map]at b;have c:(203+1) * v.2.length≤204 * 6:=Nat.mul_le_mul_left _ hl6;simp only [length_cons];omega
 ·intro p hp
  rw[ep]at hp;obtain⟨c,hc',rfl⟩:=mem_map.mp hp;exact⟨by show 2≤(wdG true ns c.2).length+2; omega,rfl⟩
 ·rw[ep]
  exact Znk fun c hc'=>⟨_,_,rfl,ZmP A.nd (Zh1 (o.cs c hc').2),rd17 A (o.cs c hc').1.1⟩
 ·show((v.2.map fun c=>(c.1,fmT id c.2)).map Prod.fst).Nodup
  rw[map_map];exact o.nd
def entF:EnT→Ent
 | .st g=>.st (fmT id g)
 | .bd g=>.bd (fmT id g)
 | .mv v=>.mv (fm17 v)
theorem ZFa {ns:List Str} (A:NmA ns) {e:EnT} (ok:OkE ns.length e):EntW ns (enW ns e) (entF e):=by
 cases e with
 | st g=>exact .st (rd17 A ok.1) (fun z hz=>Zkq (Zyd A ok.1 z hz).1) (by have:=wl17 (ns:=ns) ok.2; omega)
 | bd g=>exact .bd (rd17 A ok.1) (fun z hz=>Zkq (Zyd A ok.1 z hz).1) (by have:=wl17 (ns:=ns) ok.2; omega)
 | mv v=>exact .mv (mv17 A ok)
def OffX (X:Addr→Prop) (H H':Hp):Prop:=Ext H H'∧∀b xs,¬X b→H b=some (.lst xs)→H' b=some (.lst xs)
theorem OffX.of {X:Addr→Prop} {H H':Hp} (s:Same H H'):OffX X H H':=⟨Ext.of s,fun b xs _ e=>s _ _ e⟩
theorem OffX.trans {X:Addr→Prop} {H H1 H2:Hp} (a:OffX X H H1) (b:OffX X H1 H2):OffX X H H2:=⟨a.1.trans b.1,fun c xs n e=>b.2 c xs n (a.2 c xs n e)⟩
theorem OffX.but {X:Addr→Prop} {H H':Hp} {l:Addr} {xs:List V} (x:X l) (e:H l=some (.lst xs)) (b:But l H H'):OffX X H H':=⟨b.ext e,fun c ys n q=>b c _ (fun z=>n (z ▸ x)) q⟩
def EnB (m:Nat) (S:Addr→Prop) (H0 H:Hp) (x:Addr):EnT→Prop
 | .st g=>∃q,H x=some (.tup [.str "start",.ref q])∧PrA m H0 q g
 | .bd g=>∃q,H x=some (.tup [.str "bad",.ref q])∧PrA m H0 q g
 | .mv v=>MvB m S H0 H x v
theorem EnB.imp {m:Nat} {S S':Addr→Prop} {H0 H H':Hp} (x:Ext H H') (hl:∀l xs,S l→H l=some (.lst xs)→S' l∧H' l=some (.lst xs)) {a:Addr} {e:EnT} (h:EnB m S H0 H a e):EnB m S' H0 H' a e:=by
 have ht:∀p xs,H p=some (.tup xs)→H' p=some (.tup xs):=fun p xs e=>x _ _ e (fun _ z=>nomatch z)
 cases e with
 | st g=>obtain⟨q,e,p⟩:=h; exact⟨q,ht _ _ e,p⟩
 | bd g=>obtain⟨q,e,p⟩:=h; exact⟨q,ht _ _ e,p⟩
 | mv v=>exact MvB.imp ht hl h
def NoA:Addr→Prop:=fun _=>False
theorem EnB.ext {m:Nat} {S:Addr→Prop} {H0 H H':Hp} (x:Ext H H') {a:Addr} {e:EnT} (h:EnB m NoA H0 H a e):EnB m S H0 H' a e:=h.imp x fun _ _ z=>z.elim
theorem EnB.off {m:Nat} {X:Addr→Prop} {H0 H H':Hp} (o:OffX X H H') {a:Addr} {e:EnT} (h:EnB m (fun l=>¬X l) H0 H a e):EnB m (fun l=>¬X l) H0 H' a e:=h.imp o.1 fun l xs n e=>⟨n,o.2 l xs n e⟩
theorem EnB.en {m:Nat} {S:Addr→Prop} {H0 H:Hp} (s:Same H0 H) {x:Addr} {e:EnT} (h:EnB m S H0 H x e):EnTA m H x e:=by
 cases e with
 | st g=>obtain⟨q,e,p⟩:=h; exact⟨q,e,p.same s⟩
 | bd g=>obtain⟨q,e,p⟩:=h; exact⟨q,e,p.same s⟩
 | mv v=>exact MvB.en s h
theorem Zop:∀(l:List Nat) (d:Nat),d < l.length→(l.getD d 0::l.eraseIdx d).Perm l
 | [],d,h=>absurd h (by simp)
 | x::r,0,_=>List.Perm.refl _
 | x::r,d+1,h=>by
  have ih:=Zop r d (by simpa using h);exact(List.Perm.swap _ _ _).trans (List.Perm.cons x ih)
theorem Zoo:∀(l:List Nat) (d:Nat),((nums l).map V.int).eraseIdx d=(nums (l.eraseIdx d)).map V.int
 | [],_=>rfl
 | _::_,0=>rfl
 | x::r,d+1=>congrArg (V.int (x:Int) :: ·) (Zoo r d)
theorem Zoq:∀(l:List Addr) (d:Nat),(l.map V.ref).eraseIdx d=(l.eraseIdx d).map V.ref
 | [],_=>rfl
 | _::_,0=>rfl
 | x::r,d+1=>congrArg (V.ref x :: ·) (Zoq r d)
theorem ZlN {α β:Type} {F:α→β→Prop}:∀{xs:List α} {ys:List β} (d:Nat),Paired F xs ys→Paired F (xs.eraseIdx d) (ys.eraseIdx d)
 | _,_,_,.nil=>.nil
 | _::_,_::_,0,.cons _ q=>q
 | _::_,_::_,d+1,.cons r q=>.cons r (ZlN d q)
def X3 (r bag other:Addr):Addr→Prop:=fun l=>l=r∨l=bag∨l=other
structure AR17 (m:Nat) (H0 H:Hp) (r bag other:Addr) (xs:List Addr) (es:List EnT):Prop where
 sm:Same H0 H
 b1:∃c,H bag=some (.lst [.int c])
 b2:∃c,H other=some (.lst [.int c])
 er:H r=some (.lst (xs.map V.ref))
 ff:Paired (EnB m (fun l=>¬X3 r bag other l) H0 H) xs es
 ok:∀e∈es,OkE m e
def X5 (r bag other ll cl:Addr):Addr→Prop:=fun l=>X3 r bag other l∨l=ll∨l=cl
structure AM17 (m:Nat) (H0 H:Hp) (r bag other ll cl:Addr) (xs:List Addr) (es:List EnT) (j:Nat) (lf:List Nat) (hs:List Addr) (cs:List (Nat×Tr)):Prop where
 sm:Same H0 H
 b1:∃c,H bag=some (.lst [.int c])
 b2:∃c,H other=some (.lst [.int c])
 er:H r=some (.lst (xs.map V.ref))
 ff:Paired (EnB m (fun l=>¬X5 r bag other ll cl l) H0 H) xs es
 el:H ll=some (.lst ((nums lf).map V.int))
 ec:H cl=some (.lst (hs.map V.ref))
 fc:Paired (CgB m H0 H) hs cs
 ko:∀c∈cs,okT m c.2=true∧nT c.2≤51
 nd:(cs.map Prod.fst++lf).Nodup
 lo:∀x∈cs.map Prod.fst++lf,x < m
 sz:lf.length+j=m
 sc:cs.length=j
def X4 (r bag dl:Addr):Addr→Prop:=fun l=>l=r∨l=bag∨l=dl
structure AD17 (m:Nat) (H0 H:Hp) (r bag dl:Addr) (xs:List Addr) (es:List EnT) (ys:List Addr) (fs:List EnT):Prop where
 sm:Same H0 H
 b1:∃c,H bag=some (.lst [.int c])
 er:H r=some (.lst (xs.map V.ref))
 ed:H dl=some (.lst (ys.map V.ref))
 ff:Paired (EnB m (fun l=>¬X4 r bag dl l) H0 H) xs es
 fd:Paired (EnB m (fun l=>¬X4 r bag dl l) H0 H) ys fs
 ok:∀e∈es,OkE m e
 od:∀e∈fs,OkE m e
 ln:es.length+fs.length≤30
seal PE PA PS PSs
section
variable {P:Program} {w:World} {K:W.Frag} {mg:Str→Option Value} {base:Heap} {t:Ad} {n:Nat}
def Ztv:Sp:=fun vs H Q _=>∃(H0:Hp) (pl bag other:Addr) (ps:List Addr) (ts:List Tr) (m:Nat) (c1 c2:Int),vs=[.ref pl,.int (m:Int),.ref bag,.ref other]∧Same H0 H∧H0 bag=none∧H0 other=none∧bag≠other∧H bag=some (.lst [.int c1])∧H other=some (.lst [.int c2])∧H0 pl=some (.lst (ps.map V.ref))∧Paired (PrA m H0) ps ts∧(∀g∈ts,okT m g=true∧nT g≤51)∧1≤ts.length∧ts.length≤60∧1≤m∧m≤6∧∀a es H',Same H0 H'→EntL m H' a es→(∀e∈es,OkE m e)→es.length≤30→Q (.ref a) H'
theorem Zs9 (T:Txt K mg t):FnS P w K mg base 2 "_law_any_rest" ["_law_pairs","_law_many","_law_bag","_law_other"] (Ztv):=by
 refine⟨_,_,T.ZbN.ok ZaN (fun vs H Q E h=>?_) (fun cdv A outer s H vs Q E hr h=>?_),T.ZhW,T.ZbN.kp,T.Zia⟩
 ·obtain⟨H0,pl,bag,other,ps,ts,m,c1,c2,rfl,s0,nb,no,nbo,eb,eo,hp,hP,okt,t1,t60,h1,h6,q⟩:=h
  rfl
 obtain⟨H0,pl,bag,other,ps,ts,m,c1,c2,rfl,s0,nb,no,nbo,eb,eo,hp,hP,okt,t1,t60,h1,h6,q⟩:=h;have ZbX:=Zy0 (P:=P) (w:=w) (base:=base) T;have hpl:=Zak hP;have hln:(ps.map V.ref).length=ps.length:=length_map _
 have pick:∀d,d < ps.length→∃x g,ps[d]?=some x∧PrA m H0 x g∧okT m g=true∧nT g≤51:=fun d hd=>by
  obtain⟨g,hg,hx⟩:=ZaJ hP (List.getElem?_eq_getElem hd);exact⟨_,g,List.getElem?_eq_getElem hd,hx,okt g (mem_of_getElem? hg)⟩
 refine⟨_,(Zab (ss 4 ZaN.nd (ZaO Zad))
   (Zab (ZaS PassesOwn.never rfl (Za6 (ZaO (Zaa Zal (Zaa Zal Zad)))) (sg 5 ZaN.nd)
   (Zae (ss 4 ZaN.nd (Zai Zay (pv 4) (ZfR (sc:=Zah Zd9) (N:=["_law_pairs","_law_many","_law_bag","_law_other","_law_rest","_law_word","_law_k","_law_guard","_law_lamps_left","_law_changes","_law_j","_law_lamp","_law_dealt"]) (ns:=["_law_word","_law_pairs","_law_bag"]) (ix:=[5,0,2]) rfl rfl (by decide +kernel) rfl (ZaZ rfl T.B.range (Zaa (ZaE ZbX hr (Zaa (pv 2) (Zaa Zac Zad))) Zad)) (fun _ _ _ _=>Zhm) (fun _ _ _ _=>(Zc0 (Zaa (pv 1) (Zaa (Zav (Zd4 (K:=K) rfl) (pv 2) (ZaE ZbX hr (Zaa (pv 3) (Zaa (Zaw (ZkA (K:=K) rfl) rfl T.B.len Za4 (Zaa (pv 2) Zad)) Zad))) (fun _ _=>rfl)) Zad)))))))))
   (Zab (ZaS PassesOwn.never rfl (ZaZ rfl T.B.range (Zaa (ZaE ZbX hr (Zaa (pv 3) (Zaa Zac Zad))) Zad)) (sg 6 ZaN.nd)
   (Zab (ss 7 ZaN.nd (Zav Zam (pv 0) (ZaE ZbX hr (Zaa (pv 3) (Zaa (Zaw Zaz rfl T.B.len Za4 (Zaa (pv 0) Zad)) Zad))) (fun _ _=>rfl)))
   (Zab (ss 8 ZaN.nd (ZvJ rfl rfl T.B.list rfl T.B.range (pv 1)))
   (Zab (ss 9 ZaN.nd (ZaO Zad))
   (Zab (ZaS PassesOwn.never rfl (ZaZ rfl T.B.range (Zaa (Zai Zay Zac (ZaE ZbX hr (Zaa (pv 3) (Zaa (pv 1) Zad)))) Zad)) (sg 10 ZaN.nd)
   (Zab (ss 11 ZaN.nd (ZcB F.plainAttrs_list F.slot_list_pop F.type_list_pop Zuc (pv 8) (Zaa (ZaE ZbX hr (Zaa (pv 3) (Zaa (Zaw Zaz rfl T.B.len Za4 (Zaa (pv 8) Zad)) Zad))) Zad)))
   (Zae (ZaQ (ZcB F.plainAttrs_list F.slot_list_append F.type_list_append ZaK (pv 9) (Zaa (Zc0 (Zaa (pv 11) (Zaa (Zav Zam (pv 0) (ZaE ZbX hr (Zaa (pv 3) (Zaa (Zaw Zaz rfl T.B.len Za4 (Zaa (pv 0) Zad)) Zad))) (fun _ _=>rfl)) Zad))) Zad))))))
   (Zae (ZaQ (ZcB F.plainAttrs_list F.slot_list_append F.type_list_append ZaK (pv 4) (Zaa (Zc0 (Zaa Zal (Zaa (pv 7) (Zaa (pv 9) Zad)))) Zad)))))))))
   (Zab (ss 12 ZaN.nd (ZaO Zad))
   (Zab (ZpF PassesOwn.never (Zaj Zju (Zaw Zaz rfl T.B.len Za4 (Zaa (pv 4) Zad)) Zac (Zan _))
   (Zae (ZaQ (ZcB F.plainAttrs_list F.slot_list_append F.type_list_append ZaK (pv 12) (Zaa (ZcB F.plainAttrs_list F.slot_list_pop F.type_list_pop Zuc (pv 4) (Zaa (ZaE ZbX hr (Zaa (pv 2) (Zaa (Zaw Zaz rfl T.B.len Za4 (Zaa (pv 4) Zad)) Zad))) Zad)) Zad)))))
   (Zae (Zao (pv 12)))))))),?_⟩
 walk_at "rd0";refine ZbW (by simp) fun r0 H1 s1 n1 e1=>?_;walk_at "";refine ZbW (by simp) fun lw H2 s2 n2 e2=>?_;have nwb:lw≠bag:=(Zag (s1 _ _ eb) n2).symm
 refine seqL (xs:=[.str "start",.str "bad"]) (fun k σ H'=>∃r xs es v5,σ=[some (.ref pl),some (.int (m:Int)),some (.ref bag),some (.ref other),some (.ref r),v5,none,none,none,none,none,none,none]∧Same H0 H'∧(∃c,H' bag=some (.lst [.int c]))∧H' other=some (.lst [.int c2])∧H' lw=some (.lst [.str "start",.str "bad"])∧H0 r=none∧r≠bag∧r≠other∧H' r=some (.lst (xs.map V.ref))∧Paired (EnB m NoA H0 H') xs es∧(∀e∈es,OkE m e)∧es.length≤9 * k)
  ⟨r0,[],[],_,rfl,s0.trans (s1.trans s2),⟨c1,s2 _ _ (s1 _ _ eb)⟩,s2 _ _ (s1 _ _ eo),e2,s0.free n1,(Zag eb n1).symm,(Zag eo n1).symm,s2 _ _ e1,.nil,(fun e he=>by cases he),Nat.zero_le _⟩ (fun k σ H' _ hp=>by obtain⟨r,xs,es,v5,_,_,_,_,e,_⟩:=hp; exact SqL.of e) ?_ ?_
 ·rintro k y σ H3 hy ⟨r,xs,es,v5,rfl,h⟩;obtain⟨c3,b3⟩:=h.2.1;have s3:=h.1;have o3:=h.2.2.1;have w3:=h.2.2.2.1;have nr:=h.2.2.2.2.1;have nrb:=h.2.2.2.2.2.1;have nro:=h.2.2.2.2.2.2.1;have e3:=h.2.2.2.2.2.2.2.1;have p3:=h.2.2.2.2.2.2.2.2.1;have ok3:=h.2.2.2.2.2.2.2.2.2.1;have l3:=h.2.2.2.2.2.2.2.2.2.2;clear h
  obtain⟨z,mk,rfl,hmk,hok,hk2⟩ : ∃(z:Str) (mk:Tr→EnT),y=.str z∧(∀(H':Hp) (x:Addr) (g:Tr) (q:Addr),H' x=some (.tup [.str z,.ref q])→PrA m H0 q g→EnB m NoA H0 H' x (mk g))∧(∀g,okT m g=true∧nT g≤51→OkE m (mk g))∧k≤1:=by
   match k,hy with
   | 0,hy=>cases hy; exact⟨"start",.st,rfl,fun _ _ _ q e p=>⟨q,e,p⟩,fun _ h=>h,by omega⟩
   | 1,hy=>cases hy; exact⟨"bad",.bd,rfl,fun _ _ _ q e p=>⟨q,e,p⟩,fun _ h=>h,by omega⟩
   | k+2,hy=>cases hy
  walk_at "";refine⟨bag,c3,9,rfl,b3,by decide,by decide,fun d c4 H4 b4 e4 hd=>?_⟩;walk_at "";refine⟨_,rfl,by omega,by omega,?_⟩;rw[Int.toNat_natCast];have s4:=b4.same nb s3;refine Zys (fun i ys acc H'=>Same H0 H'∧(∃c,H' bag=some (.lst [.int c]))∧H' other=some (.lst [.int c2])∧H' lw=some (.lst [.str "start",.str "bad"])∧H' r=some (.lst (xs.map V.ref))∧Paired (EnB m NoA H0 H') xs es∧H' acc=some (.lst ys)∧∃zs fs,ys=zs.map V.ref∧zs.length=i∧Paired (EnB m NoA H0 H') zs fs∧(∀e∈fs,OkE m e)) (fun H'=>Zgr 0 d H') (by simp; omega) ?_ ?_ ?_
  ·intro acc hacc
   have s:=Zcp hacc (.lst []);have x4:Ext H3 _:=(b4.ext b3).trans (Ext.of s);exact⟨s4.trans s,⟨_,s _ _ e4⟩,s _ _ (b4 _ _ nbo.symm o3),s _ _ (b4 _ _ nwb w3),s _ _ (b4 _ _ nrb e3),Zaf (fun _ _ z=>z.ext x4) p3,Zax,[],[],rfl,rfl,.nil,fun e he=>by cases he⟩
  ·rintro i x ys acc H5 hx hacc ⟨s5,⟨c5,e5⟩,o5,w5,r5,p5,a5,zs,fs,rfl,hl,pz,okz⟩ hyl R kk
   obtain⟨hi,rfl⟩:=ZfG hx;have nab:acc≠bag:=(Zag e4 hacc).symm;have nao:acc≠other:=(Zag (b4 _ _ nbo.symm o3) hacc).symm;have naw:lw≠acc:=Zag (b4 _ _ nwb w3) hacc;have nar:r≠acc:=Zag (b4 _ _ nrb e3) hacc;have hp5:=s5 _ _ hp;simp only [subS,map_cons,map_nil];walk_at "";refine kk true H5 (fun z=>by cases z) fun _ R2 k2=>?_;walk_at "";refine⟨bag,c5,(ps.map V.ref).length,rfl,e5,by rw[hln]; omega,by rw[hln]; omega,fun d6 c6 H6 b6 e6 hd6=>?_⟩;rw[hln]at hd6;obtain⟨px,g,hx,hPx,okg⟩:=pick d6 hd6;have s6:=b6.same nb s5;refine ZbJ (j:=d6) (s6 _ _ hp) (v:=.ref px) (by rw[getElem?_map,hx]; rfl) ?_;walk_at "";refine ZfY (by simp) fun tp H7 s7 n7 e7=>?_;have a7:=s7 _ _ (b6 _ _ nab a5);refine k2 _ H7 a7 fun H8 b8 e8=>?_;have x8:Ext H5 H8:=(b6.ext e5).trans ((Ext.of s7).trans (b8.ext a7));refine⟨b8.same (s4.free hacc) (s6.trans s7),⟨c6,b8 _ _ nab.symm (s7 _ _ e6)⟩,b8 _ _ nao.symm (s7 _ _ (b6 _ _ nbo.symm o5)),b8 _ _ naw (s7 _ _ (b6 _ _ nwb w5)),b8 _ _ nar (s7 _ _ (b6 _ _ nrb r5)),Zaf (fun _ _ z=>z.ext x8) p5,e8,zs++[tp],fs++[mk g],by rw[map_append]; rfl,by rw[length_append,hl]; rfl,Zaq (Zaf (fun _ _ z=>z.ext x8) pz) (.cons (hmk H8 tp g px (b8 _ _ (Zcm e7 a7 (by intro z; cases z)) e7) hPx) .nil),fun e he=>?_⟩
   rcases mem_append.mp he with h | h
   ·exact okz e h
   ·rw[mem_singleton.mp h]; exact hok g okg
  ·rintro acc ys H5 hacc ⟨s5,⟨c5,e5⟩,o5,w5,r5,p5,a5,zs,fs,rfl,hl,pz,okz⟩
   rw[length_map,length_range]at hl;have hxl:=Zak p5;have hzl:=Zak pz;walk_at "";refine ZkN r5 a5 (by simp only [length_map]; omega) fun r' H6 s6 n6 e6=>?_;rw[←map_append]at e6;walk_at "";exact⟨r',xs++zs,es++fs,_,rfl,s5.trans s6,⟨c5,s6 _ _ e5⟩,s6 _ _ o5,s6 _ _ w5,s5.free n6,(Zag e5 n6).symm,(Zag o5 n6).symm,e6,Zaf (fun _ _ z=>z.ext (Ext.of s6)) (Zaq p5 pz),fun e he=>(mem_append.mp he).elim (ok3 e) (okz e),by rw[length_append]; omega⟩
 rintro σ H3 ⟨r,xs,es,v5,rfl,h⟩;obtain⟨c3,b3⟩:=h.2.1;have s3:=h.1;have o3:=h.2.2.1;have w3:=h.2.2.2.1;have nr:=h.2.2.2.2.1;have nrb:=h.2.2.2.2.2.1;have nro:=h.2.2.2.2.2.2.1;have e3:=h.2.2.2.2.2.2.2.1;have p3:=h.2.2.2.2.2.2.2.2.1;have ok3:=h.2.2.2.2.2.2.2.2.2.1;have l3:=h.2.2.2.2.2.2.2.2.2.2;clear h;have l3:es.length≤18:=l3;walk_at "";refine⟨other,c2,9,rfl,o3,by decide,by decide,fun d c4 H4 b4 o4 hd=>?_⟩;walk_at "";refine⟨_,rfl,by omega,by omega,?_⟩;rw[Int.toNat_natCast];refine Zly (n:=d) (fun k σ H'=>∃xs es v6 v7 v8 v9 v10 v11,σ=[some (.ref pl),some (.int (m:Int)),some (.ref bag),some (.ref other),some (.ref r),v5,v6,v7,v8,v9,v10,v11,none]∧AR17 m H0 H' r bag other xs es∧es.length≤18+k) ⟨xs,es,_,_,_,_,_,_,rfl,⟨b4.same no s3,⟨_,b4 _ _ nbo b3⟩,⟨_,o4⟩,b4 _ _ nro e3,Zaf (fun _ _ z=>z.ext (b4.ext o3)) p3,ok3⟩,by omega⟩ ?_ ?_
 ·clear p3 ok3 l3 e3 w3 o3 b3 s3 b4 o4 e2 n2 s2 e1 n1 s1 eb eo nwb
  rintro k σ H5 hk ⟨xs,es,v6,v7,v8,v9,v10,v11,rfl,A,hle⟩;obtain⟨c5,o5⟩:=A.b2;have hp5:=A.sm _ _ hp;have e5r:=A.er;walk_at "";refine⟨other,c5,(ps.map V.ref).length,rfl,o5,by rw[hln]; omega,by rw[hln]; omega,fun d6 c6 H6 b6 o6 hd6=>?_⟩;rw[hln]at hd6;obtain⟨gx,g,hgx,hPg,okg⟩:=pick d6 hd6;have s6:=b6.same no A.sm;refine ZbJ (j:=d6) (s6 _ _ hp) (v:=.ref gx) (by rw[getElem?_map,hgx]; rfl) ?_;walk_at "";refine⟨m,rfl,by omega,fun ll nll=>?_⟩;have s7:=Zcp nll (.lst ((List.range m).map fun i:Nat=>V.int (i:Int)))
  have e7:(upd H6 ll (.lst ((List.range m).map fun i:Nat=>V.int (i:Int)))) ll=some (.lst ((nums (List.range m)).map V.int)):=by rw[Zax]; unfold nums; rw[map_map]; rfl
  generalize upd H6 ll (.lst ((List.range m).map fun i:Nat=>V.int (i:Int)))=H7 at s7 e7 ⊢;walk_at "";refine ZbW (by simp) fun cl H8 s8 n8 e8=>?_;walk_at "";have o8:=s8 _ _ (s7 _ _ o6);refine⟨other,c6,m,rfl,o8,by omega,by omega,fun d9 c9 H9 b9 o9 hd9=>?_⟩;walk_at "";refine⟨_,rfl,by omega,by omega,?_⟩;rw[show(1+(d9:Int)).toNat=1+d9 by omega];have nlo:ll≠other:=(Zag o6 nll).symm;have nco:cl≠other:=(Zag (s7 _ _ o6) n8).symm;have ncl:cl≠ll:=(Zag e7 n8).symm;have r6:=b6 _ _ nro e5r;have nlr:r≠ll:=Zag r6 nll;have ncr:r≠cl:=Zag (s7 _ _ r6) n8;obtain⟨cb,bb5⟩:=A.b1;have bb6:=b6 _ _ nbo bb5;have nlb:bag≠ll:=Zag bb6 nll;have ncb:bag≠cl:=Zag (s7 _ _ bb6) n8;have h0l:H0 ll=none:=s6.free nll;have h0c:H0 cl=none:=(s6.trans s7).free n8;have s9:=b9.same no (s6.trans (s7.trans s8))
  have pe:Paired (EnB m (fun l=>¬X5 r bag other ll cl l) H0 H9) xs es:=Zaf (fun _ _ z=>z.imp ((b6.ext o5).trans ((Ext.of (s7.trans s8)).trans (b9.ext o8))) fun l ys nx e=>by
   have l6:=b6 _ _ (fun z=>nx (.inr (.inr z))) e
   exact⟨fun z=>z.elim nx fun z=>z.elim (Zag l6 nll) (Zag (s7 _ _ l6) n8),b9 _ _ (fun z=>nx (.inr (.inr z))) (s8 _ _ (s7 _ _ l6))⟩) A.ff
  refine Zly (n:=1+d9) (fun j σ H'=>∃lf hs cs v10 v11,σ=[some (.ref pl),some (.int (m:Int)),some (.ref bag),some (.ref other),some (.ref r),v5,some (.int (k:Int)),some (.ref gx),some (.ref ll),some (.ref cl),v10,v11,none]∧AM17 m H0 H' r bag other ll cl xs es j lf hs cs)
   ⟨List.range m,[],[],_,_,rfl,⟨s9,⟨cb,b9 _ _ nbo (s8 _ _ (s7 _ _ bb6))⟩,⟨_,o9⟩,b9 _ _ nro (s8 _ _ (s7 _ _ r6)),pe,b9 _ _ nlo (s8 _ _ e7),b9 _ _ nco e8,.nil,(fun c hc=>by cases hc),by rw[map_nil,List.nil_append]; exact List.nodup_range,fun x hx=>by simpa using hx,by rw[length_range]; rfl,rfl⟩⟩ ?_ ?_
  ·rintro j σ H10 hj ⟨lf,hs,cs,v10,v11,rfl,B⟩
   obtain⟨c10,o10⟩:=B.b2;obtain⟨cB,bB⟩:=B.b1;have el:=B.el;have hlf:((nums lf).map V.int).length=lf.length:=Zj7 lf;have hsz:=B.sz;have hhl:=Zak B.fc;have hcs:=B.sc;have hp10:=B.sm _ _ hp;walk_at "";refine⟨tyL el,?_⟩;walk_at "";refine⟨other,c10,((nums lf).map V.int).length,rfl,o10,by rw[hlf]; omega,by rw[hlf]; omega,fun d11 c11 H11 b11 o11 hd11=>?_⟩;rw[hlf]at hd11;walk_at "";refine ZwJ (b11 _ _ nlo el) (ZtS hd11) (by rw[hlf]; omega) fun H12 b12 e12=>?_;rw[Zoo]at e12;have o12:=b12 _ _ nlo.symm o11;have s11:=b11.same no B.sm;have s12:=b12.same h0l s11;have hp12:=s12 _ _ hp;have ec12:=b12 _ _ ncl (b11 _ _ nco B.ec);walk_at "";refine⟨tyL ec12,?_⟩;walk_at "";refine⟨other,c11,(ps.map V.ref).length,rfl,o12,by rw[hln]; omega,by rw[hln]; omega,fun d13 c13 H13 b13 o13 hd13=>?_⟩;rw[hln]at hd13;obtain⟨px,pg,hpx,hPp,okp⟩:=pick d13 hd13;have s13:=b13.same no s12;refine ZbJ (j:=d13) (s13 _ _ hp) (v:=.ref px) (by rw[getElem?_map,hpx]; rfl) ?_;walk_at "";refine ZfY (by simp) fun tp H14 s14 n14 e14=>?_;have ec14:=s14 _ _ (b13 _ _ nco ec12);walk_at "";refine Za5 ec14 (by rw[length_map]; omega) fun H15 b15 e15=>?_;walk_at "";have off:OffX (X5 r bag other ll cl) H10 H15:=(OffX.but (.inl (.inr (.inr rfl))) o10 b11).trans ((OffX.but (.inr (.inl rfl)) (b11 _ _ nlo el) b12).trans ((OffX.but (.inl (.inr (.inr rfl))) o12 b13).trans ((OffX.of s14).trans (OffX.but (.inr (.inr rfl)) ec14 b15))));have pm:=Zop lf d11 hd11
   have pm2:((cs++[(lf.getD d11 0,pg)]).map Prod.fst++lf.eraseIdx d11).Perm (cs.map Prod.fst++lf):=by
    rw[map_append,append_assoc];exact List.Perm.append_left _ pm
   refine⟨lf.eraseIdx d11,hs++[tp],cs++[(lf.getD d11 0,pg)],_,_,rfl,⟨b15.same h0c (s13.trans s14),⟨cB,b15 _ _ ncb (s14 _ _ (b13 _ _ nbo (b12 _ _ nlb (b11 _ _ nbo bB))))⟩,⟨c13,b15 _ _ nco.symm (s14 _ _ o13)⟩,b15 _ _ ncr (s14 _ _ (b13 _ _ nro (b12 _ _ nlr (b11 _ _ nro B.er)))),Zaf (fun _ _ z=>z.off off) B.ff,b15 _ _ ncl.symm (s14 _ _ (b13 _ _ nlo e12)),by rw[e15,map_append]; rfl,Zaq (Zaf (fun _ _ z=>z.imp fun p xs e=>off.1 _ _ e (fun _ z=>nomatch z)) B.fc) (.cons ⟨px,b15 _ _ (Zcm e14 ec14 (by intro z; cases z)) e14,hPp⟩ .nil),fun c hc=>?_,pm2.nodup_iff.mpr B.nd,fun x hx=>B.lo x (pm2.mem_iff.mp hx),?_,by rw[length_append,hcs]; rfl⟩⟩
   ·rcases mem_append.mp hc with h | h
    ·exact B.ko c h
    ·rw[mem_singleton.mp h]; exact okp
   ·rw[List.length_eraseIdx,if_pos hd11]
    omega
  ·rintro σ H10 ⟨lf,hs,cs,v10,v11,rfl,B⟩
   have er:=B.er;have hcs:=B.sc;have hxl:=Zak B.ff;obtain⟨cO,oO⟩:=B.b2;obtain⟨cB,bB⟩:=B.b1;walk_at "";refine⟨tyL er,?_⟩;walk_at "";refine ZfY (by simp) fun tp H11 s11 n11 e11=>?_;walk_at "";have er11:=s11 _ _ er;refine Za5 er11 (by rw[length_map]; omega) fun H12 b12 e12=>?_;walk_at "";have off:OffX (X3 r bag other) H10 H12:=(OffX.of s11).trans (OffX.but (.inl rfl) er11 b12);have ok':OkM17 m (g,cs):=⟨okg,fun c hc=>⟨B.ko c hc,B.lo c.1 (List.mem_append_left _ (mem_map_of_mem (f:=Prod.fst) hc))⟩,(nodup_append.mp B.nd).1,by show 1≤cs.length; omega,by show cs.length≤6; omega⟩;have en12:EnB m (fun l=>¬X3 r bag other l) H0 H12 tp (.mv (g,cs)):=⟨gx,cl,hs,b12 _ _ (Zcm e11 er11 (by intro z; cases z)) e11,hPg,fun z=>z.elim ncr.symm fun z=>z.elim ncb.symm nco,b12 _ _ ncr.symm (s11 _ _ B.ec),Zaf (fun _ _ z=>z.imp fun p xs e=>off.1 _ _ e (fun _ z=>nomatch z)) B.fc⟩;refine⟨xs++[tp],es++[.mv (g,cs)],_,_,_,_,_,_,rfl,⟨b12.same nr (B.sm.trans s11),⟨cB,b12 _ _ nrb.symm (s11 _ _ bB)⟩,⟨cO,b12 _ _ nro.symm (s11 _ _ oO)⟩,by rw[e12,map_append]; rfl,Zaq (Zaf (fun _ _ z=>(z.imp (Ext.refl _) fun l ys n e=>⟨fun h=>n (.inl h),e⟩).off off) B.ff) (.cons en12 .nil),fun e he=>?_⟩,by rw[length_append,length_singleton]; omega⟩
   rcases mem_append.mp he with h | h
   ·exact A.ok e h
   ·rw[mem_singleton.mp h]; exact ok'
 rintro σ H5 ⟨xs,es,v6,v7,v8,v9,v10,v11,rfl,A,hle⟩;obtain⟨cb,eb5⟩:=A.b1;walk_at "";refine ZbW (by simp) fun dl H6 s6 n6 e6=>?_;have nrd:r≠dl:=Zag A.er n6;have nbd:bag≠dl:=Zag eb5 n6;have h0d:H0 dl=none:=A.sm.free n6;walk_at "";refine⟨fun n σ H'=>∃xs es ys fs,σ=[some (.ref pl),some (.int (m:Int)),some (.ref bag),some (.ref other),some (.ref r),v5,v6,v7,v8,v9,v10,v11,some (.ref dl)]∧AD17 m H0 H' r bag dl xs es ys fs∧n=xs.length,⟨xs.length,xs,es,[],[],rfl,⟨A.sm.trans s6,⟨cb,s6 _ _ eb5⟩,s6 _ _ A.er,e6,Zaf (fun _ _ z=>z.imp (Ext.of s6) fun l ys nx e=>⟨fun z=>z.elim (fun z=>nx (.inl z)) fun z=>z.elim (fun z=>nx (.inr (.inl z))) (Zag e n6),s6 _ _ e⟩) A.ff,.nil,A.ok,(fun e he=>by cases he),by show es.length+0≤30; omega⟩,rfl⟩,?_⟩;rintro n σ H7 ⟨xs,es,ys,fs,rfl,B,rfl⟩;have hxl:=Zak B.ff;have hyl:=Zak B.fd;have hBl:=B.ln;obtain⟨c7,b7⟩:=B.b1;have r7:=B.er;have d7:=B.ed;walk_at "";rw[length_map];refine Zb7 (fun h=>?_) (fun h=>?_)
 ·refine⟨fun σ' H'=>∃xs' es' ys' fs',σ'=[some (.ref pl),some (.int (m:Int)),some (.ref bag),some (.ref other),some (.ref r),v5,v6,v7,v8,v9,v10,v11,some (.ref dl)]∧AD17 m H0 H' r bag dl xs' es' ys' fs'∧xs.length - 1=xs'.length,fun _ _ h=>⟨_,by omega,h⟩,?_⟩
  walk_at "";refine⟨tyL d7,?_⟩;walk_at "";refine⟨tyL r7,?_⟩;walk_at "";refine⟨bag,c7,(xs.map V.ref).length,rfl,b7,by rw[length_map]; omega,by rw[length_map]; omega,fun d8 c8 H8 b8 e8 hd8=>?_⟩;rw[length_map]at hd8;obtain⟨e,hei,hEe⟩:=ZaJ B.ff (List.getElem?_eq_getElem hd8);have r8:=b8 _ _ nrb r7;walk_at "";refine ZwJ (k:=d8) (y:=.ref xs[d8]) r8 (by rw[getElem?_map,List.getElem?_eq_getElem hd8]; rfl) (by rw[length_map]; omega) fun H9 b9 e9=>?_;rw[Zoq]at e9;walk_at "";have d9:=b9 _ _ nrd.symm (b8 _ _ nbd.symm d7);refine Za5 d9 (by rw[length_map]; omega) fun H10 b10 e10=>?_;walk_at "";have off:OffX (X4 r bag dl) H7 H10:=(OffX.but (.inr (.inl rfl)) b7 b8).trans ((OffX.but (.inl rfl) r8 b9).trans (OffX.but (.inr (.inr rfl)) d9 b10))
  have hel:d8 < es.length:=by omega
  refine⟨xs.eraseIdx d8,es.eraseIdx d8,ys++[xs[d8]],fs++[e],rfl,⟨b10.same h0d (b9.same nr (b8.same nb B.sm)),⟨c8,b10 _ _ nbd (b9 _ _ nrb.symm e8)⟩,b10 _ _ nrd e9,by rw[e10,map_append]; rfl,ZlN d8 (Zaf (fun _ _ z=>z.off off) B.ff),Zaq (Zaf (fun _ _ z=>z.off off) B.fd) (.cons (hEe.off off) .nil),fun e he=>B.ok e (List.mem_of_mem_eraseIdx he),fun e' he=>?_,?_⟩,?_⟩
  ·rcases mem_append.mp he with h | h
   ·exact B.od e' h
   ·rw[mem_singleton.mp h]; exact B.ok e (mem_of_getElem? hei)
  ·rw[length_append,length_singleton,List.length_eraseIdx,if_pos hel]
   omega
  ·rw[List.length_eraseIdx,if_pos hd8]
 ·walk_at ""
  exact q dl fs H7 B.sm ⟨ys,d7,Zaf (fun _ _ z=>z.en B.sm) B.fd⟩ B.od (by omega)
end
unseal PE PA PS PSs
mutual
theorem FmE.tr {t:Ad} {H:Hp} {π:Nat→Nat}:∀(tr:Tr) (D:Nat) (p:Addr),nT tr≤D→FmE t H p (fmT π tr)→FmAt t H D p (fmT π tr)
 | .lamp k,0,p,h,_=>absurd h (by simp[nT])
 | .lamp k,D+1,p,_,⟨n,h⟩=>by
  cases n with
  | zero=>exact absurd h id
  | succ n=>exact h
 | .sure c,0,p,h,_=>absurd h (by simp[nT])
 | .sure c,D+1,p,_,⟨n,h⟩=>by
  cases n with
  | zero=>exact absurd h id
  | succ n=>exact h
 | .neg g,0,p,h,_=>absurd h (by simp[nT])
 | .neg g,D+1,p,hD,⟨n,h⟩=>by
  cases n with
  | zero=>exact absurd h id
  | succ n=>
   have hn:nT (.neg g)=1+nT g:=rfl;obtain⟨dx,q,e,hq⟩:=h;exact⟨dx,q,e,FmE.tr g D q (by omega) ⟨n,hq⟩⟩
 | .wrap g,D,p,hD,h=>by
  have hn:nT (.wrap g)=1+nT g:=rfl;exact FmE.tr g D p (by omega) h
 | .join v gs,0,p,h,_=>absurd h (by simp[nT])
 | .join v gs,D+1,p,hD,⟨n,h⟩=>by
  cases n with
  | zero=>exact absurd h id
  | succ n=>
   have hn:nT (.join v gs)=1+nTL gs:=rfl;obtain⟨dx,tp,ps,e,e2,hq⟩:=h;exact⟨dx,tp,ps,e,e2,FmE.trL gs D ps (by omega) (Zaf (fun a b h=>⟨n,h⟩) hq)⟩
theorem FmE.trL {t:Ad} {H:Hp} {π:Nat→Nat}:∀(gs:List Tr) (D:Nat) (ps:List Addr),nTL gs≤D→Paired (FmE t H) ps (fmTL π gs)→Paired (FmAt t H D) ps (fmTL π gs)
 | [],D,_,_,.nil=>.nil
 | g::gs,D,_,hD,.cons h r=>by
  have hn:nTL (g::gs)=nT g+nTL gs:=by simp[nTL]
  exact .cons (FmE.tr g D _ (by omega) h) (FmE.trL gs D _ (by omega) r)
end
theorem Znl {α β:Type} {R S:α→β→Prop}:∀{as:List α} {bs:List β},Paired R as bs→(∀a b,b∈bs→R a b→S a b)→Paired S as bs
 | _,_,.nil,_=>.nil
 | _::_,_::_,.cons r q,h=>.cons (h _ _ mem_cons_self r) (Znl q fun a b hb=>h a b (mem_cons_of_mem _ hb))
theorem ZCO {af:List Nat} {k:Nat} (h:k < af.length):ahN af (2 ^ k)=af.getD k 0:=by
 unfold ahN;rw[Zui (j:=k) (fun i hi=>by rw[Nat.testBit_two_pow,decide_eq_false (Ne.symm hi),if_neg Bool.false_ne_true]) _ h,Nat.testBit_two_pow_self,if_pos rfl]
theorem ZA3 {m k:Nat} {mv:List Mv} (h:k < 2 ^ m):(afN m mv).getD k 0=stN k mv:=by
 unfold afN;rw[getD_eq_getElem?_getD,getElem?_map,List.getElem?_range h];rfl
theorem Zyt {t:Ad} {g:Tr} (h:nT g≤51):Dp t (fmT id g):=fun H p e=>FmE.tr g 62 p (by omega) e
theorem Zuw:∀es:List EnT,stE (es.map entF)=(stT es).map (fmT id)
 | []=>rfl
 | .st g::es=>congrArg (fmT id g :: ·) (Zuw es)
 | .bd g::es=>Zuw es
 | .mv v::es=>Zuw es
theorem ZtI:∀es:List EnT,bdE (es.map entF)=(bdT es).map (fmT id)
 | []=>rfl
 | .st g::es=>ZtI es
 | .bd g::es=>congrArg (fmT id g :: ·) (ZtI es)
 | .mv v::es=>ZtI es
theorem Zud:∀es:List EnT,mvE (es.map entF)=(mvT es).map fm17
 | []=>rfl
 | .st g::es=>Zud es
 | .bd g::es=>Zud es
 | .mv v::es=>congrArg (fm17 v :: ·) (Zud es)
theorem Zux {m:Nat}:∀{es:List EnT},(∀e∈es,OkE m e)→∀g∈stT es,nT g≤51
 | [],_,g,hg=>by cases hg
 | .st x::es,h,g,hg=>by
  have hg:g∈x::stT es:=hg
  rcases mem_cons.mp hg with rfl | hg
  ·exact(h _ mem_cons_self:okT m g=true∧nT g≤51).2
  ·exact Zux (fun e he=>h e (mem_cons_of_mem _ he)) g hg
 | .bd x::es,h,g,hg=>Zux (fun e he=>h e (mem_cons_of_mem _ he)) g hg
 | .mv x::es,h,g,hg=>Zux (fun e he=>h e (mem_cons_of_mem _ he)) g hg
theorem ZtJ {m:Nat}:∀{es:List EnT},(∀e∈es,OkE m e)→∀g∈bdT es,nT g≤51
 | [],_,g,hg=>by cases hg
 | .bd x::es,h,g,hg=>by
  have hg:g∈x::bdT es:=hg
  rcases mem_cons.mp hg with rfl | hg
  ·exact(h _ mem_cons_self:okT m g=true∧nT g≤51).2
  ·exact ZtJ (fun e he=>h e (mem_cons_of_mem _ he)) g hg
 | .st x::es,h,g,hg=>ZtJ (fun e he=>h e (mem_cons_of_mem _ he)) g hg
 | .mv x::es,h,g,hg=>ZtJ (fun e he=>h e (mem_cons_of_mem _ he)) g hg
theorem Zrq {m:Nat}:∀{es:List EnT},(∀e∈es,OkE m e)→∀v∈mvT es,OkM17 m v
 | [],_,g,hg=>by cases hg
 | .mv x::es,h,g,hg=>by
  have hg:g∈x::mvT es:=hg
  rcases mem_cons.mp hg with rfl | hg
  ·exact h _ mem_cons_self
  ·exact Zrq (fun e he=>h e (mem_cons_of_mem _ he)) g hg
 | .st x::es,h,g,hg=>Zrq (fun e he=>h e (mem_cons_of_mem _ he)) g hg
 | .bd x::es,h,g,hg=>Zrq (fun e he=>h e (mem_cons_of_mem _ he)) g hg
theorem ZsZ:∀a:List Str,(∀z∈a,Asc z)→PyData.canLayAll0 (a.map .str)=true
 | [],_=>rfl
 | x::a,h=>by
  have e:PyData.strOk x=true:=by
   unfold PyData.strOk;rw[Array.all_eq_true_iff_forall_mem];intro c hc;have:=h x (by simp) c (Array.mem_toList_iff.mpr hc);exact decide_eq_true (by omega)
  simp[PyData.canLayAll0,PyData.canLay0,e,ZsZ a (fun z hz=>h z (mem_cons_of_mem _ hz))]
theorem ZDm {l l':Addr} {a:List Str} {H:Hp} {Q:VK} (ha:∀z∈a,Asc z) (h:H l=some (.lst (a.map V.str))) (h':H l'=some (.lst (a.map V.str))) (q:Q (.bl false) H):rNeA (.ref l) (.ref l') H Q:=by
 refine .inr (.inl ⟨a.map .str,a.map .str,?_,?_,ZsZ a ha,ZsZ a ha,ZtO a,?_⟩)
 ·rw[DV]; exact⟨l,_,rfl,h,Zo1 H a⟩
 ·rw[DV]; exact⟨l',_,rfl,h',Zo1 H a⟩
 ·rw[ZmG,decide_eq_true rfl]; exact q
seal PE PA PS PSs
section
variable {P:Program} {w:World} {K:W.Frag} {mg:Str→Option Value} {base:Heap} {t:Ad} {n:Nat}
theorem ctZ {a b c d e f g h i j r:TS} {D:Ends} {σ:St} {H:Hp} (k:∀q,r=q→tSeq a (tSeq b (tSeq c (tSeq d (tSeq e (tSeq f (tSeq g (tSeq h (tSeq i (tSeq j (q)))))))))) D σ H):tSeq a (tSeq b (tSeq c (tSeq d (tSeq e (tSeq f (tSeq g (tSeq h (tSeq i (tSeq j (r)))))))))) D σ H:=k r rfl
theorem ctY {a b c d r:TS} {D:Ends} {σ:St} {H:Hp} (k:∀q,r=q→tSeq a (tSeq b (tSeq c (tSeq d q))) D σ H):tSeq a (tSeq b (tSeq c (tSeq d r))) D σ H:=k r rfl
theorem ok_law (T:Txt K mg t):FnOk P w K mg base CX0 80 t.f_law t.d_law ["_law_script"] (spLaw K):=by
 refine T.F_law.ok Zek (fun vs H Q E h=>?_) (fun cdv A outer s H vs Q E hr h=>?_)
 ·obtain⟨a,ns,rfl,_⟩:=h
  rfl
 obtain⟨sc,cs,rfl,hS,h63,hO,q⟩:=h;have Zcf:=ZvB (P:=P) (w:=w) (base:=base) T;have Zp8:=Zy4 (P:=P) (w:=w) (base:=base) T;have Zr8:=ZBS (P:=P) (w:=w) (base:=base) T;have Zp7:=Zy3 (P:=P) (w:=w) (base:=base) T;have Zp6:=Zy2 (P:=P) (w:=w) (base:=base) T;have Zme:=Zs9 (P:=P) (w:=w) (base:=base) T;have ZgX:=Zrz (P:=P) (w:=w) (base:=base) T;have Zr5:=ZBP (P:=P) (w:=w) (base:=base) T;have Zqa:=Zpv (P:=P) (w:=w) (base:=base) T;have ZcM:=Zry (P:=P) (w:=w) (base:=base) T;have Zn9:=ZDW (P:=P) (w:=w) (base:=base) T;have Zp4:=ZyZ (P:=P) (w:=w) (base:=base) T;have ZoN:=Zxh (P:=P) (w:=w) (base:=base) T;have Zbp:=ZtD (P:=P) (w:=w) (base:=base) T 52;have D_chart:=ZuH (P:=P) (w:=w) (base:=base) T;have D_ahead:=ZuG (P:=P) (w:=w) (base:=base) T
 obtain⟨m,hm,hm1,hm6⟩ : ∃m:Nat,1+cell cs 0 % 6=(m:Int)∧1≤m∧m≤6:=⟨(1+cell cs 0 % 6).toNat,by omega,by omega,by omega⟩;obtain⟨c1,hc1,hc18⟩ : ∃k:Nat,cell cs 0 / 6 % 9=(k:Int)∧k≤8:=⟨(cell cs 0 / 6 % 9).toNat,by omega,by omega⟩;obtain⟨c2,hc2,hc28⟩ : ∃k:Nat,cell cs 0 / 54 % 9=(k:Int)∧k≤8:=⟨(cell cs 0 / 54 % 9).toNat,by omega,by omega⟩;obtain⟨c3,hc3,hc38⟩ : ∃k:Nat,cell cs 3 % 9=(k:Int)∧k≤8:=⟨(cell cs 3 % 9).toNat,by omega,by omega⟩
 refine⟨_,(Zab (ss 1 Zek.nd (ZaE Zcf hr (Zaa (pv 0) (Zaa Zac Zad))))
   (Zab (ss 2 Zek.nd (ZaE Zcf hr (Zaa (pv 0) (Zaa Zac Zad))))
   (Zab (ss 3 Zek.nd (Zai Zay Zac (Zai ZaR (pv 1) Zac)))
   (Zab (ss 4 Zek.nd (ZaE Zp8 hr (Zaa (pv 3) (Zaa (ZaE Zcf hr (Zaa (pv 0) (Zaa Zac Zad))) Zad))))
   (Zab (ss 5 Zek.nd (ZfR (sc:=Zah Zk7) (N:=["_law_script","_law_first","_law_second","_law_many","_law_names_here","_law_pairs","_law_rest","_law_lines","_law_entry","_law_handed","_law_machine","_law_chart","_law_moves_here","_law_stand"]) (ns:=["_law_many"]) (ix:=[3]) rfl rfl (by decide +kernel) rfl (Za6 (ZaE Zr8 hr (Zaa (Za9 Zc1 (pv 0) (Zbn Zac) (Zbn Zac)) (Zaa (pv 3) Zad)))) (fun _ _ _ _=>Zhm) (fun _ _ _ _=>(Zc0 (Zaa (pv 0) (Zaa (ZaE Zbp hr (Zaa (pv 0) (Zaa (pv 1) Zad))) Zad))))))
   (Zab (ZkX 6 Zek.nd (sc:=Zah Zk7) (N:=["_law_script","_law_first","_law_second","_law_many","_law_names_here","_law_pairs","_law_rest","_law_lines","_law_entry","_law_handed","_law_machine","_law_chart","_law_moves_here","_law_stand"]) (ns:=["_law_pairs","_law_second"]) (ix:=[5,2]) rfl rfl (by decide +kernel) rfl (ZaZ rfl T.B.range (Zaa (Zai ZaR (Zai ZaU (pv 1) Zac) Zac) Zad)) (fun _ _ _ _=>Zhm) (fun _ _ _ _=>(Zc0 (Zaa Zal (Zaa (Zav (Zd4 (K:=K) rfl) (pv 1) (Zai ZaR (Zai Zay (pv 2) (Zai ZcA Zac (pv 0))) (Zaw (ZkA (K:=K) rfl) rfl T.B.len Za4 (Zaa (pv 1) Zad))) (fun _ _=>rfl)) Zad)))))
   (Zab (ss 6 Zek.nd (Zai Zay (pv 6) (ZfR (sc:=Zah Zk7) (N:=["_law_script","_law_first","_law_second","_law_many","_law_names_here","_law_pairs","_law_rest","_law_lines","_law_entry","_law_handed","_law_machine","_law_chart","_law_moves_here","_law_stand"]) (ns:=["_law_pairs","_law_second"]) (ix:=[5,2]) rfl rfl (by decide +kernel) rfl (ZaZ rfl T.B.range (Zaa (Zai ZaR (Zai ZaU (pv 1) Zac) Zac) Zad)) (fun _ _ _ _=>Zhm) (fun _ _ _ _=>(Zc0 (Zaa Zal (Zaa (Zav (Zd4 (K:=K) rfl) (pv 1) (Zai ZaR (Zai Zay (Zai ZaU (pv 2) Zac) (Zai ZcA Zac (pv 0))) (Zaw (ZkA (K:=K) rfl) rfl T.B.len Za4 (Zaa (pv 1) Zad))) (fun _ _=>rfl)) Zad)))))))
   (Zab (ss 6 Zek.nd (Zai Zay (pv 6) (ZaE Zp7 hr (Zaa (pv 5) (Zaa (pv 3) (Zaa (Zai ZaR (ZaE Zcf hr (Zaa (pv 0) (Zaa Zac Zad))) Zac) (Zaa (Zai ZaU (ZaE Zcf hr (Zaa (pv 0) (Zaa Zac Zad))) Zac) Zad)))))))
   (Zab (ss 6 Zek.nd (ZaE Zp6 hr (Zaa (pv 6) (Zaa (Zai ZaU (pv 2) Zac) Zad))))
   (Zab (ZaB (Zaj (ZaA hr.units) (Zai ZaR (Zai ZaU (pv 1) Zac) Zac) Zac (Zan _))
   (Zae (ss 6 Zek.nd (ZaE Zme hr (Zaa (pv 5) (Zaa (pv 3) (Zaa (ZaO (Zaa (pv 2) Zad)) (Zaa (ZaO (Zaa (ZaE Zcf hr (Zaa (pv 0) (Zaa Zac Zad))) Zad)) Zad)))))))
   Zap)
   (Zab (ss 7 Zek.nd (ZaO (Zaa (ZaE ZgX hr (Zaa (Zai Zay (ZaO (Zaa Zal Zad)) (pv 4)) (Zaa (pv 2) Zad))) Zad)))
   (Zab (ZaS PassesOwn.never rfl (Za6 (pv 6)) (sg 8 Zek.nd)
   (Zae (ZaQ (ZcB F.plainAttrs_list F.slot_list_append F.type_list_append ZaK (pv 7) (Zaa (ZaE Zr5 hr (Zaa (pv 8) (Zaa (pv 4) (Zaa (Zai Zay (pv 2) (Zaw Zaz rfl T.B.len Za4 (Zaa (pv 7) Zad))) Zad)))) Zad)))))
   (Zab (ss 9 Zek.nd (Zbb ZuZ rfl T.B.list Zsn (Zaa (pv 7) Zad)))
   (Zab (ss 10 Zek.nd (ZaE Zqa hr (Zaa (pv 9) Zad)))
   (Zab (ZaB (PW.pt (Zih (Zaj (Zje hr.units) (pv 9) (pv 7) (Zan _)) (ZfT (Zgp (ZaL (Zaw ZiI rfl T.B.isinstance ZcN (Zaa (pv 10) (Zaa (Zxt (v:=.ref t.Zau) rfl T.Zm4 rfl) Zad))) (fun _=>rfl))))))
   (Zae (Zao Zfl))
   Zap)
   (Zab (ZaQ (Zxp F.plainAttrs_list F.slot_list_clear F.type_list_clear ZyW (pv 9)))
   (Zab (ss 11 Zek.nd (Zxq D_chart hr (pv 10)))
   (Zab (ZaB (PW.pt (Zih (Zgp (ZaL (ZaE ZcM hr (Zaa (Zbi (pv 11) rfl) (Zaa (pv 3) Zad))) (fun _=>rfl))) (ZfT (Zgp (ZaL (ZaE ZcM hr (Zaa (Zbi (pv 11) rfl) (Zaa (ZaE Zn9 hr (Zaa (pv 6) (Zaa Zal Zad))) Zad))) (fun _=>rfl))))))
   (Zae (Zao Zfl))
   Zap)
   (Zab (ZaB (Zgp (ZaL (ZaE ZcM hr (Zaa (Zbi (pv 11) rfl) (Zaa (ZaE Zn9 hr (Zaa (pv 6) (Zaa Zal Zad))) Zad))) (fun _=>rfl)))
   (Zae (Zao Zfl))
   Zap)
   (Zab (ZkX 12 Zek.nd (sc:=Zah Zk7) (N:=["_law_script","_law_first","_law_second","_law_many","_law_names_here","_law_pairs","_law_rest","_law_lines","_law_entry","_law_handed","_law_machine","_law_chart","_law_moves_here","_law_stand"]) (ns:=[]) (ix:=[]) rfl rfl (by decide +kernel) rfl (Za6 (pv 6)) (fun _ _ _ _=>(Zig (Zaj (ZaA hr.units) (Zav (Zd4 (K:=K) rfl) (pv 0) Zac (fun _ _=>rfl)) Zal (Zan _)))) (fun _ _ _ _=>(pv 0)))
   (Zab (ZaS PassesOwn.never rfl (ZaZ rfl T.B.range (Zaa (Zai Zba Zac (pv 3)) Zad)) (sg 13 Zek.nd)
   (Zae (ZaB (Zgp (ZaL (ZaE ZcM hr (Zaa (ZfS D_ahead hr (pv 11) (Zaa (Zai Zba Zac (pv 13)) Zad)) (Zaa (ZaE Zp4 hr (Zaa (pv 13) (Zaa (pv 12) Zad))) Zad))) (fun _=>rfl)))
   (Zae (Zao Zfl))
   Zap)))
   (Zae (Zao (ZaE ZoN hr (Zaa (pv 10) (Zaa (pv 12) (Zaa (Zai ZaR (Zai ZaU (pv 1) Zac) (Zai Zba Zac (pv 3))) Zad))))))))))))))))))))))))))),?_⟩
 refine ctZ fun qZ hZ=>?_;walk_at "rd0";refine⟨sc,cs,0,rfl,hS,?_⟩;walk_at "";refine⟨sc,cs,2,rfl,hS,?_⟩;generalize cell cs 0=fi at hm hc1 hc2 ⊢;generalize cell cs 2=se;walk_at "";rw[hm];clear hm;walk_at "";refine⟨sc,cs,1,rfl,hS,?_⟩;walk_at "";refine⟨m,_,rfl,hm6,fun nl ns H1 s1 n1 e1 hl1 hn1 hd1=>?_⟩;have Nm:NmA ns:=⟨hn1,hd1,by omega,by omega⟩;subst hl1;walk_at "";refine .inl (j_sl (s1.seq hS) ((Zwg _ 4 54).trans (Zs3 cs 4 50)) fun l0 H2 s2 n2 e2=>?_);walk_at "";refine⟨l0,_,ns.length,rfl,e2,by rw[length_take]; omega,hm1,hm6,fun pa qs ts H3 s3 n3 e3 pT okt t1 t51=>?_⟩;have hql:=Zak pT;walk_at "";refine .inl ⟨pa,_,rfl,SqL.of e3,?_⟩;refine ZoY (fun i ys H'=>∃zs,ys=zs.map V.ref∧Paired (fun x tr=>∃p,H' x=some (.tup [.ref p,.int (crT ns.length tr:Int)])∧TwAt anyA H3 52 p tr) zs (ts.take i)) (Zlb (SqL.of e3)) (by rw[length_map]; omega) (fun H' _=>⟨[],rfl,.nil⟩) (by rintro i ys Ha Hb x ⟨zs,e,p⟩; exact⟨zs,e,Zaf (fun _ _ ⟨p,e,t⟩=>⟨p,x _ _ e (fun _ z=>nomatch z),t⟩) p⟩) ?_ ?_
 ·rintro i x ys acc H' hx s' ha ea ⟨zs,rfl,pz⟩ hyl R kk
  obtain⟨y,rfl,hy⟩:=Zbf hx;obtain⟨g,hgi,hT⟩:=ZaJ pT hy;have og:=okt g (mem_of_getElem? hgi);simp only [subS,map_cons,map_nil];walk_at "";refine kk true H' (Same.refl _) (fun z=>by cases z) fun _ R2 k2=>?_;walk_at "";refine⟨y,ns.length,g,rfl,hm6,hT.same s',og.1,by omega,fun H5 s5=>?_⟩;walk_at "";refine ZfY (by simp) fun tp H6 s6 n6 e6=>?_;refine k2 _ H6 (s5.trans s6) ⟨zs++[tp],by rw[map_append]; rfl,?_⟩;rw[ZaD hgi];exact Zaq (Zaf (fun _ _ ⟨p,e,t⟩=>⟨p,(s5.trans s6) _ _ e,t⟩) pz) (.cons ⟨y,e6,hT⟩ .nil)
 rintro pl ys H4 n4 s4 e4 ⟨ps,rfl,pp⟩;rw[length_map,hql,take_length]at pp;have hP:Paired (PrA ns.length H4) ps ts:=Zaf (fun _ _ ⟨p,e,t⟩=>⟨p,e,t.same s4⟩) pp;have hpl:=Zak hP;have hln:(ps.map V.ref).length=ps.length:=length_map _
 have pick:∀z:Int,∃k:Nat,z % (ps.length:Int)=(k:Int)∧∃x g,ps[k]?=some x∧PrA ns.length H4 x g∧okT ns.length g=true∧nT g≤51:=fun z=>by
  have v1:=Int.emod_nonneg z (show(ps.length:Int)≠0 by omega);have v2:=Int.emod_lt_of_pos z (show(0:Int) < (ps.length:Int) by omega)
  have hk:(z % (ps.length:Int)).toNat < ps.length:=by omega
  obtain⟨g,hg,hx⟩:=ZaJ hP (List.getElem?_eq_getElem hk);exact⟨(z % (ps.length:Int)).toNat,by omega,_,g,List.getElem?_eq_getElem hk,hx,(okt g (mem_of_getElem? hg)).1,(okt g (mem_of_getElem? hg)).2⟩
 have s14:Same H1 H4:=s2.trans (s3.trans s4);have e14:=s14 _ _ e1;have hS4:=(s1.trans s14).seq hS;clear pp pT e3 e2 s2 s3 s4 n2 n3 n4 hn1 hd1 e1 s1 s14 n1;walk_at "";rw[hc1];clear hc1;refine⟨_,rfl,by omega,by omega,?_⟩;rw[Int.toNat_natCast];refine ZoY (fun i ys H'=>∃zs fs,ys=zs.map V.ref∧zs.length=i∧Paired (EnB ns.length NoA H4 H') zs fs∧∀e∈fs,OkE ns.length e) (Zgr 0 c1 H4) (by simp; omega) (fun H' _=>⟨[],[],rfl,rfl,.nil,fun e he=>by cases he⟩) (by rintro i ys Ha Hb x ⟨zs,fs,e,l,p,o⟩; exact⟨zs,fs,e,l,Zaf (fun _ _ z=>z.ext x) p,o⟩) ?_ ?_
 ·rintro i x ys acc H' hx s' ha ea ⟨zs,fs,rfl,hzl,pz,okz⟩ hyl R kk
  obtain⟨hi,rfl⟩:=ZfG hx;have e4':=s' _ _ e4;simp only [subS,map_cons,map_nil];walk_at "";refine kk true H' (Same.refl _) (fun z=>by cases z) fun _ R2 k2=>?_;walk_at "";refine Zgm (.inl ⟨by decide,by decide⟩) ?_;walk_at ""
  (try rw[hln])
  (try refine i_rI (by omega) ?_)
  obtain⟨ix,hix,x,g,hxg,hPx,og⟩:=pick (se+7 * (0+(i:Int)));rw[hix];clear hix;refine ZbJ (j:=ix) e4' (v:=.ref x) (by rw[getElem?_map,hxg]; rfl) ?_;walk_at "";refine ZfY (by simp) fun tp H6 s6 n6 e6=>?_;have en6:EnB ns.length NoA H4 H6 tp (.st g):=⟨x,e6,hPx⟩;refine k2 _ H6 s6 ⟨zs++[tp],fs++[.st g],by rw[map_append]; rfl,by rw[length_append,hzl]; rfl,Zaq (Zaf (fun _ _ z=>z.ext (Ext.of s6)) pz) (.cons en6 .nil),fun e he=>?_⟩
  rcases mem_append.mp he with h | h
  ·exact okz e h
  ·rw[mem_singleton.mp h]; exact og
 rintro r1 ys H5 n5 s5 e5 ⟨z1,f1,rfl,h⟩;have hz1:=h.1;have p1:=h.2.1;have ok1:=h.2.2;clear h;rw[length_map,length_range]at hz1;have hf1:=Zak p1;walk_at "";rw[hc2];clear hc2;refine⟨_,rfl,by omega,by omega,?_⟩;rw[Int.toNat_natCast];refine ZoY (fun i ys H'=>∃zs fs,ys=zs.map V.ref∧zs.length=i∧Paired (EnB ns.length NoA H4 H') zs fs∧∀e∈fs,OkE ns.length e) (Zgr 0 c2 H5) (by simp; omega) (fun H' _=>⟨[],[],rfl,rfl,.nil,fun e he=>by cases he⟩) (by rintro i ys Ha Hb x ⟨zs,fs,e,l,p,o⟩; exact⟨zs,fs,e,l,Zaf (fun _ _ z=>z.ext x) p,o⟩) ?_ ?_
 ·rintro i x ys acc H' hx s' ha ea ⟨zs,fs,rfl,hzl,pz,okz⟩ hyl R kk
  obtain⟨hi,rfl⟩:=ZfG hx;have e4':=s' _ _ (s5 _ _ e4);simp only [subS,map_cons,map_nil];walk_at "";refine kk true H' (Same.refl _) (fun z=>by cases z) fun _ R2 k2=>?_;walk_at "";refine Zgm (.inl ⟨by decide,by decide⟩) ?_;walk_at ""
  (try rw[hln])
  (try refine i_rI (by omega) ?_)
  obtain⟨ix,hix,x,g,hxg,hPx,og⟩:=pick (se / 9+3 * (0+(i:Int)));rw[hix];clear hix;refine ZbJ (j:=ix) e4' (v:=.ref x) (by rw[getElem?_map,hxg]; rfl) ?_;walk_at "";refine ZfY (by simp) fun tp H6 s6 n6 e6=>?_;have en6:EnB ns.length NoA H4 H6 tp (.bd g):=⟨x,e6,hPx⟩;refine k2 _ H6 s6 ⟨zs++[tp],fs++[.bd g],by rw[map_append]; rfl,by rw[length_append,hzl]; rfl,Zaq (Zaf (fun _ _ z=>z.ext (Ext.of s6)) pz) (.cons en6 .nil),fun e he=>?_⟩
  rcases mem_append.mp he with h | h
  ·exact okz e h
  ·rw[mem_singleton.mp h]; exact og
 rintro r2 ys H6 n6 s6 e6 ⟨z2,f2,rfl,h⟩;have hz2:=h.1;have p2:=h.2.1;have ok2:=h.2.2;clear h;rw[length_map,length_range]at hz2;have hf2:=Zak p2;walk_at "";refine ZkN (s6 _ _ e5) e6 (by simp only [length_map]; omega) fun r3 H7 s7 n7 e7=>?_;rw[←map_append]at e7;have s47:Same H4 H7:=s5.trans (s6.trans s7);have p7:Paired (EnB ns.length NoA H4 H7) (z1++z2) (f1++f2):=Zaq (Zaf (fun _ _ z=>z.ext (Ext.of (s6.trans s7))) p1) (Zaf (fun _ _ z=>z.ext (Ext.of s7)) p2);have ok7:∀e∈f1++f2,OkE ns.length e:=fun e he=>(mem_append.mp he).elim (ok1 e) (ok2 e)
 have hl7:(f1++f2).length≤16:=by rw[length_append]; omega
 generalize z1++z2=z7 at e7 p7;generalize f1++f2=f7 at p7 ok7 hl7;clear p1 p2 ok1 ok2 e5 e6 hz1 hz2 hf1 hf2;have hf7:=Zak p7;walk_at "";refine⟨sc,cs,3,rfl,s47.seq hS4,?_⟩;walk_at "";refine⟨sc,cs,3,rfl,s47.seq hS4,?_⟩;generalize hth:cell cs 3=th at hc3 ⊢;walk_at "";rw[hc3];clear hc3;refine⟨pl,ps,ts,ns.length,c3,_,rfl,s47 _ _ e4,Zaf (fun _ _ z=>z.same s47) hP,okt,t1,by omega,hm1,hm6,hc38,fun ml z8 us H8 s8 n8 e8 p8 ok8 hl8=>?_⟩;have hf8:=Zak p8;refine ZkN (s8 _ _ e7) e8 (by simp only [length_map]; omega) fun r4 H9 s9 n9 e9=>?_;rw[←map_append]at e9;have s49:Same H4 H9:=s47.trans (s8.trans s9);have p9:EntL ns.length H9 r4 (f7++us.map .mv):=⟨_,e9,Zaq (Zaf (fun _ _ z=>(EnB.en s47 z).same (s8.trans s9)) p7) (ZiW (f:=EnT.mv) (fun _ _ z=>EnTA.same s9 z) p8)⟩
 have ok9:∀e∈f7++us.map EnT.mv,OkE ns.length e:=fun e he=>(mem_append.mp he).elim (ok7 e) fun h=>by obtain⟨v,hv,rfl⟩:=mem_map.mp h; exact ok8 v hv
 have hl9:(f7++us.map EnT.mv).length≤24:=by rw[length_append,length_map]; omega
 generalize f7++us.map EnT.mv=f9 at p9 ok9 hl9;clear p7 ok7 hl7 p8 ok8 hl8 e7 e8 hf7 hf8 e9 s8 s9 s47 s5 s6 s7;walk_at "";refine⟨ns.length,r4,f9,_,rfl,p9,by omega,fun r5 f10 H10 s10 p10 sub10 hl10=>?_⟩;have s410:Same H4 H10:=s49.trans s10;walk_at "rs";refine Zh8 (fun σ H'=>∃rl es,σ=[some (.ref sc),some (.int fi),some (.int se),some (.int (ns.length:Int)),some (.ref nl),some (.ref pl),some (.ref rl),none,none,none,none,none,none,none]∧Same H4 H'∧EntL ns.length H' rl es∧(∀e∈es,OkE ns.length e)∧es.length≤30) ?_ ?_
 rotate_left
 ·intro Kn hK
  walk_at "";refine Zb7 (fun h=>?_) (fun h=>?_)
  ·walk_at ""
   refine ZbW (by simp) fun bag H11 s11 n11 e11=>?_;walk_at "";refine⟨sc,cs,3,rfl,(s410.trans s11).seq hS4,?_⟩;walk_at "";refine ZbW (by simp) fun oth H12 s12 n12 e12=>?_;walk_at "";refine⟨H4,pl,bag,oth,ps,ts,ns.length,_,_,rfl,s410.trans (s11.trans s12),s410.free n11,(s410.trans s11).free n12,Zag e11 n12,s12 _ _ e11,e12,e4,hP,okt,t1,by omega,hm1,hm6,fun rl es H13 s13 pE okE hle=>?_⟩;walk_at "";exact hK _ _ ⟨rl,es,rfl,s13,pE,okE,hle⟩
  ·walk_at ""
   exact hK _ _ ⟨r5,f10,rfl,s410,p10,fun e he=>ok9 e (sub10 e he),by omega⟩
 clear p9 ok9 hl9 p10 sub10 hl10 s10 s410 s49 hP e4 pick okt;rintro σ H11 ⟨rl,es,rfl,h⟩;subst hZ;refine ctY fun qY hY=>?_;have s11:=h.1;obtain⟨xs,h'⟩:=h.2.1;have er:=h'.1;have pE:=h'.2;have okE:=h.2.2.1;have hle:=h.2.2.2;clear h h';have hxl:=Zak pE;have en11:=s11 _ _ e14;clear s11 e14 hS4;walk_at "";refine ZbW (by simp) fun l1 H12 s12 n12 e12=>?_;walk_at "";refine ZkN e12 (s12 _ _ en11) (by simp only [length_map,length_singleton]; omega) fun l2 H13 s13 n13 e13=>?_;have e13:H13 l2=some (.lst ((("lamps" : Str)::ns).map V.str)):=e13;walk_at "";refine⟨l2,("lamps" : Str)::ns,se,rfl,e13,fun z hz=>?_,by simp only [length_cons]; omega,fun z0 hz0 hl0 hw0=>?_⟩
 ·rcases mem_cons.mp hz with rfl | hz
  ·exact ZuF ⟨⟨by decide,by decide⟩,by decide⟩
  ·exact(Nm.wd z hz).x
 have L0:LnW z0 ("lamps"::ns):=⟨ZzH hz0,hl0,all_eq_true.mpr hz0,hw0,by simp⟩;walk_at "";refine ZbW (by simp) fun ll H14 s14 n14 e14=>?_;have t14:Same H11 H14:=s12.trans (s13.trans s14);have h11l:H11 ll=none:=(s12.trans s13).free n14;walk_at "";refine seqL (xs:=xs.map V.ref) (fun i σ H'=>∃zs v8,σ=[some (.ref sc),some (.int fi),some (.int se),some (.int (ns.length:Int)),some (.ref nl),some (.ref pl),some (.ref rl),some (.ref ll),v8,none,none,none,none,none]∧Same H11 H'∧H' ll=some (.lst ((z0::zs).map V.str))∧Paired (fun z e=>LnW z (enW ns e)) zs (es.take i)) ⟨[],_,rfl,t14,e14,.nil⟩ (fun i σ H' _ hp=>by obtain⟨zs,v8,_,s,_⟩:=hp; exact SqL.of (s _ _ er)) ?_ ?_
 ·rintro i y σ H15 hy ⟨zs,v8,rfl,s15,e15,pz⟩
  obtain⟨x,rfl,hx⟩:=Zbf hy;obtain⟨e,hei,hE⟩:=ZaJ pE hx;have hzl:=Zak pz;rw[length_take]at hzl;walk_at "";refine⟨tyL e15,?_⟩;walk_at "";refine⟨x,nl,ns,e,_,rfl,hE.same s15,s15 _ _ en11,Nm,okE e (mem_of_getElem? hei),fun z H16 s16 hz=>?_⟩;walk_at "";have e16:=s16 _ _ e15;refine Za5 e16 (by rw[length_map,length_cons]; omega) fun H17 b17 e17=>?_;walk_at "";refine⟨zs++[z],_,rfl,b17.same h11l (s15.trans s16),?_,?_⟩
  ·rw[e17]; simp
  ·rw[ZaD hei]
   exact Zaq pz (.cons hz .nil)
 rintro σ H15 ⟨zs,v8,rfl,h⟩;have s15:=h.1;have e15:=h.2.1;have pz:=h.2.2;clear h;rw[length_map,hxl,take_length]at pz;have hzl:=Zak pz;walk_at "";refine ZDC (.inl (SqL.of e15)) fun hd H16 s16 n16 e16=>?_;walk_at "";refine⟨hd,z0,zs,ns,es.map entF,rfl,e16,L0,Nm.lm,?_,by omega,fun mc H17 s17 hM=>?_⟩
 ·exact ZiW (R:=fun z e=>LnW z (enW ns e)∧OkE ns.length e) (f:=entF) (fun z e h=>⟨enW ns e,h.1,ZFa Nm h.2⟩) (Znl pz fun z e he hz=>⟨hz,okE e he⟩)
 rw[Zuw,ZtI,Zud]at hM
 have ascL:∀z∈z0::zs,Asc z:=fun z hz=>by
  rcases mem_cons.mp hz with rfl | hz
  ·exact L0.1
  ·obtain⟨i,hi,rfl⟩:=List.mem_iff_getElem.mp hz
   obtain⟨e,_,h⟩:=ZaJ pz (List.getElem?_eq_getElem hi);exact h.1
 obtain⟨dx,n0,ss0,b0,v0,sp,bp,ms,mv,MA,hsp,hbp,hmv⟩:=ZDN hM (fun f hf=>by obtain⟨g,hg,rfl⟩:=mem_map.mp hf; exact Zyt (Zux okE g hg)) (fun f hf=>by obtain⟨g,hg,rfl⟩:=mem_map.mp hf; exact Zyt (ZtJ okE g hg)) (fun f hf=>by
  obtain⟨v,hv,rfl⟩:=mem_map.mp hf;have o:=Zrq okE v hv;refine⟨Zyt o.gd.2,fun c hc=>?_⟩;obtain⟨d,hd,rfl⟩:=mem_map.mp hc
  exact Zyt (o.cs d hd).1.2)
 have hdv:mv.map dv=((mvT es).map mvD).map dv:=by
  rw[hmv,map_map];exact List.map_congr_left fun v _=>(ZCY v).symm
 have okM:=Zrq okE
 have gd:∀u∈mv,GoodMv ns.length u:=ZqJ hdv fun u hu=>by obtain⟨v,hv,rfl⟩:=mem_map.mp hu; exact ZtU (okM v hv)
 walk_at "";subst hY;refine ctY fun qX hX=>?_;walk_at "";refine ZDm ascL (s17 _ _ e16) ((s16.trans s17) _ _ e15) ?_;walk_at "";refine ZaI rfl ?_;walk_at "";refine ZDi (T.Zr4 _ _ _ _ MA.ob) (ZwS _ _) ?_;walk_at "";refine ZaI rfl ?_;have e17:=s17 _ _ e16;walk_at "";refine⟨tyL e17,?_⟩;walk_at "";refine ZBp e17 fun H18 b18 e18=>?_;have s18:Same H11 H18:=b18.same (s15.free n16) (s15.trans (s16.trans s17));have MA18:=MA.ext (b18.ext e17);walk_at "";refine⟨mc,_,_,_,rfl,MA18.ob,rfl,ZBG _ _ _ _ _ (by decide +kernel) (by decide +kernel) (by decide +kernel) (by decide +kernel),?_⟩;walk_at "";refine⟨MA18.ob,mc,dx,n0,ss0,b0,v0,_,sp,bp,ms,mv,ns.length,rfl,MA18,length_map _,hm1,hm6,gd,fun ch H19 s19 hC=>?_⟩;have w19:Same H11 H19:=s18.trans s19;rw[hsp,hbp]at hC;have MA19:=MA18.ext (Ext.of s19);obtain⟨dc,tc,o1,o2⟩:=id hC;have er19:=w19 _ _ er;have pE19:Paired (EnTA ns.length H19) xs es:=Zaf (fun _ _ z=>EnTA.same w19 z) pE;walk_at "";refine⟨ch,_,_,_,_,rfl,o1,T.Zgu,T.ZeZ,ZBE _ _ _ _,?_⟩;walk_at "";refine⟨_,rfl,?_⟩;walk_at "";refine ZaI rfl ?_;walk_at "";refine⟨ch,_,_,_,_,rfl,o1,T.Zgu,T.Zc9,ZwX _ _ _ _,?_⟩;walk_at "";refine⟨ns.length,rl,xs,es,"start",rfl,.inl rfl,er19,pE19,?_⟩;rw[show ofE "start" es=stT es from if_pos rfl];walk_at "";refine⟨_,rfl,?_⟩;walk_at "";refine ZaI rfl ?_;walk_at "";subst hX;walk_at "";refine⟨ch,_,_,_,_,rfl,o1,T.Zgu,T.ZeY,ZBD _ _ _ _,?_⟩;walk_at "";refine⟨ns.length,rl,xs,es,"bad",rfl,.inr rfl,er19,pE19,?_⟩;rw[show ofE "bad" es=bdT es from if_neg (by decide)];walk_at "";refine⟨_,rfl,?_⟩;walk_at "";refine ZaI rfl ?_;walk_at "";refine .inl ⟨rl,_,rfl,SqL.of er19,?_⟩;refine Zgv (fun i ys=>∃zs,ys=zs.map V.ref∧Paired (fun x v=>EnTA ns.length H19 x (.mv v)) zs (mvT (es.take i))) (Zlb (SqL.of er19)) (by rw[length_map]; omega) ⟨[],rfl,.nil⟩ ?_ ?_
 ·rintro i x ys acc H' hx s' ha ea ⟨zs',rfl,pz'⟩ hyl R kk
  obtain⟨y,rfl,hy⟩:=Zbf hx;obtain⟨e,hei,hE⟩:=ZaJ pE19 hy;obtain⟨q',r,g,f1,f2,hc⟩:=hE.kd;simp only [subS,map_cons,map_nil];walk_at "";refine Za8 (s' _ _ f1) (v:=.str (kdE e)) at_0 ?_;walk_at "";refine kk _ H' (Same.refl _) (fun z=>?_) fun z R2 k2=>?_
  ·have z:=of_decide_eq_false z
   refine⟨zs',rfl,?_⟩;rw[ZaD hei,Zue]
   rcases hc with rfl | rfl | ⟨cc,rfl⟩
   ·rw[show mvT [EnT.st g]=[] from rfl,append_nil]; exact pz'
   ·rw[show mvT [EnT.bd g]=[] from rfl,append_nil]; exact pz'
   ·exact absurd rfl z
  ·have z:=of_decide_eq_true z
   walk_at "";refine k2 _ H' (Same.refl _) ⟨zs'++[y],by rw[map_append]; rfl,?_⟩;rw[ZaD hei,Zue]
   rcases hc with rfl | rfl | ⟨cc,rfl⟩
   ·exact absurd z (by show ¬("start" : Str) = "move"; decide)
   ·exact absurd z (by show ¬("bad" : Str) = "move"; decide)
   ·exact Zaq pz' (.cons hE .nil)
 rintro mh ys H20 n20 s20 e20 ⟨zm,rfl,pm⟩;rw[length_map,hxl,take_length]at pm;have pm20:Paired (fun x v=>EnTA ns.length H20 x (.mv v)) zm (mvT es):=Zaf (fun _ _ z=>EnTA.same s20 z) pm;have hC20:=hC.mono (Ext.of s20);have MA20:=MA19.ext (Ext.of s20);have hp:=ZbV hm6;have hp0:=Int.natCast_nonneg (2 ^ ns.length);have hml:(mvT es).length≤100:=Nat.le_trans (List.length_filterMap_le _ _) (by omega);walk_at "";rw[Zbj];refine⟨_,rfl,by omega,by omega,?_⟩;rw[Int.toNat_natCast];refine Zly (n:=2 ^ ns.length) (fun k σ H'=>Same H20 H'∧∃v13,σ=[some (.ref sc),some (.int fi),some (.int se),some (.int (ns.length:Int)),some (.ref nl),some (.ref pl),some (.ref rl),some (.ref ll),v8,some (.ref hd),some (.ref mc),some (.ref ch),some (.ref mh),v13]) ⟨Same.refl _,_,rfl⟩ ?_ ?_
 ·rintro k σ H21 hk ⟨s21,v13,rfl⟩
  have hC21:=hC20.mono (Ext.of s21);obtain⟨C,dx',fs',e',hCC,hl⟩:=hC21.ins "ahead" (by decide +kernel) (by decide +kernel) (by decide +kernel) (by decide +kernel);walk_at "";refine⟨ch,C,dx',fs',rfl,e',hCC,hl,?_⟩;walk_at "";rw[Zbj];refine⟨e',ch,ns.length,_,_,_,2 ^ k,rfl,hC21,fun H22 s22=>?_⟩;have s2022:=s21.trans s22;walk_at "";refine⟨k,ns.length,mh,zm,mvT es,rfl,hm6,hk,s2022 _ _ e20,Zaf (fun _ _ z=>EnTA.same s2022 z) pm20,okM,?_⟩;walk_at "";refine⟨((stN k ((mvT es).map mvD):Nat):Int),?_,?_⟩
  ·rw[ZCO (by unfold afN; rw[length_map,length_range]; exact hk),ZA3 hk,ZEO hdv]
  walk_at "";refine ZaI rfl ?_;walk_at "";exact⟨s2022,_,rfl⟩
 ·rintro σ H21 ⟨s21,v13,rfl⟩
  obtain⟨st,hst,hstm⟩ : ∃k:Nat,fi / 972 % ((2 ^ ns.length:Nat):Int)=(k:Int)∧k < 2 ^ ns.length:=by
   have h0:=Nat.two_pow_pos ns.length;have v1:=Int.emod_nonneg (fi / 972) (show((2 ^ ns.length:Nat):Int)≠0 by omega);have v2:=Int.emod_lt_of_pos (fi / 972) (show(0:Int) < ((2 ^ ns.length:Nat):Int) by omega);exact⟨(fi / 972 % ((2 ^ ns.length:Nat):Int)).toNat,by omega,by omega⟩
  have h0:=Nat.two_pow_pos ns.length;walk_at "";rw[Zbj];refine i_rI (by omega) ?_;rw[hst];walk_at "";exact⟨mc,mh,st,ns.length,zm,mvT es,dx,n0,ss0,b0,v0,_,sp,bp,ms,mv,rfl,hm6,hstm,MA20.ext (Ext.of s21),hdv,s21 _ _ e20,Zaf (fun _ _ z=>EnTA.same s21 z) pm20,okM,hml,fun H' _=>q _⟩
end
unseal PE PA PS PSs
end LW
structure PySem.W.Fast : Prop where
 (tw6898651790484214862 tw17847479561972522789 tw7196727616077763961 tw8063745421391768629 tw14770919777616296048 tw10772197553155170180 tw2515248806961462401 tw12744712382176975330 tw12908676085950126821 tw5311539061642697345 tw8370911226759004689 tw9446208642967874823 tw13273437091277506169 tw4017412870847865181 tw893927927482682140 tw3253239778747426660 tw8157483606316291652 tw80843862500313055 tw804233743963177240 tw17558242529879486140 tw7884457057720349362 tw11428508024583483422 tw5980606025061245134 tw2652753345424490984 tw11590778119183655895 tw9523914991368140508 tw10868268528816383148 tw8901298537902671947 tw802650162033800393 tw5016970880571062909 tw6613774120349521245 tw4894469414363353200 tw11718324561987759173 tw16744028555823526897 tw3460587204577610083 tw4029705371198827992 tw6203261927279521655 tw16216343385150268427 tw10472225592694304432 tw4841807822037844116 tw9263077331153387500 tw8015304711906585480 tw13689508361139348249 tw2289899213779928918 tw16614961255028367569 tw11288911633172429954 tw10958626717583784405 tw4659620531260057876 tw5576347724256426039 tw8546534334291979513 tw2872857412026622435 tw18125494713992727837 tw6162287326224010768 tw3930119736228709801 tw1274387240896785230 tw14487731137326222909 tw9457975271941800066 tw15898825234166869368 tw1488372512195120469 tw6168608663539510568 tw5849253529002313598 tw13220019725478955029 tw16062890672094748935 tw11756511727076684687 tw2430292606884414798 tw2859396034105681868 tw5789697032053740432 tw14255481267813166345 tw16790328019345780859 tw17482151905045019915 tw8213789519721567649 tw15321108227690858816 tw10261297790396502002 tw6505445689108701543 tw16274663311715758232 tw16868062728456152782 tw12575185301197062884 tw2897536786027247747 tw2344308612388362325 tw11375336986421971406 tw11089087471412224273 tw13078940905290303052 tw11217365033623356254 tw9094347392614966147 tw5039690627461290173 tw5880001614327377892 tw9232385807901451625 tw16118131509164149336 tw5944461635951077888 tw18439144110634363790 tw3505664417557794641 tw6448498588421725713 tw10296539034630060595 tw4333738063100246409 tw17293478007889791080 tw173264132127919374 tw7150815871635792828 tw14839806109540893944 tw10981012369943347337 tw7963147813173185925 tw13545939074634883444 tw13661373053913722555 tw4682998183809131505 tw14428305435198784438 tw152031311794145431 tw1891937782778226830 tw12193399601299175077 tw9376959795138991937 tw4630280081555100000 tw16797851658779167842 tw5291751723316974561 tw5312587949199068275 tw929941122115113638 tw217336059727200297 tw6693718802904874009 tw2582796114516459077 tw5215193282449148994 tw6565773786451518683 tw8566097147989147709 tw5323871446837694600 tw3340319019063918609 tw14794243846187722464 tw7733498011796782872 tw5072341406939812382 tw11417193510933541176 tw4950313286190318061 tw11288009685854462926 tw15987255342992173224 tw18177460935182319623 tw13431412017951238803 tw9271100205029981728 tw10205199024779297906 tw14400984836890491429 tw2045065338720434939 tw539671857451105384 tw2174667586403564229 tw11880361417617720480 tw8487889433417815059 tw9250689756647601943 tw3872559429481488647 tw13940195476650541256 tw10743395639432236986 tw2588473516988192125 tw2753431383513519770 tw1996470229204046530 tw229021882589310533 tw12432490472529694493 tw1760639818247540973 tw10022472660891273761 tw4848388374581090829 tw7682705487167825312 tw14495315260576807728 tw17014122075172005901 tw4210769001686383912 tw12511487709329008487 tw1982602478805523155 tw5134852147419261656 tw16392182293904916540 tw905366111832024611 tw8479694107427012376 tw7656657460036184989 tw15282186282980414225 tw1211142592094488414 tw5759371785039620323 tw47898645196220540 tw594981315703580911 tw15529724015976362864 tw15663710293141995558 tw12796326549967708812 tw5039566797156412386 tw2496955977807144343 tw5607996898910243390 tw2811594201135022331 tw7701090330941777334 tw6916510464039404282 tw7868521964252615150 tw3525978784632373668 tw16793516760446032965 tw6846698482758315222 tw7061385300378966580 tw9601590699527854807 tw9091666577218803643 tw1564237649710319031 tw5271706535249347204 tw15077064822577020180 tw12722835750745924801 tw3224146764025214783 tw12097824700505737300 tw3178772781005119345 tw9570117606790958302 tw17825199533888558442 tw8973096718577532691 tw15473464213475649683 tw12103461019373898022 tw3577899809440031605 tw8466923513324568282 tw1321860360407837790 tw15773892645474393933 tw13841033876664202678 tw13466412630357049053 tw6534220578702306164 tw15748969406773566520 tw17553303692892411508 tw1978769599486263754 tw6002155021005840914 tw1080406589646599091 tw16122580979722889275 tw7454376557956535667 tw14742718315867684166 tw4888515781807659001 tw11047595890932252744 tw10262727670741035637 tw13479085841260109068 tw10096440383851732402 tw14179778500010737438 tw13332313822458573943 tw13475998086730519103 tw13918631168641921638 tw11645209158965293680 tw7510668546100194110 tw8640582314522189090 tw16213621817887016559 tw11687685210439582664 tw6735949937522765391 tw10208322080156349449 tw2794936654323793951 tw13703959218017074260 tw5527199182904305914 tw2628976604915559714 tw14565646191450435045 tw16589619030581494341 tw13251302396379055539 tw17915837595944868601 tw11027781577685709562 tw4336000559155089499 tw18070718442786161562 tw7016810350229299027 tw12615508219553191908 tw10497319124891377856 tw16262686203450363808 tw1533271100482134679 tw14102969783918642497 tw5150681129721932962 tw4888269917097262994 tw8036262779733040969 tw14780868798940137441 tw12759775483517113777 tw3139144389089631447 tw17021064035603988800 tw13477131628336965679 tw12773116123152562411 tw8006338808216037697 tw6685572888678648651 tw8029723504015302803 tw3334631200373026077 tw2503507502654654176 tw18100193735753947886 tw15584754550334343220 tw10122144792630762560 tw6135864106839587463 tw7063652729496240659 tw17755277632560828256 tw4761806956204302763 tw10202904194962511647 tw11432843153846573327 tw10870307545203739840 tw9920672978360887227 tw9715362091806453954 tw4471382217491469519 tw15845060075984474209 tw280156077908134217 tw3983618524891101429 tw4725455619667215551 tw16329511265832951473 tw8083532720328362402 tw18018600270334001905 tw15571065481055368818 tw7749850759762115040 tw1237486598047741386 tw6704575183652191086 tw8377672845337598545 tw15200960533418560421 tw1877553444691076820 tw11982885668673667598 tw4201280124743198009 tw1993748436692485230 tw4420137570683937042 tw9384531688354631572 tw4414824960769646121 tw3359672148721219509 tw1240818647188141251 tw10367837283431186380 tw4696933550361609270 tw12158391898713140433 tw11144510650367229344 tw4117267023561542378 tw5468917267697758678 tw6274542961437046487 tw18376908751695878079 tw111625653412149913 tw6688723967510787887 tw8369752560306495514 tw10417294007506162693 tw130128432695307092 tw12410003932745339675 tw11455323382524296931 tw8619888843947816013 tw16884481328303710017 tw9789063376268869288 tw10141442580212265792 tw9509827476136480832 tw16928907967604314746 tw12802423470012554870 tw18218227831672301110 tw13379619599284644256 tw10387374855050883724 tw8074769990356968646 tw6508851789786142997 tw3249536923231618291 tw2449816510107453889 tw828741615516917833 tw13516722716373449897 tw17831441166851103182 tw8674415765793456281 tw4298757460048277902 tw11268717127972227978 tw6709011151654552025 tw11052386524151680151 tw15720273311195599064 tw2789526583512944843 tw7993842265528136421 tw3947001967779505236 tw9909391784596995346 tw14622652596056595209 tw11937521837770015059 tw6473842761915942484 tw3933924178229191666 tw12299456367836652588 tw12980534406271863701 tw16409954024357286485 tw6425553404454698128 tw8814244151736392641 tw8632743374878399042 tw18394905204597055075 tw1928412123706552334 tw15503126902493207505 tw5164880365226732089 tw17413910581809330900 tw15023834223017922594 tw18331515837047312569 tw5237908676025994233 tw5188588710811820110 tw1657998725551744795 tw3188923571219889114 tw6425162616742736146 tw15380584688254339560 tw17348381973754752304 tw6232180361304225937 tw15268504102254108000 tw476053131497960203 tw8972286941690399865 tw16987747244875030628 tw6096005708234701942 tw2160645384000052489 tw3387219916053588829 tw14658910175801103403 tw5216720147799410622 tw1575191159665681104 tw1372993085070915635 tw3077444202008365336 tw4449648103308442326 tw16644070738210514177 tw8276207660447923777 tw7306124588923947848 tw14068666957868452009 tw9094107895298985039 tw13810664683939144756 tw15762618311045029442 tw12645615690337441391 tw12516248198430197921 tw2973689378931359404 tw7767784683406275626 tw13933169736417007734 tw11908562359802217661 tw5742008391875097389 tw1311759788537957424 tw2679618626081367492 tw12161958480951146668 tw5990978191937980094 tw12833779237766790867 tw7889970301959419470 tw11432170881196722669 tw5079770310144409692 tw16620319958407286831 tw14475148962621911561 tw10339280092452874964 tw4265257015872107142 tw6091709079169737742 tw13713709069570837052 tw7051364427480866137 tw5741546043142727829 tw17048164665869262135 tw16230135586558598855 tw5595217047948444162 tw6766595552654559928 tw12539770897641969022 tw14039700501879726580 tw7981029580768347445 tw9305966001570082040 tw12281747970154348160 tw10695671216799818191 tw16663100143280444371 tw14548399603128748890 tw12673850189901197063 tw2822054901263640888 tw8802315420432731414 tw4769672406687910528 tw9638747318062163896 tw8169283890597751093 tw15628746684726956273 tw7184353827265425341 tw12846392577459214016 tw10606034615658095160 tw15069265133331264904 tw9301649841944014032 tw328137869026480407 tw7715085730610609451 tw6693548391117793920 tw11023981366155488925 tw8557549290643338962 tw13956206847508063061 tw3699737027150598925 tw5355273725038626439 tw10235185907976527207 tw5179266775170283623 tw7219299279998816526 tw18023509829071161408 tw2395932803531766244 tw5915854229679582460 tw12288134664646790336 tw13632119783855588252 tw1189609470256594690 tw6747849698360251573 tw2396030462304832491 tw2284774033891270507 tw18135738202893947575 tw16760652842341406041 tw6084787099955463545 tw17386940639347170311 tw14063257979743248126 tw5356795633636457936 tw12859444535081012487 tw3919001534349651843 tw18206348926324449135 tw15883155257028122931 tw15996659271178331732 tw10357890096773077109 tw13141296876863305863 tw7016128364588669904 tw6802142949527521905 tw18299002435437177436 tw12664719706435664886 tw2708126727733604941 tw15324106385764752592 tw5081355982990975283 tw15142793494054867870 tw540829343812087195 tw17026396392443281286 tw3876248455329359018 tw1490722342598079141 tw11785079507170284325 tw987683823251602757 tw790111890655351053 tw15020300962383109677 tw7322066275390979120 tw14181189192170660801 tw2447762269147907178 tw17008175418797011392 tw4486756239472729352 tw7119711466773271235 tw11282260877704319516 tw6378604524259281030 tw17544051878990985807 tw10255102206885806533 tw17100748044815112879 tw4723310630217638368 tw3831895934467348038 tw12677019380966487907 tw16906894847484814177 tw15559409279011543400 tw1385538946865355922 tw4543858593989307061 tw11145705839482946393 tw12383171524390010677 tw8845987623274079909 tw2867417891905219095 tw15747621127970615275 tw7768634369387149713 tw1169561387433784727 tw10297990878095763941 tw4316238825381339848 tw5460793842517307189 tw15991821340818590513 tw348601679919725258 tw11346960761261061315 tw7135794199955913520 tw5171982806630213077 tw3162280874588326584 tw16656262302972082393 tw12772015928423928329 tw13632927167393633547 tw16154854196377433187 tw14359659943125974284 tw16025564564772623957 tw6159824662599638025 tw7294431991331747110 tw2739415103699775294 tw18131725166604655604 tw3993184627309335032 tw18101733311234291485 tw4218835641619772200 tw13358839017808285283 tw1545405121562848799 tw1087098941190555607 tw5722569115789305750 tw17563339254808967353 tw15933885800886496527 tw12095681720716612588 tw4516804177231203046 tw5417520055900190359 tw11281581592673002814 tw13138974456021376828 tw6957803697477459694 tw12583330661617688392 tw11857078149832672109 tw127295976349524756 tw6541504389043361560 tw15365315906230824610 tw15320317493163402153 tw1499803050566452638 tw14639197872227437383 tw15758669703905544766 tw6353280768874566794 tw2928967978341381780 tw7306832821288144139 tw854443837616424975 tw16166426485792875906 tw569460202318382564 tw10878177374775102792 tw9759602281210022664 tw17719586095362850179 tw15335465192007684937 tw16282686053853170909 tw6042149326613260107 tw10505514608723923925 tw3378099458450949835 tw10842087053991912479 tw14468334439505973912 tw16826537006533141921 tw14857914182270129956 tw12007122864249048441 tw5769274571922408911 tw12004087220100696898 tw2017136471438569574 tw11516457996524331811 tw11862474188514929985 tw4172159517745939548 tw3529962018836656394 tw13464897840569872568 tw13161858171385816908 tw11551175420675711335 tw7903944872416961693 tw4881291957972747883 tw14537241177118376935 tw8276294498119286548 tw14393498710035636294 tw16421553946325972619 tw12043995617776129322 tw5074753081646581509 tw17164974004050695618 tw15510716435545285374 tw15463542902465172987 tw3016778060316283095 tw9907147906553494047 tw16492124066178255901 tw9032715993723354588 tw5166874105173481714 tw12712821336550742928 tw13813264525070136162 tw1684983572997084035 tw6817087028049615261 tw8196540911885502709 tw9301737966913485289 tw9234782462834399375 tw9643708214902858663 tw10427273571171463903 tw17153645610071255462 tw14702556542512735754 tw7152456206343963391 tw927227672574993174 tw17665404799488904960 tw3641596518098570806 tw1966534933239954308 tw12885237630661023484 tw7982283483236286856 tw11763945128685928483 tw11408702483201703747 tw3199943722018611020 tw2262971063309459132 tw4274499966099202706 tw8187055514044218714 tw16720260628994243183 tw10239744287337647977 tw15377429476803706702 tw9923562093487441721 tw14773015589810089482 tw5119616652585466846 tw14140262549728056499 tw14987147256218738311 tw9199597028960149547 tw7210356628159002197 tw14564501104796437554 tw10368320221828435333 tw5215413186689417672 tw3956767826009368580 tw15902162230129878711 tw16611005212644552143 tw5537416031136749813 tw4458022696093224269 tw4605782778499831896 tw10711135765901068589 tw9567958985924553381 tw2813982979631357756 tw213321874134370659 tw15674662886345986183 tw4355973691015918089 tw4203527789104140981 tw2491750314103152958 tw8364265980171526100 tw15469599991685805475 tw3501857058451301792 tw5094145376394203293 tw7398215461304478306 tw7968285003027769166 tw8316462949344349131 tw1650648390799588406 tw8478579600816207134 tw10917027881184517356 tw6253863301629111413 tw3747563092892591159 tw16324559101662998630 tw2088613002099800634 tw6138421138202944396 tw2180070163894759249 tw3465833157469934240 tw9043138680758987077 tw15257363030005533253 tw13589254393224658532 tw2469046807299126383 tw3342597451963291643 tw3440100830110551375 tw4463852117958830587 tw14597392473748964199 tw8423141668579856391 tw16986228666522591234 tw11032743718507198906 tw17309392685535842872 tw5742234158782623307 tw12715694753223027455 tw7430934724586478633 tw11024595541548165914 tw9530591468027375047 tw9651270612867972451 tw6602995844874818236 tw15964425949653634010 tw5688659922269475948 tw8657351313877169313 tw9188398082108742756 tw2718436853944000036 tw9268257616551503212 tw4770564610938717566 tw10772428515510514691 tw14843551515136011175 tw3732979174774164084 tw7216785971102442798 tw17882786368213690757 tw6605410574877879372 tw14069340790118763984 tw4385357087159364645 tw9414164965085523958 tw11167922681821197549 tw509672807465674688 tw4393262254035022295 tw4075627721584105512 tw7275821526420365331 tw4370004236589449846 tw12849747930061110284 tw16242212501789463019 tw14348704190143989004 tw9861954705738325948 tw17802022242981101968 tw449741999061917041 tw9853175007942906565 tw7821766288342713753 tw16090867043548060291 tw9984129378146350601 tw17253054045963235760 tw8715163140879541585 tw15038401958989566986 tw9870109187954824461 tw6160858792947763863 tw7203611913940934743 tw16229204266756086117 tw14497204228289486781 tw7299299205468438539 tw7206652751301195447 tw14850004275282748018 tw5395393162259745481 tw14806613891879850488 tw6584338275533432760 tw7566831741826804721 tw10691482273097275070 tw13419174148132349825 tw5395852131345221951 tw12535191414518053874 tw9718885523612854602 tw9198767485774809871 tw17827891227542444838 tw15240909392167428650 tw64283488378708419 tw18108841413666363008 tw9616017507196102064 tw15150460560177718208 tw9739801268167670983 tw9093900845631703284 tw15901165183345356829 tw10335263266572211129 tw6738040739720368162 tw196492214085755032 tw13635174873183318634 tw14776401587591032851 tw11123030498321389905 tw13696375410431746951 tw18442040411922097516 tw11196963400039073930 tw9274966463962366917 tw13664514459956581696 tw4405390054732517602 tw13681665487198788208 tw7459898759457947090 tw17313596782223586383 tw12583897450068827381 tw17429945626533005247 tw755311926177973994 tw10630164204876232714 tw8891679089741792394 tw169953404594847735 tw10754191607080665640 tw3115294990648204771 tw12218864236910174379 tw13104092433612408745 tw14647537930162346995 tw3321887001303898437 tw16967417570978243118 tw2044091816482253930 tw12751921595966800118 tw12239185232904622939 tw7952992486695571304 tw16080091762653349886 tw1936393931956607159 tw6300303062515218974 tw7912570099397996393 tw5814097369836323375 tw7474450571794814898 tw5361191085323544409 tw5643028431070244769 tw3624602226783798379 tw8296288128573963942 tw7533982692600734658 tw14151645561101304422 tw11901876419998733366 tw555829240407829067 tw9243638382552170688 tw6444894161808762050 tw5982978840996795886 tw10943544830462546881 tw8523890585103585369 tw17513588574285920574 tw2722719655289388972 tw3682370524517974657 tw8185205926413071271 tw5266264903356973364 tw6344464895798912597 tw12141458452011236941 tw12948913762853832784 tw17113452876116620437 tw14956430323042522406 tw8733760834762360807 tw6407556673863459211 tw4896949925505829500 tw17074026267223618517 tw15016204924502473093 tw7131667871856484144 tw15083132270774822722 tw6212129718687005892 tw4271780766297984955 tw8460179248372480472 tw18242014253958175483 tw3736188162175161646 tw10084000010139571190 tw5851271572290703933 tw12633128993737365207 tw3638797402435348102 tw9629862173263249226 tw13941801782713060413 tw10555079422647092067 tw17603640343152097510 tw16135001944467031584 tw14300784835988624708 tw14828513345960144218 tw2126601327216152894 tw6351643746014098553 tw13516198558439320670 tw15031098446859848151 tw15696795539232046077 tw15371596820744545822 tw7721985601817579350 tw7773829440995404976 tw14975465812603704096 tw1650629226237599107 tw7832191176884668029 tw6938647660768739950 tw2604092864045783545 tw4878440629439099382 tw7772520812194300878 tw3735883004332360443 tw4378955251764984653 tw8131071437429931399 tw11649149457878882076 tw13272161143025667383 tw6001468091822436210 tw18360065022876420261 tw11557944381816643018 tw14547133128781226287 tw8643619182485300975 tw2434698293065797751 tw2972373809117866788 tw11631796586224919510 tw9200448545893025769 tw9777979128372573424 tw13095825205171248710 tw17088091926465170958 tw9076370696726875266:True)
namespace L2
open PySem PySem.W
def liveO (o:Obj):Option Obj:=match o with
 | ⟨_,_,.freed,_⟩=>none
 | o=>some o
noncomputable def pick (l:List Obj):Nat→List Nat→List (Option Obj):=@List.rec Obj (fun _=>Nat→List Nat→List (Option Obj)) (fun _ as=>@List.rec Nat (fun _=>List (Option Obj)) [] (fun _ _ r=>none::r) as) (fun o _ ih i as=>@List.rec Nat (fun _=>List (Option Obj)) [] (fun a r _=>@Bool.rec (fun _=>List (Option Obj)) (ih (Nat.succ i) (a::r)) (liveO o::ih (Nat.succ i) r) (Nat.beq i a)) as) l
theorem pick_ok {h:Heap}:∀(l:List Obj) (i:Nat) (as:List Nat) (vs:List Obj),h.objs.toList.drop i=l→pick l i as=vs.map some→as.map h.get?=vs.map some:=by
 intro l;induction l with
 | nil=>
  intro i as vs _ e;cases as with
  | nil=>exact e
  | cons a r=>cases vs with
   | nil=>cases e
   | cons v vs=>injection e with e _; cases e
 | cons o l ih=>
  intro i as vs hd e
  have h1:h.objs[i]?=some o:=by rw[←Array.getElem?_toList,←List.head?_drop,hd]; rfl
  have h2:h.objs.toList.drop (i+1)=l:=by rw[←List.tail_drop,hd]; rfl
  cases as with
  | nil=>exact e
  | cons a r=>
   replace e:(@Bool.rec (fun _=>List (Option Obj)) (pick l (i+1) (a::r)) (liveO o::pick l (i+1) r) (Nat.beq i a))=vs.map some:=e
   cases hb:Nat.beq i a with
   | false=>rw[hb]at e; exact ih _ _ _ h2 e
   | true=>
    rw[hb]at e;cases Nat.eq_of_beq_eq_true hb;cases vs with
    | nil=>cases e
    | cons v vs=>
     injection e with e1 e2;rw[List.map_cons,List.map_cons,ih _ _ _ h2 e2,←e1];congr 1;unfold Heap.get?;rw[h1];cases o with
     | mk c d b s=>cases b <;> rfl
noncomputable def pHook (K:Params→Frag) (as:List Addr) (e:∀P,as=(K P).map (·.1)):Hook:=⟨List (Option Obj),fun s=>pick s.heap.objs.toList 0 as,fun w=>(K w.params).map fun p=>some p.2,InK K,fun w s y=>InK.of e w s (by
  have z:(K w.params).map (fun p=>some p.2)=((K w.params).map (·.2)).map some:=by rw[List.map_map]; rfl
  rw[z]at y ⊢;exact pick_ok _ 0 as _ rfl y),InK.keeps⟩
end L2
open PySem PySem.W PyProof.Rows
local macro_rules | `(tactic| o_head ($f $K $a $e)) => `(tactic| o_head L2.pHook $K $a $e)
set_option maxRecDepth 100000 in
set_option maxHeartbeats 0 in
theorem PySem.Challenge.cw_evernever_k17_lines_read_holds : PySem.Challenge.rw_evernever_k17_lines_read.Holds := by
 w_on; o_law; k_head; (case hw=>w_witness2)
 k_fill
 refine L2.walk_ofK (l:=PySem.Challenge.rw_evernever_k17_lines_read) (n:=63) (k:=80) (x:="_law_script") (CX:=L2.CX0) (sp:=LW.spLaw) rfl (by decide) rfl ⟨rfl,by decide,by decide⟩ (fun w h Y=>Y) ?F ?S ?C
 case F=>
  intro w mg fa h KX G hmg
  have T:∃t,LW.Txt (L2.KOf KX) mg t:=by
   dsimp only [L2.KOf]
   refine' LW.txt_mk KX G ?_ ?_ ?_ ?_ ?_ ?_ ?_ ?_ ?_ ?_ ?_ ?_ ?_ ?_ ?_ ?_ ?_ ?_ ?_ ?_ ?_ ?_ ?_ ?_ ?_ ?_ ?_ ?_ ?_ ?_ ?_ ?_ ?_ ?_ ?_ ?_ ?_ ?_ ?_ ?_ ?_ ?_ ?_ ?_ ?_ ?_ ?_ ?_ ?_ ?_ ?_ ?_ ?_ ?_ ?_ ?_ ?_ ?_ ?_ ?_ ?_ ?ZiE ?_ ?_ ?_ ?_ ?_ ?_ ?_ ?_ ?_ ?_ ?_ ?_ ?_ ?_ ?_ ?_ ?_ ?_ ?_ ?_ ?_ ?_ ?_ ?_ ?_ ?_ ?_ ?_ ?_ ?_ ?_ ?_ ?_ ?_ ?_ ?_ (LW.dmk ?_ ?_ ?_) (LW.dmk ?_ ?_ ?_) (LW.dmk ?_ ?_ ?_) (LW.dmk ?_ ?_ ?_) (LW.dmk ?_ ?_ ?_) (LW.dmk ?_ ?_ ?_) (LW.dmk ?_ ?_ ?_) (LW.dmk ?_ ?_ ?_) (LW.dmk ?_ ?_ ?_) (LW.dmk ?_ ?_ ?_) (LW.dmk ?_ ?_ ?_) (LW.dmk ?_ ?_ ?_) (LW.dmk ?_ ?_ ?_) (LW.dmk ?_ ?_ ?_) (LW.dmk ?_ ?_ ?_) (LW.dmk ?_ ?_ ?_) (LW.dmk ?_ ?_ ?_) (LW.dmk ?_ ?_ ?_) (LW.dmk ?_ ?_ ?_) (LW.dmk ?_ ?_ ?_) (LW.dmk ?_ ?_ ?_) (LW.dmk ?_ ?_ ?_) (LW.dmk ?_ ?_ ?_) (LW.dmk ?_ ?_ ?_) (LW.dmk ?_ ?_ ?_) (LW.dmk ?_ ?_ ?_) (LW.dmk ?_ ?_ ?_) (LW.dmk ?_ ?_ ?_) (LW.dmk ?_ ?_ ?_) (LW.dmk ?_ ?_ ?_) (LW.dmk ?_ ?_ ?_) (LW.dmk ?_ ?_ ?_) (LW.dmk ?_ ?_ ?_) (LW.dmk ?_ ?_ ?_) (LW.dmk ?_ ?_ ?_) (LW.dmk ?_ ?_ ?_) (LW.dmk ?_ ?_ ?_) (LW.dmk ?_ ?_ ?_) (LW.dmk ?_ ?_ ?_) (LW.dmk ?_ ?_ ?_) (LW.dmk ?_ ?_ ?_) (LW.dmk ?_ ?_ ?_) (LW.dmk ?_ ?_ ?_) (LW.dmk ?_ ?_ ?_) (LW.dmk ?_ ?_ ?_) ?_ ?_ ?_ (LW.dmk ?_ ?_ ?_) ?_ (LW.dmk ?_ ?_ ?_) ?_ (LW.dmk ?_ ?_ ?_) ?_ (LW.dmk ?_ ?_ ?_) ?_ (LW.dmk ?_ ?_ ?_) ?_ (LW.dmk ?_ ?_ ?_) ?_ (LW.dmk ?_ ?_ ?_) ?_ (LW.dmk ?_ ?_ ?_) ?_ (LW.dmk ?_ ?_ ?_) ?_ (LW.dmk ?_ ?_ ?_) ?_ (LW.dmk ?_ ?_ ?_) ?_ (LW.dmk ?_ ?_ ?_) ?_ (LW.dmk ?_ ?_ ?_) ?_ (LW.dmk ?_ ?_ ?_) ?_ (LW.dmk ?_ ?_ ?_) ?_ (LW.dmk ?_ ?_ ?_) ?_ (LW.dmk ?_ ?_ ?_) ?_ (LW.dmk ?_ ?_ ?_) ?_ (LW.dmk ?_ ?_ ?_) ?_ (LW.dmk ?_ ?_ ?_) ?_ (LW.dmk ?_ ?_ ?_) ?_ (LW.dmk ?_ ?_ ?_) ?_ (LW.dmk ?_ ?_ ?_) ?_ (LW.dmk ?_ ?_ ?_) ?_ (LW.dmk ?_ ?_ ?_) ?_ (LW.dmk ?_ ?_ ?_) ?_ (LW.dmk ?_ ?_ ?_) ?_ (LW.dmk ?_ ?_ ?_) ?_ (LW.dmk ?_ ?_ ?_) ?_ (LW.dmk ?_ ?_ ?_) ?_ ?_ ?_ ?_ ?_ ?_ ?_ ?_ ?_ ?_ ?_ ?_ ?_ ?_ ?_ ?_ ?_ ?_ ?_ ?_ ?_ ?_ ?_ ?_ ?_ ?_ ?_ ?_ ?_ ?_ ?_ ?_ ?_ ?_ ?_ ?_ ?_ ?_ ?_ ?_ ?_ ?_ ?_ ?_ ?_ ?_ ?_ ?_ ?_ ?_ ?_ ?_ ?_ ?_ ?_ ?_ ?_ ?_ ?_ ?_ ?_ ?_ ?_ ?_ ?_ ?_ ?_ ?_ ?_ ?_ ?_ ?_ ?_ ?_ ?_ ?_ ?_ ?_ ?_ ?_ ?_ ?_ ?_ ?_ ?nd_ ?_ ?_ ?_ ?_ ?_ ?_ ?_ ?_ ?_ ?_ ?_ ?_ ?_ ?_ ?_ ?_ ?_ ?_ ?_ ?_ ?_ ?_ ?_ ?_ ?_ ?_ ?_ ?_ ?_ ?_ ?_ ?_ ?_
   all_goals (try k_is)
   (case ZiE=>k_exc)
   (case nd_=>decide)
  obtain⟨t,T⟩:=T;have e0:=hmg.symm.trans T.m_law
  cases e0
  exact⟨_,T.bl,fun base _ _=>LW.ok_law T⟩
 case S=>exact fun K H a ns hl hO hS=>⟨a,ns,rfl,hS,hl,hO,fun _=>rfl⟩
 case C=>exact fun _ _ _ _ z=>z
#print axioms PySem.Challenge.cw_evernever_k17_lines_read_holds
