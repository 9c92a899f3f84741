import PyProof.Rows.All
import KE.KIsAll
import Wide.All
import Wide.FinOn
import KE.KRevIter
import KE.KDictList
import KE.KItem
import PySem.Challenge.RW_evernever_k19_lines_refused
set_option Elab.async false
set_option linter.all false
set_option maxRecDepth 100000
set_option maxHeartbeats 4000000
namespace L2
open PySem PySem.Spec PyProof.Rows
abbrev Key:=Sum Int Str
def Zuj:Key→Value→Bool
 | .inl k,v=>Value.isInt k v
 | .inr x,v=>Value.isStrOf x v
def keyH (w:World):Key→Int
 | .inl k=>hashInt k
 | .inr x=>hashStr w x
theorem Zcd:∀{k:Key} {v:Value},Zuj k v=true→(∃i t,k=Sum.inl i∧v=Value.int i t)∨(∃x t,k=Sum.inr x∧v=Value.str x t)
 | .inl i,v,h=>by
  obtain⟨t,e⟩:=Value.isInt_shape (k:=i) (v:=v) h;exact .inl ⟨i,t,rfl,e⟩
 | .inr x,v,h=>by
  obtain⟨t,e⟩:=Value.isStrOf_shape (x:=x) (v:=v) h;exact .inr ⟨x,t,rfl,e⟩
theorem ZvQ (i:Int) (t:Tok):Zuj (.inl i) (.int i t)=true:=by simp[Zuj,Value.isInt]
theorem ZvR (x:Str) (t:Tok):Zuj (.inr x) (.str x t)=true:=by simp[Zuj,Value.isStrOf]
theorem ZCF (a b:Int):decide ((Sum.inl a:Key)=Sum.inl b)=(a == b):=by
 by_cases e:a=b
 ·subst e; simp
 ·have h : ¬(Sum.inl a:Key)=Sum.inl b:=fun q=>e (Sum.inl.inj q)
  rw[decide_eq_false h];exact(beq_eq_false_iff_ne.mpr e).symm
theorem ZCI (a b:Str):decide ((Sum.inr a:Key)=Sum.inr b)=decide (a=b):=by
 by_cases e:a=b
 ·subst e; simp
 ·have h : ¬(Sum.inr a:Key)=Sum.inr b:=fun q=>e (Sum.inr.inj q)
  rw[decide_eq_false h,decide_eq_false e]
theorem ZCG (a:Int) (b:Str):decide ((Sum.inl a:Key)=Sum.inr b)=false:=decide_eq_false (fun q=>nomatch q)
theorem ZCH (a:Str) (b:Int):decide ((Sum.inr a:Key)=Sum.inl b)=false:=decide_eq_false (fun q=>nomatch q)
def ZdQ (prog:Program) (w:World):PySem.KeyKind prog w Key where
 is:=Zuj
 hash:=keyH w
 inj:=fun v a b ha hb=>by
  rcases Zcd ha with⟨i,t,rfl,rfl⟩ | ⟨x,t,rfl,rfl⟩
  ·rcases Zcd hb with⟨j,u,rfl,e⟩ | ⟨y,u,rfl,e⟩
   ·injection e with e1 _; rw[e1]
   ·exact nomatch e
  ·rcases Zcd hb with⟨j,u,rfl,e⟩ | ⟨y,u,rfl,e⟩
   ·exact nomatch e
   ·injection e with e1 _; rw[e1]
 byValue:=fun k v h=>by
  rcases Zcd h with⟨i,t,rfl,rfl⟩ | ⟨x,t,rfl,rfl⟩ <;> rfl
 pyHash:=fun hv h=>by
  rcases Zcd hv with⟨i,t,rfl,rfl⟩ | ⟨x,t,rfl,rfl⟩
  ·exact wpAny_pyHash_int h
  ·exact wpAny_pyHash_str h
 eqBool:=fun hu hv h=>by
  rcases Zcd hu with⟨i,t,rfl,rfl⟩ | ⟨x,t,rfl,rfl⟩
  ·rcases Zcd hv with⟨j,u,rfl,rfl⟩ | ⟨y,u,rfl,rfl⟩
   ·rw[ZCF]at h; exact wpAny_eqBool_int h
   ·rw[ZCG]at h; exact SeqAt.EqAt.int_str i t y u _ _ _ _ h
  ·rcases Zcd hv with⟨j,u,rfl,rfl⟩ | ⟨y,u,rfl,rfl⟩
   ·rw[ZCH]at h; exact SeqAt.EqAt.str_int x t j u _ _ _ _ h
   ·rw[ZCI]at h; exact wpAny_eqBool_str h
 «strs»:=fun k x t v h=>by
  rcases Zcd h with⟨i,u,rfl,e⟩ | ⟨y,u,rfl,e⟩
  ·exact nomatch e
  ·injection e with e1 _
   subst e1
   cases v <;> rfl
theorem ZsI (prog:Program) (w:World) (i:Int) (t:Tok):(ZdQ prog w).is (.inl i) (.int i t)=true:=ZvQ i t
theorem ZsJ (prog:Program) (w:World) (x:Str) (t:Tok):(ZdQ prog w).is (.inr x) (.str x t)=true:=ZvR x t
end L2
namespace L2
open PySem PySem.Spec PyProof.Rows
inductive V where
 | non | bl (b:Bool) | int (i:Int) | str (x:Str) | byt (b:Array UInt8) | flt (b:UInt64) | ref (a:Addr) | ty (n:String)
 deriving DecidableEq
def RelV:V→Value→Prop
 | .non,u=>u=Value.none
 | .bl b,u=>u=Value.bool b
 | .int i,u=>∃t,u=Value.int i t
 | .str x,u=>∃t,u=Value.str x t
 | .byt b,u=>∃t,u=Value.bytes b t
 | .flt b,u=>∃t,u=Value.float b t
 | .ref a,u=>u=Value.ref a
 | .ty n,u=>u=Value.type n
abbrev Vals:List V→List Value→Prop:=Paired RelV
theorem Vals.length {xs:List V} {us:List Value} (r:Vals xs us):xs.length=us.length:=Paired.length r
theorem Vals.get:∀{xs:List V} {us:List Value} {i:Nat} {x:V},Vals xs us→xs[i]?=some x→∃u,us[i]?=some u∧RelV x u
 | _,_,_,_,.nil,e=>by simp at e
 | _,_,0,_,.cons r _,e=>by simp at e; subst e; exact⟨_,rfl,r⟩
 | _,_,i+1,x,.cons _ t,e=>by
  obtain⟨u,h1,h2⟩:=Vals.get (i:=i) (x:=x) t (by simpa using e);exact⟨u,by simpa using h1,h2⟩
theorem Vals.set {x:V} {u:Value} (r:RelV x u):∀{xs:List V} {us:List Value} (i:Nat),Vals xs us→Vals (xs.set i x) (us.set i u)
 | _,_,_,.nil=>.nil
 | _,_,0,.cons _ t=>.cons r t
 | _,_,i+1,.cons q t=>.cons q (Vals.set r i t)
theorem Vals.append:∀{xs ys:List V} {us ws:List Value},Vals xs us→Vals ys ws→Vals (xs++ys) (us++ws)
 | _,_,_,_,.nil,s=>s
 | _,_,_,_,.cons r t,s=>.cons r (Vals.append t s)
theorem Vals.take:∀{xs:List V} {us:List Value} (n:Nat),Vals xs us→Vals (xs.take n) (us.take n)
 | _,_,0,_=>.nil
 | _,_,_+1,.nil=>.nil
 | _,_,n+1,.cons r t=>.cons r (Vals.take n t)
theorem Vals.drop:∀{xs:List V} {us:List Value} (n:Nat),Vals xs us→Vals (xs.drop n) (us.drop n)
 | _,_,0,r=>r
 | _,_,_+1,.nil=>.nil
 | _,_,n+1,.cons _ t=>Vals.drop n t
def RelO:Option V→Option Value→Prop
 | some v,some u=>RelV v u
 | none,none=>True
 | _,_=>False
def KV {κ:Type}:List (κ×V)→List (κ×Value)→Prop:=Paired fun(p:κ×V) (q:κ×Value)=>p.1=q.1∧RelV p.2 q.2
def kV:Key→V
 | .inl i=>.int i
 | .inr x=>.str x
inductive HO where
 | lst (xs:List V)
 | tup (xs:List V)
 | dK (kvs:List (Key×V)) | dT (kvs:List (List Key×V))
 | set (S:Int→Bool) (n:Nat)
 | ins (C dx:Addr) (fs:List (Str×V))
 | own (x:Addr)
 | xd (fs:List (Str×V))
 | met (f x:Addr)
 | rng (lo hi:Int)
 | frz (o:Obj) (u:HO)
 | tbl (ps:Array Value)
 | ext (φ:Heap→Prop)
abbrev Hp:=Addr→Option HO
def upd (H:Hp) (a:Addr) (o:HO):Hp:=fun b=>if b=a then some o else H b
theorem ZaH {H:Hp} {a:Addr} {o:HO}:upd H a o a=some o:=by unfold upd; rw[if_pos rfl]
theorem ZaW {H:Hp} {a b:Addr} {o:HO} (h:b≠a):upd H a o b=H b:=by unfold upd; rw[if_neg h]
theorem ZBy {H:Hp} {a:Addr} {o u:HO}:upd (upd H a o) a u=upd H a u:=by
 funext b; unfold upd; split <;> rfl
theorem ZdI {H:Hp} {a b:Addr} {o u:HO} (h:H a=some o) (h':H b=some u) (d:o≠u):a≠b:=by
 intro e; subst e; rw[h]at h'; exact d (Option.some.inj h')
theorem Zaf {H:Hp} {a b:Addr} {o:HO} (h:H a=some o) (h':H b=none):a≠b:=by
 intro e; subst e; rw[h]at h'; cases h'
section
variable (P:Program) (w:World)
def Zc0 (H:Hp) (h:Heap) (a:Addr):HO→Prop
 | .lst xs=>xs.length≤sizeLine∧∃(its:List Value) (n:Nat),Vals xs its∧h.get? a=some { cls:=.type "list",data:=.seq its.toArray n }
 | .tup xs=>xs.length≤sizeLine∧∃its:List Value,Vals xs its∧IsTup h a its.toArray
 | .dK kvs=>kvs.length≤sizeLine∧(a == sysModules)=false∧∃vs,KV kvs vs∧h.DictOf (ZdQ P w) a vs
 | .dT kvs=>kvs.length≤sizeLine∧(a == sysModules)=false∧∃xs:List (List Key×Addr×Value),
   Paired (fun(p:List Key×V) (q:List Key×Addr×Value)=>p.1=q.1∧H q.2.1=some (.tup (p.1.map kV))∧RelV p.2 q.2.2) kvs xs∧
   ∃o es ep,h.get? a=some o∧o.ExactDict∧o.data=.dict es ep∧es.toList=xs.map (entryOfKey (tupleKind (ZdQ P w)))∧(xs.map (·.1)).Nodup
 | .set S n=>h.SetOf (intKind P w) a S n
 | .ins C dx fs=>H dx=some (.own a)∧fs.length≤1000∧dx≠a∧h.get? a=some (PySem.W.instObj C dx)∧
   ∃mA,h.Ns1 dx mA∧(∀f,RelO (fs.lookup f) (mA f))∧PySem.Within mA (fs.map (·.1))
 | .own _=>∃o,h.get? a=some o
 | .xd fs=>∃mA,h.Ns1 a mA∧∀f,RelO (fs.lookup f) (mA f)
 | .rng lo hi=>∃t u v,h.get? a=some { cls:=.type "range",data:=.fields #[.int lo t,.int hi u,.int 1 v] }
 | .frz o u=>h.get? a=some o∧Zc0 H h a u
 | .tbl ps=>h.get? a=some { cls:=.none,data:=.fields ps }
 | .met f x=>h.get? a=some (PySem.W.methodObj (.ref f) (.ref x))
 | .ext φ=>φ h∧(∃o,h.get? a=some o)∧∀h1 h2:Heap,φ h1→(∀o,h1.get? a=some o→h2.get? a=some o)→φ h2
def HOk (H:Hp) (h:Heap):Prop:=∀a o,H a=some o→Zc0 P w H h a o
end
section
variable {P:Program} {w:World} {H H':Hp} {h h':Heap} {a:Addr} {o:HO}
theorem Zc0.lt (x:Zc0 P w H h a o):a < h.objs.size:=by
 cases o with
 | lst xs=>obtain⟨_,_,_,_,e⟩:=x; exact Heap.lt_size e
 | tup xs=>obtain⟨_,_,_,p⟩:=x; exact p.lt
 | dK kvs=>obtain⟨_,_,_,_,o,_,_,e,_⟩:=x; exact Heap.lt_size e
 | dT kvs=>obtain⟨_,_,_,_,o,_,_,e,_⟩:=x; exact Heap.lt_size e
 | set S n=>obtain⟨o,_,_,_,e,_⟩:=x; exact Heap.lt_size e
 | ins C dx fs=>obtain⟨_,_,_,e,_⟩:=x; exact Heap.lt_size e
 | own y=>obtain⟨_,e⟩:=x; exact Heap.lt_size e
 | xd fs=>obtain⟨_,⟨_,_,_,e,_⟩,_⟩:=x; exact Heap.lt_size e
 | rng lo hi=>obtain⟨_,_,_,e⟩:=x; exact Heap.lt_size e
 | frz ob u=>obtain⟨e,_⟩:=x; exact Heap.lt_size e
 | tbl ps=>exact Heap.lt_size (show h.get? a=some _ from x)
 | met f y=>exact Heap.lt_size (show h.get? a=some _ from x)
 | ext φ=>obtain⟨_,⟨_,e⟩,_⟩:=x; exact Heap.lt_size e
theorem Paired.mapP {α β:Type} {F G:α→β→Prop}:∀{l₁:List α} {l₂:List β},Paired F l₁ l₂→(∀a b,F a b→G a b)→Paired G l₁ l₂
 | _,_,.nil,_=>.nil
 | _,_,.cons r t,f=>.cons (f _ _ r) (Paired.mapP t f)
theorem Zc0.stay (x:Zc0 P w H h a o) (k:∀b u,(b=a∨H b=some (.own a))→h.get? b=some u→h'.get? b=some u)
  (ho:∀b,H b=some (.own a)→H' b=some (.own a)) (ht:∀b xs,H b=some (.tup xs)→H' b=some (.tup xs)):Zc0 P w H' h' a o:=by
 induction o with
 | lst xs=>obtain⟨z,its,n,r,e⟩:=x; exact⟨z,its,n,r,k _ _ (.inl rfl) e⟩
 | tup xs=>obtain⟨z,its,r,ob,e,c⟩:=x; exact⟨z,its,r,ob,k _ _ (.inl rfl) e,c⟩
 | dK kvs=>obtain⟨z,y,vs,r,ob,es,ep,e,c⟩:=x; exact⟨z,y,vs,r,ob,es,ep,k _ _ (.inl rfl) e,c⟩
 | dT kvs=>
  obtain⟨z,y,xs,r,ob,es,ep,e,c⟩:=x;exact⟨z,y,xs,Paired.mapP r fun p q z=>⟨z.1,ht _ _ z.2.1,z.2.2⟩,ob,es,ep,k _ _ (.inl rfl) e,c⟩
 | set S n=>obtain⟨ob,es,ep,t,e,c⟩:=x; exact⟨ob,es,ep,t,k _ _ (.inl rfl) e,c⟩
 | ins C dx fs=>
  obtain⟨d,z,ne,e,mA,⟨od,es,ep,e2,c⟩,r⟩:=x;exact⟨ho _ d,z,ne,k _ _ (.inl rfl) e,mA,⟨od,es,ep,k _ _ (.inr d) e2,c⟩,r⟩
 | own y=>obtain⟨ob,e⟩:=x; exact⟨ob,k _ _ (.inl rfl) e⟩
 | xd fs=>obtain⟨mA,⟨od,es,ep,e,c⟩,r⟩:=x; exact⟨mA,⟨od,es,ep,k _ _ (.inl rfl) e,c⟩,r⟩
 | rng lo hi=>obtain⟨t,u,v,e⟩:=x; exact⟨t,u,v,k _ _ (.inl rfl) e⟩
 | frz ob u ih=>obtain⟨e,q⟩:=x; exact⟨k _ _ (.inl rfl) e,ih q⟩
 | tbl ps=>
  have e:h.get? a=some { cls:=.none,data:=.fields ps }:=x;show h'.get? a=some { cls:=.none,data:=.fields ps };exact k a _ (.inl rfl) e
 | met f y=>
  have e:h.get? a=some (PySem.W.methodObj (.ref f) (.ref y)):=x;show h'.get? a=some (PySem.W.methodObj (.ref f) (.ref y));exact k a _ (.inl rfl) e
 | ext φ=>obtain⟨p,⟨o,e⟩,st⟩:=x; exact⟨st _ _ p fun o q=>k _ _ (.inl rfl) q,⟨o,k _ _ (.inl rfl) e⟩,st⟩
theorem HOk.lt (x:HOk P w H h) (e:H a=some o):a < h.objs.size:=(x a o e).lt
theorem HOk.fresh (x:HOk P w H h) (e:h.objs.size≤a):H a=none:=by
 cases q:H a with
 | none=>rfl
 | some u=>exact absurd (Nat.lt_of_lt_of_le (x.lt q) e) (Nat.lt_irrefl _)
theorem HOk.kept (x:HOk P w H h) (k:∀b u,h.get? b=some u→h'.get? b=some u):HOk P w H h':=fun a o e=>
 (x a o e).stay (fun b u _ q=>k b u q) (fun _ q=>q) fun _ _ q=>q
theorem HOk.laid (x:HOk P w H h) (k:∀b u,h.get? b=some u→h'.get? b=some u) (hp:h.objs.size≤a) (new:Zc0 P w (upd H a o) h' a o):HOk P w (upd H a o) h':=fun b u e=>by
 have hn:=x.fresh hp
 by_cases hb:b=a
 ·subst hb; rw[ZaH]at e; cases e; exact new
 ·rw[ZaW hb]at e
  exact(x b u e).stay (fun c v _ q=>k c v q) (fun c q=>by rw[ZaW (Zaf q hn)]; exact q) fun c xs q=>by rw[ZaW (Zaf q hn)]; exact q
end
def Rd (H:Hp) (a:Addr) (u:HO):Prop:=H a=some u∨∃o,H a=some (.frz o u)
theorem Rd.ok {P:Program} {w:World} {H:Hp} {h:Heap} {a:Addr} {u:HO} (r:Rd H a u) (x:HOk P w H h):Zc0 P w H h a u:=by
 rcases r with r | ⟨o,r⟩
 ·exact x a u r
 ·obtain⟨_,q⟩:=x a _ r
  exact q
def Mut:Option HO→Prop
 | some (.lst _)=>True
 | some (.dK _)=>True
 | some (.dT _)=>True
 | some (.set _ _)=>True
 | some (.ins _ _ _)=>True
 | some (.ext _)=>True
 | _=>False
section
variable {P:Program} {w:World} {H:Hp} {h h':Heap} {x e:Addr} {o':HO}
theorem HOk.write (ok:HOk P w H h) (mu:Mut (H x)) (he:e=x∨H e=some (.own x)) (k:∀b u,b≠e→h.get? b=some u→h'.get? b=some u) (heo:∃u,h'.get? e=some u)
  (new:Zc0 P w (upd H x o') h' x o'):HOk P w (upd H x o') h':=fun b u q=>by
 have nown:∀c y,H c=some (.own y)→c≠x:=fun c y r z=>by subst z; rw[r]at mu; exact mu
 have ntup:∀c xs,H c=some (.tup xs)→c≠x:=fun c xs r z=>by subst z; rw[r]at mu; exact mu
 by_cases hb:b=x
 ·subst hb; rw[ZaH]at q; cases q; exact new
 ·rw[ZaW hb]at q
  by_cases hbe:b=e
  ·have q':H b=some (.own x):=by
    rcases he with z | z
    ·exact absurd (hbe.trans z) hb
    ·rw[hbe]; exact z
   rw[q]at q'; cases q';obtain⟨v,hv⟩:=heo;exact⟨v,by rw[hbe]; exact hv⟩
  ·refine(ok b u q).stay (fun c v hc r=>k c v ?_ r) (fun c r=>by rw[ZaW (nown c b r)]; exact r) fun c xs r=>by rw[ZaW (ntup c xs r)]; exact r
   rcases hc with rfl | hc
   ·exact hbe
   ·rintro rfl
    rcases he with z | z
    ·exact nown c b hc z
    ·rw[hc]at z; cases z; exact hb rfl
end
structure Un (fs ex:List Addr) (H H':Hp) (h h':Heap):Prop where
 keep:∀b o,h.get? b=some o→H b=none→b∉fs→b∉ex→h'.get? b=some o
 slot:∀b o,h.get? b=some o→H b=none→b∈fs→b∉ex→∃sl,h'.get? b=some { o with slots:=sl }
 free:∀b o,h.get? b=some o→H b=none→b∉ex→H' b=none
 there:∀b o,h.get? b=some o→b∉ex→∃o',h'.get? b=some o'
 tups:∀b xs,H b=some (.tup xs)→H' b=some (.tup xs)
 frzs:∀b o u,H b=some (.frz o u)→H' b=some (.frz o u)
 tbls:∀b ps,H b=some (.tbl ps)→∃more,H' b=some (.tbl (ps++more))
section
variable {fs fs' ex ex':List Addr} {H H1 H2:Hp} {h h1 h2 h':Heap} {a x e:Addr} {o:HO}
theorem Un.any (u:Un fs ex H H1 h h1) {b:Addr} {ob:Obj} (q:h.get? b=some ob) (n:H b=none) (hx:b∉ex):∃sl,h1.get? b=some { ob with slots:=sl }:=by
 by_cases hb:b∈fs
 ·exact u.slot b ob q n hb hx
 ·exact⟨ob.slots,u.keep b ob q n hb hx⟩
theorem Un.kept (k:∀b u,h.get? b=some u→h'.get? b=some u):Un fs ex H H h h':=
 ⟨fun b ob q _ _ _=>k b ob q,fun b ob q _ _ _=>⟨ob.slots,k b ob q⟩,fun _ _ _ n _=>n,fun b ob q _=>⟨ob,k b ob q⟩,fun _ _ q=>q,fun _ _ _ q=>q,fun _ ps q=>⟨#[],by rw[q]; simp⟩⟩
theorem Un.refl:Un fs ex H H h h:=Un.kept fun _ _ q=>q
theorem Un.laid (k:∀b u,h.get? b=some u→h'.get? b=some u) (hp:h.objs.size≤a) (hn:H a=none):Un fs ex H (upd H a o) h h' where
 keep:=fun b u q _ _ _=>k b u q
 slot:=fun b u q _ _ _=>⟨u.slots,k b u q⟩
 free:=fun b u q n _=>by rw[ZaW (Nat.ne_of_lt (Nat.lt_of_lt_of_le (Heap.lt_size q) hp))]; exact n
 there:=fun b u q _=>⟨u,k b u q⟩
 tups:=fun b xs q=>by rw[ZaW (Zaf q hn)]; exact q
 frzs:=fun b u xs q=>by rw[ZaW (Zaf q hn)]; exact q
 tbls:=fun b ps q=>⟨#[],by rw[ZaW (Zaf q hn),q]; simp⟩
theorem Un.write (mu:Mut (H x)) (he:e=x∨H e=some (.own x)) (k:∀b u,b≠e→h.get? b=some u→h'.get? b=some u) (heo:∃u,h'.get? e=some u):Un fs ex H (upd H x o) h h':=by
 have hx:∀b,H b=none→b≠x:=fun b n z=>by subst z; rw[n]at mu; exact mu
 have hb:∀b,H b=none→b≠e:=fun b n z=>by
  subst z
  rcases he with r | r
  ·exact hx b n r
  ·rw[n]at r; cases r
 have hm:∀b u,H b=some u→¬Mut (some u)→b≠x:=fun b u q nm z=>by subst z; rw[q]at mu; exact nm mu
 refine⟨fun b u q n _ _=>k b u (hb b n) q,fun b u q n _ _=>⟨u.slots,k b u (hb b n) q⟩,fun b u q n _=>by rw[ZaW (hx b n)]; exact n,fun b u q _=>?_,
  fun b xs q=>by rw[ZaW (hm b _ q fun z=>z)]; exact q,fun b u xs q=>by rw[ZaW (hm b _ q fun z=>z)]; exact q,fun b ps q=>⟨#[],by rw[ZaW (hm b _ q fun z=>z),q]; simp⟩⟩
 by_cases hbe:b=e
 ·subst hbe; exact heo
 ·exact⟨u,k b u hbe q⟩
end
def trk (h:Heap) (H:Hp):List Addr:=(List.range h.objs.size).filter fun a=>(H a).isSome
def hidT (h:Heap) (H:Hp):Heap:=PySem.W.hideAll h (trk h H)
theorem Zvy (h:Heap) (H:Hp):(hidT h H).objs.size=h.objs.size:=PySem.W.hideAll_size _ _
theorem ZxJ {h:Heap} {H:Hp} {b:Addr} {o:Obj} (e:h.get? b=some o) (n:H b=none):(hidT h H).get? b=some o:=
 PySem.W.hideAll_get _ e fun hm=>by
  have q:(H b).isSome=true:=(List.mem_filter.mp hm).2;rw[n]at q; simp at q
theorem ZAM {h:Heap} {H:Hp} {b:Addr} {o:Obj} (e:(hidT h H).get? b=some o):h.get? b=some o∧H b=none:=by
 have e':h.get? b=some o:=PySem.W.of_hideAll (trk h H) e;refine⟨e',?_⟩
 cases q:H b with
 | none=>rfl
 | some x=>
  have hm:b∈trk h H:=List.mem_filter.mpr ⟨List.mem_range.mpr (Heap.lt_size e'),by simp[q]⟩;have z:(hidT h H).get? b=none:=PySem.W.hideAll_none (trk h H) hm;rw[z]at e; cases e
end L2
namespace L2
open PySem PySem.Spec PyProof.Rows
structure Mod (K:PySem.W.Frag) (mg:Str→Option Value) (base:Heap):Prop where
 kin:K.In base
 glob:base.Ns mainGlobals mg
 blt:∃mb,base.Ns builtinsNs mb∧∀x:Str,x≠"__name__"→mb x=bootBuiltins x
 nolimit:base.NoLimit
structure Cx where
 prog:Program
 w:World
 K:PySem.W.Frag
 mg:Str→Option Value
 base:Heap
 A:Around
 N:List Str
 s₀:Shared
 H₀:Hp
 env:Env
 outer:List Env
 stack:List Env
 ex:List Addr
 fn:Str→Bool
 calm:Bool
 pn:List (Addr×Obj)
 xe:Value→Shared→Prop
def frs (l:List Env):List Addr:=l.filterMap (·.frame)
abbrev Cx.fs (X:Cx):List Addr:=frs X.outer
def Vis (sc:Scope) (x:Str):Prop:=sc.names.lookup x=some .local∨sc.names.lookup x=some .cell∨sc.names.lookup x=some .free
def Loc (sc:Scope) (x:Str):Prop:=sc.names.lookup x=some .local∨sc.names.lookup x=some .cell
def Look (env:Env) (h:Heap) (m:Str→Option Value) (x:Str) (u:Value):Prop:=
 (env.kindOf x=some .local∧m x=some u)∨((env.kindOf x=some .cell∨env.kindOf x=some .free)∧∃c,env.cells.lookup x=some c∧h.IsCell c (some u))
structure Cx.Ok (X:Cx):Prop where
 mod:Mod X.K X.mg X.base
 kind:X.env.scope.kind=.function
 glob:X.env.globals=mainGlobals
 blt:X.env.builtins=builtinsNs
 above:X.s₀.heap.objs.size≤X.env.locals
 inj:∀x y c,X.env.cells.lookup x=some c→X.env.cells.lookup y=some c→x=y
 has:∀x,(X.env.kindOf x=some .cell∨X.env.kindOf x=some .free)→∃c,X.env.cells.lookup x=some c
 cab:∀x c,X.fn x=true→X.env.cells.lookup x=some c→X.s₀.heap.objs.size≤c
 hd:X.calm=true→X.A.handled=none
 frames:X.A.frames=some X.stack
 stk:X.stack=X.outer∨(X.stack=X.env::X.outer∧X.env.frame=some X.env.locals)
 exf:∀b∈X.ex,b≠X.env.locals∧∀x c,X.env.cells.lookup x=some c→c≠b
 bs:∀b o,X.base.get? b=some o→X.s₀.heap.get? b=some o∧X.H₀ b=none
 bsz:X.base.objs.size≤X.s₀.heap.objs.size
 noex:∀b o,X.base.get? b=some o→b∉X.ex
 exfs:∀b∈X.ex,b∉X.fs
 funs:X.s₀.heap.FunFrames X.base X.outer
 frf:∀b∈X.fs,X.H₀ b=none
structure Inv (X:Cx) (pins:List (Addr×Obj)) (σ:List (Option V)) (H:Hp) (s:Shared):Prop where
 ok:X.Ok
 os:s.os=X.s₀.os
 bare:AllBare s.gens
 base:Un X.fs X.ex X.H₀ H X.s₀.heap s.heap
 loc:∃m,s.heap.Ns X.env.locals m∧∀(i:Nat) (x:Str) (v:V),X.N[i]?=some x→σ[i]?=some (some v)→Vis X.env.scope x→∃u,RelV v u∧Look X.env s.heap m x u
 cell:∀x c,X.env.cells.lookup x=some c→∃v,s.heap.IsCell c v
 free:H X.env.locals=none
 freeC:∀x c,X.env.cells.lookup x=some c→H c=none
 pin:∀p∈X.pn++pins,s.heap.get? p.1=some p.2∧H p.1=none∧p.1≠X.env.locals∧p.1∉X.fs∧∀v,p.2.data≠.cell v
 hok:HOk X.prog X.w H s.heap
 len:σ.length=X.N.length
section
variable {X:Cx} {pins:List (Addr×Obj)} {σ:List (Option V)} {H H':Hp} {s:Shared} {h':Heap}
theorem Cx.Ok.nofr (ok:X.Ok) {b:Addr} {o:Obj} (e:X.base.get? b=some o):b∉X.fs:=fun hb=>by
 have:=(ok.funs.mem hb).1;rw[e]at this; cases this
theorem Inv.bs (I:Inv X pins σ H s):∀b o,X.base.get? b=some o→s.heap.get? b=some o∧H b=none:=fun b o e=>
 ⟨I.base.keep b o (I.ok.bs b o e).1 (I.ok.bs b o e).2 (I.ok.nofr e) (I.ok.noex b o e),I.base.free b o (I.ok.bs b o e).1 (I.ok.bs b o e).2 (I.ok.noex b o e)⟩
theorem Inv.bk (I:Inv X pins σ H s):∀b o,X.base.get? b=some o→s.heap.get? b=some o:=fun b o e=>(I.bs b o e).1
theorem Inv.mod (I:Inv X pins σ H s):Mod X.K X.mg X.base:=I.ok.mod
theorem Inv.kIn (I:Inv X pins σ H s):X.K.In s.heap:=I.ok.mod.kin.keeps I.bk
theorem Inv.lt (I:Inv X pins σ H s):X.env.locals < s.heap.objs.size:=let ⟨_,hn,_⟩:=I.loc; hn.lt
theorem Inv.sz (I:Inv X pins σ H s):X.s₀.heap.objs.size≤s.heap.objs.size:=Nat.le_trans I.ok.above (Nat.le_of_lt I.lt)
theorem Inv.nofs (I:Inv X pins σ H s) {a:Addr} (h:s.heap.objs.size≤a):a∉X.fs:=fun hb=>by
 obtain⟨_,o,ho,_⟩:=I.ok.funs.mem hb;exact absurd (Nat.lt_of_lt_of_le (Heap.lt_size ho) (Nat.le_trans I.sz h)) (Nat.lt_irrefl _)
theorem Inv.cne (I:Inv X pins σ H s):∀x c,X.env.cells.lookup x=some c→c≠X.env.locals:=fun x c e z=>by
 obtain⟨v,o,ho,hd⟩:=I.cell x c e;obtain⟨m,⟨o',es,ep,ho',hd',_⟩,_⟩:=I.loc;rw[z,ho']at ho; cases ho; rw[hd']at hd; cases hd
theorem Inv.funs (I:Inv X pins σ H s):s.heap.FunFrames X.base X.outer:=by
 have all:∀(l:List Env),(∀b∈frs l,b∈X.fs)→X.s₀.heap.FunFrames X.base l→s.heap.FunFrames X.base l:=by
  intro l
  induction l with
  | nil=>intro _ _; trivial
  | cons env r ih=>
   intro hs hl;obtain⟨hk,⟨L,o,hf,hn,ho,hd⟩,hr⟩:=hl;have hL:L∈X.fs:=hs L (by unfold frs; rw[List.filterMap_cons,hf]; exact List.mem_cons_self);obtain⟨sl,e⟩:=I.base.slot L o ho (I.ok.frf L hL) hL fun z=>I.ok.exfs L z hL;exact⟨hk,⟨L,_,hf,hn,e,hd⟩,ih (fun b hb=>hs b (by unfold frs; rw[List.filterMap_cons,hf]; exact List.mem_cons_of_mem _ hb)) hr⟩
 exact all X.outer (fun _ hb=>hb) I.ok.funs
theorem Inv.stack (I:Inv X pins σ H s):s.heap.FunFrames X.base X.stack:=by
 rcases I.ok.stk with e | ⟨e,hf⟩
 ·rw[e]; exact I.funs
 ·rw[e]
  obtain⟨m,hn,_⟩:=I.loc;refine .cons (by rw[I.ok.kind]; decide) hf hn ?_ I.funs;exact Heap.get?_none_of_le (Nat.le_trans I.ok.bsz I.ok.above)
theorem Inv.stkSub (I:Inv X pins σ H s):∀b∈frs X.stack,b∈X.env.locals::X.fs:=fun b hb=>by
 rcases I.ok.stk with e | ⟨e,hf⟩
 ·rw[e]at hb; exact List.mem_cons_of_mem _ hb
 ·rw[e]at hb
  unfold frs at hb;rw[List.filterMap_cons,hf]at hb;exact hb
theorem Inv.stkFree (I:Inv X pins σ H s):∀b∈frs X.stack,H b=none:=fun b hb=>by
 rcases List.mem_cons.mp (I.stkSub b hb) with e | hb
 ·rw[e]; exact I.free
 ·obtain⟨_,o,ho,_⟩:=I.ok.funs.mem hb
  exact I.base.free b o ho (I.ok.frf b hb) fun z=>I.ok.exfs b z hb
theorem Inv.step {g':Array GenState} {t':Nat} {d':Drawn} {ch:List Addr} (I:Inv X pins σ H s)
  (hch:∀b∈ch,(b∈X.ex∨X.s₀.heap.objs.size≤b)∧b≠X.env.locals∧(∀x c,X.env.cells.lookup x=some c→c≠b)∧∀p∈X.pn++pins,p.1≠b)
  (keep:∀b o,b≠X.env.locals→b∉X.fs→b∉ch→s.heap.get? b=some o→H b=none→h'.get? b=some o)
  (slot:∀b o,b≠X.env.locals→b∈X.fs→b∉ch→s.heap.get? b=some o→H b=none→∃sl,h'.get? b=some { o with slots:=sl }) (free:∀b o,b∉ch→s.heap.get? b=some o→H b=none→H' b=none)
  (there:∀b o,b∉ch→s.heap.get? b=some o→∃o',h'.get? b=some o')
  (tups:∀b xs,H b=some (.tup xs)→H' b=some (.tup xs)) (frzs:∀b o u,H b=some (.frz o u)→H' b=some (.frz o u)) (tbls:∀b ps,H b=some (.tbl ps)→∃more,H' b=some (.tbl (ps++more)))
  (ns:∀m,s.heap.Ns X.env.locals m→h'.Ns X.env.locals m) (hok:HOk X.prog X.w H' h') (hg:AllBare g') :
  Inv X pins σ H' { s with heap:=h',gens:=g',drawn:=d',toks:=t' }:=by
 have neL:∀b o,X.s₀.heap.get? b=some o→b≠X.env.locals:=fun b o e=>Nat.ne_of_lt (Nat.lt_of_lt_of_le (Heap.lt_size e) I.ok.above)
 have neC:∀b o,X.s₀.heap.get? b=some o→b∉X.ex→b∉ch:=fun b o e hx hb=>by
  rcases(hch b hb).1 with z | z
  ·exact hx z
  ·exact absurd (Nat.lt_of_lt_of_le (Heap.lt_size e) z) (Nat.lt_irrefl _)
 have cellK:∀x c,X.env.cells.lookup x=some c→∀v,s.heap.IsCell c v→h'.IsCell c v:=fun x c e v ⟨o,ho,hd⟩=>by
  have nch:c∉ch:=fun z=>(hch c z).2.2.1 x c e rfl
  by_cases hc:c∈X.fs
  ·obtain⟨sl,q⟩:=slot c o (I.cne x c e) hc nch ho (I.freeC x c e)
   exact⟨_,q,hd⟩
  ·exact⟨o,keep c o (I.cne x c e) hc nch ho (I.freeC x c e),hd⟩
 refine⟨I.ok,I.os,hg,⟨fun b o e n hb hx=>?_,fun b o e n hb hx=>?_,fun b o e n hx=>?_,fun b o e hx=>?_,fun b xs e=>tups b xs (I.base.tups b xs e),fun b o xs e=>frzs b o xs (I.base.frzs b o xs e),fun b ps e=>?_⟩,?_,fun x c e=>?_,?_,fun x c e=>?_,fun p hp=>?_,hok,I.len⟩
 ·exact keep b o (neL b o e) hb (neC b o e hx) (I.base.keep b o e n hb hx) (I.base.free b o e n hx)
 ·obtain⟨sl,e1⟩:=I.base.slot b o e n hb hx
  obtain⟨sl',e2⟩:=slot b _ (neL b o e) hb (neC b o e hx) e1 (I.base.free b o e n hx);exact⟨sl',e2⟩
 ·obtain⟨o',e1⟩:=I.base.there b o e hx
  exact free b o' (neC b o e hx) e1 (I.base.free b o e n hx)
 ·obtain⟨o',e1⟩:=I.base.there b o e hx
  exact there b o' (neC b o e hx) e1
 ·obtain⟨m1,e1⟩:=I.base.tbls b ps e
  obtain⟨m2,e2⟩:=tbls b _ e1;exact⟨m1++m2,by rw[e2,Array.append_assoc]⟩
 ·obtain⟨m,hn,hl⟩:=I.loc
  refine⟨m,ns m hn,fun i x v e1 e2 e3=>?_⟩;obtain⟨u,r,l⟩:=hl i x v e1 e2 e3;refine⟨u,r,?_⟩
  rcases l with l | ⟨k,c,e,z⟩
  ·exact .inl l
  ·exact .inr ⟨k,c,e,cellK x c e _ z⟩
 ·obtain⟨v,z⟩:=I.cell x c e
  exact⟨v,cellK x c e v z⟩
 ·obtain⟨m,⟨o,_,_,ho,_⟩,_⟩:=I.loc
  exact free _ o (fun z=>(hch _ z).2.1 rfl) ho I.free
 ·obtain⟨v,o,ho,hd⟩:=I.cell x c e
  exact free c o (fun z=>(hch c z).2.2.1 x c e rfl) ho (I.freeC x c e)
 ·obtain⟨e,n,ne,nf,d⟩:=I.pin p hp
  have nch:p.1∉ch:=fun z=>(hch p.1 z).2.2.2 p hp rfl;exact⟨keep p.1 p.2 ne nf nch e n,free p.1 p.2 nch e n,ne,nf,d⟩
theorem Inv.un {t':Nat} (I:Inv X pins σ H s) (u:Un X.fs [] H H' s.heap h') (hok:HOk X.prog X.w H' h'):Inv X pins σ H' { s with heap:=h',toks:=t' }:=by
 obtain⟨m,⟨o,es,ep,ho,r⟩,_⟩:=id I.loc;obtain⟨sl,hL⟩:=u.any ho I.free (by simp)
 exact I.step (g':=s.gens) (d':=s.drawn) (ch:=[]) (fun _ z=>nomatch z) (fun b o _ hb _ e n=>u.keep b o e n hb (by simp)) (fun b o _ hb _ e n=>u.slot b o e n hb (by simp)) (fun b o _ e n=>u.free b o e n (by simp)) (fun b o _ e=>u.there b o e (by simp)) u.tups u.frzs u.tbls (fun m' hm=>by
  obtain⟨o',es',ep',ho',r'⟩:=hm;rw[ho]at ho'; cases ho'
  exact⟨_,es',ep',hL,r'⟩) hok I.bare
theorem Inv.call {g':Array GenState} {t':Nat} {d':Drawn} {ch:List Addr} (I:Inv X pins σ H s) (u:Un (frs X.stack) ch H H' s.heap h') (hok:HOk X.prog X.w H' h') (hg:AllBare g')
  (hch:∀b∈ch,(b∈X.ex∨X.s₀.heap.objs.size≤b)∧b≠X.env.locals∧(∀x c,X.env.cells.lookup x=some c→c≠b)∧∀p∈X.pn++pins,p.1≠b) :
  Inv X pins σ H' { s with heap:=h',gens:=g',drawn:=d',toks:=t' }:=by
 obtain⟨m,⟨o,es,ep,ho,r⟩,_⟩:=id I.loc;obtain⟨sl,hL⟩:=u.any ho I.free fun z=>(hch _ z).2.1 rfl
 exact I.step (ch:=ch) hch (fun b o hL hb hc e n=>u.keep b o e n (fun z=>(List.mem_cons.mp (I.stkSub b z)).elim hL hb) hc) (fun b o _ _ hc e n=>u.any e n hc) (fun b o hc e n=>u.free b o e n hc) (fun b o hc e=>u.there b o e hc) u.tups u.frzs u.tbls (fun m' hm=>by
  obtain⟨o',es',ep',ho',r'⟩:=hm;rw[ho]at ho'; cases ho'
  exact⟨_,es',ep',hL,r'⟩) hok hg
theorem Inv.turned {t':Nat} {it:Addr} (I:Inv X pins σ H s) (k:∀b o,b≠it→s.heap.get? b=some o→h'.get? b=some o) (hn:H it=none) (hL:it≠X.env.locals)
  (h1:it∈X.ex∨X.s₀.heap.objs.size≤it) (h2:∀x c,X.env.cells.lookup x=some c→c≠it) (h3:∀p∈X.pn++pins,p.1≠it):Inv X pins σ H { s with heap:=h',toks:=t' }:=by
 have nit:∀b u,H b=some u→b≠it:=fun b u e z=>by rw[z,hn]at e; cases e
 refine I.step (g':=s.gens) (d':=s.drawn) (ch:=[it]) (fun b hb=>?_) (fun b o _ _ hc e _=>k b o (fun z=>hc (by simp[z])) e) (fun b o _ _ hc e _=>⟨o.slots,k b o (fun z=>hc (by simp[z])) e⟩) (fun _ _ _ _ n=>n)
  (fun b o hc e=>⟨o,k b o (fun z=>hc (by simp[z])) e⟩) (fun _ _ e=>e) (fun _ _ _ e=>e) (fun b ps e=>⟨#[],by rw[e]; simp⟩) (fun m hm=>?_) (fun b u e=>?_) I.bare
 ·have e:b=it:=by simpa using hb
  subst e;exact⟨h1,hL,h2,h3⟩
 ·obtain⟨o,es,ep,ho,r⟩:=hm
  exact⟨o,es,ep,k _ o (Ne.symm hL) ho,r⟩
 ·refine(I.hok b u e).stay (fun c v hc q=>k c v ?_ q) (fun _ q=>q) fun _ _ q=>q
  rcases hc with z | z
  ·rw[z]; exact nit b u e
  ·exact nit c _ z
theorem Inv.tok (I:Inv X pins σ H s) (t:Nat):Inv X pins σ H { s with toks:=t }:=I.un (h':=s.heap) (t':=t) Un.refl I.hok
theorem Inv.kept {t':Nat} (I:Inv X pins σ H s) (k:∀b u,s.heap.get? b=some u→h'.get? b=some u):Inv X pins σ H { s with heap:=h',toks:=t' }:=I.un (Un.kept k) (I.hok.kept k)
theorem Inv.laid {a:Addr} {o:HO} {t':Nat} (I:Inv X pins σ H s) (k:∀b u,s.heap.get? b=some u→h'.get? b=some u) (hp:s.heap.objs.size≤a) (new:Zc0 X.prog X.w (upd H a o) h' a o) :
  Inv X pins σ (upd H a o) { s with heap:=h',toks:=t' }:=I.un (Un.laid k hp (I.hok.fresh hp)) (I.hok.laid k hp new)
theorem Inv.write {x e:Addr} {o:HO} {t':Nat} (I:Inv X pins σ H s) (mu:Mut (H x)) (he:e=x∨H e=some (.own x)) (k:∀b u,b≠e→s.heap.get? b=some u→h'.get? b=some u) (heo:∃u,h'.get? e=some u)
  (new:Zc0 X.prog X.w (upd H x o) h' x o):Inv X pins σ (upd H x o) { s with heap:=h',toks:=t' }:=I.un (Un.write mu he k heo) (I.hok.write mu he k heo new)
theorem Inv.pins_of {pins':List (Addr×Obj)} (I:Inv X pins σ H s) (h:∀p∈pins',s.heap.get? p.1=some p.2∧H p.1=none∧p.1≠X.env.locals∧p.1∉X.fs∧∀v,p.2.data≠.cell v):Inv X pins' σ H s:=
 ⟨I.ok,I.os,I.bare,I.base,I.loc,I.cell,I.free,I.freeC,fun p hp=>(List.mem_append.mp hp).elim (fun z=>I.pin p (List.mem_append_left _ z)) (h p),I.hok,I.len⟩
theorem ZpG {N:List Str} (hN:N.Nodup) {i j:Nat} {x:Str} (a:N[i]?=some x) (b:N[j]?=some x):i=j:=by
 obtain⟨h1,e1⟩:=List.getElem?_eq_some_iff.mp a;obtain⟨h2,e2⟩:=List.getElem?_eq_some_iff.mp b;exact(List.getElem_inj hN).mp (e1.trans e2.symm)
theorem Zrz {M:Model} {A:Around} {E:Value→Shared→Prop} {i:Nat} {x:Str} {v:V} {u:Value} {Q:Unit→Shared→Prop} (I:Inv X pins σ H s) (hN:X.N.Nodup) (hi:X.N[i]?=some x) (hx:Loc X.env.scope x) (r:RelV v u)
  (h:∀s',Inv X pins (σ.set i (some v)) H s'→(∃a,Heap.SameBut a s.heap s'.heap∧(a=X.env.locals∨X.env.cells.lookup x=some a))→Q () s') (hf:X.fn x=true∨X.env.scope.names.lookup x=some .local:=by first | exact .inl rfl | exact .inr rfl | assumption):wpAny M A (storeName X.env x u) Q E s:=by
 obtain⟨m,hn,hl⟩:=id I.loc
 have hcls:(X.env.scope.kind == .class || (X.env.scope.kind == .module && X.env.locals != X.env.globals))=false:=by rw[I.ok.kind]; rfl
 have hiσ:i < σ.length:=by rw[I.len]; exact(List.getElem?_eq_some_iff.mp hi).1
 have cne:=I.cne
 have tracked:∀{a:Addr} {h':Heap},(∃o,s.heap.get? a=some o∧H a=none)→Heap.SameBut a s.heap h'→HOk X.prog X.w H h':=fun {a h'} ha hs b ob e=>by
  obtain⟨_,_,hfree⟩:=ha;refine(I.hok b ob e).stay (fun c w' hc q=>(hs.2 c ?_).trans q) (fun _ q=>q) fun _ _ q=>q;rintro rfl
  rcases hc with rfl | hc
  ·rw[hfree]at e; cases e
  ·rw[hfree]at hc; cases hc
 rcases hx with hk | hk
 ·refine wpAny_storeName_local hk hn (fun h' hn' hs=>?_) hcls
  obtain⟨oL,_,_,hoL,_⟩:=id hn;refine h _ ⟨I.ok,I.os,I.bare,⟨fun b o e n hb hx=>?_,fun b o e n hb hx=>?_,I.base.free,fun b o e hx=>?_,I.base.tups,I.base.frzs,I.base.tbls⟩,⟨_,hn',fun j y v' e1 e2 e3=>?_⟩,fun y c e=>?_,I.free,I.freeC,fun p hp=>?_,tracked ⟨oL,hoL,I.free⟩ hs,by simpa using I.len⟩ ⟨_,hs,.inl rfl⟩
  ·exact(hs.2 b (Nat.ne_of_lt (Nat.lt_of_lt_of_le (Heap.lt_size e) I.ok.above))).trans (I.base.keep b o e n hb hx)
  ·obtain⟨sl,e1⟩:=I.base.slot b o e n hb hx
   exact⟨sl,(hs.2 b (Nat.ne_of_lt (Nat.lt_of_lt_of_le (Heap.lt_size e) I.ok.above))).trans e1⟩
  ·obtain⟨o',e1⟩:=I.base.there b o e hx
   exact⟨o',(hs.2 b (Nat.ne_of_lt (Nat.lt_of_lt_of_le (Heap.lt_size e) I.ok.above))).trans e1⟩
  ·by_cases hj:j=i
   ·subst hj
    rw[hi]at e1; cases e1;rw[List.getElem?_set_self hiσ]at e2
    cases e2
    exact⟨u,r,.inl ⟨hk,by simp⟩⟩
   ·rw[List.getElem?_set_ne (Ne.symm hj)]at e2
    obtain⟨u',r',q⟩:=hl j y v' e1 e2 e3;refine⟨u',r',?_⟩
    rcases q with⟨k,e⟩ | ⟨k,c,e,z⟩
    ·refine .inl ⟨k,?_⟩
     have:y≠x:=fun e=>hj (ZpG hN e1 (e ▸ hi));simp[this,e]
    ·exact .inr ⟨k,c,e,z.sameBut hs (cne y c e)⟩
  ·obtain⟨w',z⟩:=I.cell y c e
   exact⟨w',z.sameBut hs (cne y c e)⟩
  ·obtain⟨e,n,ne,nf,d⟩:=I.pin p hp
   exact⟨(hs.2 p.1 ne).trans e,n,ne,nf,d⟩
 ·have hfn:X.fn x=true:=by
   rcases hf with z | z
   ·exact z
   ·rw[z]at hk; cases hk
  obtain⟨c,hc⟩:=I.ok.has x (.inl hk);obtain⟨w',z⟩:=I.cell x c hc;refine wpAny_storeName_cell I.ok.kind hk hc z (fun h' hc' hs=>?_);obtain⟨oc,hoc,hocd⟩:=id z;refine h { s with heap:=h' } ⟨I.ok,I.os,I.bare,⟨fun b o e n hb hx=>?_,fun b o e n hb hx=>?_,I.base.free,fun b o e hx=>?_,I.base.tups,I.base.frzs,I.base.tbls⟩,⟨m,hn.sameBut hs (Ne.symm (cne x c hc)),fun j y v' e1 e2 e3=>?_⟩,fun y c' e=>?_,I.free,I.freeC,fun p hp=>?_,tracked ⟨oc,hoc,I.freeC x c hc⟩ hs,by simpa using I.len⟩ ⟨c,hs,.inr hc⟩
  ·exact(hs.2 b (Nat.ne_of_lt (Nat.lt_of_lt_of_le (Heap.lt_size e) (I.ok.cab x c hfn hc)))).trans (I.base.keep b o e n hb hx)
  ·obtain⟨sl,e1⟩:=I.base.slot b o e n hb hx
   exact⟨sl,(hs.2 b (Nat.ne_of_lt (Nat.lt_of_lt_of_le (Heap.lt_size e) (I.ok.cab x c hfn hc)))).trans e1⟩
  ·obtain⟨o',e1⟩:=I.base.there b o e hx
   exact⟨o',(hs.2 b (Nat.ne_of_lt (Nat.lt_of_lt_of_le (Heap.lt_size e) (I.ok.cab x c hfn hc)))).trans e1⟩
  ·by_cases hj:j=i
   ·subst hj
    rw[hi]at e1; cases e1;rw[List.getElem?_set_self hiσ]at e2
    cases e2
    exact⟨u,r,.inr ⟨.inl hk,c,hc,hc'⟩⟩
   ·rw[List.getElem?_set_ne (Ne.symm hj)]at e2
    obtain⟨u',r',q⟩:=hl j y v' e1 e2 e3;refine⟨u',r',?_⟩
    rcases q with q | ⟨k,c',e,z'⟩
    ·exact .inl q
    ·refine .inr ⟨k,c',e,z'.sameBut hs ?_⟩
     rintro rfl;exact hj (ZpG hN e1 (I.ok.inj _ _ _ e hc ▸ hi))
  ·by_cases hcc:c'=c
   ·subst hcc; exact⟨_,hc'⟩
   ·obtain⟨w2,z2⟩:=I.cell y c' e
    exact⟨w2,z2.sameBut hs hcc⟩
  ·obtain⟨e,n,ne,nf,d⟩:=I.pin p hp
   refine⟨(hs.2 p.1 ?_).trans e,n,ne,nf,d⟩;intro q;rw[q,hoc]at e;have q':oc=p.2:=Option.some.inj e;exact d w' (by rw[←q']; exact hocd)
theorem Zp5 {M:Model} {A:Around} {E:Value→Shared→Prop} {i:Nat} {x:Str} {v:V} {u:Value} {Q:Unit→Shared→Prop} (I:Inv X pins σ H s) (hN:X.N.Nodup) (hi:X.N[i]?=some x) (hx:Loc X.env.scope x) (r:RelV v u)
  (h:∀s',Inv X pins (σ.set i (some v)) H s'→Q () s') (hf:X.fn x=true∨X.env.scope.names.lookup x=some .local:=by first | exact .inl rfl | exact .inr rfl | assumption):wpAny M A (storeName X.env x u) Q E s:=
 Zrz I hN hi hx r (fun s' I' _=>h s' I') hf
theorem Inv.call' {s':Shared} {ch:List Addr} (I:Inv X pins σ H s) (ho:s'.os=s.os) (u:Un (frs X.stack) ch H H' s.heap s'.heap) (hok:HOk X.prog X.w H' s'.heap) (hg:AllBare s'.gens)
  (hch:∀b∈ch,(b∈X.ex∨X.s₀.heap.objs.size≤b)∧b≠X.env.locals∧(∀x c,X.env.cells.lookup x=some c→c≠b)∧∀p∈X.pn++pins,p.1≠b):Inv X pins σ H' s':=by
 obtain⟨h',g',d',t',o'⟩:=s';have e:o'=s.os:=ho;subst e;exact I.call (g':=g') (t':=t') (d':=d') u hok hg hch
end
abbrev XK:=Value→Option Addr→Hp→Prop
abbrev St:=List (Option V)
abbrev VK:=V→Hp→Prop
abbrev TE:=St→Hp→VK→Prop
abbrev TT:=St→Hp→(Bool→Hp→Prop)→Prop
abbrev TA:=St→Hp→(List V→Hp→Prop)→Prop
structure Ends where
 nx:St→Hp→Prop
 rt:VK
 bk:St→Hp→Prop:=fun _ _=>False
 ct:St→Hp→Prop:=fun _ _=>False
abbrev TS:=Ends→St→Hp→Prop
def EP (X:Cx) (pins:List (Addr×Obj)) (σ:St) (Q:VK) (u:Value) (s':Shared):Prop:=∃v H',Inv X pins σ H' s'∧RelV v u∧Q v H'
def TP (X:Cx) (pins:List (Addr×Obj)) (σ:St) (Q:Bool→Hp→Prop) (b:Bool) (s':Shared):Prop:=∃H',Inv X pins σ H' s'∧Q b H'
def AP (X:Cx) (pins:List (Addr×Obj)) (σ:St) (Q:List V→Hp→Prop) (us:List Value) (s':Shared):Prop:=∃vs H',Inv X pins σ H' s'∧Vals vs us∧Q vs H'
def SP (X:Cx) (pins:List (Addr×Obj)) (D:Ends) (f:Flow) (s':Shared):Prop:=
 match f with
 | .next=>∃σ' H',Inv X pins σ' H' s'∧D.nx σ' H'
 | .brk=>∃σ' H',Inv X pins σ' H' s'∧D.bk σ' H'
 | .cont=>∃σ' H',Inv X pins σ' H' s'∧D.ct σ' H'
 | .ret u=>∃v σ' H',Inv X pins σ' H' s'∧RelV v u∧D.rt v H'
def PE (X:Cx) (e:Expr) (t:TE):Prop:=
 ∀(pins:List (Addr×Obj)) (s:Shared) (σ:St) (H:Hp) (Q:VK),Inv X pins σ H s→t σ H Q→wpAny (model X.prog X.w) X.A (eval e X.env) (EP X pins σ Q) X.xe s
def PT (X:Cx) (e:Expr) (t:TT):Prop:=
 ∀(pins:List (Addr×Obj)) (s:Shared) (σ:St) (H:Hp) (Q:Bool→Hp→Prop),Inv X pins σ H s→t σ H Q→wpAny (model X.prog X.w) X.A (isTrue e X.env (eval e X.env)) (TP X pins σ Q) X.xe s
def PW (X:Cx) (e:Expr) (t:TT):Prop:=
 ∀(whole:Sem Value) (pins:List (Addr×Obj)) (s:Shared) (σ:St) (H:Hp) (Q:Bool→Hp→Prop),Inv X pins σ H s→t σ H Q→wpAny (model X.prog X.w) X.A (isTrue e X.env whole) (TP X pins σ Q) X.xe s
theorem PW.pt {X:Cx} {e:Expr} {t:TT} (h:PW X e t):PT X e t:=h _
def PA (X:Cx) (es:List Expr) (t:TA):Prop:=
 ∀(pos:Pos) (pins:List (Addr×Obj)) (s:Shared) (σ:St) (H:Hp) (Q:List V→Hp→Prop),Inv X pins σ H s→t σ H Q→wpAny (model X.prog X.w) X.A (spliced (backTo pos (starEach es X.env))) (AP X pins σ Q) X.xe s
def PS (X:Cx) (st:Stmt) (t:TS):Prop:=
 ∀(pins:List (Addr×Obj)) (s:Shared) (σ:St) (H:Hp) (D:Ends),Inv X pins σ H s→t D σ H→wpAny (model X.prog X.w) X.A (exec st X.env) (SP X pins D) X.xe s
def PSs (X:Cx) (st:List Stmt) (t:TS):Prop:=
 ∀(pins:List (Addr×Obj)) (s:Shared) (σ:St) (H:Hp) (D:Ends),Inv X pins σ H s→t D σ H→wpAny (model X.prog X.w) X.A (execs st X.env) (SP X pins D) X.xe s
theorem thn {α:Type} {t:Sem α} {Q Q':α→Shared→Prop} {M:Model} {A:Around} {E:Value→Shared→Prop} {s:Shared} (h:wpAny M A t Q E s) (hQ:∀a s,Q a s→Q' a s):wpAny M A t Q' E s:=wpAny_mono h hQ fun _ _ x=>x
end L2
namespace L2
open PySem PySem.Spec PyProof.Rows
section
variable {X:Cx}
def tVar (i:Nat):TE:=fun σ H Q=>∃v,σ[i]?=some (some v)∧Q v H
abbrev tC (v:V):TE:=fun _ H Q=>Q v H
theorem ZDb {i:Nat} {x:Str} {pos:Pos} (hN:X.N[i]?=some x) (hv:Vis X.env.scope x) (hd:(x == ("__debug__" : Str))=false:=by decide) (hcd:(x == ("__classdict__" : Str))=false:=by decide):PE X (.Name x pos) (tVar i):=by
 intro pins s σ H Q I h;obtain⟨v,e,h⟩:=h;obtain⟨m,hn,hl⟩:=I.loc;obtain⟨u,r,l⟩:=hl i x v hN e hv;have fin:EP X pins σ Q u s:=⟨v,H,I,r,h⟩
 rcases l with⟨hk,hm⟩ | ⟨hk,c,hc,hcell⟩
 ·exact wpAny_Name (wpAny_loadName_local I.ok.kind hk hn hm fin) hd
 ·rcases hk with hk | hk
  ·exact wpAny_Name (wpAny_loadName_cell I.ok.kind hk hc hcell fin) hd
  ·exact wpAny_Name (wpAny_loadName_free I.ok.kind hk hc hcell fin hcd) hd
theorem Zad {i j pos}:PE X (.Constant (.int i) j pos) (tC (.int i)):=fun _ _ _ H _ I h=>wpAny_Constant_int ⟨.int i,H,I.tok _,⟨_,rfl⟩,h⟩
theorem Zli {b j pos}:PE X (.Constant (.bool b) j pos) (tC (.bl b)):=fun _ _ _ H _ I h=>Constant_bool ⟨.bl b,H,I,rfl,h⟩
theorem ZzE {j pos}:PE X (.Constant .none j pos) (tC .non):=fun _ _ _ H _ I h=>Constant_none ⟨.non,H,I,rfl,h⟩
theorem Zai {x j pos}:PE X (.Constant (.str x) j pos) (tC (.str x)):=fun _ _ _ H _ I h=>Calls.Constant_str ⟨.str x,H,I.tok _,⟨_,rfl⟩,h⟩
def Gl (X:Cx) (x:Str):Prop:=X.env.kindOf x=some .globalImplicit
theorem ZhZ {E:Value→Shared→Prop} {pins:List (Addr×Obj)} {s:Shared} {σ:St} {H:Hp} {x:Str} {u:Value} {pos:Pos} {Q:Value→Shared→Prop} (I:Inv X pins σ H s) (hg:Gl X x) (hm:X.mg x=some u) (h:Q u s)
  (hd:(x == ("__debug__" : Str))=false:=by decide):wpAny (model X.prog X.w) X.A (eval (.Name x pos) X.env) Q E s:=
 Calls.Name_function_global I.ok.kind hg (Calls.loadGlobal_global (by rw[I.ok.glob]; exact I.mod.glob.keeps I.bk) hm h) hd
theorem ZoJ {E:Value→Shared→Prop} {pins:List (Addr×Obj)} {s:Shared} {σ:St} {H:Hp} {x:Str} {u:Value} {pos:Pos} {Q:Value→Shared→Prop} (I:Inv X pins σ H s) (hg:Gl X x) (hm:X.mg x=none) (hv:bootBuiltins x=some u) (h:Q u s)
  (hn:x≠"__name__":=by decide) (hd:(x == ("__debug__" : Str))=false:=by decide):wpAny (model X.prog X.w) X.A (eval (.Name x pos) X.env) Q E s:=by
 obtain⟨mb,h1,h2⟩:=I.mod.blt;exact Calls.Name_function_global I.ok.kind hg (Calls.loadGlobal_builtin (by rw[I.ok.glob]; exact I.mod.glob.keeps I.bk) hm (by rw[I.ok.blt]; exact h1.keeps I.bk) ((h2 x hn).trans hv) h) hd
theorem Za5 {x:Str} {v:V} {u:Value} {pos:Pos} (hg:Gl X x) (hm:X.mg x=some u) (r:RelV v u) (hd:(x == ("__debug__" : Str))=false:=by decide):PE X (.Name x pos) (tC v):=
 fun _ _ _ H _ I h=>ZhZ I hg hm ⟨v,H,I,r,h⟩ hd
theorem ZsP {x:Str} {v:V} {u:Value} {pos:Pos} (hg:Gl X x) (hm:X.mg x=none) (hv:bootBuiltins x=some u) (r:RelV v u) (hn:x≠"__name__":=by decide) (hd:(x == ("__debug__" : Str))=false:=by decide):PE X (.Name x pos) (tC v):=
 fun _ _ _ H _ I h=>ZoJ I hg hm hv ⟨v,H,I,r,h⟩ hn hd
variable {a b:Expr} {ta tb:TE} {pos:Pos}
variable {tA tB':TT} {rest:List Expr}
abbrev tAnd (t u:TT):TT:=fun σ H Q=>t σ H fun c H1=>if c=true then u σ H1 Q else Q false H1
abbrev tOr (t u:TT):TT:=fun σ H Q=>t σ H fun c H1=>if c=true then Q true H1 else u σ H1 Q
abbrev tNot (t:TT):TT:=fun σ H Q=>t σ H fun c H1=>Q (!c) H1
theorem Zgg (ha:PT X a tA):PW X (.BoolOp .And [a] pos) tA:=by
 intro wh pins s σ H Q I h;refine isTrue_and (thn (ha pins s σ H Q I h) fun c s1 e=>?_)
 cases c with
 | true=>exact isTrue_and_nil e
 | false=>exact e
theorem Zjd (ha:PT X a tA):PW X (.BoolOp .Or [a] pos) tA:=by
 intro wh pins s σ H Q I h;refine isTrue_or (thn (ha pins s σ H Q I h) fun c s1 e=>?_)
 cases c with
 | false=>exact isTrue_or_nil e
 | true=>exact e
theorem ZgI (ha:PT X a tA) (hb:PW X (.BoolOp .And (b::rest) pos) tB'):PW X (.BoolOp .And (a::b::rest) pos) (tAnd tA tB'):=by
 intro wh pins s σ H Q I h;refine isTrue_and (thn (ha pins s σ H _ I h) fun c s1 ⟨H1,I1,q1⟩=>?_)
 cases c with
 | true=>exact hb wh pins s1 σ H1 Q I1 q1
 | false=>exact⟨H1,I1,q1⟩
theorem Zoq (ha:PT X a tA) (hb:PW X (.BoolOp .Or (b::rest) pos) tB'):PW X (.BoolOp .Or (a::b::rest) pos) (tOr tA tB'):=by
 intro wh pins s σ H Q I h;refine isTrue_or (thn (ha pins s σ H _ I h) fun c s1 ⟨H1,I1,q1⟩=>?_)
 cases c with
 | true=>exact⟨H1,I1,q1⟩
 | false=>exact hb wh pins s1 σ H1 Q I1 q1
theorem Zww (ha:PT X a tA):PT X (.UnaryOp .Not a pos) (tNot tA):=by
 intro pins s σ H Q I h;exact isTrue_not (ha pins s σ H (fun c H1=>Q (!c) H1) I h)
abbrev ZDS (ta tb:TE):TE:=fun σ H Q=>ta σ H fun x H1=>∃c,x=.bl c∧if c=true then tb σ H1 Q else Q (.bl false) H1
theorem ZDa {op} {t:TE} (h:PE X a t):PE X (.BoolOp op [a] pos) t:=fun pins s σ H Q I hw=>BoolOp_one (h pins s σ H Q I hw)
theorem ZC5 (ha:PE X a ta) (hb:PE X (.BoolOp .And (b::rest) pos) tb):PE X (.BoolOp .And (a::b::rest) pos) (ZDS ta tb):=by
 intro pins s σ H Q I h;refine BoolOp_and (thn (ha pins s σ H _ I h) fun v s1 ⟨x,H1,I1,r1,q1⟩=>?_);obtain⟨c,rfl,q1⟩:=q1
 cases r1
 refine wpAny_truthy_bool ?_
 cases c with
 | true=>exact hb pins s1 σ H1 Q I1 q1
 | false=>exact⟨.bl false,H1,I1,rfl,q1⟩
abbrev tIf (t:TT) (ta tb:TE):TE:=fun σ H Q=>t σ H fun c H1=>if c=true then ta σ H1 Q else tb σ H1 Q
theorem ZkD {c:Expr} (hc:PT X c tA) (ha:PE X a ta) (hb:PE X b tb):PE X (.IfExp c a b pos) (tIf tA ta tb):=by
 intro pins s σ H Q I h;refine wpAny_IfExp (thn (hc pins s σ H _ I h) fun d s1 ⟨H1,I1,q1⟩=>?_)
 cases d with
 | true=>exact ha pins s1 σ H1 Q I1 q1
 | false=>exact hb pins s1 σ H1 Q I1 q1
end
end L2
namespace L2
open PySem PySem.Spec PyProof.Rows
def SqL (K:PySem.W.Frag) (H:Hp) (a:Addr) (xs:List V):Prop:=
 Rd H a (.lst xs)∨
  ∃(o:Obj) (its:Array Value) (n:Nat),K.lookup a=some o∧o.cls=.type "list"∧o.dict=none∧o.data=.seq its n∧its.size≤sizeLine∧Vals xs its.toList
def SqT (K:PySem.W.Frag) (H:Hp) (a:Addr) (xs:List V):Prop:=
 Rd H a (.tup xs)∨
  ∃(o:Obj) (its:Array Value) (n:Nat),K.lookup a=some o∧o.cls=.type "tuple"∧o.data=.seq its n∧its.size≤sizeLine∧Vals xs its.toList
def absV:Value→Option V
 | .none=>some .non
 | .bool b=>some (.bl b)
 | .int i _=>some (.int i)
 | .str x _=>some (.str x)
 | .bytes b _=>some (.byt b)
 | .float b _=>some (.flt b)
 | .ref a=>some (.ref a)
 | .type n=>some (.ty n)
 | _=>none
theorem RelV.abs {x:V} {u:Value} (r:RelV x u):absV u=some x:=by
 cases x with
 | non=>cases r; rfl
 | bl _=>cases r; rfl
 | int _=>obtain⟨t,rfl⟩:=r; rfl
 | str _=>obtain⟨t,rfl⟩:=r; rfl
 | byt _=>obtain⟨t,rfl⟩:=r; rfl
 | flt _=>obtain⟨t,rfl⟩:=r; rfl
 | ref _=>cases r; rfl
 | ty _=>cases r; rfl
theorem RelV.inj {x y:V} {u:Value} (r:RelV x u) (q:RelV y u):x=y:=Option.some.inj (r.abs.symm.trans q.abs)
theorem Vals.inj:∀{xs ys:List V} {us:List Value},Vals xs us→Vals ys us→xs=ys
 | _,_,_,.nil,.nil=>rfl
 | _,_,_,.cons r t,.cons r' t'=>by rw[r.inj r',Vals.inj t t']
section
variable {X:Cx} {pins:List (Addr×Obj)} {σ:St} {H:Hp} {s:Shared} {a:Addr} {xs ys:List V}
theorem SqL.of {K:PySem.W.Frag} (h:H a=some (.lst xs)):SqL K H a xs:=.inl (.inl h)
theorem SqT.of {K:PySem.W.Frag} (h:H a=some (.tup xs)):SqT K H a xs:=.inl (.inl h)
theorem Inv.list (I:Inv X pins σ H s) (h:SqL X.K H a xs):∃its:List Value,Vals xs its∧PlainL s.heap a its.toArray∧xs.length≤sizeLine:=by
 rcases h with h | ⟨o,its,n,hk,hc,hd,hs,hz,r⟩
 ·obtain⟨z,its,n,r,e⟩:=h.ok I.hok
  exact⟨its,r,⟨_,n,e,rfl,rfl,rfl⟩,z⟩
 ·refine⟨its.toList,r,⟨o,n,I.kIn a o hk,hc,hd,by simpa using hs⟩,?_⟩
  have e:=r.length;simp only [Array.length_toList]at e;omega
theorem Inv.tuple (I:Inv X pins σ H s) (h:SqT X.K H a xs):∃its:List Value,Vals xs its∧IsTup s.heap a its.toArray∧xs.length≤sizeLine:=by
 rcases h with h | ⟨o,its,n,hk,hc,hs,hz,r⟩
 ·obtain⟨z,its,r,p⟩:=h.ok I.hok
  exact⟨its,r,p,z⟩
 ·refine⟨its.toList,r,⟨o,I.kIn a o hk,hc,n,by simpa using hs⟩,?_⟩
  have e:=r.length;simp only [Array.length_toList]at e;omega
theorem Inv.list_inj (I:Inv X pins σ H s) (h:SqL X.K H a xs) (h':SqL X.K H a ys):xs=ys:=by
 obtain⟨its,r,⟨o,n,e,_,_,d⟩,_⟩:=I.list h;obtain⟨its',r',⟨o',n',e',_,_,d'⟩,_⟩:=I.list h';rw[e]at e'; cases e';rw[d]at d'
 injection d' with d1 _
 have:its=its':=by simpa using congrArg Array.toList d1
 subst this;exact r.inj r'
theorem Inv.tuple_inj (I:Inv X pins σ H s) (h:SqT X.K H a xs) (h':SqT X.K H a ys):xs=ys:=by
 obtain⟨its,r,⟨o,e,_,n,d⟩,_⟩:=I.tuple h;obtain⟨its',r',⟨o',e',_,n',d'⟩,_⟩:=I.tuple h';rw[e]at e'; cases e';rw[d]at d'
 injection d' with d1 _
 have:its=its':=by simpa using congrArg Array.toList d1
 subst this;exact r.inj r'
end
abbrev Cx.wish (X:Cx) (E:Value→Shared→Prop):Cx:={ X with xe:=E }
abbrev Cx.nox (X:Cx):Cx:=X.wish fun _ _=>False
theorem Cx.Ok.wish {X:Cx} (ok:X.Ok) (E:Value→Shared→Prop):(X.wish E).Ok:=
 ⟨ok.mod,ok.kind,ok.glob,ok.blt,ok.above,ok.inj,ok.has,ok.cab,ok.hd,ok.frames,ok.stk,ok.exf,ok.bs,ok.bsz,ok.noex,ok.exfs,ok.funs,ok.frf⟩
theorem Cx.Ok.unwish {X:Cx} {E:Value→Shared→Prop} (ok:(X.wish E).Ok):X.Ok:=
 ⟨ok.mod,ok.kind,ok.glob,ok.blt,ok.above,ok.inj,ok.has,ok.cab,ok.hd,ok.frames,ok.stk,ok.exf,ok.bs,ok.bsz,ok.noex,ok.exfs,ok.funs,ok.frf⟩
section
variable {X:Cx} {pins:List (Addr×Obj)} {σ:St} {H:Hp} {s:Shared} {E:Value→Shared→Prop}
theorem Inv.wish (I:Inv X pins σ H s) (E:Value→Shared→Prop):Inv (X.wish E) pins σ H s:=⟨I.ok.wish E,I.os,I.bare,I.base,I.loc,I.cell,I.free,I.freeC,I.pin,I.hok,I.len⟩
theorem Inv.unwish (I:Inv (X.wish E) pins σ H s):Inv X pins σ H s:=⟨I.ok.unwish,I.os,I.bare,I.base,I.loc,I.cell,I.free,I.freeC,I.pin,I.hok,I.len⟩
theorem SP.unwish {D:Ends} {f:Flow} {s':Shared} (h:SP (X.wish E) pins D f s'):SP X pins D f s':=by
 cases f with
 | next=>obtain⟨σ',H',I,q⟩:=h; exact⟨σ',H',I.unwish,q⟩
 | brk=>obtain⟨σ',H',I,q⟩:=h; exact⟨σ',H',I.unwish,q⟩
 | cont=>obtain⟨σ',H',I,q⟩:=h; exact⟨σ',H',I.unwish,q⟩
 | ret u=>obtain⟨v,σ',H',I,r,q⟩:=h; exact⟨v,σ',H',I.unwish,r,q⟩
theorem PT.nox {e:Expr} {t:TT} (h:PT X.nox e t):PT X e t:=fun pins s σ H Q I hw=>
 wpAny_mono (h pins s σ H Q (I.wish _) hw) (fun _ _ ⟨H',I',q⟩=>⟨H',I'.unwish,q⟩) fun _ _ z=>False.elim z
theorem PSs.nox {st:List Stmt} {t:TS} (h:PSs X.nox st t):PSs X st t:=fun pins s σ H D I hw=>
 wpAny_mono (h pins s σ H D (I.wish _) hw) (fun _ _ q=>q.unwish) fun _ _ z=>False.elim z
end
section
variable {X:Cx} {st:Stmt} {rest:List Stmt} {t u:TS} {e:Expr} {te:TE} {pos:Pos}
abbrev ZDW:TS:=fun D σ H=>D.nx σ H
def tSeq (t u:TS):TS:=fun D σ H=>t { D with nx:=u D } σ H
theorem Zap:PSs X [] ZDW:=fun _ _ σ H _ I h=>wpAny_execs_nil ⟨σ,H,I,h⟩
theorem Zac (h1:PS X st t) (h2:PSs X rest u):PSs X (st::rest) (tSeq t u):=by
 intro pins s σ H D I h;refine wpAny_execs_cons (thn (h1 pins s σ H { D with nx:=u D } I h) fun f s1 q=>?_)
 cases f with
 | next=>
  obtain⟨σ',H',I',q⟩:=q;exact h2 pins s1 σ' H' D I' q
 | ret v=>exact q
 | brk=>exact q
 | cont=>exact q
theorem Zae (h1:PS X st t):PSs X [st] t:=by
 intro pins s σ H D I h;refine wpAny_execs_cons (thn (h1 pins s σ H D I h) fun f s1 q=>?_)
 cases f with
 | next=>exact wpAny_execs_nil q
 | ret v=>exact q
 | brk=>exact q
 | cont=>exact q
theorem Inv.quiet {pins:List (Addr×Obj)} {σ:St} {H:Hp} {s:Shared} (I:Inv X pins σ H s):interactive X.env=false:=by simp[interactive,I.ok.kind]
abbrev ZBv (te:TE):TS:=fun D σ H=>te σ H fun _ H1=>D.nx σ H1
theorem Za2 (he:PE X e te) (hs:swapsWith e none pos.line X.env=pure false:=by rfl):PS X (.Expr e pos) (ZBv te):=by
 intro pins s σ H D I h;exact wpAny_Expr_any (thn (he pins s σ H _ I h) fun v s1 ⟨x,H1,I1,r1,q1⟩=>⟨σ,H1,I1,q1⟩) I.quiet hs
abbrev tRet (te:TE):TS:=fun D σ H=>te σ H D.rt
theorem Zas (he:PE X e te):PS X (.Return (some e) pos) (tRet te):=by
 intro pins s σ H D I h;exact wpAny_Return_some (thn (he pins s σ H _ I h) fun v s1 ⟨x,H1,I1,r1,q1⟩=>⟨x,σ,H1,I1,r1,q1⟩)
abbrev tIfS (c:TT) (t u:TS):TS:=fun D σ H=>c σ H fun b H1=>if b=true then t D σ H1 else u D σ H1
theorem ZaP {c:Expr} {a b:List Stmt} {tc:TT} (hc:PT X c tc) (ha:PSs X a t) (hb:PSs X b u):PS X (.If c a b pos) (tIfS tc t u):=by
 intro pins s σ H D I h;refine wpAny_If (thn (hc pins s σ H _ I h) fun d s1 ⟨H1,I1,q1⟩=>?_)
 cases d with
 | true=>exact ha pins s1 σ H1 D I1 q1
 | false=>exact hb pins s1 σ H1 D I1 q1
end
abbrev TG:=V→St→Hp→(St→Hp→Prop)→Prop
abbrev TGs:=List V→St→Hp→(St→Hp→Prop)→Prop
def PG (X:Cx) (target:Expr) (t:TG):Prop:=
 ∀(pins:List (Addr×Obj)) (s:Shared) (σ:St) (H:Hp) (v:V) (u:Value) (Q:St→Hp→Prop),Inv X pins σ H s→RelV v u→t v σ H Q→
  wpAny (model X.prog X.w) X.A (assign target X.env u) (fun _ s'=>∃σ' H',Inv X pins σ' H' s'∧Q σ' H') X.xe s
def PGs (X:Cx) (ts:List Expr) (t:TGs):Prop:=
 ∀(pins:List (Addr×Obj)) (s:Shared) (σ:St) (H:Hp) (vs:List V) (us:List Value) (Q:St→Hp→Prop),Inv X pins σ H s→Vals vs us→t vs σ H Q→
  wpAny (model X.prog X.w) X.A (assignInOrder ((assignEach ts X.env).map (·.2)) us) (fun _ s'=>∃σ' H',Inv X pins σ' H' s'∧Q σ' H') X.xe s
abbrev TSet:=V→V→V→Hp→(Hp→Prop)→Prop
def PSet (X:Cx) (t:TSet):Prop:=
 ∀(pins:List (Addr×Obj)) (s:Shared) (σ:St) (H:Hp) (o i v:V) (ov iv u:Value) (Q:Hp→Prop),Inv X pins σ H s→RelV o ov→RelV i iv→RelV v u→t o i v H Q→
  wpAny (model X.prog X.w) X.A (setItem ov iv u) (fun _ s'=>∃H',Inv X pins σ H' s'∧Q H') X.xe s
section
variable {X:Cx} {pos:Pos}
def Zn9 (i:Nat):TG:=fun v σ H Q=>Q (σ.set i (some v)) H
theorem Zwp {i:Nat} {x:Str} (hN:X.N.Nodup) (hi:X.N[i]?=some x) (hx:Loc X.env.scope x) (hf:X.fn x=true∨X.env.scope.names.lookup x=some .local:=by first | exact .inl rfl | exact .inr rfl | assumption):PG X (.Name x pos) (Zn9 i):=by
 intro pins s σ H v u Q I r h;exact wpAny_assign_Name (Zp5 I hN hi hx r (fun s' I'=>⟨_,H,I',h⟩) hf)
def gNil:TGs:=fun vs σ H Q=>vs=[]∧Q σ H
def Zz6 (t:TG) (u:TGs):TGs:=fun vs σ H Q=>∃v r,vs=v::r∧t v σ H fun σ' H'=>u r σ' H' Q
theorem ZsS:PGs X [] gNil:=by
 intro pins s σ H vs us Q I r h;obtain⟨e,h⟩:=h;subst e
 cases r
 exact assignInOrder_nil ⟨σ,H,I,h⟩
theorem ZiK {e:Expr} {es:List Expr} {t:TG} {u:TGs} (h1:PG X e t) (h2:PGs X es u)
  (hs:(assignEach (e::es) X.env).map (·.2)=assign e X.env::(assignEach es X.env).map (·.2):=by rfl):PGs X (e::es) (Zz6 t u):=by
 intro pins s σ H vs us Q I r h;obtain⟨v,vr,e1,h⟩:=h;subst e1
 cases r with
 | cons r rr=>
  rw[hs];refine assignInOrder_cons (thn (h1 pins s σ H _ _ _ I r h) fun _ s1 ⟨σ1,H1,I1,q1⟩=>?_);exact h2 pins s1 σ1 H1 _ _ Q I1 rr q1
def gTup (K:PySem.W.Frag) (n:Nat) (t:TGs):TG:=fun v σ H Q=>∃a xs,v=.ref a∧SqT K H a xs∧xs.length=n∧t xs σ H Q
theorem Zwq {es:List Expr} {k:Nat} {t:TGs} {n:Nat} (hc:X.calm=true) (h:PGs X es t)
  (hn:(assignEach es X.env).length=n:=by rfl) (hst:(assignEach es X.env).findIdx? (·.1)=none:=by rfl):PG X (.Tuple es k pos) (gTup X.K n t):=by
 intro pins s σ H v u Q I r hw;obtain⟨a,xs,e1,hq,hl,hw⟩:=hw;subst e1
 cases r
 obtain⟨its,rv,ht,hz⟩:=I.tuple hq;refine assign_Tuple_tuple (I.ok.hd hc) ht (by simp[hn,←hl,rv.length]) hst fun h' hx=>?_;have I1:Inv X pins σ H { s with heap:=h' }:=I.kept (t':=s.toks) fun b o e=>hx b o (Nat.ne_of_lt (Heap.lt_size e)) e;exact h pins _ σ H xs _ Q I1 (by simpa using rv) hw
abbrev gSub (to ti:TE) (t:TSet):TG:=fun v σ H Q=>to σ H fun o H1=>ti σ H1 fun i H2=>t o i v H2 fun H3=>Q σ H3
theorem ZoU {o i:Expr} {to ti:TE} {t:TSet} (ho:PE X o to) (hi:PE X i ti) (hs:PSet X t)
  (ha:∀v,assign (.Subscript o i pos) X.env v=(do
   let ov ←holding [v] (eval o X.env)
   let iv ←holding [v,ov] (eval i X.env)
   standAt pos
   holding [v,ov,iv] (setItem ov iv v)
   release [v,ov,iv] []):=by intro _; rfl):PG X (.Subscript o i pos) (gSub to ti t):=by
 intro pins s σ H v u Q I r h;rw[ha];refine wpAny_bind (wpAny_holding (thn (ho pins s σ H _ I h) fun ov s1 ⟨x,H1,I1,r1,q1⟩=>?_));refine wpAny_bind (wpAny_holding (thn (hi pins s1 σ H1 _ I1 q1) fun iv s2 ⟨y,H2,I2,r2,q2⟩=>?_));refine wpAny_bind (wpAny_standAt (wpAny_bind (wpAny_holding (thn (hs pins s2 σ H2 x y v ov iv u _ I2 r1 r2 r q2) fun _ s3 ⟨H3,I3,q3⟩=>?_))));exact wpAny_release ⟨σ,H3,I3,q3⟩
abbrev tAsg (te:TE) (g:TG):TS:=fun D σ H=>te σ H fun x H1=>g x σ H1 D.nx
theorem ZoV {tg e:Expr} {te:TE} {g:TG} (he:PE X e te) (hg:PG X tg g) (hs:swapsWithSole [tg] e pos.line X.env=pure false:=by rfl) (hw:swappedStores [tg] e X.env=pure none:=by rfl)
  (h1:(assignEach [tg] X.env).map (·.2)=[assign tg X.env]:=by rfl):PS X (.Assign [tg] e pos) (tAsg te g):=by
 intro pins s σ H D I h;refine wpAny_Assign_stores (thn (he pins s σ H _ I h) fun v s1 ⟨x,H1,I1,r1,q1⟩=>?_) hs hw;rw[h1];exact thn (hg pins s1 σ H1 x v _ I1 r1 q1) fun _ s2 q=>q
theorem ZDk {i:Nat} {x:Str} {e:Expr} {te:TE} {pos':Pos} (hN:X.N.Nodup) (hi:X.N[i]?=some x) (hx:Loc X.env.scope x) (he:PE X e te) (hs:swapsWith e (some (.Name x pos')) pos.line X.env=pure false:=by rfl) (hf:X.fn x=true∨X.env.scope.names.lookup x=some .local:=by first | exact .inl rfl | exact .inr rfl | assumption) :
  PS X (.Assign [.Name x pos'] e pos) (tAsg te (Zn9 i)):=by
 intro pins s σ H D I h;refine wpAny_Assign_Name (thn (he pins s σ H _ I h) fun v s1 ⟨y,H1,I1,r1,q1⟩=>?_) hs;exact Zp5 I1 hN hi hx r1 (fun s2 I2=>⟨_,H1,I2,q1⟩) hf
end
section
variable {X:Cx} {pos:Pos}
def ZD0 (c:TT) (tb:TS):TS:=fun D σ H=>∃W:Nat→St→Hp→Prop,(∃m,W m σ H)∧∀m σ H,W m σ H→
 c σ H fun b H1=>if b=true then ∃N:St→Hp→Prop,(∀σ' H',N σ' H'→∃m',m' < m∧W m' σ' H')∧tb { D with nx:=N,ct:=N,bk:=D.nx } σ H1 else D.nx σ H1
theorem Zyl {c:Expr} {body:List Stmt} {tc:TT} {tb:TS} (hp:PassesOwn (model X.prog X.w) X.A X.env X.xe) (hc:PT X c tc) (hb:PSs X body tb):PS X (.While c body [] pos) (ZD0 tc tb):=by
 intro pins s σ H D I h;obtain⟨W,⟨m0,w0⟩,turn⟩:=h;refine wpAny_While (codeAny_whileLoop (fun n s'=>∃σ' H',Inv X pins σ' H' s'∧W n σ' H') ?_ m0 ⟨σ,H,I,w0⟩);rintro n s1 ⟨σ1,H1,I1,w1⟩;refine wpAny_passesOwn hp (thn (hc pins s1 σ1 H1 _ I1 (turn n σ1 H1 w1)) fun b s2 ⟨H2,I2,q2⟩=>?_)
 cases b with
 | true=>
  obtain⟨N,hN,q2⟩:=q2;rw[if_pos rfl];refine wpAny_passesOwn hp (thn (hb pins s2 σ1 H2 _ I2 q2) fun f s3 q3=>?_)
  cases f with
  | next=>
   obtain⟨σ3,H3,I3,n3⟩:=q3;obtain⟨m',hm,w3⟩:=hN σ3 H3 n3;exact⟨m',hm,σ3,H3,I3,w3⟩
  | cont=>
   obtain⟨σ3,H3,I3,n3⟩:=q3;obtain⟨m',hm,w3⟩:=hN σ3 H3 n3;exact⟨m',hm,σ3,H3,I3,w3⟩
  | brk=>exact q3
  | ret v=>exact q3
 | false=>
  rw[if_neg Bool.false_ne_true];exact wpAny_execs_nil ⟨σ1,H2,I2,q2⟩
end
structure It where
 go:Nat→Hp→Prop
 yld:Nat→Hp→V→Hp→Prop
 stop:Nat→Hp→Prop
def FpOk (X:Cx) (pins:List (Addr×Obj)) (H:Hp) (b:Addr):Prop:=
 H b=none∧b≠X.env.locals∧b∉X.fs∧(b∈X.ex∨X.s₀.heap.objs.size≤b)∧(∀x c,X.env.cells.lookup x=some c→c≠b)∧∀p∈X.pn++pins,p.1≠b
theorem Inv.fpOk {X:Cx} {pins:List (Addr×Obj)} {σ:St} {H H':Hp} {s:Shared} {b:Addr} (I:Inv X pins σ H s) (hb:s.heap.objs.size≤b) (hn:H' b=none):FpOk X pins H' b:=by
 refine⟨hn,Nat.ne_of_gt (Nat.lt_of_lt_of_le I.lt hb),I.nofs hb,.inr (Nat.le_trans I.sz hb),fun x c e z=>?_,fun p hp z=>?_⟩
 ·obtain⟨v,q⟩:=I.cell x c e
  exact absurd (Nat.lt_of_lt_of_le q.lt (by rw[z]; exact hb)) (Nat.lt_irrefl _)
 ·exact absurd (Nat.lt_of_lt_of_le (Heap.lt_size (I.pin p hp).1) (by rw[z]; exact hb)) (Nat.lt_irrefl _)
structure Turn (P:Program) (w:World) (K:PySem.W.Frag) (tg:Expr) (J:It) (fp:List Addr) (it:Addr) (tn:Nat→Heap→Prop):Prop where
 mem:it∈fp
 obj:∀i h,tn i h→∀b∈fp,∃o,h.get? b=some o∧∀v,o.data≠.cell v
 keep:∀i h h',tn i h→(∀b∈fp,∀o,h.get? b=some o→h'.get? b=some o)→tn i h'
 item:∀(X:Cx),X.prog=P→X.w=w→X.K=K→X.calm=true→∀(i:Nat) (pins:List (Addr×Obj)) (s:Shared) (σ:St) (H:Hp) (E:Value→Shared→Prop),Inv X pins σ H s→(∀b∈fp,FpOk X pins H b)→tn i s.heap→J.go i H→
  wpAny (model P w) X.A (pyNext (.ref it)) (fun r s1=>∃u,r=some u∧
   wpAny (model P w) X.A (letOwnedTupleGo tg (.ref it) u) (fun _ s2=>∃x H',Inv X pins σ H' s2∧RelV x u∧J.yld i H x H'∧tn (i+1) s2.heap∧∀b∈fp,H' b=none) E s1) E s
 done:∀(X:Cx),X.prog=P→X.w=w→X.K=K→X.calm=true→∀(i:Nat) (pins:List (Addr×Obj)) (s:Shared) (σ:St) (H:Hp) (E:Value→Shared→Prop),Inv X pins σ H s→(∀b∈fp,FpOk X pins H b)→tn i s.heap→J.stop i H→
  wpAny (model P w) X.A (pyNext (.ref it)) (fun r s1=>r=none∧Inv X pins σ H s1) E s
 self:∀(A:Around) (i:Nat) (s:Shared) (Q:Value→Shared→Prop) (E:Value→Shared→Prop),tn i s.heap→Q (.ref it) s→wpAny (model P w) A (pyIter (.ref it)) Q E s
abbrev TI:=St→Hp→(It→Hp→Prop)→Prop
def PIE (X:Cx) (pins:List (Addr×Obj)) (σ:St) (tg:Expr) (R:It→Hp→Prop) (itv:Value) (s2:Shared):Prop:=
 ∃(it:Addr) (fp:List Addr) (tn:Nat→Heap→Prop) (J:It) (H':Hp),itv=.ref it∧Inv X pins σ H' s2∧Turn X.prog X.w X.K tg J fp it tn∧tn 0 s2.heap∧(∀b∈fp,FpOk X pins H' b)∧R J H'
def PI (X:Cx) (tg iter:Expr) (wi:TI):Prop:=
 ∀(pins:List (Addr×Obj)) (s:Shared) (σ:St) (H:Hp) (R:It→Hp→Prop),Inv X pins σ H s→wi σ H R→
  wpAny (model X.prog X.w) X.A (eval iter X.env) (fun v s1=>wpAny (model X.prog X.w) X.A (pyIter v) (PIE X pins σ tg R) X.xe s1) X.xe s
theorem Zuc {M:Model} {A:Around} {E:Value→Shared→Prop} {s:Shared} {tg:Expr} {it:Addr} {u:Value} {o:Obj} {n:String} {vs:Array Value} {Q:Unit→Shared→Prop} (ho:s.heap.get? it=some o) (hc:o.cls=.type n) (hd:o.data=.fields vs)
    (hn:["enumerate","zip","dict_itemiterator","dict_reverseitemiterator","odict_iterator","itertools.zip_longest","itertools.pairwise"].contains n=false) (hQ:Q () s):wpAny M A (letOwnedTupleGo tg (.ref it) u) Q E s:=by
  unfold letOwnedTupleGo
  cases tg <;> first
    | exact wpAny_pure hQ
    | (cases u <;> first
        | exact wpAny_pure hQ
        | (refine wpAny_bind (wpAny_load ho ?_)
           rw[hc,hd];show wpAny M A (if (["enumerate","zip","dict_itemiterator","dict_reverseitemiterator","odict_iterator","itertools.zip_longest","itertools.pairwise"].contains n && vs[0]? == some (rawInt _))=true then _ else _) Q E s;rw[if_neg (by intro h; rw[hn,Bool.false_and]at h; cases h)]
           exact wpAny_pure hQ))
def Itl (K:PySem.W.Frag) (a:Addr):It:=
 ⟨fun i H=>∃xs x,SqL K H a xs∧xs[i]?=some x,fun i H x H'=>H'=H∧∀xs,SqL K H a xs→xs[i]?=some x,fun i H=>∃xs,SqL K H a xs∧xs.length≤i⟩
def Itt (K:PySem.W.Frag) (a:Addr):It:=
 ⟨fun i H=>∃xs x,SqT K H a xs∧xs[i]?=some x,fun i H x H'=>H'=H∧∀xs,SqT K H a xs→xs[i]?=some x,fun i H=>∃xs,SqT K H a xs∧xs.length≤i⟩
def Itr (lo:Int) (n:Nat):It:=⟨fun i _=>i < n,fun i H x H'=>H'=H∧x=.int (lo+i),fun i _=>n≤i⟩
theorem Zw1 {P:Program} {w:World} {K:PySem.W.Frag} {tg:Expr} (a it:Addr):Turn P w K tg (Itl K a) [it] it (fun i h=>h.IsListIter it a i) where
 mem:=by simp
 obj:=fun i h st b hb=>by
  have e:b=it:=by simpa using hb
  subst e;obtain⟨o,e,c,d⟩:=st;exact⟨o,e,fun v z=>by rw[d]at z; cases z⟩
 keep:=fun i h h' st k=>st.at fun o e=>k it (by simp) o e
 item:=by
  intro X hP hw hK hc i pins s σ H E I hf st hg;subst hP hw hK;obtain⟨xs,x,hq,hx⟩:=hg;obtain⟨its,rv,p,hz⟩:=I.list hq;obtain⟨u,hu,ru⟩:=rv.get hx;obtain⟨f0,f1,f2,f3,f4,f5⟩:=hf it (by simp);refine wpAny_pyNext_list_item st p.isList (x:=u) (by simpa using hu) fun h' st' sb=>?_;have I1:Inv X pins σ H { s with heap:=h' }:=I.turned (t':=s.toks) (fun b o hb e=>(sb.2 b hb).trans e) f0 f1 f3 f4 f5;obtain⟨o,e,c,d⟩:=id st';exact⟨u,rfl,Zuc (s:={ s with heap:=h' }) e c d (by decide) ⟨x,H,I1,ru,⟨rfl,fun ys hy=>by rw[I.list_inj hy hq]; exact hx⟩,st',fun b hb=>(hf b hb).1⟩⟩
 done:=by
  intro X hP hw hK hc i pins s σ H E I hf st hg;subst hP hw hK;obtain⟨xs,hq,hx⟩:=hg;obtain⟨its,rv,p,hz⟩:=I.list hq;obtain⟨f0,f1,f2,f3,f4,f5⟩:=hf it (by simp);have hl:=rv.length;exact wpAny_pyNext_list_end (I.ok.hd hc) st p.isList (by simp; omega) fun h' eb=>⟨rfl,I.turned (t':=s.toks) (fun b o hb e=>eb b o hb e) f0 f1 f3 f4 f5⟩
 self:=fun _ _ _ _ _ st h=>wpAny_pyIter_listiter st h
theorem ZuN {P:Program} {w:World} {K:PySem.W.Frag} {tg:Expr} (a it:Addr):Turn P w K tg (Itt K a) [it] it (fun i h=>h.IsTupleIter it a i) where
 mem:=by simp
 obj:=fun i h st b hb=>by
  have e:b=it:=by simpa using hb
  subst e;obtain⟨o,e,c,d⟩:=st;exact⟨o,e,fun v z=>by rw[d]at z; cases z⟩
 keep:=fun i h h' st k=>st.at fun o e=>k it (by simp) o e
 item:=by
  intro X hP hw hK hc i pins s σ H E I hf st hg;subst hP hw hK;obtain⟨xs,x,hq,hx⟩:=hg;obtain⟨its,rv,p,hz⟩:=I.tuple hq;obtain⟨u,hu,ru⟩:=rv.get hx;obtain⟨f0,f1,f2,f3,f4,f5⟩:=hf it (by simp);refine wpAny_pyNext_tuple_item st (show s.heap.IsTuple a its.toArray from p) (x:=u) (by simpa using hu) fun h' st' sb=>?_;have I1:Inv X pins σ H { s with heap:=h' }:=I.turned (t':=s.toks) (fun b o hb e=>(sb.2 b hb).trans e) f0 f1 f3 f4 f5;obtain⟨o,e,c,d⟩:=id st';exact⟨u,rfl,Zuc (s:={ s with heap:=h' }) e c d (by decide) ⟨x,H,I1,ru,⟨rfl,fun ys hy=>by rw[I.tuple_inj hy hq]; exact hx⟩,st',fun b hb=>(hf b hb).1⟩⟩
 done:=by
  intro X hP hw hK hc i pins s σ H E I hf st hg;subst hP hw hK;obtain⟨xs,hq,hx⟩:=hg;obtain⟨its,rv,p,hz⟩:=I.tuple hq;obtain⟨f0,f1,f2,f3,f4,f5⟩:=hf it (by simp);have hl:=rv.length;exact wpAny_pyNext_tuple_end (I.ok.hd hc) st (show s.heap.IsTuple a its.toArray from p) (by simp; omega) fun h' eb=>⟨rfl,I.turned (t':=s.toks) (fun b o hb e=>eb b o hb e) f0 f1 f3 f4 f5⟩
 self:=fun _ _ _ _ _ st h=>wpAny_pyIter_tupleiter st h
theorem ZuM {P:Program} {w:World} {K:PySem.W.Frag} {tg:Expr} (it:Addr) (lo:Int) (n:Nat):Turn P w K tg (Itr lo n) [it] it (fun i h=>IsRangeIter h it (lo+(i:Nat) * 1) ((n:Int) - (i:Nat)) 1) where
 mem:=by simp
 obj:=fun i h st b hb=>by
  have e:b=it:=by simpa using hb
  subst e
  exact⟨_,st,fun v z=>by
   have z':Data.fields _=Data.cell v:=z
   cases z'⟩
 keep:=fun i h h' st k=>k it (by simp) _ st
 item:=by
  intro X hP hw hK hc i pins s σ H E I hf st hg;subst hP hw hK;obtain⟨f0,f1,f2,f3,f4,f5⟩:=hf it (by simp);have W:=Walks.range (prog:=X.prog) (w:=X.w) (I.ok.hd hc) it lo 1 n;refine W.item i s _ _ hg st fun v h' tk hv st' kk=>?_;obtain⟨t,rfl⟩:=hv;have I1:Inv X pins σ H { s with heap:=h',toks:=tk }:=I.turned (fun b o hb e=>kk b o (by simpa using hb) e) f0 f1 f3 f4 f5;refine⟨_,rfl,Zuc (s:={ s with heap:=h',toks:=tk }) (n:="range_iterator") st' rfl rfl (by decide) ⟨.int (lo+i),H,I1,⟨t,?_⟩,⟨rfl,rfl⟩,st',fun b hb=>(hf b hb).1⟩⟩;rw[Int.mul_one]
 done:=by
  intro X hP hw hK hc i pins s σ H E I hf st hg;subst hP hw hK;obtain⟨f0,f1,f2,f3,f4,f5⟩:=hf it (by simp);exact wpAny_pyNext_range_end (I.ok.hd hc) st (by have:n≤i:=hg; omega) fun h' eb=>⟨rfl,I.turned (t':=s.toks) (fun b o hb e=>eb b o hb e) f0 f1 f3 f4 f5⟩
 self:=fun _ _ _ _ _ st h=>wpAny_pyIter_rangeiter st h
end L2
namespace L2
open PySem PySem.Spec PyProof.Rows
section
variable {X:Cx} {tg:Expr}
theorem Zyq {pins:List (Addr×Obj)} {σ:St} {H:Hp} {s:Shared} {R:It→Hp→Prop} {E:Value→Shared→Prop} {lo hi:Int} {t u v:Tok} {tk:Nat} (I:Inv X pins σ H s) (h1 : -(2 ^ 62)≤lo) (h2:lo < 2 ^ 62) (h3 : -(2 ^ 62)≤hi) (h4:hi < 2 ^ 62)
  (q:R (Itr lo (hi - lo).toNat) H):wpAny (model X.prog X.w) X.A (pyIter (.ref s.heap.objs.size)) (PIE X pins σ tg R) E { s with heap:=s.heap.push { cls:=.type "range",data:=.fields #[.int lo t,.int hi u,.int 1 v] },toks:=tk }:=by
 refine wpAny_pyIter_range (IsRange.new ..) (small_one h1 h2 h3 h4) ?_;have I1:Inv X pins σ H { s with heap:=s.heap.push { cls:=.type "range",data:=.fields #[.int lo t,.int hi u,.int 1 v] },toks:=tk }:=I.kept fun b o e=>Heap.get?_push_of_some _ e
 refine⟨(s.heap.push { cls:=.type "range",data:=.fields #[.int lo t,.int hi u,.int 1 v] }).objs.size,[(s.heap.push { cls:=.type "range",data:=.fields #[.int lo t,.int hi u,.int 1 v] }).objs.size],_,_,H,rfl,
  I1.kept (t':=tk) fun b o e=>Heap.get?_push_of_some _ e,ZuM _ lo (hi - lo).toNat,?_,fun b hb=>?_,q⟩
 ·have e1:lo+((0:Nat):Int) * 1=lo:=by simp
  have e2:(((hi - lo).toNat:Nat):Int) - ((0:Nat):Int)=Builtin.Range.rangeSize lo hi 1:=by rw[rangeSize_one]; split <;> omega
  show IsRangeIter _ _ (lo+((0:Nat):Int) * 1) ((((hi - lo).toNat:Nat):Int) - ((0:Nat):Int)) 1;rw[e1,e2];exact Heap.get?_push_size _ rfl
 ·have e:b=(s.heap.push { cls:=.type "range",data:=.fields #[.int lo t,.int hi u,.int 1 v] }).objs.size:=by simpa using hb
  subst e;exact I1.fpOk (Nat.le_refl _) (I1.hok.fresh (Nat.le_refl _))
def ZAf (ta:TA):TI:=fun σ H R=>ta σ H fun vs H1=>∃j:Int,vs=[.int j]∧-(2 ^ 62)≤j∧j < 2 ^ 62∧R (Itr 0 j.toNat) H1
theorem ZeI {a:Expr} {ta:TA} {p pos:Pos} (hg:Gl X "range") (hm:X.mg "range" = none) (ha:PA X [a] ta) (hs:starEach [a] X.env=[(false,eval a X.env)]:=by rfl):PI X tg (.Call (.Name "range" p) [a] [] pos) (ZAf ta):=by
 intro pins s σ H R I h;refine Call_ (ZoJ I hg hm boot_range (PyProof.Rows.callWith_type1 (thn (ha pos pins s σ H _ I h) fun us s1 ⟨vs,H1,I1,r1,q1⟩=>?_) hs rfl));obtain⟨j,e,q1,q2,q⟩:=q1;subst e
 cases r1 with
 | cons r rr=>
  cases rr
  obtain⟨t,rfl⟩:=r;exact call_range_1 (Zyq I1 (by omega) (by omega) q1 q2 (by simpa using q))
def tFor (wi:TI) (g:TG) (tb:TS):TS:=fun D σ H=>wi σ H fun J H1=>∃W:Nat→Nat→St→Hp→Prop,(∃m,W 0 m σ H1)∧∀i m σ H,W i m σ H→
 (J.stop i H∧D.nx σ H)∨(J.go i H∧∃N:St→Hp→Prop,(∀σ' H',N σ' H'→∃m',m' < m∧W (i+1) m' σ' H')∧∀x H',J.yld i H x H'→g x σ H' fun σ2 H2=>tb { D with nx:=N,ct:=N,bk:=D.nx } σ2 H2)
def Zrq (fp:List Addr) (h:Heap):List (Addr×Obj):=fp.filterMap fun b=>(h.get? b).map fun o=>(b,o)
theorem ZgG {fp:List Addr} {h:Heap} {b:Addr} {o:Obj} (hb:b∈fp) (e:h.get? b=some o):(b,o)∈Zrq fp h:=List.mem_filterMap.mpr ⟨b,hb,by rw[e]; rfl⟩
theorem Zwb {fp:List Addr} {h:Heap} {p:Addr×Obj} (hp:p∈Zrq fp h):p.1∈fp∧h.get? p.1=some p.2:=by
 obtain⟨b,hb,e⟩:=List.mem_filterMap.mp hp
 cases q:h.get? b with
 | none=>rw[q]at e; cases e
 | some o=>
  rw[q]at e;have e':(b,o)=p:=Option.some.inj e;subst e';exact⟨hb,q⟩
theorem Inv.pinned {pins:List (Addr×Obj)} {σ:St} {H:Hp} {s:Shared} {fp:List Addr} (I:Inv X pins σ H s) (hf:∀b∈fp,FpOk X pins H b) (ho:∀b∈fp,∃o,s.heap.get? b=some o∧∀v,o.data≠.cell v):Inv X (pins++Zrq fp s.heap) σ H s:=
 I.pins_of fun p hp=>(List.mem_append.mp hp).elim (fun z=>I.pin p (List.mem_append_right _ z)) fun z=>by
  obtain⟨hb,e⟩:=Zwb z;obtain⟨f0,f1,f2,_⟩:=hf p.1 hb;obtain⟨o,e',d⟩:=ho p.1 hb;rw[e]at e'; cases e';exact⟨e,f0,f1,f2,d⟩
theorem Inv.unpinned {pins pl:List (Addr×Obj)} {σ:St} {H:Hp} {s:Shared} (I:Inv X (pins++pl) σ H s):Inv X pins σ H s:=I.pins_of fun p hp=>I.pin p (List.mem_append_right _ (List.mem_append_left _ hp))
theorem ZcI {iter:Expr} {body:List Stmt} {wi:TI} {g:TG} {tb:TS} {pos:Pos} (hp:PassesOwn (model X.prog X.w) X.A X.env X.xe) (hc:X.calm=true) (hi:PI X tg iter wi) (hg:PG X tg g) (hb:PSs X body tb)
  (hs:∀x,foldedSetIterable iter X.env x=pure x:=by intro _; rfl):PS X (.For tg iter body [] pos) (tFor wi g tb):=by
 intro pins s σ H D I h;refine wpAny_For (thn (hi pins s σ H _ I h) fun v s1 h1=>thn h1 fun itv s2 h2=>?_) hs;obtain⟨it,fp,tn,J,H2,e,I2,T,st2,f2,W,⟨m0,w0⟩,turn⟩:=h2;subst e;have stat:∀{H':Hp},(∀b∈fp,H' b=none)→∀b∈fp,FpOk X pins H' b:=fun hn b hb=>⟨hn b hb,(f2 b hb).2⟩;refine codeAny_forLoop_any (fun n s'=>∃i σ' H',Inv X pins σ' H' s'∧tn i s'.heap∧(∀b∈fp,H' b=none)∧W i n σ' H') ?_ m0 ⟨0,σ,H2,I2,st2,fun b hb=>(f2 b hb).1,w0⟩;rintro n s3 ⟨i,σ3,H3,I3,st3,fr3,w3⟩
 rcases turn i n σ3 H3 w3 with⟨stop,qn⟩ | ⟨go,N,hN,step⟩
 ·refine wpAny_passesOwn hp (thn (T.done X rfl rfl rfl hc i pins s3 σ3 H3 X.xe I3 (stat fr3) st3 stop) fun r s4 ⟨hr,I4⟩=>?_)
  subst hr;exact wpAny_execs_nil ⟨σ3,H3,I4,qn⟩
 ·refine wpAny_passesOwn hp (thn (T.item X rfl rfl rfl hc i pins s3 σ3 H3 X.xe I3 (stat fr3) st3 go) fun r s4 ⟨u,hr,h4⟩=>?_)
  subst hr;refine wpAny_passesOwn hp (thn h4 fun _ s5 ⟨x,H5,I5,r5,y5,st5,fr5⟩=>?_);have I5':=I5.pinned (stat fr5) (T.obj _ _ st5);refine wpAny_passesOwn hp (thn (hg _ s5 σ3 H5 x u _ I5' r5 (step x H5 y5)) fun _ s6 ⟨σ6,H6,I6,q6⟩=>?_);refine wpAny_passesOwn hp (thn (hb _ s6 σ6 H6 _ I6 q6) fun f s7 q7=>?_)
  have again:∀{σ7:St} {H7:Hp},Inv X (pins++Zrq fp s5.heap) σ7 H7 s7→N σ7 H7→∃m,m < n∧∃i σ' H',Inv X pins σ' H' s7∧tn i s7.heap∧(∀b∈fp,H' b=none)∧W i m σ' H':=fun {σ7 H7} I7 n7=>by
   obtain⟨m',hm,w7⟩:=hN σ7 H7 n7;refine⟨m',hm,i+1,σ7,H7,I7.unpinned,T.keep _ _ _ st5 fun b hb o e=>(I7.pin (b,o) (List.mem_append_right _ (List.mem_append_right _ (ZgG hb e)))).1,fun b hb=>?_,w7⟩;obtain⟨o,e,d⟩:=T.obj _ _ st5 b hb;exact(I7.pin (b,o) (List.mem_append_right _ (List.mem_append_right _ (ZgG hb e)))).2.1
  cases f with
  | next=>obtain⟨σ7,H7,I7,n7⟩:=q7; exact again I7 n7
  | cont=>obtain⟨σ7,H7,I7,n7⟩:=q7; exact again I7 n7
  | brk=>obtain⟨σ7,H7,I7,q7⟩:=q7; exact⟨σ7,H7,I7.unpinned,q7⟩
  | ret v=>obtain⟨x7,σ7,H7,I7,r7,q7⟩:=q7; exact⟨x7,σ7,H7,I7.unpinned,r7,q7⟩
end
theorem ZxB {K:PySem.W.Frag} {a:Addr} {xs:List V} {g:TG} {tb:TS} {D:Ends} {σ:St} {H:Hp} (Pv:Nat→St→Hp→Prop) (h0:Pv 0 σ H) (hl:∀i σ H,i≤xs.length→Pv i σ H→SqL K H a xs)
  (hs:∀i x σ H,xs[i]?=some x→Pv i σ H→g x σ H fun σ2 H2=>tb { D with nx:=Pv (i+1),ct:=Pv (i+1),bk:=D.nx } σ2 H2) (hd:∀σ H,Pv xs.length σ H→D.nx σ H) :
  ∃W:Nat→Nat→St→Hp→Prop,(∃m,W 0 m σ H)∧∀i m σ H,W i m σ H→
   ((Itl K a).stop i H∧D.nx σ H)∨((Itl K a).go i H∧∃N:St→Hp→Prop,(∀σ' H',N σ' H'→∃m',m' < m∧W (i+1) m' σ' H')∧∀x H',(Itl K a).yld i H x H'→g x σ H' fun σ2 H2=>tb { D with nx:=N,ct:=N,bk:=D.nx } σ2 H2):=by
 refine⟨fun i m σ H=>m=xs.length - i∧i≤xs.length∧Pv i σ H,⟨xs.length,by simp,Nat.zero_le _,h0⟩,?_⟩;rintro i m σ H ⟨rfl,hi,p⟩;have q:=hl i σ H hi p
 by_cases hlt:i < xs.length
 ·refine .inr ⟨⟨xs,xs[i],q,by simp[hlt]⟩,Pv (i+1),fun σ' H' p'=>⟨xs.length - (i+1),by omega,rfl,hlt,p'⟩,fun x H' y=>?_⟩
  obtain⟨e,y⟩:=y;subst e;exact hs i x σ _ (y xs q) p
 ·have e:i=xs.length:=by omega
  subst e;exact .inl ⟨⟨xs,q,Nat.le_refl _⟩,hd σ H p⟩
theorem Zz4 {K:PySem.W.Frag} {a:Addr} {xs:List V} {g:TG} {tb:TS} {D:Ends} {σ:St} {H:Hp} (Pv:Nat→St→Hp→Prop) (h0:Pv 0 σ H) (hl:∀i σ H,i≤xs.length→Pv i σ H→SqT K H a xs)
  (hs:∀i x σ H,xs[i]?=some x→Pv i σ H→g x σ H fun σ2 H2=>tb { D with nx:=Pv (i+1),ct:=Pv (i+1),bk:=D.nx } σ2 H2) (hd:∀σ H,Pv xs.length σ H→D.nx σ H) :
  ∃W:Nat→Nat→St→Hp→Prop,(∃m,W 0 m σ H)∧∀i m σ H,W i m σ H→
   ((Itt K a).stop i H∧D.nx σ H)∨((Itt K a).go i H∧∃N:St→Hp→Prop,(∀σ' H',N σ' H'→∃m',m' < m∧W (i+1) m' σ' H')∧∀x H',(Itt K a).yld i H x H'→g x σ H' fun σ2 H2=>tb { D with nx:=N,ct:=N,bk:=D.nx } σ2 H2):=by
 refine⟨fun i m σ H=>m=xs.length - i∧i≤xs.length∧Pv i σ H,⟨xs.length,by simp,Nat.zero_le _,h0⟩,?_⟩;rintro i m σ H ⟨rfl,hi,p⟩;have q:=hl i σ H hi p
 by_cases hlt:i < xs.length
 ·refine .inr ⟨⟨xs,xs[i],q,by simp[hlt]⟩,Pv (i+1),fun σ' H' p'=>⟨xs.length - (i+1),by omega,rfl,hlt,p'⟩,fun x H' y=>?_⟩
  obtain⟨e,y⟩:=y;subst e;exact hs i x σ _ (y xs q) p
 ·have e:i=xs.length:=by omega
  subst e;exact .inl ⟨⟨xs,q,Nat.le_refl _⟩,hd σ H p⟩
theorem Zvq {lo:Int} {n:Nat} {g:TG} {tb:TS} {D:Ends} {σ:St} {H:Hp} (Pv:Nat→St→Hp→Prop) (h0:Pv 0 σ H)
  (hs:∀i σ H,i < n→Pv i σ H→g (.int (lo+i)) σ H fun σ2 H2=>tb { D with nx:=Pv (i+1),ct:=Pv (i+1),bk:=D.nx } σ2 H2) (hd:∀σ H,Pv n σ H→D.nx σ H) :
  ∃W:Nat→Nat→St→Hp→Prop,(∃m,W 0 m σ H)∧∀i m σ H,W i m σ H→
   ((Itr lo n).stop i H∧D.nx σ H)∨((Itr lo n).go i H∧∃N:St→Hp→Prop,(∀σ' H',N σ' H'→∃m',m' < m∧W (i+1) m' σ' H')∧∀x H',(Itr lo n).yld i H x H'→g x σ H' fun σ2 H2=>tb { D with nx:=N,ct:=N,bk:=D.nx } σ2 H2):=by
 refine⟨fun i m σ H=>m=n - i∧i≤n∧Pv i σ H,⟨n,by simp,Nat.zero_le _,h0⟩,?_⟩;rintro i m σ H ⟨rfl,hi,p⟩
 by_cases hlt:i < n
 ·refine .inr ⟨hlt,Pv (i+1),fun σ' H' p'=>⟨n - (i+1),by omega,rfl,hlt,p'⟩,fun x H' y=>?_⟩
  obtain⟨e,y⟩:=y;subst e y;exact hs i σ _ hlt p
 ·have e:i=n:=by omega
  subst e;exact .inl ⟨Nat.le_refl _,hd σ H p⟩
end L2
namespace L2
open PySem PySem.Spec PyProof.Rows
abbrev R2:=V→V→Hp→VK→Prop
def OpR (X:Cx) (f:Value→Value→Sem Value) (r:R2):Prop:=
 ∀(pins:List (Addr×Obj)) (s:Shared) (σ:St) (H:Hp) (x y:V) (v u:Value) (Q:VK),Inv X pins σ H s→RelV x v→RelV y u→r x y H Q→
  wpAny (model X.prog X.w) X.A (f v u) (EP X pins σ Q) X.xe s
def UnR (X:Cx) (f:Value→Sem Value) (r:V→Hp→VK→Prop):Prop:=
 ∀(pins:List (Addr×Obj)) (s:Shared) (σ:St) (H:Hp) (x:V) (v:Value) (Q:VK),Inv X pins σ H s→RelV x v→r x H Q→
  wpAny (model X.prog X.w) X.A (f v) (EP X pins σ Q) X.xe s
def ZiP (X:Cx) (f:Value) (r:List V→Hp→VK→Prop):Prop:=
 ∀(pins:List (Addr×Obj)) (s:Shared) (σ:St) (H:Hp) (xs:List V) (us:List Value) (Q:VK),Inv X pins σ H s→Vals xs us→r xs H Q→
  wpAny (model X.prog X.w) X.A (call f us) (EP X pins σ Q) X.xe s
def TruR (X:Cx) (r:V→Hp→(Bool→Hp→Prop)→Prop):Prop:=
 ∀(pins:List (Addr×Obj)) (s:Shared) (σ:St) (H:Hp) (x:V) (v:Value) (Q:Bool→Hp→Prop),Inv X pins σ H s→RelV x v→r x H Q→
  wpAny (model X.prog X.w) X.A (truthy v) (TP X pins σ Q) X.xe s
abbrev tOp (r:R2) (ta tb:TE):TE:=fun σ H Q=>ta σ H fun x H1=>tb σ H1 fun y H2=>r x y H2 Q
abbrev tUn (r:V→Hp→VK→Prop) (ta:TE):TE:=fun σ H Q=>ta σ H fun x H1=>r x H1 Q
def rI (C:Int→Int→Prop) (g:Int→Int→V):R2:=fun x y H Q=>∃i j,x=.int i∧y=.int j∧C i j∧Q (g i j) H
def rI0 (g:Int→Int→V):R2:=fun x y H Q=>∃i j,x=.int i∧y=.int j∧Q (g i j) H
def rU (g:Int→V):V→Hp→VK→Prop:=fun x H Q=>∃i,x=.int i∧Q (g i) H
section
variable {X:Cx} {a b c:Expr} {ta tb tc:TE} {pos:Pos}
theorem binT (ha:PE X a ta) (hb:PE X b tb) {pins:List (Addr×Obj)} {s:Shared} {σ:St} {H:Hp} {R:V→V→Hp→Prop} (I:Inv X pins σ H s)
  (h:ta σ H fun x H1=>tb σ H1 fun y H2=>R x y H2) {Q:Value→Shared→Prop} {f:Value→Value→Sem Value}
  (hf:∀v u s2 x y H2,Inv X pins σ H2 s2→RelV x v→RelV y u→R x y H2→wpAny (model X.prog X.w) X.A (f v u) Q X.xe s2) :
  wpAny (model X.prog X.w) X.A (eval a X.env) (fun v s₁=>wpAny (model X.prog X.w) X.A (eval b X.env) (fun u s₂=>wpAny (model X.prog X.w) X.A (f v u) Q X.xe s₂) X.xe s₁) X.xe s:=by
 refine thn (ha pins s σ H _ I h) fun v s1 ⟨x,H1,I1,r1,q1⟩=>?_;refine thn (hb pins s1 σ H1 _ I1 q1) fun u s2 ⟨y,H2,I2,r2,q2⟩=>?_;exact hf v u s2 x y H2 I2 r1 r2 q2
theorem Zah {op:Operator} {r:R2} (ho:OpR X (binaryOp op) r) (ha:PE X a ta) (hb:PE X b tb):PE X (.BinOp a op b pos) (tOp r ta tb):=by
 intro pins s σ H Q I h;exact wpAny_BinOp (binT ha hb I h fun v u s2 x y H2 I2 rx ry q=>ho pins s2 σ H2 x y v u Q I2 rx ry q)
theorem ZuC {op:UnaryOp} {r:V→Hp→VK→Prop} (ho:UnR X (unaryOp op) r) (ha:PE X a ta):PE X (.UnaryOp op a pos) (tUn r ta):=by
 intro pins s σ H Q I h;exact UnaryOp_ (thn (ha pins s σ H _ I h) fun v s1 ⟨x,H1,I1,r1,q1⟩=>ho pins s1 σ H1 x v Q I1 r1 q1)
theorem opI {f:Value→Value→Sem Value} {C:Int→Int→Prop} {g:Int→Int→Int}
  (rule:∀(i j:Int) (t u:Tok) (s:Shared) (Q:Value→Shared→Prop) (E:Value→Shared→Prop),C i j→Q (.int (g i j) s.toks) { s with toks:=s.toks+1 }→wpAny (model X.prog X.w) X.A (f (.int i t) (.int j u)) Q E s) :
  OpR X f (rI C fun i j=>.int (g i j)):=by
 intro pins s σ H x y v u Q I rx ry h;obtain⟨i,j,rfl,rfl,hc,q⟩:=h;obtain⟨t,rfl⟩:=rx;obtain⟨t',rfl⟩:=ry;exact rule i j t t' s _ _ hc ⟨.int (g i j),H,I.tok _,⟨_,rfl⟩,q⟩
theorem opI0 {f:Value→Value→Sem Value} {g:Int→Int→Int}
  (rule:∀(i j:Int) (t u:Tok) (s:Shared) (Q:Value→Shared→Prop) (E:Value→Shared→Prop),Q (.int (g i j) s.toks) { s with toks:=s.toks+1 }→wpAny (model X.prog X.w) X.A (f (.int i t) (.int j u)) Q E s) :
  OpR X f (rI0 fun i j=>.int (g i j)):=by
 intro pins s σ H x y v u Q I rx ry h;obtain⟨i,j,rfl,rfl,q⟩:=h;obtain⟨t,rfl⟩:=rx;obtain⟨t',rfl⟩:=ry;exact rule i j t t' s _ _ ⟨.int (g i j),H,I.tok _,⟨_,rfl⟩,q⟩
theorem opB0 {f:Value→Value→Sem Value} {g:Int→Int→Bool}
  (rule:∀(i j:Int) (t u:Tok) (s:Shared) (Q:Value→Shared→Prop) (E:Value→Shared→Prop),Q (.bool (g i j)) s→wpAny (model X.prog X.w) X.A (f (.int i t) (.int j u)) Q E s) :
  OpR X f (rI0 fun i j=>.bl (g i j)):=by
 intro pins s σ H x y v u Q I rx ry h;obtain⟨i,j,rfl,rfl,q⟩:=h;obtain⟨t,rfl⟩:=rx;obtain⟨t',rfl⟩:=ry;exact rule i j t t' s _ _ ⟨.bl (g i j),H,I,rfl,q⟩
def CMul (i j:Int):Prop:=(-(2 ^ 64) < i∧i < 2 ^ 64)∨(-(2 ^ 64) < j∧j < 2 ^ 64)
theorem CMul.ok {i j:Int} (h:CMul i j):IntMulOk i j:=by
 rcases h with⟨h1,h2⟩ | ⟨h1,h2⟩
 ·exact .of_left (intBits_le_64 h1 h2)
 ·exact .of_right (intBits_le_64 h1 h2)
theorem ZCW:OpR X (binaryOp .Add) (rI0 fun i j=>.int (i+j)):=opI0 fun _ _ _ _ _ _ _ q=>add_int q
theorem Zwj:OpR X (binaryOp .Sub) (rI0 fun i j=>.int (i - j)):=opI0 fun _ _ _ _ _ _ _ q=>sub_int q
theorem ZC0:OpR X (binaryOp .Mult) (rI CMul fun i j=>.int (i * j)):=opI fun _ _ _ _ _ _ _ hc q=>mul_int q hc.ok
theorem Zax:OpR X (binaryOp .Mod) (rI (fun _ j=>0 < j) fun i j=>.int (i % j)):=opI fun i j _ _ _ _ _ hc q=>by
 have h1:(0:Int) < j:=hc;exact mod_int' (by omega) (by rw[Int.fmod_eq_emod_of_nonneg i (by omega)]; exact q)
theorem unI {f:Value→Sem Value} {g:Int→Int}
  (rule:∀(i:Int) (t:Tok) (s:Shared) (Q:Value→Shared→Prop) (E:Value→Shared→Prop),Q (.int (g i) s.toks) { s with toks:=s.toks+1 }→wpAny (model X.prog X.w) X.A (f (.int i t)) Q E s) :
  UnR X f (rU fun i=>.int (g i)):=by
 intro pins s σ H x v Q I rx h;obtain⟨i,rfl,q⟩:=h;obtain⟨t,rfl⟩:=rx;exact rule i t s _ _ ⟨.int (g i),H,I.tok _,⟨_,rfl⟩,q⟩
theorem ZoY:UnR X (unaryOp .USub) (rU fun i=>.int (-i)):=unI fun _ _ _ _ _ q=>neg_int q
end
def scal:V→V→Bool
 | .non,.non=>true | .non,.int _=>true | .int _,.non=>true | .non,.bl _=>true | .bl _,.non=>true | .non,.str _=>true | .str _,.non=>true
 | .int _,.int _=>true | .bl _,.bl _=>true | .str _,.str _=>true | .byt _,.byt _=>true
 | .int _,.str _=>true | .str _,.int _=>true | .bl _,.str _=>true | .str _,.bl _=>true
 | _,_=>false
def rEq:R2:=fun x y H Q=>scal x y=true∧Q (.bl (decide (x=y))) H
def rNe:R2:=fun x y H Q=>scal x y=true∧Q (.bl (!decide (x=y))) H
theorem Zvi {i j:Int}:decide (V.int i=V.int j)=(i == j):=by
 rw[Bool.eq_iff_iff];simp
theorem ZyW {i j:Bool}:decide (V.bl i=V.bl j)=(i == j):=by
 rw[Bool.eq_iff_iff];simp
theorem Zvj {i j:Str}:decide (V.str i=V.str j)=(i == j):=by
 rw[Bool.eq_iff_iff];simp
theorem Zvh {i j:Array UInt8}:decide (V.byt i=V.byt j)=(i.toList == j.toList):=by
 rw[Bool.eq_iff_iff]
 cases i
 cases j
 simp
section
variable {X:Cx} {a b c:Expr} {ta tb tc:TE} {pos:Pos}
theorem Zbz {pins:List (Addr×Obj)} {σ:St} {H:Hp} {s:Shared} {Q:VK} {k k':Bool} (I:Inv X pins σ H s) (q:Q (.bl k) H) (e:k=k'):EP X pins σ Q (.bool k') s:=by
 subst e;exact⟨.bl k,H,I,rfl,q⟩
theorem ZEq:OpR X (compareOp .Eq) rEq:=by
 intro pins s σ H x y v u Q I rx ry h;obtain⟨hs,q⟩:=h
 cases x with
 | non=>
  cases rx
  cases y with
  | non=>cases ry; exact PySem.EqNone.eq_none_none (Zbz I q (by simp))
  | bl j=>cases ry; exact PySem.EqNone.eq_none_bool (Zbz I q (by simp))
  | int j=>obtain⟨t',rfl⟩:=ry; exact PySem.EqNone.eq_none_int (Zbz I q (by simp))
  | str j=>obtain⟨t',rfl⟩:=ry; exact PySem.EqNone.eq_none_str (Zbz I q (by simp))
  | _=>exact absurd (show false=true from hs) Bool.false_ne_true
 | bl i=>
  cases rx
  cases y with
  | non=>cases ry; exact PySem.EqNone.eq_bool_none (Zbz I q (by simp))
  | bl j=>cases ry; exact eq_bool (Zbz I q ZyW)
  | str j=>obtain⟨t',rfl⟩:=ry; exact PySem.EqMixed.eq_bool_str (Zbz I q (by simp))
  | _=>exact absurd (show false=true from hs) Bool.false_ne_true
 | int i=>
  obtain⟨t,rfl⟩:=rx
  cases y with
  | non=>cases ry; exact PySem.EqNone.eq_int_none (Zbz I q (by simp))
  | int j=>obtain⟨t',rfl⟩:=ry; exact eq_int (Zbz I q Zvi)
  | str j=>obtain⟨t',rfl⟩:=ry; exact PySem.EqMixed.eq_int_str (Zbz I q (by simp))
  | _=>exact absurd (show false=true from hs) Bool.false_ne_true
 | str i=>
  obtain⟨t,rfl⟩:=rx
  cases y with
  | non=>cases ry; exact PySem.EqNone.eq_str_none (Zbz I q (by simp))
  | bl j=>cases ry; exact PySem.EqMixed.eq_str_bool (Zbz I q (by simp))
  | int j=>obtain⟨t',rfl⟩:=ry; exact PySem.EqMixed.eq_str_int (Zbz I q (by simp))
  | str j=>obtain⟨t',rfl⟩:=ry; exact eq_str (Zbz I q Zvj)
  | _=>exact absurd (show false=true from hs) Bool.false_ne_true
 | byt i=>
  obtain⟨t,rfl⟩:=rx
  cases y with
  | byt j=>obtain⟨t',rfl⟩:=ry; exact PySem.W.eq_bytes (Zbz I q Zvh)
  | _=>exact absurd (show false=true from hs) Bool.false_ne_true
 | _=>cases y <;> exact absurd (show false=true from hs) Bool.false_ne_true
theorem ZEs:OpR X (compareOp .NotEq) rNe:=by
 intro pins s σ H x y v u Q I rx ry h;obtain⟨hs,q⟩:=h
 cases x with
 | non=>
  cases rx
  cases y with
  | non=>cases ry; exact PySem.EqNone.ne_none_none (Zbz I q (by simp))
  | bl j=>cases ry; exact PySem.EqNone.ne_none_bool (Zbz I q (by simp))
  | int j=>obtain⟨t',rfl⟩:=ry; exact PySem.EqNone.ne_none_int (Zbz I q (by simp))
  | str j=>obtain⟨t',rfl⟩:=ry; exact PySem.EqNone.ne_none_str (Zbz I q (by simp))
  | _=>exact absurd (show false=true from hs) Bool.false_ne_true
 | bl i=>
  cases rx
  cases y with
  | non=>cases ry; exact PySem.EqNone.ne_bool_none (Zbz I q (by simp))
  | bl j=>cases ry; exact ne_bool (Zbz I q (congrArg not ZyW))
  | str j=>obtain⟨t',rfl⟩:=ry; exact PySem.EqMixed.ne_bool_str (Zbz I q (by simp))
  | _=>exact absurd (show false=true from hs) Bool.false_ne_true
 | int i=>
  obtain⟨t,rfl⟩:=rx
  cases y with
  | non=>cases ry; exact PySem.EqNone.ne_int_none (Zbz I q (by simp))
  | int j=>obtain⟨t',rfl⟩:=ry; exact ne_int (Zbz I q (congrArg not Zvi))
  | str j=>obtain⟨t',rfl⟩:=ry; exact PySem.EqMixed.ne_int_str (Zbz I q (by simp))
  | _=>exact absurd (show false=true from hs) Bool.false_ne_true
 | str i=>
  obtain⟨t,rfl⟩:=rx
  cases y with
  | non=>cases ry; exact PySem.EqNone.ne_str_none (Zbz I q (by simp))
  | bl j=>cases ry; exact PySem.EqMixed.ne_str_bool (Zbz I q (by simp))
  | int j=>obtain⟨t',rfl⟩:=ry; exact PySem.EqMixed.ne_str_int (Zbz I q (by simp))
  | str j=>obtain⟨t',rfl⟩:=ry; exact ne_str (Zbz I q (congrArg not Zvj))
  | _=>exact absurd (show false=true from hs) Bool.false_ne_true
 | byt i=>
  obtain⟨t,rfl⟩:=rx
  cases y with
  | byt j=>obtain⟨t',rfl⟩:=ry; exact PySem.W.ne_bytes (Zbz I q (congrArg not Zvh))
  | _=>exact absurd (show false=true from hs) Bool.false_ne_true
 | _=>cases y <;> exact absurd (show false=true from hs) Bool.false_ne_true
theorem Zyc:OpR X (compareOp .Lt) (rI0 fun i j=>.bl (decide (i < j))):=opB0 fun _ _ _ _ _ _ _ q=>lt_int q
theorem Zrk:OpR X (compareOp .Gt) (rI0 fun i j=>.bl (decide (j < i))):=opB0 fun _ _ _ _ _ _ _ q=>gt_int q
theorem ZEr:OpR X (compareOp .GtE) (rI0 fun i j=>.bl (decide (j≤i))):=opB0 fun _ _ _ _ _ _ _ q=>ge_int q
theorem Zwi:OpR X (compareOp .In) (fun x y H Q=>∃i j,x=.str i∧y=.str j∧Q (.bl (!(Builtin.Str.occurrences j i 0 j.length 1).isEmpty)) H):=by
 intro pins s σ H x y v u Q I rx ry h;obtain⟨i,j,rfl,rfl,q⟩:=h;obtain⟨t,rfl⟩:=rx;obtain⟨t',rfl⟩:=ry;exact in_str (Zbz I q rfl)
theorem ZCZ:OpR X (compareOp .Is) (fun x y H Q=>y=.non∧Q (.bl (decide (x=.non))) H):=by
 intro pins s σ H x y v u Q I rx ry h;obtain⟨rfl,q⟩:=h
 cases ry
 refine is_none_gen (Zbz I q ?_)
 cases x <;> first
  | (cases rx; rfl)
  | (obtain⟨t,rfl⟩:=rx; rfl)
theorem Zrm:OpR X (compareOp .NotIn) (fun x y H Q=>∃i j,x=.str i∧y=.str j∧Q (.bl (!(!(Builtin.Str.occurrences j i 0 j.length 1).isEmpty))) H):=by
 intro pins s σ H x y v u Q I rx ry h;obtain⟨i,j,rfl,rfl,q⟩:=h;obtain⟨t,rfl⟩:=rx;obtain⟨t',rfl⟩:=ry;exact notIn_str (Zbz I q rfl)
theorem OpR.or {f:Value→Value→Sem Value} {r r':R2} (h:OpR X f r) (h':OpR X f r'):OpR X f (fun x y H Q=>r x y H Q∨r' x y H Q):=by
 intro pins s σ H x y v u Q I rx ry q
 rcases q with q | q
 ·exact h pins s σ H x y v u Q I rx ry q
 ·exact h' pins s σ H x y v u Q I rx ry q
theorem Zat (b:Expr) {op:CmpOp} (h:op≠.In:=by decide) (h2:op≠.NotIn:=by decide):behindInMarks op b=false:=by
 have e1:(op == CmpOp.In)=false:=by cases op <;> first | rfl | exact absurd rfl h
 have e2:(op == CmpOp.NotIn)=false:=by cases op <;> first | rfl | exact absurd rfl h2
 cases b <;> simp[behindInMarks,e1,e2]
theorem Znx {op:CmpOp} {r:R2} (ho:OpR X (compareOp op) r) (ha:PE X a ta) (hb:PE X b tb) (hm:behindInMarks op b=false):PE X (.Compare a [op] [b] pos) (tOp r ta tb):=by
 intro pins s σ H Q I h;exact wpAny_Compare1 (binT ha hb I h fun v u s2 x y H2 I2 rx ry q=>ho pins s2 σ H2 x y v u Q I2 rx ry q) hm
abbrev ZDZ (t:TE):TT:=fun σ H Q=>t σ H fun x H'=>∃k,x=.bl k∧Q k H'
theorem Zal {op:CmpOp} {r:R2} (ho:OpR X (compareOp op) r) (ha:PE X a ta) (hb:PE X b tb) (hm:behindInMarks op b=false):PT X (.Compare a [op] [b] pos) (ZDZ (tOp r ta tb)):=by
 intro pins s σ H Q I h
 refine wpAny_isTrue_Compare1 (thn (ha pins s σ H _ I h) fun v s1 ⟨x,H1,I1,r1,q1⟩=>thn (hb pins s1 σ H1 _ I1 q1) fun u s2 ⟨y,H2,I2,r2,q2⟩=>
  thn (ho pins s2 σ H2 x y v u _ I2 r1 r2 q2) fun c s3 ⟨z,H3,I3,r3,k,e,q3⟩=>?_) hm
 subst e
 cases r3
 exact wpAny_truthy_bool ⟨H3,I3,q3⟩
def TruV (K:PySem.W.Frag) (x:V) (H:Hp) (k:Bool):Prop:=
 match x with
 | .non=>k=false
 | .bl b=>k=b
 | .int i=>k=(i != 0)
 | .str y=>y.length≤sizeLine∧k=((y.length:Int) != 0)
 | .byt y=>y.size≤sizeLine∧k=((y.size:Int) != 0)
 | .ref p=>(∃xs,SqL K H p xs∧k = !xs.isEmpty)∨(∃xs,SqT K H p xs∧k = !xs.isEmpty)∨∃kvs,H p=some (.dK kvs)∧k = !kvs.isEmpty
 | _=>False
theorem Zug {κ:Type} {kvs:List (κ×V)} {vs:List (κ×Value)} (r:KV kvs vs):(!vs.isEmpty) = !kvs.isEmpty:=by
 cases r <;> rfl
theorem ZoI {xs:List V} {its:List Value} (r:Vals xs its):(!its.toArray.isEmpty) = !xs.isEmpty:=by
 cases r <;> simp
theorem ZoK:(sizeLine:Nat) < 2 ^ 63:=by rw[sizeLine_eq]; decide
theorem ZzO:TruR X (fun x H Q=>∃k,TruV X.K x H k∧Q k H):=by
 intro pins s σ H x v Q I rx h;obtain⟨k,e,q⟩:=h;have hl:=ZoK;have hs:sizeLine=16777216:=sizeLine_eq
 cases x with
 | non=>
  cases rx
  have e':k=false:=e;subst e';exact truthy_none ⟨H,I,q⟩
 | bl b=>
  cases rx
  have e':k=b:=e;subst e';exact wpAny_truthy_bool ⟨H,I,q⟩
 | int i=>
  obtain⟨t,rfl⟩:=rx;have e':k=(i != 0):=e;subst e';exact PySem.P.truthy_int ⟨H,I,q⟩
 | str y=>
  obtain⟨t,rfl⟩:=rx;obtain⟨hy,e'⟩ : y.length≤sizeLine∧k=((y.length:Int) != 0):=e;subst e';exact PySem.P.truthy_str (by omega) ⟨H,I.tok _,q⟩
 | byt y=>
  obtain⟨t,rfl⟩:=rx;obtain⟨hy,e'⟩ : y.size≤sizeLine∧k=((y.size:Int) != 0):=e;subst e';exact PySem.W.truthy_bytes (by omega) ⟨H,I.tok _,q⟩
 | ref p=>
  cases rx
  have e':(∃xs,SqL X.K H p xs∧k = !xs.isEmpty)∨(∃xs,SqT X.K H p xs∧k = !xs.isEmpty)∨∃kvs,H p=some (.dK kvs)∧k = !kvs.isEmpty:=e
  rcases e' with⟨xs,hx,e'⟩ | ⟨xs,hx,e'⟩ | ⟨kvs,hx,e'⟩
  ·subst e'
   obtain⟨its,r,pl,hz⟩:=I.list hx;have hlen:=r.length;exact wpAny_truthy_list pl.isList (by simp only [List.size_toArray]; omega) ⟨H,I.tok _,by rw[ZoI r]; exact q⟩
  ·subst e'
   obtain⟨its,r,pl,hz⟩:=I.tuple hx;have hlen:=r.length;exact truthy_tuple pl (by simp only [List.size_toArray]; omega) ⟨H,I.tok _,by rw[ZoI r]; exact q⟩
  ·subst e'
   obtain⟨hz,hS,vs,r,m⟩ : kvs.length≤sizeLine∧(p == sysModules)=false∧∃vs,KV kvs vs∧s.heap.DictOf (ZdQ X.prog X.w) p vs:=I.hok p _ hx;have hlen:kvs.length=vs.length:=Paired.length r;exact wpAny_truthy_dict hS m (by omega) ⟨H,I.tok _,by rw[Zug r]; exact q⟩
 | _=>exact(show False from e).elim
theorem ZdR (ha:PE X a ta) (he:∀whole,isTrue a X.env whole=(do let v ←whole; standAt a.pos; holding [v] (truthy v))) :
  PT X a (fun σ H Q=>ta σ H fun x H'=>∃k,TruV X.K x H' k∧Q k H'):=by
 intro pins s σ H Q I h;exact isTrue_plain (thn (ha pins s σ H _ I h) fun v s1 ⟨x,H1,I1,r1,q1⟩=>ZzO pins s1 σ H1 x v Q I1 r1 q1) (he _)
theorem ZuA:OpR X (binaryOp .Add) (fun x y H Q=>∃i j,x=.str i∧y=.str j∧i.length+j.length≤sizeLine∧Q (.str (i++j)) H):=by
 intro pins s σ H x y v u Q I rx ry h;obtain⟨i,j,rfl,rfl,hz,q⟩:=h;obtain⟨t,rfl⟩:=rx;obtain⟨t',rfl⟩:=ry;exact add_str (fun t' tk=>⟨.str (i++j),H,I.tok _,⟨_,rfl⟩,q⟩) hz
theorem ZuO {x:V} {us:List Value} (r:Vals [x] us):∃u,us=[u]∧RelV x u:=by
 cases r with
 | cons r1 r2=>cases r2; exact⟨_,rfl,r1⟩
theorem Zp9 {x y:V} {us:List Value} (r:Vals [x,y] us):∃u w',us=[u,w']∧RelV x u∧RelV y w':=by
 cases r with
 | cons r1 r2=>
  cases r2 with
  | cons r3 r4=>cases r4; exact⟨_,_,rfl,r1,r3⟩
theorem Zu7 (hc:X.calm=true):ZiP X (.builtin "max") (fun xs H Q=>∃i j,xs=[.int i,.int j]∧Q (.int (if j > i then j else i)) H):=by
 intro pins s σ H xs us Q I r h;obtain⟨i,j,rfl,q⟩:=h;obtain⟨u,w',rfl,⟨t,rfl⟩,⟨t',rfl⟩⟩:=Zp9 r;refine max_two_ints (I.ok.hd hc) fun h' tk k=>⟨_,H,I.kept k,?_,q⟩
 by_cases hj:j > i
 ·rw[if_pos hj,if_pos hj]; exact⟨_,rfl⟩
 ·rw[if_neg hj,if_neg hj]; exact⟨_,rfl⟩
theorem Zu6:ZiP X (.type "int") (fun xs H Q=>(∃i,xs=[.int i]∧Q (.int i) H)∨∃k,xs=[.bl k]∧Q (.int (if k then 1 else 0)) H):=by
 intro pins s σ H xs us Q I r h
 rcases h with⟨i,rfl,q⟩ | ⟨k,rfl,q⟩
 ·obtain⟨u,rfl,t,rfl⟩:=ZuO r
  exact call_int_int ⟨.int i,H,I,⟨_,rfl⟩,q⟩
 ·obtain⟨u,rfl,r1⟩:=ZuO r
  cases r1
  exact call_int_bool ⟨.int (if k then 1 else 0),H,I.tok _,⟨_,rfl⟩,q⟩
def LenV (K:PySem.W.Frag) (x:V) (H:Hp) (n:Nat):Prop:=
 match x with
 | .str y=>y.length≤sizeLine∧n=y.length
 | .byt y=>y.size≤sizeLine∧n=y.size
 | .ref p=>(∃xs,SqL K H p xs∧n=xs.length)∨∃xs,SqT K H p xs∧n=xs.length
 | _=>False
theorem Zxx:ZiP X (.builtin "len") (fun xs H Q=>∃x n,xs=[x]∧LenV X.K x H n∧Q (.int n) H):=by
 intro pins s σ H xs us Q I r h;obtain⟨x,n,rfl,e,q⟩:=h;obtain⟨u,rfl,rx⟩:=ZuO r;have hl:=ZoK;have hs:sizeLine=16777216:=sizeLine_eq
 cases x with
 | str y=>
  obtain⟨t,rfl⟩:=rx;obtain⟨hy,e'⟩ : y.length≤sizeLine∧n=y.length:=e;subst e';exact len_str (by omega) ⟨.int _,H,I.tok _,⟨_,rfl⟩,q⟩
 | byt y=>
  obtain⟨t,rfl⟩:=rx;obtain⟨hy,e'⟩ : y.size≤sizeLine∧n=y.size:=e;subst e';exact PySem.W.len_bytes (by omega) ⟨.int _,H,I.tok _,⟨_,rfl⟩,q⟩
 | ref p=>
  cases rx
  have e':(∃xs,SqL X.K H p xs∧n=xs.length)∨∃xs,SqT X.K H p xs∧n=xs.length:=e
  rcases e' with⟨xs,hx,e'⟩ | ⟨xs,hx,e'⟩
  ·subst e'
   obtain⟨its,r',pl,hz⟩:=I.list hx;have hlen:=r'.length;exact Calls.call_len_list pl.isList (by simp only [List.size_toArray]; omega) ⟨.int xs.length,H,I.tok _,⟨_,by simp only [List.size_toArray]; rw[hlen]⟩,q⟩
  ·subst e'
   obtain⟨its,r',pl,hz⟩:=I.tuple hx;have hlen:=r'.length;exact len_tuple pl (by simp only [List.size_toArray]; omega) ⟨.int xs.length,H,I.tok _,⟨_,by simp only [List.size_toArray]; rw[hlen]⟩,q⟩
 | _=>exact(show False from e).elim
end
end L2
namespace L2
open PySem PySem.Spec PyProof.Rows
structure ObjM (h:Heap) (x dx C:Addr) (mA:Str→Option Value):Prop where
 obj:h.get? x=some (PySem.W.instObj C dx)
 ns:h.Ns1 dx mA
 ne:dx≠x
theorem ZvZ {h:Heap} {dx:Addr} {mA:Str→Option Value} (n:h.Ns1 dx mA):∃od,h.get? dx=some od∧∀name,PySem.W.lookIn name od=some (mA name):=by
 obtain⟨o,es,ep,ho,hd,hk,_,hm⟩:=n;refine⟨o,ho,fun name=>?_⟩;have e:=hm name;unfold nsFind findBy at e;rw[←Array.find?_toList]at e;unfold PySem.W.lookIn;rw[hd]
 dsimp only
 split
 ·rename_i y q
  rw[q]at e;exact congrArg some e
 ·rename_i q
  rw[q]at e
  have a:es.toList.any (·.refKey)=false:=by
   rw[List.any_eq_false];intro y hy;obtain⟨z,t,hkey⟩:=hk y (Array.mem_toList_iff.mp hy);simp[DictEntry.refKey,hkey]
  have a' : ¬es.toList.any (·.refKey)=true:=by rw[a]; exact Bool.false_ne_true
  rw[if_neg a'];exact congrArg some e
theorem ObjM.look {h:Heap} {x dx C:Addr} {mA:Str→Option Value} (I:ObjM h x dx C mA):∃od,PySem.W.InstAt h x (PySem.W.instObj C dx) C (some od)∧∀name,PySem.W.lookIn name od=some (mA name):=
 let ⟨od,ho,hl⟩:=ZvZ I.ns
 ⟨od,⟨I.obj,rfl,rfl,ho⟩,hl⟩
section
variable {prog:Program} {w:World} {A:Around} {E:Value→Shared→Prop} {s:Shared} {K:PySem.W.Frag} {x dx C f:Addr} {mA:Str→Option Value} {name:Str} {v:Value}
theorem Zz9 {expr:Bool} {Q:Value→Shared→Prop} (X:K.In s.heap) (I:ObjM s.heap x dx C mA) (hg:PySem.W.plainGet K C name=true) (hh:PySem.W.hasDictIn K C=true)
  (ha:PySem.W.findIn K (.ref C) name=some none) (hv:mA name=some v) (hv':PySem.W.handedIn v=true) (h:Q v { s with toks:=s.toks+1 }) :
  wpAny (model prog w) A (getAttr (.ref x) name expr) Q E s:=by
 obtain⟨od,J,hl⟩:=I.look;exact PySem.W.get_value X J (PySem.W.plainGet_of hg).1 (PySem.W.findObj_own hh ha rfl (by rw[hl,hv])) hv' h
theorem ZxE {pl:Sem Bool} {Q:Value×List Value→Shared→Prop} (X:K.In s.heap) (I:ObjM s.heap x dx C mA) (hg:PySem.W.plainGet K C name=true)
  (hf:PySem.W.findIn K (.ref C) name=some (some (.ref f))) (ht:PySem.W.isFn K (.ref f)=true) (hv:mA name=none) (h:Q (.ref f,[.ref x]) s) :
  wpAny (model prog w) A (getMethod (.ref x) name pl) Q E s:=by
 obtain⟨od,J,hl⟩:=I.look;exact PySem.W.method_fn X J (PySem.W.plainGet_of hg).1 (PySem.W.plainGet_of hg).2 hf (beq_iff_eq.mp ht) (by show(PySem.W.lookIn name od).map (·.isSome)=some false; rw[hl,hv]; rfl) h
theorem ZBi {ns:List Str} {Q:Unit→Shared→Prop} (X:K.In s.heap) (I:ObjM s.heap x dx C mA)
  (hs:PySem.W.findIn K (.ref C) "__setattr__" = some (some (.builtin "object.__setattr__"))) (hp:PySem.W.plainOver K C=true) (ht:PySem.W.takerIn K C name=some none) (hh:PySem.W.hasDictIn K C=true)
  (hw:PySem.Within mA ns) (hsz:ns.length≤sizeLine)
  (h:∀h',ObjM h' x dx C (fun y=>if y=name then some v else mA y)→Heap.SameBut dx s.heap h'→Q () { s with heap:=h',toks:=s.toks+2 }) :
  wpAny (model prog w) A (setAttr (.ref x) name v) Q E s:=by
 obtain⟨od,J,hl⟩:=I.look;refine PySem.W.set_plain X J hs (PySem.W.osa_open (s:={ s with toks:=s.toks+1 }) (r:=none) X J hp ht fun b=>?_);obtain⟨cd,hc,hd'⟩:=PySem.W.any_some hh;have hx:s.heap.get? x=some ⟨.ref C,some dx,.plain,#[]⟩:=I.obj;refine wpAny_bind (wpAny_pure (wpAny_bind (wpAny_bind (wpAny_loadPart hx (wpAny_bind (PySem.W.Looks.here (s:={ s with toks:=s.toks+1 }) (PySem.W.looks_clsIn X hc) ?_))))));rw[hd'];refine wpAny_pure (a:=some dx) (wpAny_bind (wpAny_pure (wpAny_bind ?_)));refine wpAny_nsSet1 (s:={ s with toks:=s.toks+1 }) I.ns fun h' hn2 hs2=>?_;obtain⟨oD,esD,epD,hoD,hdD,hcD⟩:=hn2.count (PySem.Within.cons name v hw);refine wpAny_bind (wpAny_lookBehind hoD (by rw[hdD]; exact pastItsLine_dict (Nat.le_trans hcD (by rw[List.length_cons]; omega))) ?_);exact wpAny_pure (h _ ⟨(hs2.2 _ (Ne.symm I.ne)).trans I.obj,hn2,I.ne⟩ hs2)
theorem Zx1 {R:Result→Shared→Prop} {vs:List Value} {kw:List (Str×Value)} (X:K.In s.heap) (hm:PySem.W.makesIn K C=true)
  (hi:PySem.W.findIn K (.ref C) "__init__" = some (some (.ref f))) (hf:PySem.W.typeIn K (.ref f)=some (.type "function"))
  (h:codeAny (model prog w) (A.under (.builtin "type.__call__" ⟨.ref C::vs,kw⟩)) (.call (.ref f) ⟨.ref (s.heap.objs.size+1)::vs,kw⟩) (PySem.W.InitBack (s.heap.objs.size+1) R)
   { s with heap:=(s.heap.push PySem.W.emptyDict).push (PySem.W.instObj C s.heap.objs.size) }) :
  codeAny (model prog w) A (.call (.ref C) ⟨vs,kw⟩) R s:=by
 obtain⟨hh,g,d,t,os⟩:=s;exact PySem.W.make_core (PySem.W.makes_of X hm) (PySem.W.looks_findIn X hi) (fun self=>PySem.W.bind_fn X self hf) (.inl rfl) h
end
def putF (f:Str) (v:V):List (Str×V)→List (Str×V)
 | []=>[(f,v)]
 | (g,x)::r=>if g=f then(g,v)::r else(g,x)::putF f v r
theorem ZaT (f g:Str) (v:V):∀fs:List (Str×V),(putF f v fs).lookup g=if g=f then some v else fs.lookup g
 | []=>by
  show List.lookup g [(f,v)]=_
  by_cases h:g=f
  ·have hb:(g == f)=true:=beq_iff_eq.mpr h
   simp only [List.lookup,hb,if_pos h]
  ·have hb:(g == f)=false:=beq_eq_false_iff_ne.mpr h
   simp only [List.lookup,hb,if_neg h]
 | (k,x)::r=>by
  have ih:=ZaT f g v r;rw[show putF f v ((k,x)::r)=(if k=f then(k,v)::r else(k,x)::putF f v r) from rfl]
  by_cases hk:k=f
  ·rw[if_pos hk]
   by_cases h:g=k
   ·have hb:(g == k)=true:=beq_iff_eq.mpr h
    simp only [List.lookup,hb,if_pos (h.trans hk)]
   ·have hb:(g == k)=false:=beq_eq_false_iff_ne.mpr h
    simp only [List.lookup,hb,if_neg (fun e:g=f=>h (e.trans hk.symm))]
  ·rw[if_neg hk]
   by_cases h:g=k
   ·have hb:(g == k)=true:=beq_iff_eq.mpr h
    simp only [List.lookup,hb,if_neg (fun e:g=f=>hk (h.symm.trans e))]
   ·have hb:(g == k)=false:=beq_eq_false_iff_ne.mpr h
    simp only [List.lookup,hb];exact ih
theorem Zna (f:Str) (v:V):∀fs:List (Str×V),f∈(putF f v fs).map (·.1)∧∀g,g∈fs.map (·.1)→g∈(putF f v fs).map (·.1)
 | []=>⟨by simp[putF],fun g h=>by simp at h⟩
 | (k,x)::r=>by
  obtain⟨i1,i2⟩:=Zna f v r;rw[show putF f v ((k,x)::r)=(if k=f then(k,v)::r else(k,x)::putF f v r) from rfl]
  by_cases hk:k=f
  ·rw[if_pos hk]
   subst hk;exact⟨by simp,fun g h=>by simpa using h⟩
  ·rw[if_neg hk]
   refine⟨?_,fun g h=>?_⟩
   ·rw[List.map_cons]
    exact List.mem_cons_of_mem _ i1
   ·rw[List.map_cons]at h ⊢
    rcases List.mem_cons.mp h with e | e
    ·exact List.mem_cons.mpr (.inl e)
    ·exact List.mem_cons_of_mem _ (i2 g e)
theorem Znf (f:Str) (v:V):∀fs:List (Str×V),(putF f v fs).length≤fs.length+1
 | []=>by simp[putF]
 | (k,x)::r=>by
  have ih:=Znf f v r;rw[show putF f v ((k,x)::r)=(if k=f then(k,v)::r else(k,x)::putF f v r) from rfl]
  by_cases hk:k=f
  ·rw[if_pos hk,List.length_cons,List.length_cons]; omega
  ·rw[if_neg hk,List.length_cons,List.length_cons]; omega
theorem RelO.some_of {v:V} {o:Option Value} (r:RelO (some v) o):∃u,o=some u∧RelV v u:=by
 cases o with
 | none=>exact(show False from r).elim
 | some u=>exact⟨u,rfl,r⟩
theorem RelO.none_of {o:Option Value} (r:RelO none o):o=none:=by
 cases o with
 | none=>rfl
 | some u=>exact(show False from r).elim
theorem Zvw {v:V} {u:Value} (r:RelV v u):PySem.W.handedIn u=true:=by
 cases v with
 | non=>cases (show u=Value.none from r); rfl
 | bl b=>cases (show u=Value.bool b from r); rfl
 | int i=>obtain⟨t,e⟩:=(show ∃t,u=Value.int i t from r); cases e; rfl
 | str x=>obtain⟨t,e⟩:=(show ∃t,u=Value.str x t from r); cases e; rfl
 | byt b=>obtain⟨t,e⟩:=(show ∃t,u=Value.bytes b t from r); cases e; rfl
 | flt b=>obtain⟨t,e⟩:=(show ∃t,u=Value.float b t from r); cases e; rfl
 | ref a=>cases (show u=Value.ref a from r); rfl
 | ty n=>cases (show u=Value.type n from r); rfl
section
variable {P:Program} {w:World} {H H':Hp} {h h':Heap} {a C dx:Addr} {fs fs':List (Str×V)}
theorem Zpr (hok:HOk P w H h) (e:H a=some (.ins C dx fs)):∃mA,ObjM h a dx C mA∧(∀f,RelO (fs.lookup f) (mA f))∧PySem.Within mA (fs.map (·.1))∧fs.length≤1000∧H dx=some (.own a):=by
 obtain⟨d,z,ne,ob,mA,n,r,q⟩:=(show Zc0 P w H h a (.ins C dx fs) from hok a _ e);exact⟨mA,⟨ob,n,ne⟩,r,q,z,d⟩
end
structure Cls (K:PySem.W.Frag) (C:Addr):Prop where
 pg:PySem.W.plainGet K C Str.empty=true
 hd:PySem.W.hasDictIn K C=true
 po:PySem.W.plainOver K C=true
 sa:PySem.W.findIn K (.ref C) "__setattr__" = some (some (.builtin "object.__setattr__"))
theorem Cls.get {K:PySem.W.Frag} {C:Addr} (c:Cls K C) (f:Str):PySem.W.plainGet K C f=true:=c.pg
def ZbO (K:PySem.W.Frag) (C:Addr) (f:Str):Prop:=PySem.W.findIn K (.ref C) f=some none
theorem ZbO.taker {K:PySem.W.Frag} {C:Addr} {f:Str} (n:ZbO K C f):PySem.W.takerIn K C f=some none:=by
 unfold PySem.W.takerIn;rw[show PySem.W.findIn K (.ref C) f=some none from n];rfl
structure Meth (K:PySem.W.Frag) (C:Addr) (m:Str) (f:Addr):Prop where
 at_:PySem.W.findIn K (.ref C) m=some (some (.ref f))
 fn:PySem.W.isFn K (.ref f)=true
 kp:PySem.W.keepIn K (.ref f)=true
section
variable {X:Cx} {pins:List (Addr×Obj)} {σ:St} {H:Hp} {s:Shared} {a C dx:Addr} {fs:List (Str×V)} {f:Str} {v:V} {A:Around} {E:Value→Shared→Prop}
theorem Zub {b:Bool} {Q:Value→Shared→Prop} (I:Inv X pins σ H s) (e:H a=some (.ins C dx fs)) (c:Cls X.K C) (n:ZbO X.K C f) (l:fs.lookup f=some v)
  (h:∀u s',Inv X pins σ H s'→RelV v u→Q u s'):wpAny (model X.prog X.w) A (getAttr (.ref a) f b) Q E s:=by
 obtain⟨mA,O,r,_,_,_⟩:=Zpr I.hok e;obtain⟨u,hu,ru⟩:=RelO.some_of (v:=v) (o:=mA f) (by rw[←l]; exact r f);exact Zz9 I.kIn O (c.get f) c.hd n hu (Zvw ru) (h u _ (I.tok _) ru)
theorem ZkZ {m:Str} {g:Addr} {pl:Sem Bool} {Q:Value×List Value→Shared→Prop} (I:Inv X pins σ H s) (e:H a=some (.ins C dx fs)) (c:Cls X.K C) (k:Meth X.K C m g) (l:fs.lookup m=none)
  (h:Q (.ref g,[.ref a]) s):wpAny (model X.prog X.w) A (getMethod (.ref a) m pl) Q E s:=by
 obtain⟨mA,O,r,_,_,_⟩:=Zpr I.hok e;have hn:mA m=none:=RelO.none_of (by rw[←l]; exact r m);exact ZxE I.kIn O (c.get m) k.at_ k.fn hn h
theorem ZuI {y:V} {u:Value} {Q:Unit→Shared→Prop} (I:Inv X pins σ H s) (e:H a=some (.ins C dx fs)) (c:Cls X.K C) (n:ZbO X.K C f) (hl:fs.length < 1000) (ry:RelV y u)
  (h:∀s',Inv X pins σ (upd H a (.ins C dx (putF f y fs))) s'→Q () s'):wpAny (model X.prog X.w) A (setAttr (.ref a) f u) Q E s:=by
 obtain⟨mA,O,r,wi,_,ho⟩:=Zpr I.hok e
 have hz:(fs.map (·.1)).length≤sizeLine:=by rw[List.length_map,sizeLine_eq]; omega
 refine ZBi I.kIn O c.sa c.po n.taker c.hd wi hz fun h' O' sb=>h _ ?_;have hd:∃o,h'.get? dx=some o:=let ⟨o,_,_,e',_⟩:=O'.ns; ⟨o,e'⟩;refine I.write (x:=a) (e:=dx) (by rw[e]; exact True.intro) (.inr ho) (fun b q hb z=>(sb.2 b hb).trans z) hd ?_;refine⟨by rw[ZaW O.ne]; exact ho,?_,O.ne,O'.obj,_,O'.ns,fun g=>?_,fun g hg=>?_⟩
 ·have:=Znf f y fs; omega
 ·show RelO ((putF f y fs).lookup g) (if g=f then some u else mA g)
  rw[ZaT]
  by_cases q:g=f
  ·rw[if_pos q,if_pos q]; exact ry
  ·rw[if_neg q,if_neg q]; exact r g
 ·by_cases q:g=f
  ·rw[q]; exact(Zna f y fs).1
  ·refine(Zna f y fs).2 g (wi g fun z=>hg ?_)
   show(if g=f then some u else mA g)=none;rw[if_neg q]; exact z
theorem Inv.made (I:Inv X pins σ H s):Inv X pins σ (upd (upd H s.heap.objs.size (.own (s.heap.objs.size+1))) (s.heap.objs.size+1) (.ins C s.heap.objs.size []))
  { s with heap:=(s.heap.push PySem.W.emptyDict).push (PySem.W.instObj C s.heap.objs.size) }:=by
 have e1:(s.heap.push PySem.W.emptyDict).get? s.heap.objs.size=some PySem.W.emptyDict:=Heap.get?_push_size s.heap rfl
 have e2:((s.heap.push PySem.W.emptyDict).push (PySem.W.instObj C s.heap.objs.size)).get? (s.heap.objs.size+1)=some (PySem.W.instObj C s.heap.objs.size):=by
  have:=Heap.get?_push_size (s.heap.push PySem.W.emptyDict) (o:=PySem.W.instObj C s.heap.objs.size) rfl
  rwa [Heap.size_push]at this
 have e3:(s.heap.push PySem.W.emptyDict).Ns s.heap.objs.size (fun _=>none):=⟨PySem.W.emptyDict,#[],_,e1,rfl,(fun e he=>absurd he (by simp)),fun _=>rfl⟩;have I1:=I.laid (a:=s.heap.objs.size) (o:=.own (s.heap.objs.size+1)) (h':=s.heap.push PySem.W.emptyDict) (t':=s.toks) (fun b u q=>Heap.get?_push_of_some _ q) (Nat.le_refl _) ⟨_,e1⟩;refine I1.laid (a:=s.heap.objs.size+1) (o:=.ins C s.heap.objs.size []) (t':=s.toks) (fun b u q=>Heap.get?_push_of_some _ q) (Nat.le_of_eq (Heap.size_push _ _)) ?_;have ne:s.heap.objs.size≠s.heap.objs.size+1:=Nat.ne_of_lt (Nat.lt_succ_self _);refine⟨by rw[ZaW ne,ZaH],Nat.zero_le _,ne,e2,fun _=>none,(Heap.Ns1.of_empty e3).at fun o q=>Heap.get?_push_of_some _ q,fun _=>True.intro,fun y hy=>absurd rfl hy⟩
theorem Zz0 {prog:Program} {w:World} {env:Env} {e:Expr} {f:Str} {pos:Pos} {s:Shared} {Q:Value→Shared→Prop} (hb:attributeBase e f env (eval e env)=eval e env)
  (h:wpAny (model prog w) A (eval e env) (fun o s₁=>wpAny (model prog w) A (getAttr o f true) Q E s₁) E s):wpAny (model prog w) A (eval (.Attribute e f pos) env) Q E s:=
 Attribute_any_ h (by rw[arm_eval_Attribute,hb])
end
abbrev tFld (K:PySem.W.Frag) (ta:TE) (f:Str):TE:=fun σ H Q=>ta σ H fun x H1=>∃a C dx fs v,x=.ref a∧H1 a=some (.ins C dx fs)∧Cls K C∧ZbO K C f∧fs.lookup f=some v∧Q v H1
abbrev sFld (K:PySem.W.Frag) (ta tv:TE) (f:Str):TS:=fun D σ H=>tv σ H fun y H1=>ta σ H1 fun x H2=>∃a C dx fs,x=.ref a∧H2 a=some (.ins C dx fs)∧Cls K C∧ZbO K C f∧fs.length < 1000∧
 D.nx σ (upd H2 a (.ins C dx (putF f y fs)))
section
variable {X:Cx} {o e value:Expr} {f:Str} {pos pos' tpos:Pos} {ta tv:TE}
theorem Zcy (he:PE X e ta) (hb:attributeBase e f X.env (eval e X.env)=eval e X.env):PE X (.Attribute e f pos) (tFld X.K ta f):=by
 intro pins s σ H Q I h;refine Zz0 hb (thn (he pins s σ H _ I h) fun u s1 ⟨x,H1,I1,rx,a,C,dx,fs,v,ex,ea,c,n,l,q⟩=>?_);subst ex;obtain rfl:u=Value.ref a:=rx;exact Zub I1 ea c n l fun u' s2 I2 ru=>⟨v,H1,I2,ru,q⟩
theorem Zc7 (ha:PE X o ta) (hv:PE X value tv) (hs:swapsWith value (some (.Attribute o f pos')) pos.line X.env=pure false):PS X (.Assign [.Attribute o f pos'] value pos) (sFld X.K ta tv f):=by
 intro pins s σ H D I h;refine plainObj_wpAny_Assign_Attribute (thn (hv pins s σ H _ I h) fun u s1 ⟨y,H1,I1,ry,q⟩=>thn (ha pins s1 σ H1 _ I1 q) fun ov s2 ⟨x,H2,I2,rx,a,C,dx,fs,ex,ea,c,n,l,q2⟩=>?_) hs;subst ex;obtain rfl:ov=Value.ref a:=rx;exact ZuI I2 ea c n l ry fun s3 I3=>⟨σ,_,I3,q2⟩
end
section
variable {X:Cx} {pins:List (Addr×Obj)} {σ:St} {H:Hp} {s:Shared} {A:Around} {E:Value→Shared→Prop} {Q:Value→Shared→Prop} {c:Value} {b:Bool}
inductive TyOf (K:PySem.W.Frag) (H:Hp):V→Value→Prop where
 | non:TyOf K H .non (.type "NoneType")
 | bl (x:Bool):TyOf K H (.bl x) (.type "bool")
 | int (i:Int):TyOf K H (.int i) (.type "int")
 | str (x:Str):TyOf K H (.str x) (.type "str")
 | flt (x:UInt64):TyOf K H (.flt x) (.type "float")
 | lst {a:Addr} {xs:List V} (e:H a=some (.lst xs)):TyOf K H (.ref a) (.type "list")
 | frz {a:Addr} {o:Obj} {xs:List V} (e:H a=some (.frz o (.lst xs))):TyOf K H (.ref a) (.type "list")
 | tup {a:Addr} {xs:List V} (e:H a=some (.tup xs)):TyOf K H (.ref a) (.type "tuple")
 | dK {a:Addr} {kvs:List (Key×V)} (e:H a=some (.dK kvs)):TyOf K H (.ref a) (.type "dict")
 | dT {a:Addr} {kvs:List (List Key×V)} (e:H a=some (.dT kvs)):TyOf K H (.ref a) (.type "dict")
 | ins {a C dx:Addr} {fs:List (Str×V)} (e:H a=some (.ins C dx fs)) (cl:Cls K C) (ha:PySem.W.findIn K (.ref C) "__class__" = some (some (.builtin "object.__class__")))
   (hn:PySem.W.specialIn K (.builtin "object.__class__") "__get__" = some (some (.builtin "getset_descriptor.__get__"))) (htk:PySem.W.takesIn K (.builtin "object.__class__")=some true)
   (hm:PySem.W.mroIn K C (.type "object")=some true):TyOf K H (.ref a) (.ref C)
theorem ZqP {x:V} {u t:Value} (I:Inv X pins σ H s) (rx:RelV x u) (ty:TyOf X.K H x t) (e:PySem.W.kitOne X.K t c=some b) (h:∀tk,Q (.bool b) { s with toks:=tk }) :
  wpAny (model X.prog X.w) A (call (.builtin "isinstance") [u,c]) Q E s:=by
 cases ty with
 | non=>cases (show u=Value.none from rx); exact PySem.W.kia_one PySem.W.kitx_none I.kIn True.intro e (fun z=>nomatch z) h
 | bl y=>cases (show u=Value.bool y from rx); exact PySem.W.kia_one PySem.W.kitx_bool I.kIn True.intro e (fun z=>nomatch z) h
 | int i=>obtain⟨t,q⟩:=(show ∃t,u=Value.int i t from rx); cases q; exact PySem.W.kia_one PySem.W.kitx_int I.kIn True.intro e (fun z=>nomatch z) h
 | str y=>obtain⟨t,q⟩:=(show ∃t,u=Value.str y t from rx); cases q; exact PySem.W.kia_one PySem.W.kitx_str I.kIn True.intro e (fun z=>nomatch z) h
 | flt y=>obtain⟨t,q⟩:=(show ∃t,u=Value.float y t from rx); cases q; exact PySem.W.kia_one PySem.W.kitx_float I.kIn True.intro e (fun z=>nomatch z) h
 | @lst a xs ea=>
  cases (show u=Value.ref a from rx)
  obtain⟨_,_,n,_,h1⟩:=(show Zc0 X.prog X.w H s.heap a (.lst xs) from I.hok a _ ea);exact PySem.W.kia_one PySem.W.kitx_list I.kIn ⟨_,h1,rfl⟩ e (fun z=>nomatch z) h
 | @frz a ob xs ea=>
  cases (show u=Value.ref a from rx)
  obtain⟨_,_,_,n,_,h1⟩:=(show Zc0 X.prog X.w H s.heap a (.frz ob (.lst xs)) from I.hok a _ ea);exact PySem.W.kia_one PySem.W.kitx_list I.kIn ⟨_,h1,rfl⟩ e (fun z=>nomatch z) h
 | @tup a xs ea=>
  cases (show u=Value.ref a from rx)
  obtain⟨_,_,_,p⟩:=(show Zc0 X.prog X.w H s.heap a (.tup xs) from I.hok a _ ea);obtain⟨o,h1,h2,_⟩:=p;exact PySem.W.kia_one PySem.W.kitx_tuple I.kIn ⟨o,h1,h2⟩ e (fun z=>nomatch z) h
 | @dK a kvs ea=>
  cases (show u=Value.ref a from rx)
  obtain⟨_,_,vs,_,p⟩:=(show Zc0 X.prog X.w H s.heap a (.dK kvs) from I.hok a _ ea);obtain⟨o,es,ep,h1,h2,_⟩:=p;exact PySem.W.kia_one PySem.W.kitx_dict I.kIn ⟨o,h1,h2.1⟩ e (fun z=>nomatch z) h
 | @dT a kvs ea=>
  cases (show u=Value.ref a from rx)
  obtain⟨_,_,xs,_,o,es,ep,h1,h2,_⟩:=(show Zc0 X.prog X.w H s.heap a (.dT kvs) from I.hok a _ ea);exact PySem.W.kia_one PySem.W.kitx_dict I.kIn ⟨o,h1,h2.1⟩ e (fun z=>nomatch z) h
 | @ins a C dx fs ea cl ha hn htk hm=>
  cases (show u=Value.ref a from rx)
  obtain⟨mA,O,_⟩:=Zpr I.hok ea;obtain⟨od,J,_⟩:=O.look;exact PySem.W.kia_one (PySem.W.kitx_own (cl.get _) cl.hd ha hn htk hm) I.kIn J e (fun z=>nomatch z) h
end
end L2
namespace L2
open PySem PySem.Spec PyProof.Rows
structure Room (k:Nat) (A:Around):Prop where
 hd:A.handled=none
 dp:A.depth+3 * k+5 < recursionLimit
 un:A.units+16 * k+200 < cLine
theorem Room.mono {j k:Nat} {A:Around} (r:Room k A) (h:j≤k):Room j A:=⟨r.hd,by have:=r.dp; omega,by have:=r.un; omega⟩
theorem Room.deeper {k:Nat} {A:Around} (r:Room (k+1) A) (env:Env):Room k (A.deeper env):=
 ⟨r.hd,by have:=r.dp; show A.depth+1+3 * k+5 < _; omega,by have:=r.un; show A.units+3+16 * k+200 < _; omega⟩
theorem Zuq {A:Around} {C:Addr} {us:List Value} {kw:List (Str×Value)}:(A.under (.builtin "type.__call__" ⟨.ref C::us,kw⟩)).depth=A.depth+1:=by
 first | rfl | simp[Around.under,Code.weight,Code.isCreation,Code.isGuard,Code.isCaller,Code.frames,Code.isFrame,guardIds]
theorem Zur {A:Around} {C:Addr} {us:List Value} {kw:List (Str×Value)}:(A.under (.builtin "type.__call__" ⟨.ref C::us,kw⟩)).units=A.units+1:=by
 first | rfl | simp[Around.under,Code.cUnits,Code.frames,Code.isFrame]
theorem Room.make {k:Nat} {A:Around} (r:Room (k+1) A) (C:Addr) (us:List Value) (kw:List (Str×Value)):Room k (A.under (.builtin "type.__call__" ⟨.ref C::us,kw⟩)):=
 ⟨r.hd,by have:=r.dp; rw[Zuq]; omega,by have:=r.un; rw[Zur]; omega⟩
theorem Room.depth {k:Nat} {A:Around} (r:Room k A):A.depth < recursionLimit:=by have:=r.dp; omega
theorem Room.units {k:Nat} {A:Around} (r:Room k A):A.units+64 < cLine:=by have:=r.un; omega
abbrev tNil:TA:=fun _ H Q=>Q [] H
abbrev Zow (ta:TE) (tr:TA):TA:=fun σ H Q=>ta σ H fun x H1=>tr σ H1 fun xs H2=>Q (x::xs) H2
section
variable {X:Cx} {e:Expr} {es:List Expr} {te:TE} {t:TA} {pos:Pos}
theorem Zab:PA X [] tNil:=fun _ _ _ _ H Q I h=>Calls.spliced_nil ⟨[],H,I,.nil,h⟩
theorem Zaa (ha:PE X e te) (hr:PA X es t) (hs:starEach (e::es) X.env=(false,eval e X.env)::starEach es X.env:=by rfl):PA X (e::es) (Zow te t):=by
 intro pos pins s σ H Q I h;rw[hs];show wpAny _ _ (spliced ((false,eval e X.env)::backTo pos (starEach es X.env))) _ _ s;refine Calls.spliced_cons (thn (ha pins s σ H _ I h) fun u s1 ⟨x,H1,I1,r1,q1⟩=>?_);exact thn (hr pos pins s1 σ H1 _ I1 q1) fun us s2 ⟨xs,H2,I2,r2,q2⟩=>⟨x::xs,H2,I2,.cons r1 r2,q2⟩
def tTup (t:TA):TE:=fun σ H Q=>t σ H fun xs H1=>xs.length≤sizeLine∧∀p,H1 p=none→Q (.ref p) (upd H1 p (.tup xs))
def tLst (t:TA):TE:=fun σ H Q=>t σ H fun xs H1=>xs.length≤sizeLine∧∀p,H1 p=none→Q (.ref p) (upd H1 p (.lst xs))
theorem Zjc {x1} (h:PA X es t):PE X (.Tuple es x1 pos) (tTup t):=by
 intro pins s σ H Q I hq;refine wpAny_Tuple_spliced (thn (h pos pins s σ H _ I hq) fun us s1 ⟨xs,H1,I1,r,z,q⟩=>⟨by rw[←r.length]; exact z,?_⟩);have hf:H1 s1.heap.objs.size=none:=I1.hok.fresh (Nat.le_refl _);refine⟨.ref s1.heap.objs.size,upd H1 s1.heap.objs.size (.tup xs),I1.laid (t':=s1.toks) (fun b u e=>Heap.get?_push_of_some _ e) (Nat.le_refl _) ?_,rfl,q _ hf⟩;exact⟨z,us,r,⟨_,Heap.get?_push_size _ rfl,rfl,_,rfl⟩⟩
theorem Zaq (h:PA X es t):PE X (.List es pos) (tLst t):=by
 intro pins s σ H Q I hq;refine wpAny_List_spliced (thn (h pos pins s σ H _ I hq) fun us s1 ⟨xs,H1,I1,r,z,q⟩=>⟨by rw[←r.length]; exact z,?_⟩);have hf:H1 s1.heap.objs.size=none:=I1.hok.fresh (Nat.le_refl _);refine⟨.ref s1.heap.objs.size,upd H1 s1.heap.objs.size (.lst xs),I1.laid (t':=s1.toks) (fun b u e=>Heap.get?_push_of_some _ e) (Nat.le_refl _) ?_,rfl,q _ hf⟩;exact⟨z,us,0,r,Heap.get?_push_size _ rfl⟩
end
abbrev Sp:=List V→Hp→VK→XK→Prop
abbrev CXT:=List Env→Hp→Shared→XK→Value→Shared→Prop
structure Env0 (P:Program) (w:World) (K:PySem.W.Frag) (mg:Str→Option Value) (base:Heap) (A:Around) (outer:List Env) (s:Shared) (H:Hp):Prop where
 frames:A.frames=some outer
 mod:Mod K mg base
 bs:∀b o,base.get? b=some o→s.heap.get? b=some o∧H b=none
 bsz:base.objs.size≤s.heap.objs.size
 funs:s.heap.FunFrames base outer
 frf:∀b∈frs outer,H b=none
 hok:HOk P w H s.heap
 bare:AllBare s.gens
def CE (outer:List Env) (P:Program) (w:World) (H:Hp) (s:Shared) (Q:VK) (u:Value) (s':Shared):Prop:=
 ∃v H',s'.os=s.os∧AllBare s'.gens∧Un (frs outer) [] H H' s.heap s'.heap∧HOk P w H' s'.heap∧RelV v u∧Q v H'
def CR (CX:CXT) (outer:List Env) (P:Program) (w:World) (H:Hp) (s:Shared) (Q:VK) (E:XK) (r:Result) (s':Shared):Prop:=
 match r with
 | .ok (.ret u)=>CE outer P w H s Q u s'
 | .ok _=>False
 | .error e=>CX outer H s E e s'
structure FnOk (P:Program) (w:World) (K:PySem.W.Frag) (mg:Str→Option Value) (base:Heap) (CX:CXT) (k:Nat) (f:Addr) (fd:FuncData) (ps:List Str) (sp:Sp):Prop where
 len:∀vs H Q E,sp vs H Q E→vs.length=ps.length
 run:∀(A:Around) (outer:List Env) (s:Shared) (H:Hp) (args:Args) (us:List Value) (vs:List V) (Q:VK) (E:XK),Room k A→Env0 P w K mg base A outer s H→BindsTo s fd args (ps.zip us)→Vals vs us→sp vs H Q E→
  codeAny (model P w) A (.call (.ref f) args) (CR CX outer P w H s Q E) s
theorem Env0.make {P:Program} {w:World} {K:PySem.W.Frag} {mg:Str→Option Value} {base:Heap} {A:Around} {outer:List Env} {s:Shared} {H:Hp} (e:Env0 P w K mg base A outer s H) (C:Addr) (us:List Value) (kw:List (Str×Value)) :
  Env0 P w K mg base (A.under (.builtin "type.__call__" ⟨.ref C::us,kw⟩)) outer s H:=⟨by first | exact e.frames | (simpa [Around.under,Code.envs,Code.isFrame,pushEnvs] using e.frames),e.mod,e.bs,e.bsz,e.funs,e.frf,e.hok,e.bare⟩
section
variable {X:Cx} {pins:List (Addr×Obj)} {σ:St} {H:Hp} {s s':Shared}
theorem Inv.env0 (I:Inv X pins σ H s):Env0 X.prog X.w X.K X.mg X.base X.A X.stack s H:=
 ⟨I.ok.frames,I.ok.mod,I.bs,Nat.le_trans I.ok.bsz I.sz,I.stack,I.stkFree,I.hok,I.bare⟩
theorem Inv.after {Q:VK} {u:Value} (I:Inv X pins σ H s) (h:CE X.stack X.prog X.w H s Q u s'):EP X pins σ Q u s':=by
 obtain⟨v,H',os,bare,un,hok,r,q⟩:=h;obtain⟨hh,g,d,t,os'⟩:=s';obtain rfl:os'=s.os:=os;exact⟨v,H',I.call (h':=hh) (g':=g) (d':=d) (t':=t) (ch:=[]) un hok bare (fun b z=>absurd z (by simp)),r,q⟩
end
def ZBu (sp:Sp) (dvs:List V) (E:XK) (t:TA):TE:=fun σ H Q=>t σ H fun vs H1=>sp (vs++dvs) H1 Q E
def ZyK (C:Addr) (sp:Sp) (dvs:List V) (E:XK) (t:TA):TE:=fun σ H Q=>t σ H fun vs H1=>∀x dx,H1 x=none→H1 dx=none→dx≠x→
 sp (.ref x::(vs++dvs)) (upd (upd H1 dx (.own x)) x (.ins C dx [])) (fun v H2=>v=.non∧Q (.ref x) H2) E
def ZaL (K:PySem.W.Frag) (fd:FuncData) (ps:List Str) (ds:List Value):Prop:=
 ∀(s:Shared) (us:List Value),K.In s.heap→(us++ds).length=ps.length→BindsTo s fd ⟨us,[]⟩ (ps.zip (us++ds))
theorem ZaL.all {K:PySem.W.Frag} {fd:FuncData} {ps:List Str} (h:∀us:List Value,us.length=ps.length→bindArgs fd ⟨us,[]⟩=pure (ps.zip us)):ZaL K fd ps []:=fun s us _ hl=>by
 rw[List.append_nil]at hl ⊢;exact .of_eq (h us hl)
def Zi0 (CX:CXT) (X:Cx) (E:XK):Prop:=∀(pins:List (Addr×Obj)) (σ:St) (H:Hp) (s:Shared) (e:Value) (s':Shared),Inv X pins σ H s→CX X.stack H s E e s'→X.xe e s'
section
variable {X:Cx} {CX:CXT} {k:Nat} {f C:Addr} {fd:FuncData} {ps:List Str} {sp:Sp} {dvs:List V} {ds:List Value} {E:XK} {x m:Str} {p pos apos:Pos} {e o:Expr} {es:List Expr} {ta:TE} {t:TA}
theorem ZtJ {pins:List (Addr×Obj)} {σ:St} {H:Hp} {s:Shared} {Q:VK} {us:List Value} {vs:List V} (F:FnOk X.prog X.w X.K X.mg X.base CX k f fd ps sp) (hr:Room k X.A) (hb:ZaL X.K fd ps ds) (hd:Vals dvs ds) (hx:Zi0 CX X E)
  (I:Inv X pins σ H s) (r:Vals vs us) (h:sp (vs++dvs) H Q E):wpAny (model X.prog X.w) X.A (call (.ref f) us) (EP X pins σ Q) X.xe s:=by
 have r2:Vals (vs++dvs) (us++ds):=r.append hd
 have hl:(us++ds).length=ps.length:=by rw[←r2.length]; exact F.len _ _ _ _ h
 refine wpAny_call (codeAny_mono (F.run X.A X.stack s H ⟨us,[]⟩ (us++ds) (vs++dvs) Q E hr I.env0 (hb s us I.kIn hl) r2 h) fun r s' hq=>?_)
 cases r with
 | error e=>exact hx pins σ H s e s' I hq
 | ok fl=>
  cases fl with
  | ret u=>exact I.after hq
  | next=>exact False.elim hq
  | brk=>exact False.elim hq
  | cont=>exact False.elim hq
theorem ZsQ (F:FnOk X.prog X.w X.K X.mg X.base CX k f fd ps sp) (hr:Room k X.A) (hg:Gl X x) (hm:X.mg x=some (.ref f)) (hk:PySem.W.keepIn X.K (.ref f)=true) (hb:ZaL X.K fd ps ds) (hd:Vals dvs ds) (hx:Zi0 CX X E)
  (ha:PA X (e::es) t) (hdb:(x == ("__debug__" : Str))=false:=by decide) (he:starEach (e::es) X.env=(false,eval e X.env)::starEach es X.env:=by rfl) (hpl:(backTo pos (starEach es X.env)).any (·.1)=false:=by rfl) :
  PE X (.Call (.Name x p) (e::es) [] pos) (ZBu sp dvs E t):=by
 intro pins s σ H Q I h;refine wpAny_Call_Name_kw (ZhZ I hg hm ?_ hdb);refine PySem.W.callWith_K (h₀:=X.base) I.ok.mod.kin hk (thn (ha pos pins s σ H _ I h) fun us s1 ⟨vs,H1,I1,r,q⟩=>⟨I1.kIn,?_⟩) he hpl;exact ZtJ F hr hb hd hx I1 r q
structure Mk (K:PySem.W.Frag) (C f:Addr):Prop where
 makes:PySem.W.makesIn K C=true
 init:PySem.W.findIn K (.ref C) "__init__" = some (some (.ref f))
 fn:PySem.W.isFn K (.ref f)=true
 kp:PySem.W.keepIn K (.ref C)=true
theorem ZtK {pins:List (Addr×Obj)} {σ:St} {H:Hp} {s:Shared} {Q:VK} {us:List Value} {vs:List V} (M:Mk X.K C f) (F:FnOk X.prog X.w X.K X.mg X.base CX k f fd ps sp) (hr:Room (k+1) X.A) (hb:ZaL X.K fd ps ds) (hd:Vals dvs ds)
  (hx:Zi0 CX X E) (I:Inv X pins σ H s) (r:Vals vs us)
  (h:∀x dx,H x=none→H dx=none→dx≠x→sp (.ref x::(vs++dvs)) (upd (upd H dx (.own x)) x (.ins C dx [])) (fun v H2=>v=.non∧Q (.ref x) H2) E) :
  wpAny (model X.prog X.w) X.A (call (.ref C) us) (EP X pins σ Q) X.xe s:=by
 have hq:=h (s.heap.objs.size+1) s.heap.objs.size (I.hok.fresh (Nat.le_succ _)) (I.hok.fresh (Nat.le_refl _)) (Nat.ne_of_lt (Nat.lt_succ_self _));have I2:=Inv.made (C:=C) I;have r2:Vals (V.ref (s.heap.objs.size+1)::(vs++dvs)) (Value.ref (s.heap.objs.size+1)::(us++ds)):=.cons rfl (r.append hd)
 have hl:(Value.ref (s.heap.objs.size+1)::us++ds).length=ps.length:=by
  have e:=r2.length;rw[F.len _ _ _ _ hq]at e;exact e.symm
 refine wpAny_call (Zx1 (f:=f) I.kIn M.makes M.init (beq_iff_eq.mp M.fn) (codeAny_mono (F.run _ X.stack _ _ ⟨Value.ref (s.heap.objs.size+1)::us,[]⟩ (Value.ref (s.heap.objs.size+1)::(us++ds)) _ _ E (hr.make C us [])
  (I2.env0.make C us []) (hb _ (Value.ref (s.heap.objs.size+1)::us) I2.kIn hl) r2 hq) fun r s' hq'=>?_))
 cases r with
 | error e=>exact hx pins σ _ _ e s' I2 hq'
 | ok fl=>
  cases fl with
  | ret u=>
   obtain⟨v,H',I3,rv,ev,q3⟩:=I2.after hq';subst ev;exact⟨rv,⟨V.ref (s.heap.objs.size+1),H',I3,rfl,q3⟩⟩
  | next=>exact False.elim hq'
  | brk=>exact False.elim hq'
  | cont=>exact False.elim hq'
theorem ZAX (M:Mk X.K C f) (F:FnOk X.prog X.w X.K X.mg X.base CX k f fd ps sp) (hr:Room (k+1) X.A) (hg:Gl X x) (hm:X.mg x=some (.ref C)) (hb:ZaL X.K fd ps ds) (hd:Vals dvs ds) (hx:Zi0 CX X E)
  (ha:PA X (e::es) t) (hdb:(x == ("__debug__" : Str))=false:=by decide) (he:starEach (e::es) X.env=(false,eval e X.env)::starEach es X.env:=by rfl) (hpl:(backTo pos (starEach es X.env)).any (·.1)=false:=by rfl) :
  PE X (.Call (.Name x p) (e::es) [] pos) (ZyK C sp dvs E t):=by
 intro pins s σ H Q I h;refine wpAny_Call_Name_kw (ZhZ I hg hm ?_ hdb);refine PySem.W.callWith_K (h₀:=X.base) I.ok.mod.kin M.kp (thn (ha pos pins s σ H _ I h) fun us s1 ⟨vs,H1,I1,r,q⟩=>⟨I1.kIn,?_⟩) he hpl;exact ZtK M F hr hb hd hx I1 r q
theorem Zyf (M:Mk X.K C f) (F:FnOk X.prog X.w X.K X.mg X.base CX k f fd ps sp) (hr:Room (k+1) X.A) (hg:Gl X x) (hm:X.mg x=some (.ref C)) (hb:ZaL X.K fd ps ds) (hd:Vals dvs ds) (hx:Zi0 CX X E)
  (hdb:(x == ("__debug__" : Str))=false:=by decide):PE X (.Call (.Name x p) [] [] pos) (ZyK C sp dvs E tNil):=by
 intro pins s σ H Q I h;refine wpAny_Call_Name_kw (ZhZ I hg hm ?_ hdb);exact PySem.W.callWith_K0 I.kIn M.kp (ZtK (us:=[]) M F hr hb hd hx I .nil h)
end
section
variable {X:Cx} {CX:CXT} {k:Nat} {f C:Addr} {fd:FuncData} {ps ks:List Str} {sp:Sp} {E:XK} {x m:Str} {p pos apos kpos:Pos} {e o:Expr} {es:List Expr} {kws:List Keyword} {te ta:TE} {t tk:TA} {nm:Option Str}
variable {g:List Value→List Value→List Value} {gV:List V→List V→List V}
end
structure FnScope (N P:List Str) (sc:Scope):Prop where
 kind:sc.kind=.function
 co:sc.isCoroutine=false
 gen:sc.isGenerator=false
 nd:N.Nodup
 pre:N.take P.length=P
 par:∀x∈P,sc.names.lookup x=some .local∨sc.names.lookup x=some .cell
 nofree:∀y∈sc.names,y.2≠.free
theorem Zqw {kindOf:Str→Option NameKind} {x:Str}:∀{binds:List (Str×Value)} {m:Str→Option Value},(∀v,(x,v)∉binds)→bindL kindOf binds m x=m x
 | [],_,_=>rfl
 | (n,v)::r,m,h=>by
  unfold bindL;rw[Zqw fun w hw=>h w (List.mem_cons_of_mem _ hw)]
  split
  ·have:x≠n:=by rintro rfl; exact h v List.mem_cons_self
   simp[this]
  ·rfl
theorem Zqu {kindOf:Str→Option NameKind} {x:Str}:∀{binds:List (Str×Value)} {m:Str→Option Value},(∀v,(x,v)∉binds)→bindC kindOf binds m x=m x
 | [],_,_=>rfl
 | (n,v)::r,m,h=>by
  unfold bindC;rw[Zqu fun w hw=>h w (List.mem_cons_of_mem _ hw)]
  split
  ·rfl
  ·have:x≠n:=by rintro rfl; exact h v List.mem_cons_self
   simp[this]
theorem Zqv {kindOf:Str→Option NameKind} {x:Str} {v:Value}:∀{P:List Str} {vs:List Value} {i:Nat} {m:Str→Option Value},P.Nodup→P[i]?=some x→vs[i]?=some v→kindOf x=some .local→
  bindL kindOf (P.zip vs) m x=some v
 | [],_,_,_,_,h,_,_=>by simp at h
 | _::_,[],_,_,_,_,h,_=>by simp at h
 | p::P,w::vs,0,m,nd,h1,h2,hk=>by
  simp at h1 h2; subst h1; subst h2;show bindL kindOf ((p,w)::P.zip vs) m p=_;unfold bindL;rw[Zqw fun v hv=>(List.nodup_cons.mp nd).1 (List.of_mem_zip hv).1,if_pos hk];simp
 | p::P,w::vs,i+1,m,nd,h1,h2,hk=>by
  show bindL kindOf ((p,w)::P.zip vs) m x=_;unfold bindL;exact Zqv (i:=i) (List.nodup_cons.mp nd).2 (by simpa using h1) (by simpa using h2) hk
theorem Zqt {kindOf:Str→Option NameKind} {x:Str} {v:Value}:∀{P:List Str} {vs:List Value} {i:Nat} {m:Str→Option Value},P.Nodup→P[i]?=some x→vs[i]?=some v→kindOf x≠some .local→
  bindC kindOf (P.zip vs) m x=some v
 | [],_,_,_,_,h,_,_=>by simp at h
 | _::_,[],_,_,_,_,h,_=>by simp at h
 | p::P,w::vs,0,m,nd,h1,h2,hk=>by
  simp at h1 h2; subst h1; subst h2;show bindC kindOf ((p,w)::P.zip vs) m p=_;unfold bindC;rw[Zqu fun v hv=>(List.nodup_cons.mp nd).1 (List.of_mem_zip hv).1,if_neg hk];simp
 | p::P,w::vs,i+1,m,nd,h1,h2,hk=>by
  show bindC kindOf ((p,w)::P.zip vs) m x=_;unfold bindC;exact Zqt (i:=i) (List.nodup_cons.mp nd).2 (by simpa using h1) (by simpa using h2) hk
def start (N:List Str) (vs:List V):St:=vs.map some++List.replicate (N.length - vs.length) none
def cxOf (CX:CXT) (P:Program) (w:World) (K:PySem.W.Frag) (mg:Str→Option Value) (base:Heap) (N:List Str) (qual:Str) (scope:Scope) (f:Addr) (cd:Value) (A:Around) (outer:List Env) (s:Shared) (H:Hp) (E:XK):Cx where
 prog:=P
 w:=w
 K:=K
 mg:=mg
 base:=base
 A:=A.deeper (envOfC qual scope s.heap.objs.size f cd)
 N:=N
 s₀:=s
 H₀:=H
 env:=envOfC qual scope s.heap.objs.size f cd
 outer:=outer
 stack:=envOfC qual scope s.heap.objs.size f cd::outer
 ex:=[]
 calm:=true
 fn:=fun _=>true
 pn:=[]
 xe:=fun e s'=>wpAny (model P w) (A.deeper (envOfC qual scope s.heap.objs.size f cd)) (leaving (envOfC qual scope s.heap.objs.size f cd) e) (fun _ s''=>CX outer H s E e s'') (fun e' s''=>CX outer H s E e' s'') s'
theorem Ztc {sc:Scope} {n:Nat} {x:Str} (h:sc.names.lookup x=some .cell):∃c,(cellsFrom n sc.names []).lookup x=some c:=by
 have q:=PySem.W.cellsFrom_some sc.names n [] (.inl h);exact Option.isSome_iff_exists.mp q
theorem ZqO {CX:CXT} {P:Program} {w:World} {K:PySem.W.Frag} {mg:Str→Option Value} {base:Heap} {N ps:List Str} {qual:Str} {scope:Scope} {f:Addr} {cd:Value} {A:Around} {outer:List Env} {s s1:Shared} {H:Hp} {E:XK} {us:List Value} {vs:List V}
  (S:FnScope N ps scope) (hd:A.handled=none) (e0:Env0 P w K mg base A outer s H) (hl:vs.length=ps.length) (r:Vals vs us)
  (x:InCallC s s.heap.objs.size (bindL (envOfC qual scope s.heap.objs.size f cd).kindOf (ps.zip us) fun _=>none) (cellsFrom (s.heap.objs.size+1) scope.names []) (bindC (envOfC qual scope s.heap.objs.size f cd).kindOf (ps.zip us) fun _=>none) s1) :
  Inv (cxOf CX P w K mg base N qual scope f cd A outer s H E) [] (start N vs) H s1:=by
 have hpl:ps.length≤N.length:=by have:=congrArg List.length S.pre; rw[List.length_take]at this; omega
 obtain⟨h1,tk,rfl,hk⟩:=x.done;have noA:∀b:Addr,b∉(cxOf CX P w K mg base N qual scope f cd A outer s H E).ex:=fun b z=>absurd (show b∈([]:List Addr) from z) (by simp)
 refine⟨⟨e0.mod,S.kind,rfl,rfl,Nat.le_refl _,fun y z c h1 h2=>?_,fun y hy=>?_,fun y c _ h=>?_,fun _=>hd,Around.frames_deeper e0.frames,.inr ⟨rfl,rfl⟩,fun b z=>absurd z (noA b),e0.bs,e0.bsz,fun b _ _=>noA b,fun b z=>absurd z (noA b),e0.funs,e0.frf⟩,
  rfl,e0.bare,Un.kept hk,⟨_,x.toInCall.ns,fun i y v h1 h2 h3=>?_⟩,fun y c h=>⟨_,x.cell y c h⟩,e0.hok.fresh (Nat.le_refl _),fun y c h=>?_,fun p hp=>absurd (show p∈([]:List (Addr×Obj)) from hp) (by simp),e0.hok.kept hk,?_⟩
 ·exact name_of_addr x.apart (PySem.mem_of_lookup h1) (PySem.mem_of_lookup h2)
 ·have hy:scope.names.lookup y=some .cell∨scope.names.lookup y=some .free:=hy
  rcases hy with hy | hy
  ·exact Ztc hy
  ·exact absurd rfl (S.nofree _ (PySem.mem_of_lookup hy))
 ·exact Nat.le_of_lt (x.above y c (PySem.mem_of_lookup h))
 ·have hi:i < vs.length:=by
   unfold start at h2
   by_cases hi:i < vs.length
   ·exact hi
   ·rw[List.getElem?_append_right (by simpa using hi)]at h2
    rw[List.getElem?_replicate]at h2
    split at h2 <;> cases h2
  have ha:vs[i]?=some v:=by
   unfold start at h2;rw[List.getElem?_append_left (by simpa using hi),List.getElem?_map]at h2
   cases e:vs[i]? with
   | none=>rw[e]at h2; cases h2
   | some a=>rw[e]at h2; cases h2; rfl
  obtain⟨u,hu,rv⟩:=r.get ha
  have hp:ps[i]?=some y:=by
   rw[←S.pre,List.getElem?_take_of_lt (by omega)]; exact h1
  have ndP:ps.Nodup:=by rw[←S.pre]; exact S.nd.sublist (List.take_sublist _ _)
  refine⟨u,rv,?_⟩
  rcases S.par y (List.mem_of_getElem? hp) with k | k
  ·exact .inl ⟨k,Zqv ndP hp hu k⟩
  ·obtain⟨c,e⟩:=Ztc (n:=s.heap.objs.size+1) k
   refine .inr ⟨.inl k,c,e,?_⟩;have q:=x.cell y c e;rw[Zqt ndP hp hu (by show scope.names.lookup y≠_; rw[k]; decide)]at q;exact q
 ·exact e0.hok.fresh (Nat.le_of_lt (x.above y c (PySem.mem_of_lookup h)))
 ·unfold start
  show _=N.length;rw[List.length_append,List.length_map,List.length_replicate];omega
theorem ZB3 {CX:CXT} {P:Program} {w:World} {K:PySem.W.Frag} {mg:Str→Option Value} {base:Heap} {k:Nat} {f:Addr} {name qual:Str} {params:Arguments} {body:List Stmt} {scope:Scope} {dV kV doc pm cdv ct oc:Value} {an od:Option Addr}
  {osl:Array (Option Value)} {N ps:List Str} {sp:Sp} (lk:K.lookup f=some ⟨oc,od,.func (PySem.W.fnOf name qual params body scope dV kV doc pm an cdv ct),osl⟩) (hcd:PySem.W.codeIn K cdv qual=true) (S:FnScope N ps scope)
  (len:∀vs H Q E,sp vs H Q E→vs.length=ps.length)
  (hbody:∀(A:Around) (outer:List Env) (s:Shared) (H:Hp) (vs:List V) (Q:VK) (E:XK),Room k (A.deeper (envOfC qual scope s.heap.objs.size f cdv))→sp vs H Q E→
   ∃t,PSs (cxOf CX P w K mg base N qual scope f cdv A outer s H E) body t∧t { nx:=fun _ H'=>Q .non H',rt:=Q } (start N vs) H) :
  FnOk P w K mg base CX (k+1) f (PySem.W.fnOf name qual params body scope dV kV doc pm an cdv ct) ps sp:=by
 refine⟨len,fun A outer s H args us vs Q E hr e0 hb r hsp=>?_⟩;have hl:=len _ _ _ _ hsp;have KX:K.In s.heap:=e0.mod.kin.keeps fun b o e=>(e0.bs b o e).1;have lim:s.heap.NoLimit:=e0.mod.nolimit.keeps fun b o e=>(e0.bs b o e).1
 have hkind:∀y∈ps.zip us,scope.names.lookup y.1=some .local∨(scope.names.lookup y.1=some .cell∧((cellsFrom (s.heap.objs.size+1) scope.names []).lookup y.1).isSome=true):=fun⟨n,v⟩ hy=>by
  rcases S.par n (List.of_mem_zip hy).1 with q | q
  ·exact .inl q
  ·exact .inr ⟨q,PySem.W.cellsFrom_some _ _ _ (.inl q)⟩
 refine codeAny_call_function hr.depth (KX _ _ lk) rfl S.co S.gen rfl (PySem.W.codeRec_of KX hcd) (hb _ _ _ _ ?_);refine wpAny_newFunctionEnv_cells S.kind hkind fun env he s1 x=>?_;subst he;refine⟨lim.keeps x.toInCall.keep,codeAny_func ?_⟩;obtain⟨t,ht,hq⟩:=hbody A outer s H vs Q E (hr.deeper _) hsp;have I:Inv (cxOf CX P w K mg base N qual scope f cdv A outer s H E) [] (start N vs) H s1:=ZqO S hr.hd e0 hl r x;refine wpAny_mono (ht [] s1 (start N vs) H _ I hq) (fun fl s' hs=>?_) fun e s' hs=>hs
 have fin:∀{σ':St} {H':Hp} {v:V} {u:Value},Inv (cxOf CX P w K mg base N qual scope f cdv A outer s H E) [] σ' H' s'→RelV v u→Q v H'→CE outer P w H s Q u s':=
  fun {σ' H' v u} J rv q=>⟨v,H',J.os,J.bare,J.base,J.hok,rv,q⟩
 cases fl with
 | ret u=>
  obtain⟨v,σ',H',J,rv,q⟩:=hs;exact fin J rv q
 | next=>
  obtain⟨σ',H',J,q⟩:=hs;exact fin (v:=V.non) (u:=Value.none) J rfl q
 | brk=>
  obtain⟨_,_,_,q⟩:=hs;exact False.elim q
 | cont=>
  obtain⟨_,_,_,q⟩:=hs;exact False.elim q
end L2
namespace L2
open PySem PySem.Spec PyProof.Rows
section
variable {X:Cx} {x:Str} {p pos:Pos} {e:Expr} {es:List Expr} {t:TA} {id T:String} {r:List V→Hp→VK→Prop}
abbrev tCB (r:List V→Hp→VK→Prop) (t:TA):TE:=fun σ H Q=>t σ H fun vs H1=>r vs H1 Q
theorem Zaw (hc:ZiP X (.builtin id) r) (hg:Gl X x) (hm:X.mg x=none) (hv:bootBuiltins x=some (.builtin id)) (ha:PA X (e::es) t) (hn:x≠"__name__":=by decide) (hdb:(x == ("__debug__" : Str))=false:=by decide)
  (he:starEach (e::es) X.env=(false,eval e X.env)::starEach es X.env:=by rfl) (hpl:(backTo pos (starEach es X.env)).any (·.1)=false:=by rfl):PE X (.Call (.Name x p) (e::es) [] pos) (tCB r t):=by
 intro pins s σ H Q I h;refine wpAny_Call_Name_kw (ZoJ I hg hm hv ?_ hn hdb);exact PyProof.Rows.callWith_builtin1 (thn (ha pos pins s σ H _ I h) fun us s1 ⟨vs,H1,I1,r1,q1⟩=>hc pins s1 σ H1 vs us Q I1 r1 q1) he hpl
theorem ZcH (hc:ZiP X (.type T) r) (hg:Gl X x) (hm:X.mg x=none) (hv:bootBuiltins x=some (.type T)) (ha:PA X (e::es) t) (hn:x≠"__name__":=by decide) (hdb:(x == ("__debug__" : Str))=false:=by decide)
  (he:starEach (e::es) X.env=(false,eval e X.env)::starEach es X.env:=by rfl) (hpl:(backTo pos (starEach es X.env)).any (·.1)=false:=by rfl):PE X (.Call (.Name x p) (e::es) [] pos) (tCB r t):=by
 intro pins s σ H Q I h;refine wpAny_Call_Name_kw (ZoJ I hg hm hv ?_ hn hdb);exact PyProof.Rows.callWith_type1 (thn (ha pos pins s σ H _ I h) fun us s1 ⟨vs,H1,I1,r1,q1⟩=>hc pins s1 σ H1 vs us Q I1 r1 q1) he hpl
end
end L2
namespace HT
open PySem PyProof.Rows
section
open PySem.SeqAt
open PySem.AutoSeq1 (wpAny_loadPart')
open PySem.MeetsSeq PySem.MeetsSeq2 PySem.MeetsSeq3
end
section
variable {prog:Program} {w:World} {A:Around} {E:Value→Shared→Prop} {s:Shared}
def sIx (n d:Nat):Option Int→Nat
 | none=>d
 | some v=>if v < 0 then(v+(n:Int)).toNat else min v.toNat n
theorem sIx_none (n d:Nat):sIx n d none=d:=rfl
theorem sIx_nat (n d k:Nat):sIx n d (some (k:Int))=min k n:=by
 show(if (k:Int) < 0 then((k:Int)+(n:Int)).toNat else min (k:Int).toNat n)=min k n;rw[if_neg (by omega),Int.toNat_natCast]
theorem ZDz (n d:Nat) (hd:d≤n) (o:Option Int):sIx n d o≤n:=by
 cases o with
 | none=>exact hd
 | some v=>
  show(if v < 0 then(v+(n:Int)).toNat else min v.toNat n)≤n
  by_cases hv:v < 0
  ·rw[if_pos hv]; omega
  ·rw[if_neg hv]; exact Nat.min_le_right _ _
theorem Zva (v:Int) (n d:Nat):(if v < 0 then max (v+(n:Int)) 0 else min v (n:Int))=((sIx n d (some v):Nat):Int):=by
 show(if v < 0 then max (v+(n:Int)) 0 else min v (n:Int))=(((if v < 0 then(v+(n:Int)).toNat else min v.toNat n):Nat):Int)
 by_cases hv:v < 0
 ·simp only [if_pos hv]; omega
 ·simp only [if_neg hv]; omega
theorem Zt1 (lo hi:Option Int) (n:Nat):Builtin.Slice.sliceAdjust lo hi 1 (n:Int)=(((sIx n 0 lo:Nat):Int),((sIx n n hi:Nat):Int)):=by
 have h1 : ¬((1:Int) < 0):=by omega
 unfold Builtin.Slice.sliceAdjust;simp only [h1,if_false];refine Prod.ext ?_ ?_
 ·cases lo with
  | none=>rfl
  | some v=>exact Zva v n 0
 ·cases hi with
  | none=>rfl
  | some v=>exact Zva v n n
theorem ZuF (i j:Nat):Builtin.Slice.slicePlaces (i:Int) (j:Int) 1=j - i:=by
 unfold Builtin.Slice.slicePlaces
 have h1:(1:Int) > 0:=by omega
 simp only [h1,if_true,Int.ediv_one]
 split <;> omega
theorem ZoX {v:Value} {o:Option Int} {Q:Option Int→Shared→Prop} (p:IsPart v o) (h:Q o s):wpAny (model prog w) A (Builtin.Slice.slicePartIndex v) Q E s:=by
 cases p with
 | none=>exact slicePart_none h
 | int i t=>exact slicePart_int h
theorem Zms {sl:Addr} {vl vu:Value} {lo hi:Option Int} {n:Nat} {Q:Int×Int×Nat→Shared→Prop} (hs:s.heap.IsSliceOf sl vl vu .none) (pl:IsPart vl lo) (pu:IsPart vu hi)
  (h:Q (((sIx n 0 lo:Nat):Int),1,sIx n n hi - sIx n 0 lo) s):wpAny (model prog w) A (Builtin.Slice.sliceApplied (.ref sl) (pure (n:Int))) Q E s:=by
 obtain⟨os,hos,hcs,hds⟩:=id hs;unfold Builtin.Slice.sliceApplied Builtin.Slice.sliceFields;refine wpAny_bind (wpAny_bind (wpAny_field hos hds (x:=vl) rfl (wpAny_bind (wpAny_field hos hds (x:=vu) rfl (wpAny_bind (wpAny_field hos hds (x:=.none) rfl (wpAny_pure ?_)))))));refine wpAny_bind (slicePart_none ?_);show wpAny _ _ (if ((1:Int) == 0)=true then _ else _) _ _ s;rw[if_neg (by decide)];refine wpAny_bind (ZoX pl (wpAny_bind (ZoX pu (wpAny_bind (wpAny_pure ?_)))));show wpAny _ _ (match Builtin.Slice.sliceAdjust lo hi 1 (n:Int) with | (lo,hi)=>pure (lo,(1:Int),Builtin.Slice.slicePlaces lo hi 1)) _ _ s;rw[Zt1 lo hi n];show wpAny _ _ (pure (((sIx n 0 lo:Nat):Int),(1:Int),Builtin.Slice.slicePlaces ((sIx n 0 lo:Nat):Int) ((sIx n n hi:Nat):Int) 1)) _ _ s;rw[ZuF];exact wpAny_pure h
theorem Zyj (xs:Array Value) (i k:Nat):((List.range k).filterMap fun(m:Nat)=>xs[((i:Int)+(m:Int) * 1).toNat]?).toArray=((xs.toList.drop i).take k).toArray:=by
 have e:(fun(m:Nat)=>xs[((i:Int)+(m:Int) * 1).toNat]?)=fun m=>xs[i+m]?:=by
  funext m
  have:((i:Int)+(m:Int) * 1).toNat=i+m:=by omega
  rw[this]
 rw[e];have:=pick_run xs i k;rw[List.filterMap_map]at this;have e2:((fun x=>xs[x]?) ∘ fun x=>i+x)=fun m=>xs[i+m]?:=rfl;rw[e2]at this;rw[this]
theorem getItem_tuple_cut {t sl:Addr} {items:Array Value} {vl vu:Value} {lo hi:Option Int} {Q:Value→Shared→Prop} (ht:IsTup s.heap t items) (hs:s.heap.IsSliceOf sl vl vu .none) (pl:IsPart vl lo) (pu:IsPart vu hi)
  (hw : ¬(sIx items.size 0 lo=0∧sIx items.size items.size hi=items.size))
  (h:Q (.ref s.heap.objs.size) { s with heap:=s.heap.push { cls:=.type "tuple",data:=.seq ((items.toList.drop (sIx items.size 0 lo)).take (sIx items.size items.size hi - sIx items.size 0 lo)).toArray } })
  (hsz:items.size≤sizeLine):wpAny (model prog w) A (getItem (.ref t) (.ref sl)) Q E s:=by
 have htake:sizeOk (.seq ((items.toList.drop (sIx items.size 0 lo)).take (sIx items.size items.size hi - sIx items.size 0 lo)).toArray):=by
  show((items.toList.drop (sIx items.size 0 lo)).take (sIx items.size items.size hi - sIx items.size 0 lo)).toArray.size≤sizeLine;rw[List.size_toArray,List.length_take,List.length_drop,Array.length_toList];omega
 have hj:sIx items.size items.size hi≤items.size:=ZDz _ _ (Nat.le_refl _) hi;obtain⟨os,hos,hcs,hds⟩:=id hs;have hTs:s.TypeIs (.ref sl) "slice":=⟨os,hos,hcs⟩;unfold getItem
 try with_reducible refine wpAny_holding ?_
 first | refine wpAny_bind (wpAny_pure ?_) | skip
 refine wpAny_bind (wpAny_sequenceKey ht.typeIs (by decide) ?_)
 refine wpAny_bind (wpAny_callSpecial?_slot (name:=Str.ofString "__getitem__") ht.typeIs PyProof.Rows.slot_tuple_getitem
  (wpAny_call_entry PyProof.Rows.slot_tuple_getitem ht.typeIs entry_tuple_getitem ?_ (args_tuple_getitem _ _)))
 show wpAny _ _ (Builtin.Tuple.tupleItemsOf (.ref t) >>= _) _ _ s;refine wpAny_bind (tupleItemsOf_ ht ?_);refine wpAny_bind (wpAny_typeOf hTs ?_);rw[if_pos (by decide)];refine wpAny_bind (Zms hs pl pu ?_)
 have hno : ¬((((sIx items.size 0 lo:Nat):Int) == 0 && (1:Int) == 1 && (sIx items.size items.size hi - sIx items.size 0 lo) == items.size)=true):=by
  intro q;rw[Bool.and_eq_true,Bool.and_eq_true]at q;have q1:((sIx items.size 0 lo:Nat):Int)=0:=eq_of_beq q.1.1;have q2:sIx items.size items.size hi - sIx items.size 0 lo=items.size:=eq_of_beq q.2;exact hw ⟨by omega,by omega⟩
 show wpAny _ _ (if (((sIx items.size 0 lo:Nat):Int) == 0 && (1:Int) == 1 && (sIx items.size items.size hi - sIx items.size 0 lo) == items.size)=true then _ else _) _ _ s;rw[if_neg hno,Zyj]
 first
  | exact wpAny_bind (m:=Builtin.Tuple.tupleExact _) (wpAny_newObj_type (wpAny_pure ⟨_,rfl,wpAny_pure h⟩) htake)
  | exact wpAny_bind (m:=Builtin.Tuple.tupleExact _) (wpAny_newObj_type (wpAny_bind (wpAny_pure (wpAny_pure ⟨_,rfl,wpAny_pure h⟩))) htake)
  | exact wpAny_bind (wpAny_bind (m:=Builtin.Tuple.tupleExact _) (wpAny_newObj_type (wpAny_pure (wpAny_pure ⟨_,rfl,wpAny_pure h⟩)) htake))
  | exact wpAny_bind (wpAny_bind (m:=Builtin.Tuple.tupleExact _) (wpAny_newObj_type (wpAny_pure ⟨_,rfl,wpAny_pure h⟩) htake))
end
end HT
namespace L2
open PySem PySem.Spec PyProof.Rows
abbrev TO:=St→Hp→(Option Int→Hp→Prop)→Prop
def PO (X:Cx) (e:Option Expr) (t:TO):Prop:=
 ∀(pins:List (Addr×Obj)) (s:Shared) (σ:St) (H:Hp) (Q:Option Int→Hp→Prop),Inv X pins σ H s→t σ H Q→
  wpAny (model X.prog X.w) X.A (evalPart e X.env) (fun u s'=>∃o H',Inv X pins σ H' s'∧IsPart u o∧Q o H') X.xe s
abbrev Zs3:TO:=fun _ H Q=>Q none H
abbrev ZBx (t:TE):TO:=fun σ H Q=>t σ H fun x H1=>∃i,x=.int i∧Q (some i) H1
section
variable {X:Cx} {e:Expr} {te:TE} {lo hi:Option Expr} {tl th:TO} {pos p2:Pos}
theorem Zce:PO X none Zs3:=by
 intro pins s σ H Q I h;rw[evalPart_none];exact wpAny_pure ⟨none,H,I,.none,h⟩
theorem ZbK (h:PE X e te):PO X (some e) (ZBx te):=by
 intro pins s σ H Q I hw;rw[evalPart_some];refine thn (h pins s σ H _ I hw) fun u s1 ⟨x,H1,I1,r1,q1⟩=>?_;obtain⟨i,rfl,q⟩:=q1;obtain⟨t,rfl⟩:=r1;exact⟨some i,H1,I1,.int i t,q⟩
def SlR (X:Cx) (r:V→Option Int→Option Int→Hp→VK→Prop):Prop:=
 ∀(pins:List (Addr×Obj)) (s:Shared) (σ:St) (H:Hp) (x:V) (v vl vu:Value) (lo hi:Option Int) (sl:Addr) (Q:VK),Inv X pins σ H s→RelV x v→s.heap.IsSliceOf sl vl vu .none→IsPart vl lo→IsPart vu hi→r x lo hi H Q→
  ∃T id,typeLookup (.type T) "__getitem__" = pure (some (.builtin id))∧s.TypeIs v T∧wpAny (model X.prog X.w) X.A (getItem v (.ref sl)) (EP X pins σ Q) X.xe s
theorem SlR.or {r r':V→Option Int→Option Int→Hp→VK→Prop} (h:SlR X r) (h':SlR X r'):SlR X (fun x lo hi H Q=>r x lo hi H Q∨r' x lo hi H Q):=by
 intro pins s σ H x v vl vu lo hi sl Q I rx hs pl pu q
 rcases q with q | q
 ·exact h pins s σ H x v vl vu lo hi sl Q I rx hs pl pu q
 ·exact h' pins s σ H x v vl vu lo hi sl Q I rx hs pl pu q
abbrev tSl (r:V→Option Int→Option Int→Hp→VK→Prop) (te:TE) (tl th:TO):TE:=fun σ H Q=>te σ H fun x H1=>tl σ H1 fun l H2=>th σ H2 fun u H3=>r x l u H3 Q
theorem Zbp {r:V→Option Int→Option Int→Hp→VK→Prop} (hr:SlR X r) (he:PE X e te) (hl:PO X lo tl) (hu:PO X hi th):PE X (.Subscript e (.Slice lo hi none p2) pos) (tSl r te tl th):=by
 intro pins s σ H Q I h;refine Subscript_ (thn (he pins s σ H _ I h) fun v s1 ⟨x,H1,I1,r1,q1⟩=>?_);refine wpAny_Slice (thn (hl pins s1 σ H1 _ I1 q1) fun vl s2 ⟨l,H2,I2,pl,q2⟩=>thn (hu pins s2 σ H2 _ I2 q2) fun vu s3 ⟨u,H3,I3,pu,q3⟩=>?_);rw[evalPart_none];refine wpAny_pure ?_;have I4:Inv X pins σ H3 { s3 with heap:=s3.heap.push { cls:=.type "slice",data:=.fields #[vl,vu,.none] } }:=I3.kept (t':=s3.toks) fun b ob q=>Heap.get?_push_of_some _ q;obtain⟨T,id,hT,ht,hg⟩:=hr pins { s3 with heap:=s3.heap.push { cls:=.type "slice",data:=.fields #[vl,vu,.none] } } σ H3 x v vl vu l u s3.heap.objs.size Q I4 r1 (Heap.IsSliceOf.new ..) pl pu q3;show wpAny (model X.prog X.w) X.A (subscriptTail e (.Slice lo hi none p2) v (.ref s3.heap.objs.size)) (EP X pins σ Q) X.xe { s3 with heap:=s3.heap.push { cls:=.type "slice",data:=.fields #[vl,vu,.none] } };exact tail_any (ops:=[.ref s3.heap.objs.size,v]) ht hT hg (by with_unfolding_all rfl)
def cutV (xs:List V) (lo hi:Option Int):List V:=(xs.drop (HT.sIx xs.length 0 lo)).take (HT.sIx xs.length xs.length hi - HT.sIx xs.length 0 lo)
theorem ZmW (xs:List V) (lo hi:Option Int):(cutV xs lo hi).length≤xs.length:=by
 unfold cutV;rw[List.length_take,List.length_drop];omega
def rSlT (K:PySem.W.Frag):V→Option Int→Option Int→Hp→VK→Prop:=fun x lo hi H Q=>∃a xs,x=.ref a∧SqT K H a xs∧
 ¬(HT.sIx xs.length 0 lo=0∧HT.sIx xs.length xs.length hi=xs.length)∧∀p,H p=none→Q (.ref p) (upd H p (.tup (cutV xs lo hi)))
theorem ZDF:SlR X (rSlT X.K):=by
 intro pins s σ H x v vl vu lo hi sl Q I rx hs pl pu h;obtain⟨a,xs,rfl,hx,hw,q⟩:=h
 cases rx
 obtain⟨its,r,ht,hz⟩:=I.tuple hx
 have hlen:its.toArray.size=xs.length:=by rw[List.size_toArray]; exact r.length.symm
 refine⟨"tuple",_,PyProof.Rows.slot_tuple_getitem.lookup,ht.typeIs,?_⟩;refine HT.getItem_tuple_cut ht hs pl pu (by rw[hlen]; exact hw) ?_ (by rw[hlen]; exact hz);rw[hlen];refine⟨.ref s.heap.objs.size,_,I.laid (t':=s.toks) (o:=.tup (cutV xs lo hi)) (fun b ob q=>Heap.get?_push_of_some _ q) (Nat.le_refl _) ?_,rfl,q _ (I.hok.fresh (Nat.le_refl _))⟩;exact⟨Nat.le_trans (ZmW xs lo hi) hz,_,(r.drop (HT.sIx xs.length 0 lo)).take (HT.sIx xs.length xs.length hi - HT.sIx xs.length 0 lo),IsTup.new _ _⟩
end
end L2
namespace L2
open PySem PySem.Spec PyProof.Rows
def ixN (n:Nat) (i:Int):Option Nat:=if 0≤i then(if i < n then some i.toNat else none) else if -(n:Int)≤i then some (i+n).toNat else none
def atI {α:Type} (xs:List α) (i:Int):Option α:=(ixN xs.length i).bind fun j=>xs[j]?
theorem ZvH {n:Nat} {i:Int} {j:Nat} (h:ixN n i=some j):seqIndex? i n=some j∧j < n∧-(n:Int)≤i∧i < n:=by
 unfold ixN at h
 by_cases h0:0≤i
 ·rw[if_pos h0]at h
  by_cases h1:i < n
  ·rw[if_pos h1]at h
   have e:i.toNat=j:=Option.some.inj h;exact⟨by rw[seqIndex_of h0 h1,e],by omega,by omega,h1⟩
  ·rw[if_neg h1]at h; cases h
 ·rw[if_neg h0]at h
  by_cases h1 : -(n:Int)≤i
  ·rw[if_pos h1]at h
   have e:(i+n).toNat=j:=Option.some.inj h;exact⟨by rw[seqIndex_neg (by omega) h1,e],by omega,h1,by omega⟩
  ·rw[if_neg h1]at h; cases h
theorem Zr5 {α:Type} {xs:List α} {i:Int} {v:α} (h:atI xs i=some v):∃j,seqIndex? i xs.length=some j∧xs[j]?=some v∧j < xs.length∧-(xs.length:Int)≤i∧i < xs.length:=by
 unfold atI at h
 cases e:ixN xs.length i with
 | none=>rw[e]at h; cases h
 | some j=>
  rw[e]at h;obtain⟨h1,h2,h3,h4⟩:=ZvH e;exact⟨j,h1,h,h2,h3,h4⟩
theorem ZhN {α:Type} {xs:List α} {j:Nat} {v:α} (h:xs[j]?=some v):atI xs (j:Int)=some v:=by
 have hj:j < xs.length:=(List.getElem?_eq_some_iff.mp h).1
 have e:ixN xs.length (j:Int)=some j:=by
  unfold ixN;rw[if_pos (by omega),if_pos (by omega)]; simp
 unfold atI; rw[e]; exact h
def ZzU (b:Expr):Prop:=∀o i,subscripted b false o i=operate [o,i] (getItem o i)
def IxR (X:Cx) (r:R2):Prop:=
 ∀(value slice:Expr) (pins:List (Addr×Obj)) (s:Shared) (σ:St) (H:Hp) (x y:V) (v u:Value) (Q:VK),Inv X pins σ H s→RelV x v→RelV y u→r x y H Q→
  subscripted slice false v u=operate [v,u] (getItem v u)→wpAny (model X.prog X.w) X.A (subscriptTail value slice v u) (EP X pins σ Q) X.xe s
def MtR (X:Cx) (id:String) (r:V→List V→Hp→VK→Prop):Prop:=
 ∀(pins:List (Addr×Obj)) (s:Shared) (σ:St) (H:Hp) (x:V) (xs:List V) (v:Value) (us:List Value) (Q:VK),Inv X pins σ H s→RelV x v→Vals xs us→r x xs H Q→
  wpAny (model X.prog X.w) X.A (call (.builtin id) (v::us)) (EP X pins σ Q) X.xe s
section
variable {X:Cx} {a b:Expr} {ta tb:TE} {pos:Pos}
theorem IxR.or {r r':R2} (h:IxR X r) (h':IxR X r'):IxR X (fun x y H Q=>r x y H Q∨r' x y H Q):=by
 intro value slice pins s σ H x y v u Q I rx ry q hs
 rcases q with q | q
 ·exact h value slice pins s σ H x y v u Q I rx ry q hs
 ·exact h' value slice pins s σ H x y v u Q I rx ry q hs
theorem Za1 {r:R2} (hr:IxR X r) (ha:PE X a ta) (hb:PE X b tb) (hs:ZzU b):PE X (.Subscript a b pos) (tOp r ta tb):=by
 intro pins s σ H Q I h;exact Subscript_ (binT ha hb I h fun v u s2 x y H2 I2 rx ry q=>hr a b pins s2 σ H2 x y v u Q I2 rx ry q (hs _ _))
def rIxL (K:PySem.W.Frag):R2:=fun x y H Q=>∃p xs i v,x=.ref p∧y=.int i∧SqL K H p xs∧atI xs i=some v∧Q v H
def rIxT (K:PySem.W.Frag):R2:=fun x y H Q=>∃p xs i v,x=.ref p∧y=.int i∧SqT K H p xs∧atI xs i=some v∧Q v H
def rIxS:R2:=fun x y H Q=>∃z i c,x=.str z∧y=.int i∧z.length≤sizeLine∧atI z.cps.toList i=some c∧Q (.str ⟨#[c]⟩) H
theorem ZAs:IxR X (rIxL X.K):=by
 intro value slice pins s σ H x y v u Q I rx ry h hs;obtain⟨p,xs,i,z,rfl,rfl,hq,he,q⟩:=h
 cases rx
 obtain⟨t,rfl⟩:=ry;obtain⟨its,r,pl,hz⟩:=I.list hq;obtain⟨j,h1,h2,h3,h4,h5⟩:=Zr5 he;obtain⟨w,ew,rw'⟩:=r.get h2;have hl:=r.length;have hn:=ZoK;have fin:EP X pins σ Q w s:=⟨z,H,I,rw',q⟩
 by_cases h0:0≤i
 ·have hj:i.toNat=j:=by
   rw[seqIndex_of h0 h5]at h1;exact Option.some.inj h1
  exact item_listR pl.isList h0 (by omega) (by rw[hj]; simpa using ew) fin hs
 ·have hj:(i+(its.toArray.size:Int)).toNat=j:=by
   rw[seqIndex_neg (by omega) h4]at h1;rw[List.size_toArray,←hl];exact Option.some.inj h1
  exact subscriptTail_builtinR (x:=w) pl.isList.typeIs slot_list_getitem.lookup
   (wpAny_getItem_list_neg (Q:=fun r s'=>r=w∧EP X pins σ Q r s') pl.isList (by omega) (by rw[List.size_toArray] <;> omega) (by omega) (by rw[hj]; simpa using ew) ⟨rfl,fin⟩) hs
theorem ZCC:IxR X (rIxT X.K):=by
 intro value slice pins s σ H x y v u Q I rx ry h hs;obtain⟨p,xs,i,z,rfl,rfl,hq,he,q⟩:=h
 cases rx
 obtain⟨t,rfl⟩:=ry;obtain⟨its,r,pl,hz⟩:=I.tuple hq;obtain⟨j,h1,h2,h3,h4,h5⟩:=Zr5 he;obtain⟨w,ew,rw'⟩:=r.get h2;have hl:=r.length;have hn:=ZoK;have fin:EP X pins σ Q w s:=⟨z,H,I,rw',q⟩
 exact subscriptTail_builtinR (x:=w) pl.typeIs slot_tuple_getitem.lookup
  (getItem_tuple (j:=j) (Q:=fun r s'=>r=w∧EP X pins σ Q r s') pl (by omega) (by omega) (by rw[List.size_toArray,←hl]; exact h1) (by simpa using ew) ⟨rfl,fin⟩) hs
theorem ZCB:IxR X rIxS:=by
 intro value slice pins s σ H x y v u Q I rx ry h hs;obtain⟨z,i,c,rfl,rfl,hz,he,q⟩:=h;obtain⟨t,rfl⟩:=rx;obtain⟨t',rfl⟩:=ry;obtain⟨j,h1,h2,h3,h4,h5⟩:=Zr5 he
 have hl:z.cps.toList.length=z.length:=by simp[Str.length]
 rw[hl]at h1 h4 h5;have hn:=ZoK
 exact tail_any (typeIs_str s z t) slot_str_getitem.lookup (getItem_str (c:=c) (by
  have e1:decide (i < -(2 ^ 63:Int))=false:=decide_eq_false (by omega);have e2:decide (i ≥ 2 ^ 63)=false:=decide_eq_false (by omega)
  rw[e1,e2,Bool.or_false]) (by rw[h1]; simpa using h2) ⟨.str ⟨#[c]⟩,H,I.tok _,⟨_,rfl⟩,q⟩) hs
def rIx (K:PySem.W.Frag):R2:=fun x y H Q=>rIxL K x y H Q∨rIxT K x y H Q∨rIxS x y H Q
theorem ZaA:IxR X (rIx X.K):=ZAs.or (ZCC.or ZCB)
theorem Zus (its:List Value) (n j:Nat) (u:Value):Obj.mapSeq (·.setIfInBounds j u) { cls:=.type "list",data:=.seq its.toArray n } = { cls:=.type "list",data:=.seq (its.set j u).toArray n }:=by
 simp[Obj.mapSeq]
theorem Inv.lst {pins:List (Addr×Obj)} {σ:St} {H:Hp} {s:Shared} {p:Addr} {xs:List V} (I:Inv X pins σ H s) (h:H p=some (.lst xs)) :
  ∃(its:List Value) (n:Nat),Vals xs its∧s.heap.get? p=some { cls:=.type "list",data:=.seq its.toArray n }∧xs.length≤sizeLine:=by
 obtain⟨z,its,n,r,e⟩:=I.hok p _ h;exact⟨its,n,r,e,z⟩
theorem Inv.lstUpd {pins:List (Addr×Obj)} {σ:St} {H:Hp} {s:Shared} {p:Addr} {xs ys:List V} {its its':List Value} {n n':Nat} {f:Obj→Obj} (I:Inv X pins σ H s) (h:H p=some (.lst xs))
  (ho:s.heap.get? p=some { cls:=.type "list",data:=.seq its.toArray n }) (hf:f { cls:=.type "list",data:=.seq its.toArray n } = { cls:=.type "list",data:=.seq its'.toArray n' }) (r:Vals ys its') (hz:ys.length≤sizeLine) (t:Nat) :
  Inv X pins σ (upd H p (.lst ys)) { s with heap:=s.heap.update p f,toks:=t }:=by
 have e:(s.heap.update p f).get? p=some { cls:=.type "list",data:=.seq its'.toArray n' }:=by
  rw[Heap.get?_update_self f ho (by rw[hf] <;> rfl),hf]
 refine I.write (x:=p) (e:=p) (by rw[h]; trivial) (.inl rfl) (fun b u hb q=>(Heap.get?_update_other _ _ (Ne.symm hb)).trans q) ⟨_,e⟩ ?_;exact⟨hz,its',n',r,e⟩
def ZDr:V→V→V→Hp→(Hp→Prop)→Prop:=fun o i v H Q=>∃p xs k j,o=.ref p∧i=.int k∧H p=some (.lst xs)∧ixN xs.length k=some j∧Q (upd H p (.lst (xs.set j v)))
theorem ZiM:PSet X ZDr:=by
 intro pins s σ H o i v ov iv u Q I ro ri rv h;obtain⟨p,xs,k,j,rfl,rfl,hp,hj,q⟩:=h
 cases ro
 obtain⟨t,rfl⟩:=ri;obtain⟨its,n,r,ho,hz⟩:=I.lst hp;obtain⟨h1,h2,h3,h4⟩:=ZvH hj;have hl:=r.length;have hn:=ZoK
 have I':Inv X pins σ (upd H p (.lst (xs.set j v))) { s with heap:=s.heap.update p (Obj.mapSeq (·.setIfInBounds j u)) }:=
  I.lstUpd hp ho (Zus its n j u) (r.set rv j) (by rw[List.length_set]; exact hz) s.toks
 by_cases h0:0≤k
 ·have hk:k.toNat=j:=by
   rw[seqIndex_of h0 h4]at h1;exact Option.some.inj h1
  exact PySem.W.ki_setAt ho h0 (by omega) (by rw[List.size_toArray,←hl]; exact h4) (by rw[hk]; exact⟨_,I',q⟩)
 ·have hk:(k+(its.toArray.size:Int)).toNat=j:=by
   rw[seqIndex_neg (by omega) h3]at h1;rw[List.size_toArray,←hl];exact Option.some.inj h1
  exact PySem.W.ki_setBack ho (by omega) (by rw[List.size_toArray,←hl]; exact h3) (by omega) (by rw[hk]; exact⟨_,I',q⟩)
theorem Zrx (lo hi:Option Int) (n:Nat):(sliceBounds lo hi none n).1=((HT.sIx n 0 lo:Nat):Int)∧(sliceBounds lo hi none n).2.1=((HT.sIx n n hi:Nat):Int)∧(sliceBounds lo hi none n).2.2=1:=by
 refine⟨?_,?_,rfl⟩
 ·cases lo with
  | none=>simp[sliceBounds,HT.sIx]
  | some i=>
   simp only [sliceBounds,HT.sIx,Option.getD_none,show(1:Int) > 0 by decide,if_true]
   by_cases h:i < 0
   ·simp only [h,if_true] <;> omega
   ·simp only [h,if_false] <;> omega
 ·cases hi with
  | none=>simp[sliceBounds,HT.sIx]
  | some i=>
   simp only [sliceBounds,HT.sIx,Option.getD_none,show(1:Int) > 0 by decide,if_true]
   by_cases h:i < 0
   ·simp only [h,if_true] <;> omega
   ·simp only [h,if_false] <;> omega
theorem Zp2 (its:List Value) (lo hi:Option Int):slicePick its.toArray lo hi none=((its.drop (HT.sIx its.length 0 lo)).take (HT.sIx its.length its.length hi - HT.sIx its.length 0 lo)).toArray:=by
 obtain⟨h1,h2,h3⟩:=Zrx lo hi its.toArray.size;unfold slicePick;rw[h1,h2,h3]
 simp only [sliceRange_one,pick_run,List.size_toArray] <;> rfl
def rSlL (K:PySem.W.Frag):V→Option Int→Option Int→Hp→VK→Prop:=fun x lo hi H Q=>∃a xs,x=.ref a∧SqL K H a xs∧∀p,H p=none→Q (.ref p) (upd H p (.lst (cutV xs lo hi)))
theorem ZBj:SlR X (rSlL X.K):=by
 intro pins s σ H x v vl vu lo hi sl Q I rx hs pl pu h;obtain⟨a,xs,rfl,hx,q⟩:=h
 cases rx
 obtain⟨its,r,ht,hz⟩:=I.list hx;have hlen:=r.length;refine⟨"list",_,slot_list_getitem.lookup,ht.isList.typeIs,?_⟩;refine wpAny_getItem_list_slice ht.isList hs pl pu .none (by simp) ?_ (by rw[List.size_toArray] <;> omega);rw[Zp2,←hlen];refine⟨.ref s.heap.objs.size,_,I.laid (t':=s.toks) (o:=.lst (cutV xs lo hi)) (fun b ob q=>Heap.get?_push_of_some _ q) (Nat.le_refl _) ?_,rfl,q _ (I.hok.fresh (Nat.le_refl _))⟩;exact⟨Nat.le_trans (ZmW xs lo hi) hz,_,0,(r.drop (HT.sIx xs.length 0 lo)).take (HT.sIx xs.length xs.length hi - HT.sIx xs.length 0 lo),Heap.get?_push_size _ rfl⟩
def ZqF:V→Bool
 | .non=>true
 | .bl _=>true
 | .int _=>true
 | .str _=>true
 | _=>false
def eqV:V→V→Bool
 | .non,.non=>true
 | .bl a,.bl b=>a == b
 | .bl a,.int b=>(if a then 1 else 0) == b
 | .int a,.bl b=>a == (if b then 1 else 0)
 | .int a,.int b=>a == b
 | .str a,.str b=>a == b
 | _,_=>false
theorem ZBY {A:Around} {s:Shared} {y x:V} {u v:Value} (ry:RelV y u) (rx:RelV x v) (fy:ZqF y=true) (fx:ZqF x=true):SeqAt.EqAt A s u v (eqV y x):=by
 cases y with
 | non=>
  cases ry
  cases x with
  | non=>cases rx; exact SeqAt.EqAt.same _
  | bl b=>cases rx; exact SeqAt.EqAt.none_bool b
  | int b=>obtain⟨t,rfl⟩:=rx; exact SeqAt.EqAt.none_int b t
  | str b=>obtain⟨t,rfl⟩:=rx; exact SeqAt.EqAt.none_str b t
  | _=>exact absurd (show false=true from fx) Bool.false_ne_true
 | bl a=>
  cases ry
  cases x with
  | non=>cases rx; exact SeqAt.EqAt.bool_none a
  | bl b=>cases rx; exact SeqAt.EqAt.bool_bool a b
  | int b=>obtain⟨t,rfl⟩:=rx; exact SeqAt.EqAt.bool_int a b t
  | str b=>obtain⟨t,rfl⟩:=rx; exact SeqAt.EqAt.bool_str a b t
  | _=>exact absurd (show false=true from fx) Bool.false_ne_true
 | int a=>
  obtain⟨t',rfl⟩:=ry
  cases x with
  | non=>cases rx; exact SeqAt.EqAt.int_none a t'
  | bl b=>cases rx; exact SeqAt.EqAt.int_bool a t' b
  | int b=>obtain⟨t,rfl⟩:=rx; exact SeqAt.EqAt.int_int a t' b t
  | str b=>obtain⟨t,rfl⟩:=rx; exact SeqAt.EqAt.int_str a t' b t
  | _=>exact absurd (show false=true from fx) Bool.false_ne_true
 | str a=>
  obtain⟨t',rfl⟩:=ry
  cases x with
  | non=>cases rx; exact SeqAt.EqAt.str_none a t'
  | bl b=>cases rx; exact SeqAt.EqAt.str_bool a t' b
  | int b=>obtain⟨t,rfl⟩:=rx; exact SeqAt.EqAt.str_int a t' b t
  | str b=>obtain⟨t,rfl⟩:=rx; exact SeqAt.EqAt.str_str a t' b t
  | _=>exact absurd (show false=true from fx) Bool.false_ne_true
 | _=>exact absurd (show false=true from fy) Bool.false_ne_true
def eqU (x:V) (u:Value):Bool:=match u with
 | .none=>eqV .non x
 | .bool b=>eqV (.bl b) x
 | .int i _=>eqV (.int i) x
 | .str z _=>eqV (.str z) x
 | _=>false
theorem ZyX {x y:V} {u:Value} (r:RelV y u) (f:ZqF y=true):eqU x u=eqV y x:=by
 cases y with
 | non=>cases r; rfl
 | bl b=>cases r; rfl
 | int i=>obtain⟨t,rfl⟩:=r; rfl
 | str z=>obtain⟨t,rfl⟩:=r; rfl
 | _=>exact absurd (show false=true from f) Bool.false_ne_true
theorem ZmI {x:V}:∀{xs:List V} {us:List Value},Vals xs us→xs.all ZqF=true→us.any (eqU x)=xs.any fun y=>eqV y x
 | _,_,.nil,_=>rfl
 | y::xs,u::us,.cons r t,f=>by
  rw[List.all_cons,Bool.and_eq_true]at f;rw[List.any_cons,List.any_cons,ZyX r f.1,ZmI t f.2]
theorem Zkw {A:Around} {s:Shared} {x:V} {v:Value} (rx:RelV x v) (fx:ZqF x=true):∀{xs:List V} {us:List Value},Vals xs us→xs.all ZqF=true→∀u∈us,SeqAt.EqAt A s u v (eqU x u)
 | _,_,.nil,_=>fun u hu=>by cases hu
 | y::xs,u::us,.cons r t,f=>fun u' hu=>by
  rw[List.all_cons,Bool.and_eq_true]at f
  rcases List.mem_cons.mp hu with rfl | hu
  ·rw[ZyX r f.1]; exact ZBY r rx f.1 fx
  ·exact Zkw rx fx t f.2 u' hu
def inV (x:V) (xs:List V):Bool:=xs.any fun y=>eqV y x
def rIn (K:PySem.W.Frag) (neg:Bool):R2:=fun x y H Q=>∃p xs,y=.ref p∧(SqL K H p xs∨SqT K H p xs)∧ZqF x=true∧xs.all ZqF=true∧Q (.bl (if neg then !inV x xs else inV x xs)) H
theorem Zwh:OpR X (compareOp .In) (rIn X.K false):=by
 intro pins s σ H x y v u Q I rx ry h;obtain⟨p,xs,rfl,hq,fx,fs,q⟩:=h
 cases ry
 rcases hq with hq | hq
 ·obtain⟨its,r,pl,hz⟩:=I.list hq
  refine SeqAt.in_listAt (eqU x) pl.isList (fun w hw=>Zkw rx fx r fs w (by simpa using hw)) ⟨.bl _,H,I,rfl,?_⟩;rw[show its.toArray.any (eqU x)=its.any (eqU x) by simp,ZmI r fs];exact q
 ·obtain⟨its,r,pl,hz⟩:=I.tuple hq
  refine SeqAt.in_tupleAt (eqU x) pl (fun w hw=>Zkw rx fx r fs w (by simpa using hw)) ⟨.bl _,H,I,rfl,?_⟩;rw[show its.toArray.any (eqU x)=its.any (eqU x) by simp,ZmI r fs];exact q
theorem Zrl:OpR X (compareOp .NotIn) (rIn X.K true):=by
 intro pins s σ H x y v u Q I rx ry h;obtain⟨p,xs,rfl,hq,fx,fs,q⟩:=h
 cases ry
 rcases hq with hq | hq
 ·obtain⟨its,r,pl,hz⟩:=I.list hq
  refine SeqAt.notIn_listAt (eqU x) pl.isList (fun w hw=>Zkw rx fx r fs w (by simpa using hw)) ⟨.bl _,H,I,rfl,?_⟩;rw[show its.toArray.any (eqU x)=its.any (eqU x) by simp,ZmI r fs];exact q
 ·obtain⟨its,r,pl,hz⟩:=I.tuple hq
  refine SeqAt.notIn_tupleAt (eqU x) pl (fun w hw=>Zkw rx fx r fs w (by simpa using hw)) ⟨.bl _,H,I,rfl,?_⟩;rw[show its.toArray.any (eqU x)=its.any (eqU x) by simp,ZmI r fs];exact q
theorem ZqA:ZiP X (.type "list") (fun xs H Q=>∃p ys,xs=[.ref p]∧(SqL X.K H p ys∨SqT X.K H p ys)∧∀l,H l=none→Q (.ref l) (upd H l (.lst ys))):=by
 intro pins s σ H xs us Q I r h;obtain⟨p,ys,rfl,hq,q⟩:=h;obtain⟨u,rfl,rx⟩:=ZuO r
 cases rx
 have fin:∀(its:List Value),Vals ys its→ys.length≤sizeLine→∀(h':Heap) (c':Nat),(∀b o',s.heap.get? b=some o'→h'.get? b=some o')→
   h'.get? s.heap.objs.size=some { cls:=.type "list",dict:=none,data:=.seq its.toArray c',slots:=#[] }→EP X pins σ Q (.ref s.heap.objs.size) { s with heap:=h' }:=fun its r' hz h' c' kp e=>
  ⟨.ref s.heap.objs.size,_,I.laid (t':=s.toks) kp (Nat.le_refl _) (show Zc0 X.prog X.w _ h' _ (.lst ys) from⟨hz,its,c',r',e⟩),rfl,q _ (I.hok.fresh (Nat.le_refl _))⟩
 rcases hq with hq | hq
 ·obtain⟨its,r',pl,hz⟩:=I.list hq
  have hlen:=r'.length;obtain⟨o,ho,hc,n,hd⟩:=pl.isList;exact call_list_seq p (.inl rfl) ho hc hd (fun h' c' kp e=>fin its r' hz h' c' kp e) (by simp only [List.size_toArray] <;> omega)
 ·obtain⟨its,r',pl,hz⟩:=I.tuple hq
  have hlen:=r'.length;obtain⟨o,ho,hc,n,hd⟩:=pl;exact call_list_seq p (.inr rfl) ho hc hd (fun h' c' kp e=>fin its r' hz h' c' kp e) (by simp only [List.size_toArray] <;> omega)
theorem Zpc:ZiP X (.type "tuple") (fun xs H Q=>∃p ys,xs=[.ref p]∧((SqL X.K H p ys∧∀l,H l=none→Q (.ref l) (upd H l (.tup ys)))∨(SqT X.K H p ys∧Q (.ref p) H))):=by
 intro pins s σ H xs us Q I r h;obtain⟨p,ys,rfl,h⟩:=h;obtain⟨u,rfl,rx⟩:=ZuO r
 cases rx
 rcases h with⟨hq,q⟩ | ⟨hq,q⟩
 ·obtain⟨its,r',pl,hz⟩:=I.list hq
  have hlen:=r'.length;refine call_tuple_list pl.isList (fun h' kp=>?_) (by simp only [List.size_toArray] <;> omega);have I1:Inv X pins σ H { s with heap:=h' }:=I.kept (t':=s.toks) kp
  have I2:Inv X pins σ (upd H h'.objs.size (.tup ys)) { s with heap:=h'.push { cls:=.type "tuple",data:=.seq its.toArray } }:=
   I1.laid (t':=s.toks) (fun b o e=>Heap.get?_push_of_some _ e) (Nat.le_refl _) (show Zc0 X.prog X.w _ _ _ (.tup ys) from⟨hz,its,r',IsTup.new _ _⟩)
  exact⟨.ref h'.objs.size,_,I2,rfl,q _ (I1.hok.fresh (Nat.le_refl _))⟩
 ·obtain⟨its,r',pl,hz⟩:=I.tuple hq
  exact call_tuple_same pl ⟨.ref p,H,I,rfl,q⟩
def tyV (K:PySem.W.Frag) (T:String) (x:V) (H:Hp):Prop:=match x with
 | .str _=>T = "str"
 | .int _=>T = "int"
 | .ref p=>(T = "list"∧∃xs,SqL K H p xs)∨(T = "tuple"∧∃o,K.lookup p=some o∧o.cls=.type "tuple"∧o.dict=none)∨
   (T = "dict"∧((∃kvs,H p=some (.dK kvs))∨∃kvs,H p=some (.dT kvs)))∨(T = "set"∧∃S n,H p=some (.set S n))
 | _=>False
theorem ZtP {pins:List (Addr×Obj)} {σ:St} {H:Hp} {s:Shared} {T:String} {x:V} {v:Value} (I:Inv X pins σ H s) (r:RelV x v) (ty:tyV X.K T x H) :
  s.TypeIs v T∧∀a,v=.ref a→∃ob,s.heap.get? a=some ob∧ob.dict=none:=by
 cases x with
 | str z=>
  obtain⟨t,rfl⟩:=r
  cases (show T = "str" from ty)
  exact⟨typeIs_str s z t,fun _ e=>nomatch e⟩
 | int i=>
  obtain⟨t,rfl⟩:=r
  cases (show T = "int" from ty)
  exact⟨typeIs_int s i t,fun _ e=>nomatch e⟩
 | ref p=>
  cases r
  rcases ty with⟨rfl,xs,hq⟩ | ⟨rfl,o,hk,hc,hd⟩ | ⟨rfl,hk⟩ | ⟨rfl,S,n,hk⟩
  ·obtain⟨its,_,pl,_⟩:=I.list hq
   refine⟨pl.isList.typeIs,fun a e=>?_⟩
   cases e
   obtain⟨o,n,e,c,hd,_⟩:=pl;exact⟨o,e,hd⟩
  ·refine⟨⟨o,I.kIn p o hk,hc⟩,fun a e=>?_⟩
   cases e
   exact⟨o,I.kIn _ o hk,hd⟩
  ·have z:∃o,s.heap.get? p=some o∧o.ExactDict:=by
    rcases hk with⟨kvs,hk⟩ | ⟨kvs,hk⟩
    ·obtain⟨_,_,_,_,o,_,_,e,ex,_⟩:=I.hok p _ hk
     exact⟨o,e,ex⟩
    ·obtain⟨_,_,_,_,o,_,_,e,ex,_⟩:=I.hok p _ hk
     exact⟨o,e,ex⟩
   obtain⟨o,e,ex⟩:=z;refine⟨⟨o,e,ex.1⟩,fun a e2=>?_⟩
   cases e2
   exact⟨o,e,ex.2.1⟩
  ·obtain⟨o,_,_,_,e,ex,_⟩:=I.hok p _ hk
   refine⟨⟨o,e,ex.1⟩,fun a e2=>?_⟩
   cases e2
   exact⟨o,e,ex.2.1⟩
 | _=>exact False.elim ty
abbrev tBM0 (K:PySem.W.Frag) (T:String) (r:V→List V→Hp→VK→Prop) (to:TE):TE:=fun σ H Q=>to σ H fun x H1=>tyV K T x H1∧r x [] H1 Q
abbrev tBM (K:PySem.W.Frag) (T:String) (r:V→List V→Hp→VK→Prop) (to:TE) (t:TA):TE:=fun σ H Q=>to σ H fun x H1=>tyV K T x H1∧t σ H1 fun xs H2=>r x xs H2 Q
variable {o e:Expr} {es:List Expr} {to:TE} {t:TA} {name:Str} {apos cpos:Pos} {T id:String} {r:V→List V→Hp→VK→Prop}
theorem ZzC (pa:PlainAttrs T) (slot:Slot T name id) (hty:typeOf (.builtin id)=pure (.type "method_descriptor")) (hm:MtR X id r) (ho:PE X o to)
  (hbase:attributeBase o name X.env (eval o X.env)=eval o X.env:=by rfl) (hline:(apos.endLine == cpos.line)=true:=by rfl):PE X (.Call (.Attribute o name apos) [] [] cpos) (tBM0 X.K T r to):=by
 intro pins s σ H Q I h;refine wpAny_Call_method0_late hbase hline (thn (ho pins s σ H _ I h) fun v s1 ⟨x,H1,I1,r1,ty,q1⟩=>?_);obtain⟨h1,h2⟩:=ZtP I1 r1 ty;exact⟨T,id,pa,slot,hty,h1,h2,Calls.callWith_builtin rfl (PySem.evalArgs_none (hm pins s1 σ H1 x [] v [] Q I1 r1 .nil q1))⟩
theorem ZcX (pa:PlainAttrs T) (slot:Slot T name id) (hty:typeOf (.builtin id)=pure (.type "method_descriptor")) (hm:MtR X id r) (ho:PE X o to) (ha:PA X (e::es) t)
  (hbase:attributeBase o name X.env (eval o X.env)=eval o X.env:=by rfl)
  (hfew:((backTo cpos (starEach (e::es) X.env)).all (fun x=>!x.1) && (backToKw cpos (keywordEach [] X.env)).all (fun x=>x.1.isSome)
   && decide ((e::es).length+([]:List Keyword).length+(if ([]:List Keyword).isEmpty then 0 else 1) < 30))=true:=by rfl)
  (hline:(apos.endLine == cpos.line)=true:=by rfl) (hs:starEach (e::es) X.env=(false,eval e X.env)::starEach es X.env:=by rfl) (hplain:(backTo cpos (starEach es X.env)).any (·.1)=false:=by rfl) :
  PE X (.Call (.Attribute o name apos) (e::es) [] cpos) (tBM X.K T r to t):=by
 intro pins s σ H Q I h;refine wpAny_Call_method_late hbase hfew hline rfl (thn (ho pins s σ H _ I h) fun v s1 ⟨x,H1,I1,r1,ty,q1⟩=>?_);obtain⟨h1,h2⟩:=ZtP I1 r1 ty;refine⟨T,id,pa,slot,hty,h1,h2,?_⟩;have hA:=ha cpos pins s1 σ H1 _ I1 q1;rw[hs]at hA ⊢;refine Calls.callWith_builtin (by show(false || (backTo cpos (starEach es X.env)).any (·.1))=false; rw[hplain] <;> rfl) (Calls.evalArgs_plain ?_);exact thn hA fun us s2 ⟨vs,H2,I2,r2,q2⟩=>hm pins s2 σ H2 x vs v us Q I2 r1 r2 q2
end
end L2
namespace L2
open PySem PySem.Spec PyProof.Rows
def MtM (X:Cx) (id:String) (r:V→List V→Hp→VK→Prop):Prop:=
 ∀(pins:List (Addr×Obj)) (s:Shared) (σ:St) (H:Hp) (x:V) (xs:List V) (v:Value) (us:List Value) (Q:VK),Inv X pins σ H s→RelV x v→Vals xs us→r x xs H Q→
  wpAny (model X.prog X.w) X.A (call (.builtin id) (v::us)) (EP X pins σ Q) X.xe s
theorem Vals.one:∀{x:V} {us:List Value},Vals [x] us→∃u,us=[u]∧RelV x u
 | _,_,.cons r .nil=>⟨_,rfl,r⟩
theorem Vals.zero:∀{us:List Value},Vals [] us→us=[]
 | _,.nil=>rfl
theorem Vals.dropLast {xs:List V} {us:List Value} (h:Vals xs us):Vals xs.dropLast us.dropLast:=by
 induction h with
 | nil=>exact .nil
 | cons r t ih=>
  cases t with
  | nil=>exact .nil
  | cons q t'=>exact .cons r ih
theorem Zt8 {α:Type} (l:List α):l.eraseIdx (l.length - 1)=l.dropLast:=by
 induction l with
 | nil=>rfl
 | cons a r ih=>
  cases r with
  | nil=>rfl
  | cons b r=>
   have e:(a::b::r).length - 1=((b::r).length - 1)+1:=by
    have h1:(a::b::r).length=r.length+2:=rfl;have h2:(b::r).length=r.length+1:=rfl;omega
   rw[e,List.eraseIdx_cons_succ,ih]
   all_goals rfl
section
variable {X:Cx} {pins:List (Addr×Obj)} {σ:St} {H:Hp} {s:Shared} {l b:Addr} {xs ys zs:List V}
theorem Inv.lset {its its':List Value} {n:Nat} {f:Array Value→Array Value} {t':Nat} (I:Inv X pins σ H s) (hH:H l=some (.lst xs))
  (e:s.heap.get? l=some { cls:=.type "list",data:=.seq its.toArray n }) (hf:f its.toArray=its'.toArray) (hv:Vals ys its') (hz:ys.length≤sizeLine) :
  Inv X pins σ (upd H l (.lst ys)) { s with heap:=s.heap.update l (Obj.mapSeq f),toks:=t' }:=by
 have q:=PySem.IsL.update e f;rw[hf]at q;refine I.write (x:=l) (e:=l) (by rw[hH]; exact trivial) (.inl rfl) (fun b' u hb hu=>(Heap.get?_update_other s.heap (Obj.mapSeq f) (Ne.symm hb)).trans hu) ⟨_,q⟩ ?_;exact⟨hz,its',_,hv,q⟩
theorem Inv.lnew {its:List Value} {t':Nat} (I:Inv X pins σ H s) (hv:Vals ys its) (hz:ys.length≤sizeLine) :
  Inv X pins σ (upd H s.heap.objs.size (.lst ys)) { s with heap:=s.heap.push { cls:=.type "list",data:=.seq its.toArray },toks:=t' }:=
 I.laid (fun _ _ q=>Heap.get?_push_of_some _ q) (Nat.le_refl _) ⟨hz,its,0,hv,Heap.get?_push_size _ rfl⟩
theorem Inv.fresh (I:Inv X pins σ H s):H s.heap.objs.size=none:=I.hok.fresh (Nat.le_refl _)
theorem Inv.lstM (I:Inv X pins σ H s) (hH:H l=some (.lst xs)):xs.length≤sizeLine∧∃(its:List Value) (n:Nat),Vals xs its∧xs.length=its.length∧s.heap.get? l=some { cls:=.type "list",data:=.seq its.toArray n }:=by
 obtain⟨z,its,n,r,e⟩:=I.hok l _ hH;exact⟨z,its,n,r,r.length,e⟩
end
section
variable {X:Cx}
def ZpR:V→List V→Hp→VK→Prop:=fun x vs H Q=>∃l xs y,x=.ref l∧vs=[y]∧H l=some (.lst xs)∧xs.length < sizeLine∧Q .non (upd H l (.lst (xs++[y])))
theorem ZaU:MtM X "list.append" ZpR:=by
 intro pins s σ H x vs v us Q I rx rv h;obtain⟨l,xs,y,rfl,rfl,hH,hz,q⟩:=h
 cases rx
 obtain⟨u,rfl,ru⟩:=rv.one;obtain⟨z,its,n,r,hl,e⟩:=I.lstM hH;refine call_meets F.slot_list_append ⟨_,e,rfl⟩ F.entry_list_append (F.args_list_append_2 _ _) (PySem.list_append l its.toArray n u (by rw[List.size_toArray]; omega)) ⟨e,?_⟩;refine⟨.non,_,I.lset (its':=its++[u]) hH e (by simp) (r.append (.cons ru .nil)) ?_,rfl,q⟩;rw[List.length_append,List.length_singleton];omega
def rPop:V→List V→Hp→VK→Prop:=fun x vs H Q=>∃l xs y,x=.ref l∧vs=[]∧H l=some (.lst xs)∧xs[xs.length - 1]?=some y∧Q y (upd H l (.lst xs.dropLast))
theorem ZCN:MtM X "list.pop" rPop:=by
 intro pins s σ H x vs v us Q I rx rv h;obtain⟨l,xs,y,rfl,rfl,hH,hy,q⟩:=h
 cases rx
 have hus:=rv.zero;subst hus;obtain⟨z,its,n,r,hl,e⟩:=I.lstM hH;obtain⟨u,hu,ru⟩:=r.get hy
 have hy':its.toArray[its.toArray.size - 1]?=some u:=by
  show its.toArray[its.length - 1]?=some u;rw[←Array.getElem?_toList,←hl];exact hu
 refine call_meets F.slot_list_pop ⟨_,e,rfl⟩ F.entry_list_pop (F.args_list_pop_1 _) (MeetsSeq.list_pop_last l its.toArray n u hy' (by rw[List.size_toArray]; omega)) ⟨e,?_⟩;refine⟨y,_,I.lset (its':=its.dropLast) hH e ?_ r.dropLast ?_,ru,q⟩
 ·show its.toArray.eraseIdxIfInBounds (its.toArray.size - 1)=its.dropLast.toArray
  rw[List.size_toArray,List.eraseIdxIfInBounds_toArray,Zt8]
 ·rw[List.length_dropLast]
  omega
def rCat:R2:=fun x y H Q=>∃l b xs zs,x=.ref l∧y=.ref b∧H l=some (.lst xs)∧H b=some (.lst zs)∧xs.length+zs.length≤sizeLine∧∀p,H p=none→Q (.ref p) (upd H p (.lst (xs++zs)))
theorem ZCX:OpR X (binaryOp .Add) rCat:=by
 intro pins s σ H x y v u Q I rx ry h;obtain⟨l,b,xs,zs,rfl,rfl,hH,hB,hz,q⟩:=h
 cases rx
 cases ry
 obtain⟨z,its,n,r,hl,e⟩:=I.lstM hH;obtain⟨z2,its2,n2,r2,hl2,e2⟩:=I.lstM hB;refine PySem.P.add_list e e2 ?_ (by rw[List.size_toArray,List.size_toArray]; omega)
 have ea:its.toArray++its2.toArray=(its++its2).toArray:=by simp
 rw[ea];exact⟨.ref _,_,I.lnew (t':=s.toks) (r.append r2) (by rw[List.length_append]; omega),rfl,q _ I.fresh⟩
end
section
variable {prog:Program} {w:World} {A:Around} {E:Value→Shared→Prop} {s:Shared}
end
section
variable {X:Cx}
end
end L2
namespace L2
open PySem PySem.Spec PyProof.Rows
section
variable {κ:Type} [DecidableEq κ]
def valV (kvs:List (κ×V)) (k:κ):Option V:=(kvs.find? fun kv=>decide (kv.1=k)).map (·.2)
def putK (kvs:List (κ×V)) (k:κ) (v:V):List (κ×V):=
 if (kvs.any fun kv=>decide (kv.1=k))=true then kvs.map (fun kv=>if kv.1=k then(kv.1,v) else kv) else kvs++[(k,v)]
theorem Zp8 {p:κ×V} {r:List (κ×V)} {k:κ} (e:p.1=k):valV (p::r) k=some p.2:=by simp[valV,List.find?_cons,e]
theorem Zp7 {p:κ×V} {r:List (κ×V)} {k:κ} (e : ¬p.1=k):valV (p::r) k=valV r k:=by simp[valV,List.find?_cons,e]
theorem ZtS (k:κ):∀kvs:List (κ×V),(kvs.any fun kv=>decide (kv.1=k))=(valV kvs k).isSome
 | []=>rfl
 | p::r=>by
  rw[List.any_cons]
  by_cases e:p.1=k
  ·simp only [Zp8 e,decide_eq_true e,Bool.true_or,Option.isSome_some]
  ·rw[Zp7 e,decide_eq_false e,Bool.false_or]; exact ZtS k r
theorem Zng (kvs:List (κ×V)) (k:κ) (v:V):(putK kvs k v).length≤kvs.length+1:=by
 unfold putK
 split
 ·rw[List.length_map]; omega
 ·rw[List.length_append,List.length_cons,List.length_nil]; omega
theorem RelO.isSome_eq {o:Option V} {u:Option Value} (r:RelO o u):o.isSome=u.isSome:=by
 cases o with
 | none=>cases u with
  | none=>rfl
  | some _=>exact(show False from r).elim
 | some _=>cases u with
  | none=>exact(show False from r).elim
  | some _=>rfl
theorem KV.val {kvs:List (κ×V)} {vs:List (κ×Value)} (r:KV kvs vs) (k:κ):RelO (valV kvs k) (valueAt vs k):=by
 unfold KV at r
 induction r with
 | nil=>exact True.intro
 | @cons p q ps qs h t ih=>
  obtain⟨h1,h2⟩:=h
  by_cases e:p.1=k
  ·have e':q.1=k:=h1.symm.trans e
   have b:valueAt (q::qs) k=some q.2:=by simp[valueAt,List.find?_cons,e']
   rw[Zp8 e,b]; exact h2
  ·have e' : ¬q.1=k:=fun z=>e (h1.trans z)
   have b:valueAt (q::qs) k=valueAt qs k:=by simp[valueAt,List.find?_cons,e']
   rw[Zp7 e,b]; exact ih
theorem KV.any {kvs:List (κ×V)} {vs:List (κ×Value)} (r:KV kvs vs) (k:κ):(kvs.any fun kv=>decide (kv.1=k))=vs.any fun kv=>decide (kv.1=k):=by
 unfold KV at r
 induction r with
 | nil=>rfl
 | cons h t ih=>rw[List.any_cons,List.any_cons,ih,h.1]
theorem KV.repl {kvs:List (κ×V)} {vs:List (κ×Value)} (r:KV kvs vs) (k:κ) {y:V} {u:Value} (ry:RelV y u) :
  KV (kvs.map fun kv=>if kv.1=k then(kv.1,y) else kv) (vs.map fun kv=>if kv.1=k then(kv.1,u) else kv):=by
 unfold KV at r ⊢
 induction r with
 | nil=>exact .nil
 | @cons p q ps qs h t ih=>
  rw[List.map_cons,List.map_cons];refine .cons ?_ ih;obtain⟨h1,h2⟩:=h
  by_cases e:p.1=k
  ·rw[if_pos e,if_pos (h1.symm.trans e)]; exact⟨h1,ry⟩
  ·rw[if_neg e,if_neg (fun z=>e (h1.trans z))]; exact⟨h1,h2⟩
theorem KV.put {kvs:List (κ×V)} {vs:List (κ×Value)} (r:KV kvs vs) (k:κ) {y:V} {u:Value} (ry:RelV y u):KV (putK kvs k y) (stored vs k u):=by
 unfold putK stored;rw[r.any k]
 by_cases e:(vs.any fun kv=>decide (kv.1=k))=true
 ·rw[if_pos e,if_pos e]; exact r.repl k ry
 ·rw[if_neg e,if_neg e]; exact Paired.snoc r ⟨rfl,ry⟩
theorem KV.length {kvs:List (κ×V)} {vs:List (κ×Value)} (r:KV kvs vs):kvs.length=vs.length:=Paired.length r
end
theorem ZAv {P:Program} {w:World} {k:Key} {u:Value} (r:RelV (kV k) u):(ZdQ P w).is k u=true:=by
 cases k with
 | inl i=>obtain⟨t,e⟩:=(show ∃t,u=Value.int i t from r); subst e; exact ZsI P w i t
 | inr x=>obtain⟨t,e⟩:=(show ∃t,u=Value.str x t from r); subst e; exact ZsJ P w x t
theorem ZqQ {P:Program} {w:World}:∀{ks:List Key} {us:List Value},Vals (ks.map kV) us→ItemsAre (ZdQ P w) ks us
 | [],_,r=>by rw[List.map_nil]at r; cases r; exact .nil
 | k::ks,_,r=>by
  rw[List.map_cons]at r
  cases r with
  | cons h t=>exact .cons (ZAv h) (ZqQ t)
abbrev KT (H:Hp):List (List Key×V)→List (List Key×Addr×Value)→Prop:=Paired fun p q=>p.1=q.1∧H q.2.1=some (.tup (p.1.map kV))∧RelV p.2 q.2.2
theorem KT.val {H:Hp} {kvs:List (List Key×V)} {xs:List (List Key×Addr×Value)} (r:KT H kvs xs) (k:List Key):RelO (valV kvs k) ((atKey xs k).map (·.2)):=by
 induction r with
 | nil=>exact True.intro
 | @cons p q ps qs h t ih=>
  obtain⟨h1,_,h2⟩:=h
  by_cases e:p.1=k
  ·have e':q.1=k:=h1.symm.trans e
   have b:atKey (q::qs) k=some q.2:=by simp[atKey,List.find?_cons,e']
   rw[Zp8 e,b]; exact h2
  ·have e' : ¬q.1=k:=fun z=>e (h1.trans z)
   have b:atKey (q::qs) k=atKey qs k:=by simp[atKey,List.find?_cons,e']
   rw[Zp7 e,b]; exact ih
theorem KT.repl {H:Hp} {kvs:List (List Key×V)} {xs:List (List Key×Addr×Value)} (r:KT H kvs xs) (k:List Key) {y:V} {u:Value} (ry:RelV y u) :
  KT H (kvs.map fun kv=>if kv.1=k then(kv.1,y) else kv) (xs.map (putAt k u)):=by
 induction r with
 | nil=>exact .nil
 | @cons p q ps qs h t ih=>
  rw[List.map_cons,List.map_cons];refine .cons ?_ ih;obtain⟨h1,h2,h3⟩:=h;unfold putAt
  by_cases e:p.1=k
  ·rw[if_pos e,if_pos (h1.symm.trans e)]; exact⟨h1,h2,ry⟩
  ·rw[if_neg e,if_neg (fun z=>e (h1.trans z))]; exact⟨h1,h2,h3⟩
theorem KT.put {H:Hp} {kvs:List (List Key×V)} {xs:List (List Key×Addr×Value)} (r:KT H kvs xs) (k:List Key) {b:Addr} {y:V} {u:Value} (hb:H b=some (.tup (k.map kV))) (ry:RelV y u) :
  KT H (putK kvs k y) (storedH xs k b u):=by
 have e:(kvs.any fun kv=>decide (kv.1=k))=(atKey xs k).isSome:=by
  rw[ZtS,(r.val k).isSome_eq,Option.isSome_map]
 unfold putK storedH;rw[e]
 by_cases q:(atKey xs k).isSome=true
 ·rw[if_pos q,if_pos q]; exact r.repl k ry
 ·rw[if_neg q,if_neg q]; exact Paired.snoc r ⟨rfl,hb,ry⟩
theorem KT.keeps {H H':Hp} {kvs:List (List Key×V)} {xs:List (List Key×Addr×Value)} (r:KT H kvs xs) (ht:∀b ys,H b=some (.tup ys)→H' b=some (.tup ys)):KT H' kvs xs:=
 Paired.mapP r fun _ _ z=>⟨z.1,ht _ _ z.2.1,z.2.2⟩
section
variable {P:Program} {w:World} {H:Hp} {h:Heap} {a:Addr}
theorem ZDt {u:HO} (ok:HOk P w H h) (e:Rd H a u):Zc0 P w H h a u:=e.ok ok
theorem Zz2 {kvs:List (Key×V)} (ok:HOk P w H h) (e:Rd H a (.dK kvs)):kvs.length≤sizeLine∧(a == sysModules)=false∧∃vs,KV kvs vs∧h.DictOf (ZdQ P w) a vs:=
 show Zc0 P w H h a (.dK kvs) from ZDt ok e
theorem ZD8 {kvs:List (Key×V)} (ok:HOk P w H h) (e:H a=some (.dK kvs)):kvs.length≤sizeLine∧(a == sysModules)=false∧∃vs,KV kvs vs∧h.DictOf (ZdQ P w) a vs:=Zz2 ok (.inl e)
theorem ZvS {ks:List Key} (ok:HOk P w H h) (e:H a=some (.tup (ks.map kV))):(tupleKind (ZdQ P w)).is h ks a:=by
 obtain⟨_,its,r,o,h1,h2,n,h3⟩:=(show Zc0 P w H h a (.tup (ks.map kV)) from ok a _ e);exact⟨o,its.toArray,n,h1,h2,h3,by simpa using ZqQ r⟩
theorem Zz3 {kvs:List (List Key×V)} (ok:HOk P w H h) (e:Rd H a (.dT kvs)):kvs.length≤sizeLine∧(a == sysModules)=false∧
  ∃xs,KT H kvs xs∧h.DictOfH (tupleKind (ZdQ P w)) a xs:=by
 obtain⟨z,y,xs,r,o,es,ep,h1,h2,h3,h4,h5⟩:=(show Zc0 P w H h a (.dT kvs) from ZDt ok e);refine⟨z,y,xs,r,o,es,ep,h1,h2,h3,h4,fun x hx=>?_,h5⟩
 have all:∀{l:List (List Key×V)} {m:List (List Key×Addr×Value)},KT H l m→∀x∈m,(tupleKind (ZdQ P w)).is h x.1 x.2.1:=by
  intro l m q
  induction q with
  | nil=>intro x hx; exact nomatch hx
  | @cons p q ps qs hq t ih=>
   intro x hx
   rcases List.mem_cons.mp hx with e | hx
   ·subst e
    exact ZvS ok (by rw[←hq.1]; exact hq.2.1)
   ·exact ih x hx
 exact all r x hx
theorem ZD9 {kvs:List (List Key×V)} (ok:HOk P w H h) (e:H a=some (.dT kvs)):kvs.length≤sizeLine∧(a == sysModules)=false∧
  ∃xs,KT H kvs xs∧h.DictOfH (tupleKind (ZdQ P w)) a xs:=Zz3 ok (.inl e)
end
def DGet (H:Hp) (a:Addr) (y:V) (r:Option V):Prop:=
 (∃kvs k,Rd H a (.dK kvs)∧y=kV k∧r=valV kvs k)∨∃kvs k b,Rd H a (.dT kvs)∧y=.ref b∧H b=some (.tup (k.map kV))∧r=valV kvs k
def DPut (H:Hp) (a:Addr) (y v:V) (H':Hp):Prop:=
 (∃kvs k,H a=some (.dK kvs)∧y=kV k∧kvs.length < sizeLine∧H'=upd H a (.dK (putK kvs k v)))∨
 ∃kvs k b,H a=some (.dT kvs)∧y=.ref b∧H b=some (.tup (k.map kV))∧kvs.length < sizeLine∧H'=upd H a (.dT (putK kvs k v))
theorem DGet.k {H:Hp} {a:Addr} {kvs:List (Key×V)} {k:Key} (e:H a=some (.dK kvs)):DGet H a (kV k) (valV kvs k):=.inl ⟨kvs,k,.inl e,rfl,rfl⟩
theorem DPut.k {H:Hp} {a:Addr} {kvs:List (Key×V)} {k:Key} {v:V} (e:H a=some (.dK kvs)) (hl:kvs.length < sizeLine):DPut H a (kV k) v (upd H a (.dK (putK kvs k v))):=.inl ⟨kvs,k,e,rfl,hl,rfl⟩
section
variable {X:Cx} {pins:List (Addr×Obj)} {σ:St} {H:Hp} {s:Shared} {a:Addr} {y v:V} {u r:Value} {o:Option V} {A:Around} {E:Value→Shared→Prop}
theorem Inv.big (I:Inv X pins σ H s):sysModules < s.heap.objs.size:=by
 have h:mainGlobals < s.heap.objs.size:=(I.mod.glob.keeps I.bk).lt;exact Nat.lt_trans (by decide) h
theorem Zve {Q:Value→Shared→Prop} (hu:A.units+1 < cLine) (I:Inv X pins σ H s) (g:DGet H a y (some v)) (ry:RelV y u) (h:∀w' s',Inv X pins σ H s'→RelV v w'→Q w' s') :
  wpAny (model X.prog X.w) A (getItem (.ref a) u) Q E s:=by
 rcases g with⟨kvs,k,e,ey,l⟩ | ⟨kvs,k,b,e,ey,eb,l⟩
 ·subst ey
  obtain⟨z,hd,vs,rel,dd⟩:=Zz2 I.hok e;obtain⟨w',hw,rw'⟩:=RelO.some_of (v:=v) (o:=valueAt vs k) (by rw[l]; exact rel.val k);exact wpAny_getItem_of (ZAv ry) dd.mapOf hw (h w' _ (I.tok _) rw')
 ·subst ey
  cases (show u=Value.ref b from ry)
  obtain⟨z,hd,xs,rel,dd⟩:=Zz3 I.hok e;obtain⟨w',hw,rw'⟩:=RelO.some_of (v:=v) (o:=(atKey xs k).map (·.2)) (by rw[l]; exact rel.val k);obtain⟨p,hp,hp2⟩:=Option.map_eq_some_iff.mp hw;refine wpAny_getItem_heap (tupleKind_room_in1 hu) (ZvS I.hok eb) dd hp ?_;rw[hp2];exact h w' _ (I.tok _) rw'
theorem Zvg {h':Heap} {t':Nat} {ob:HO} (I:Inv X pins σ H s) (mu:Mut (H a)) (hs:Heap.SameBut a s.heap h') (he:∃q,h'.get? a=some q) (new:Zc0 X.prog X.w (upd H a ob) h' a ob) :
  Inv X pins σ (upd H a ob) { s with heap:=h',toks:=t' }:=
 I.write (x:=a) (e:=a) mu (.inl rfl) (fun b q hb z=>(hs.2 b hb).trans z) he new
theorem ZBV {P:Program} {w:World} {H':Hp} {h':Heap} {kvs:List (Key×V)} {vs:List (Key×Value)} (z:kvs.length≤sizeLine) (hd:(a == sysModules)=false) (rel:KV kvs vs) (dd:h'.DictOf (ZdQ P w) a vs) :
  Zc0 P w H' h' a (.dK kvs):=⟨z,hd,vs,rel,dd⟩
theorem Zvf {H':Hp} {Q:Unit→Shared→Prop} (hu:A.units+1 < cLine) (I:Inv X pins σ H s) (g:DPut H a y v H') (ry:RelV y u) (rv:RelV v r) (h:∀s',Inv X pins σ H' s'→Q () s') :
  wpAny (model X.prog X.w) A (setItem (.ref a) u r) Q E s:=by
 rcases g with⟨kvs,k,e,ey,l,eH⟩ | ⟨kvs,k,b,e,ey,eb,l,eH⟩
 ·subst ey eH
  obtain⟨z,hd,vs,rel,dd⟩:=ZD8 I.hok e
  have hz:vs.length≤sizeLine:=by rw[←rel.length]; exact z
  have hl:(putK kvs k v).length≤sizeLine:=by have:=Zng kvs k v; omega
  refine wpAny_setItem_pairs (hsz:=hz) (ZAv ry) dd fun h' dd' hs=>h _ ?_;have he:∃q,h'.get? a=some q:=let ⟨q,_,_,hq,_⟩:=dd'; ⟨q,hq⟩;exact Zvg I (by rw[e]; exact True.intro) hs he (ZBV hl hd (rel.put k rv) dd')
 ·subst ey eH
  cases (show u=Value.ref b from ry)
  obtain⟨z,hd,xs,rel,dd⟩:=ZD9 I.hok e
  have hz:xs.length≤sizeLine:=by rw[←Paired.length rel]; exact z
  have hl:(putK kvs k v).length≤sizeLine:=by have:=Zng kvs k v; omega
  refine wpAny_setItem_heap (hsz:=hz) (tupleKind_room_in1 hu) (ZvS I.hok eb) dd fun h' dd' hs=>h _ ?_;obtain⟨q,es,ep,hq,h2,h3,h4,_,h5⟩:=dd';refine Zvg I (by rw[e]; exact True.intro) hs ⟨q,hq⟩ ⟨hl,hd,_,(rel.put k eb rv).keeps fun c ys ec=>?_,q,es,ep,hq,h2,h3,h4,h5⟩;rw[ZaW (ZdI ec e (fun z=>nomatch z))];exact ec
end
section
variable {X:Cx} {pins:List (Addr×Obj)} {σ:St} {H:Hp} {s:Shared} {a:Addr} {kvs:List (Key×V)} {k:Key} {u:Value} {A:Around} {E:Value→Shared→Prop}
end
def NoSl (i:Expr):Prop:=∀ov iv,subscripted i false ov iv=operate [ov,iv] (getItem ov iv)
theorem ZBt {prog:Program} {w:World} {A:Around} {E:Value→Shared→Prop} {s:Shared} {env:Env} {value slice:Expr} {pos:Pos} {T id:String} {Q:Value→Shared→Prop}
  (hl:typeLookup (.type T) "__getitem__" = pure (some (.builtin id))) (hs:NoSl slice)
  (h:wpAny (model prog w) A (eval value env) (fun o s₁=>wpAny (model prog w) A (eval slice env) (fun i s₂=>s₂.TypeIs o T∧wpAny (model prog w) A (getItem o i) Q E s₂) E s₁) E s) :
  wpAny (model prog w) A (eval (.Subscript value slice pos) env) Q E s:=by
 refine Subscript_ (wpAny_mono h (fun o s₁ h₁=>wpAny_mono h₁ (fun i s₂ h₂=>?_) fun _ _ x=>x) fun _ _ x=>x);obtain⟨hT,h₂⟩:=h₂;unfold subscriptTail;refine wpAny_bind ?_;rw[getitemInPython_of_ne hT.not_modules];refine wpAny_bind (wpAny_specialOf hT hl ?_)
 have fin:wpAny (model prog w) A (subscripted slice false o i) (fun r s₃=>wpAny (model prog w) A (letTemporaryGo value o r >>= fun _=>pure r) Q E s₃) E s₂:=by
  rw[hs o i];exact wpAny_operating (wpAny_mono h₂ (fun r s₃ h₃=>wpAny_bind (wpAny_letTemporaryGo (wpAny_pure h₃))) fun _ _ x=>x)
 first
  | exact wpAny_pure (wpAny_bind fin)
  | exact wpAny_bind (wpAny_pure (wpAny_bind fin))
  | exact wpAny_bind fin
theorem Zsa {X:Cx} {pins:List (Addr×Obj)} {σ:St} {H:Hp} {s:Shared} {a:Addr} {y:V} {o:Option V} (I:Inv X pins σ H s) (g:DGet H a y o):s.TypeIs (.ref a) "dict":=by
 rcases g with⟨kvs,k,e,_,_⟩ | ⟨kvs,k,b,e,_,_,_⟩
 ·obtain⟨_,_,vs,_,dd⟩:=Zz2 I.hok e
  exact dd.typeIs
 ·obtain⟨_,_,xs,_,dd⟩:=Zz3 I.hok e
  exact dd.typeIs
def ZDT (td ty:TE):TE:=fun σ H Q=>td σ H fun x H1=>ty σ H1 fun y H2=>∃a v,x=.ref a∧DGet H2 a y (some v)∧Q v H2
def ZDy (td ty tv:TE):TS:=fun D σ H=>tv σ H fun v H1=>td σ H1 fun x H2=>ty σ H2 fun y H3=>∃a H4,x=.ref a∧DPut H3 a y v H4∧D.nx σ H4
section
variable {X:Cx} {o i e value:Expr} {pos pos' tpos:Pos} {td ty tv:TE}
theorem ZpO (hu:X.A.units+1 < cLine) (ho:PE X o td) (hi:PE X i ty) (hs:NoSl i):PE X (.Subscript o i pos) (ZDT td ty):=by
 intro pins s σ H Q I h;refine ZBt PySem.F.slot_dict_getitem.lookup hs (thn (ho pins s σ H _ I h) fun u s1 ⟨x,H1,I1,rx,q1⟩=>thn (hi pins s1 σ H1 _ I1 q1) fun iv s2 ⟨y,H2,I2,ry,a,v,ex,g,q2⟩=>?_);subst ex;obtain rfl:u=Value.ref a:=rx;exact⟨Zsa I2 g,Zve hu I2 g ry fun w' s3 I3 rw'=>⟨v,H2,I3,rw',q2⟩⟩
theorem ZA8 (hu:X.A.units+1 < cLine) (ho:PE X o td) (hi:PE X i ty) (hv:PE X value tv) (hs:swapsWith value (some (.Subscript o i pos')) pos.line X.env=pure false) :
  PS X (.Assign [.Subscript o i pos'] value pos) (ZDy td ty tv):=by
 intro pins s σ H D I h;refine wpAny_Assign_Subscript (thn (hv pins s σ H _ I h) fun r s1 ⟨v,H1,I1,rv,q1⟩=>thn (ho pins s1 σ H1 _ I1 q1) fun u s2 ⟨x,H2,I2,rx,q2⟩=>thn (hi pins s2 σ H2 _ I2 q2) fun iv s3 ⟨y,H3,I3,ry,a,H4,ex,g,q3⟩=>?_) hs;subst ex;obtain rfl:u=Value.ref a:=rx;exact Zvf hu I3 g ry rv fun s4 I4=>⟨σ,H4,I4,q3⟩
end
theorem Zxz {P:Program} {w:World} {H:Hp} (h:Heap) (hb:sysModules < h.objs.size):Zc0 P w H (h.push { cls:=.type "dict",data:=.dict #[] }) h.objs.size (.dK []):=
 ⟨Nat.zero_le _,beq_eq_false_iff_ne.mpr (Ne.symm (Nat.ne_of_lt hb)),[],.nil,Heap.DictOf.new h⟩
def ZzL:TE:=fun _ H Q=>∀p,H p=none→Q (.ref p) (upd H p (.dK []))
section
variable {X:Cx} {pos:Pos}
theorem Zye:PE X (.Dict [] [] pos) ZzL:=fun pins s σ H Q I h=>
 wpAny_Dict_empty ⟨.ref s.heap.objs.size,_,I.laid (a:=s.heap.objs.size) (o:=.dK []) (t':=s.toks) (fun _ _ q=>Heap.get?_push_of_some _ q) (Nat.le_refl _) (Zxz s.heap I.big),rfl,h _ (I.hok.fresh (Nat.le_refl _))⟩
end
section
variable {X:Cx} {pins:List (Addr×Obj)} {σ:St} {H:Hp} {s:Shared} {a:Addr} {y d:V} {u r:Value} {o:Option V} {A:Around} {E:Value→Shared→Prop}
end
section
variable {X:Cx} {o e f:Expr} {apos cpos:Pos} {td ty tx:TE}
end
section
variable {X:Cx} {pins:List (Addr×Obj)} {σ:St} {H:Hp} {s:Shared} {a:Addr} {kvs:List (Key×V)} {A:Around} {E:Value→Shared→Prop}
end
section
variable {X:Cx} {pins:List (Addr×Obj)} {σ:St} {H:Hp} {s:Shared} {a:Addr} {y:V} {u:Value} {A:Around} {E:Value→Shared→Prop}
end
end L2
namespace Att
open PySem PySem.W PySem.Calls PyProof.Rows
theorem Zm7 {P:Params} {h:Heap}:∀(ns:List Int) (vs:List Value),WellAll P h vs (ns.map WData.int)→IntsAre vs ns:=by
 intro ns
 induction ns with
 | nil=>
  intro vs w;rw[List.map_nil]at w
  cases w
  exact .nil
 | cons n ns ih=>
  intro vs w;rw[List.map_cons]at w
  cases w with
  | cons a b=>
   cases a
   exact .cons _ _ (ih _ b)
theorem ZwJ {l:OpenLaw} {n:Nat} (hn:l.most=some n) {P:Params} {h:Heap} {args:List WData} {vals:List Value}
  (hpre:l.row.toRowW.claim.pre args=true) (hwl:WellAll P h vals args) :
  ∃a vs ns,vals=[Value.ref a]∧args=[WData.list (ns.map WData.int)]∧h.get? a=some { cls:=.type "list",data:=.seq vs.toArray }∧IntsAre vs ns∧ns.length≤n:=by
 have hsh:WShape.hasAll [] args [.list .int]=true:=(pre_splitW hpre).1;have hc:l.pre.holds [] { args:=args } = true:=(pre_splitW hpre).2;obtain⟨d,r,rfl,h1,h2⟩:=hasAllW_cons hsh;obtain rfl:=hasAllW_nil h2;obtain⟨xs,rfl,h3⟩:=hasW_list h1;obtain⟨ns,rfl⟩:=items_int h3
 have hlen:ns.length≤n:=by
  unfold OpenLaw.pre at hc
  have h4:(WTm.not (.lt (.lit (.int (n:Int))) (.len (.arg 0)))).holds [] { args:=[.list (ns.map .int)] } = true:=by
   have h4:=(holds_andW hc).1;rw[hn]at h4;exact h4
  have h5:=condW_of h4 (w_not (w_lt w_lit (w_len_list (w_arg rfl))));rw[List.length_map]at h5;refine Nat.le_of_not_lt fun q=>?_
  have q':(n:Int) < ((ns.length:Nat):Int):=by omega
  first
   | (rw[decide_eq_true q']at h5; exact absurd h5 (by decide))
   | (simp at h5; omega)
 cases hwl with
 | cons w1 w2=>
  cases w2
  cases w1 with
  | list ho hall=>exact⟨_,_,ns,rfl,rfl,ho,Zm7 ns _ hall,hlen⟩
theorem Zwu (l:OpenLaw) (args:List WData):l.row.toRowW.claim.post args (.bool true) args=true:=
 postW_of (r:=l.row.toRowW) (X:=(true == true))
  (show WShape.has [] (.bool true) .bool=true by first | rfl | decide | simp[WShape.has,WShape.arms,WShape.armsAll])
  (show(WTm.eq .res (.lit (.bool true))).value [] { args:=args,res:=some (.bool true),after:=args } = some (.bool (true == true)) from w_eq_bool (w_res rfl) w_lit) rfl
theorem attach_call {l:OpenLaw} {n:Nat} {q:Program} {loose:List Str} {XP:(Str→Option Value)→Heap→Prop} {YP:World→Heap→Prop} {d:DefRec}
  (hn:l.most=some n) (hdf:d.params.defaults=[])
  (call:∀(w:World) (s₀ s₁:Shared) (mg mb:Str→Option Value) (fa:Addr) (o:Obj) (pm cd doc:Value) (a:Addr) (vs:List Value) (ns:List Int),
   Ground q loose [] XP w s₀ mg mb s₁.heap→YP w s₁.heap→
   s₁.heap.get? fa=some o→o.data=.func (docDef d.name d.params d.body d.scope pm cd doc)→s₁.heap.CodeRec cd d.name→mg d.name=some (.ref fa)→
   s₁.heap.get? a=some { cls:=.type "list",data:=.seq vs.toArray }→IntsAre vs ns→ns.length≤n→s₁.gens = #[]→
   codeAny (model l.prog w) callerA (.call (.ref fa) ⟨[.ref a],[]⟩) (fun r s'=>r=.ok (.ret (.bool true))∧OldK s₁.heap s'.heap∧s'.os=s₁.os∧AllBare s'.gens) s₁) :
  WalkO q loose XP YP l.row.toRowW d [] (fun f vs=>PySem.call f vs):=by
 intro w s₀ s₁ mg mb G Y fa o pm cd doc dV kV ho hd hcd hD hmg hg args vals as hpre hlay hrd hwl hlo;obtain rfl:dV=.none:=Dflts.none hD hdf;obtain rfl:kV=.none:=Dflts.noKw hD;obtain⟨a,vs,ns,rfl,rfl,hobj,hints,hlen⟩:=ZwJ hn hpre hwl;refine enter_call (codeAny_mono (call w s₀ s₁ mg mb fa o pm cd doc a vs ns G Y ho (fd_plain hd) hcd hmg hobj hints hlen hg) fun r s' hq=>?_);obtain⟨rfl,h2,h3,h4⟩:=hq;exact⟨.inl ⟨.bool true,.bool true,[],rfl,fun _=>rfl,.bool true,Zwu l _,fun _=>⟨List.Pairwise.nil,fun _ hm=>(nomatch hm)⟩⟩,h2,h3,h4⟩
section
variable {prog:Program} {w:World} {A:Around} {E:Value→Shared→Prop} {s:Shared} {K:Frag}
end
end Att
namespace L2
open PySem PySem.Spec PyProof.Rows
theorem ZrF:∀{vs:List Value} {ns:List Int},IntsAre vs ns→Vals (ns.map V.int) vs
 | _,_,.nil=>.nil
 | _,_,.cons n t h=>.cons ⟨t,rfl⟩ (ZrF h)
def Only (H:Hp):Prop:=∀b,H b=none∨∃o xs,H b=some (.frz o (.lst xs))
theorem ZxV {P:Program} {w:World} {K:PySem.W.Frag} {mg mb:Str→Option Value} {CX:CXT} {k:Nat} {fa a:Addr} {fd:FuncData} {x:Str} {sp:Sp} {s₁:Shared} {vs:List Value} {ns:List Int}
  (KX:K.In s₁.heap) (hns:s₁.heap.Ns mainGlobals mg) (hb:s₁.heap.Ns builtinsNs mb) (hbb:∀x:Str,x≠"__name__"→mb x=bootBuiltins x) (hlim:s₁.heap.NoLimit) (hg:s₁.gens = #[])
  (ha:s₁.heap.get? a=some { cls:=.type "list",data:=.seq vs.toArray }) (hi:IntsAre vs ns) (hl:ns.length≤sizeLine) (hr:Room k callerA)
  (F:∀base:Heap,K.In base→base.Ns mainGlobals mg→FnOk P w K mg base CX k fa fd [x] sp) (hbind:∀(s:Shared) (u:Value),BindsTo s fd ⟨[u],[]⟩ [(x,u)])
  (hsp:∀H:Hp,Only H→SqL K H a (ns.map V.int)→sp [.ref a] H (fun v _=>v=.bl true) fun _ _ _=>False)
  (hCX:∀H e s',CX [] H s₁ (fun _ _ _=>False) e s'→False) :
  codeAny (model P w) callerA (.call (.ref fa) ⟨[.ref a],[]⟩) (fun r s'=>r=.ok (.ret (.bool true))∧OldK s₁.heap s'.heap∧s'.os=s₁.os∧AllBare s'.gens) s₁:=by
 have rv:=ZrF hi;have lenV:=hi.length
 have core:∀H:Hp,Only H→SqL K H a (ns.map V.int)→HOk P w H s₁.heap→(∀b,H b≠none→b=a)→(H a≠none→K.lookup a=none)→
   codeAny (model P w) callerA (.call (.ref fa) ⟨[.ref a],[]⟩) (fun r s'=>r=.ok (.ret (.bool true))∧OldK s₁.heap s'.heap∧s'.os=s₁.os∧AllBare s'.gens) s₁:=by
  intro H hO hS hok hA hK;have base_of:∀{b:Addr} {o:Obj},s₁.heap.get? b=some o→H b=none→(hidT s₁.heap H).get? b=some o:=fun e n=>ZxJ e n
  have noA:∀{b:Addr} {o:Obj} {es:Array DictEntry} {ep:Nat},s₁.heap.get? b=some o→o.data=.dict es ep→H b=none:=fun {b o es ep} e d=>by
   cases q:H b with
   | none=>rfl
   | some u=>
    have e':b=a:=hA b (by rw[q]; simp);subst e';rw[ha]at e; cases e;have d':Data.seq vs.toArray _=Data.dict es ep:=d
    cases d'
  have nsK:∀{b:Addr} {m:Str→Option Value},s₁.heap.Ns b m→(hidT s₁.heap H).Ns b m:=fun {b m} ⟨o,es,ep,e,d,r⟩=>⟨o,es,ep,base_of e (noA e d),d,r⟩
  have hKb:K.In (hidT s₁.heap H):=fun b o e=>base_of (KX b o e) (by
   cases q:H b with
   | none=>rfl
   | some u=>
    have e':b=a:=hA b (by rw[q]; simp);subst e'
    rw[hK (by rw[q]; simp)]at e; cases e)
  have hM:Mod K mg (hidT s₁.heap H):=⟨hKb,nsK hns,⟨mb,nsK hb,hbb⟩,let ⟨mc,h1,h2⟩:=hlim; ⟨mc,nsK h1,h2⟩⟩;have e0:Env0 P w K mg (hidT s₁.heap H) callerA [] s₁ H:=⟨rfl,hM,fun b o e=>ZAM e,Nat.le_of_eq (Zvy _ _),trivial,fun b hb=>absurd (show b∈([]:List Addr) from hb) (by simp),hok,.of_eq hg⟩;refine codeAny_mono ((F _ hKb (nsK hns)).run callerA [] s₁ H ⟨[.ref a],[]⟩ [.ref a] [.ref a] _ _ hr e0 (hbind s₁ (.ref a)) (.cons rfl .nil) (hsp H hO hS)) fun r s' h=>?_
  cases r with
  | error e=>exact(hCX H e s' h).elim
  | ok fl=>
   cases fl with
   | next=>exact False.elim h
   | brk=>exact False.elim h
   | cont=>exact False.elim h
   | ret u=>
    obtain⟨v,H',os,bare,un,hok',r',q⟩:=h;have q':v=.bl true:=q;subst q';obtain rfl:u=Value.bool true:=r';refine⟨rfl,OldK.of_keep fun b o e=>?_,os,bare⟩
    cases q:H b with
    | none=>exact un.keep b o e q (by intro z; exact absurd (show b∈([]:List Addr) from z) (by simp)) (by simp)
    | some u=>
     rcases hO b with z | ⟨ob,xs,z⟩
     ·rw[q]at z; cases z
     ·have z2:=un.frzs b ob _ z
      obtain⟨e1,_⟩:=hok b _ z;obtain⟨e2,_⟩:=hok' b _ z2;rw[e]at e1; cases e1;exact e2
 cases hk:K.lookup a with
 | some o=>
  have e:=KX a o hk;rw[ha]at e
  cases e
  refine core (fun _=>none) (fun _=>.inl rfl) (.inr ⟨_,vs.toArray,_,hk,rfl,rfl,rfl,by rw[List.size_toArray,lenV]; exact hl,by simpa using rv⟩) (fun b u z=>by have z':(none:Option HO)=some u:=z; cases z') (fun b z=>absurd rfl z) fun z=>absurd rfl z
 | none=>
  refine core (fun b=>if b=a then some (.frz { cls:=.type "list",data:=.seq vs.toArray } (.lst (ns.map V.int))) else none) (fun b=>?_) (.inl (.inr ⟨{ cls:=.type "list",data:=.seq vs.toArray },if_pos rfl⟩)) (fun b u z=>?_) (fun b z=>?_) fun _=>hk
  ·by_cases hb:b=a
   ·exact .inr ⟨_,_,if_pos hb⟩
   ·exact .inl (if_neg hb)
  ·by_cases hb:b=a
   ·have z':=(if_pos hb).symm.trans z
    cases z'
    subst hb;exact⟨ha,by rw[List.length_map]; exact hl,vs,_,rv,ha⟩
   ·have z':=(if_neg hb).symm.trans z
    cases z'
  ·by_cases hb:b=a
   ·exact hb
   ·exact absurd (if_neg hb) z
end L2
namespace L2
open PySem PySem.Spec PyProof.Rows
abbrev KOf {K:PySem.W.Frag} {h:Heap} (_:K.In h):PySem.W.Frag:=K
theorem ZBz {l:PySem.W.OpenLaw} {n k:Nat} {q:Program} {loose:List Str} {XP:(Str→Option Value)→Heap→Prop} {YP:World→Heap→Prop} {d:DefRec} {K:Params→PySem.W.Frag} {CX:World→CXT} {sp:World→Sp} {x:Str}
  (hn:l.most=some n) (hn2:n≤sizeLine) (hdf:d.params.defaults=[]) (hr:Room k callerA)
  (hY:∀(w:World) (h:Heap),YP w h→(K w.params).In h)
  (F:∀(w:World) (mg:Str→Option Value) (fa:Addr) (h:Heap),(K w.params).In h→h.Ns mainGlobals mg→mg d.name=some (.ref fa)→
   ∃fd:FuncData,(∀(s:Shared) (u:Value),BindsTo s fd ⟨[u],[]⟩ [(x,u)])∧
    ∀base:Heap,(K w.params).In base→base.Ns mainGlobals mg→FnOk l.prog w (K w.params) mg base (CX w) k fa fd [x] (sp w))
  (hsp:∀(w:World) (H:Hp) (a:Addr) (ns:List Int),ns.length≤n→Only H→SqL (K w.params) H a (ns.map V.int)→sp w [.ref a] H (fun v _=>v=.bl true) fun _ _ _=>False)
  (hCX:∀(w:World) (H:Hp) (s:Shared) (e:Value) (s':Shared),CX w [] H s (fun _ _ _=>False) e s'→False) :
  PySem.W.WalkO q loose XP YP l.row.toRowW d [] (fun f vs=>PySem.call f vs):=by
 refine Att.attach_call hn hdf fun w s₀ s₁ mg mb fa o pm cd doc a vs ns G Y ho hd hcd hmg hobj hints hlen hg=>?_;have KX:=hY w _ Y;obtain⟨fd,hb,hF⟩:=F w mg fa _ KX G.T.g hmg;exact ZxV KX G.T.g G.T.b G.T.builtins G.T.nolimit hg hobj hints (Nat.le_trans hlen hn2) hr hF hb (fun H hO hS=>hsp w H a ns hlen hO hS) fun H e s'=>hCX w H s₁ e s'
theorem walk_ofK {l:PySem.W.OpenLaw} {n k:Nat} {q:Program} {loose:List Str} {XP:(Str→Option Value)→Heap→Prop} {YP:World→Heap→Prop} {d:DefRec} {K:Params→PySem.W.Frag} {CX:CXT} {sp:PySem.W.Frag→Sp} {x:Str}
  (hn:l.most=some n) (hn2:n≤sizeLine) (hdf:d.params.defaults=[]) (hr:Room k callerA)
  (hY:∀(w:World) (h:Heap),YP w h→(K w.params).In h)
  (F:∀(w:World) (mg:Str→Option Value) (fa:Addr) (h:Heap),(K w.params).In h→h.Ns mainGlobals mg→mg d.name=some (.ref fa)→
   ∃fd:FuncData,(∀(s:Shared) (u:Value),BindsTo s fd ⟨[u],[]⟩ [(x,u)])∧
    ∀base:Heap,(K w.params).In base→base.Ns mainGlobals mg→FnOk l.prog w (K w.params) mg base CX k fa fd [x] (sp (K w.params)))
  (hsp:∀(K:PySem.W.Frag) (H:Hp) (a:Addr) (ns:List Int),ns.length≤n→Only H→SqL K H a (ns.map V.int)→sp K [.ref a] H (fun v _=>v=.bl true) fun _ _ _=>False)
  (hCX:∀(H:Hp) (s:Shared) (e:Value) (s':Shared),CX [] H s (fun _ _ _=>False) e s'→False) :
  PySem.W.WalkO q loose XP YP l.row.toRowW d [] (fun f vs=>PySem.call f vs):=
 ZBz (K:=K) (CX:=fun _=>CX) (sp:=fun w=>sp (K w.params)) hn hn2 hdf hr hY F (fun w H a ns h1 h2 h3=>hsp (K w.params) H a ns h1 h2 h3) fun _ H s e s'=>hCX H s e s'
end L2
namespace L2
open PySem PySem.Spec PyProof.Rows
def ZbP (s:Stmt) (j:Nat):Stmt:=match s with
 | .ClassDef _ _ _ body _ _ _ _ _ _ _=>body.getD j (.Pass ⟨0,0,0,0⟩)
 | _=>.Pass ⟨0,0,0,0⟩
def Zjl (s:Stmt):Arguments:=match s with
 | .FunctionDef _ a _ _ _ _ _ _ _ _=>a
 | _=>{ posonlyargs:=[],args:=[],vararg:=none,kwonlyargs:=[],kw_defaults:=[],kwarg:=none,defaults:=[] }
def Zgb (s:Stmt):List Stmt:=match s with
 | .FunctionDef _ _ b _ _ _ _ _ _ _=>b
 | _=>[]
def Zaj (s:Stmt):Scope:=match s with
 | .FunctionDef _ _ _ _ _ _ sc _ _ _=>sc
 | _=>{ kind:=.function,names:=[],isGenerator:=false,isCoroutine:=false }
abbrev CX0:CXT:=fun _ _ _ _ _ _=>False
abbrev E0:XK:=fun _ _ _=>False
theorem Zwm {X:Cx}:Zi0 CX0 X E0:=fun _ _ _ _ _ _ _ h=>h.elim
structure Fun (K:PySem.W.Frag) (x qual:Str) (st:Stmt) (f:Addr) (fd:FuncData):Prop where
 ex:∃(oc:Value) (od:Option Addr) (kV doc pm:Value) (an:Option Addr) (cdv ct:Value) (osl:Array (Option Value)),
  fd=PySem.W.fnOf x qual (Zjl st) (Zgb st) (Zaj st) .none kV doc pm an cdv ct∧K.lookup f=some ⟨oc,od,.func fd,osl⟩ ∧PySem.W.codeIn K cdv qual=true
 kp:PySem.W.keepIn K (.ref f)=true
section
variable {P:Program} {w:World} {K:PySem.W.Frag} {mg:Str→Option Value} {base:Heap}
theorem Fun.ok {x qual:Str} {st:Stmt} {f:Addr} {fd:FuncData} {N ps:List Str} {k:Nat} {sp:Sp} (F:Fun K x qual st f fd) (S:FnScope N ps (Zaj st)) (len:∀vs H Q E,sp vs H Q E→vs.length=ps.length)
  (hbody:∀(cdv:Value) (A:Around) (outer:List Env) (s:Shared) (H:Hp) (vs:List V) (Q:VK) (E:XK),Room k (A.deeper (envOfC qual (Zaj st) s.heap.objs.size f cdv))→sp vs H Q E→
   ∃t,PSs (cxOf CX0 P w K mg base N qual (Zaj st) f cdv A outer s H E).nox (Zgb st) t∧t { nx:=fun _ H'=>Q .non H',rt:=Q } (start N vs) H):FnOk P w K mg base CX0 (k+1) f fd ps sp:=by
 obtain⟨oc,od,kV,doc,pm,an,cdv,ct,osl,rfl,lk,hcd⟩:=F.ex;refine ZB3 lk hcd S len fun A outer s H vs Q E hr hsp=>?_;obtain⟨t,h,q⟩:=hbody cdv A outer s H vs Q E hr hsp;exact⟨t,h.nox,q⟩
theorem Fun.binds {x qual:Str} {st:Stmt} {f:Addr} {fd:FuncData} {ps:List Str} (F:Fun K x qual st f fd)
  (h:∀(kV doc pm:Value) (an:Option Addr) (cdv ct:Value) (us:List Value),us.length=ps.length→bindArgs (PySem.W.fnOf x qual (Zjl st) (Zgb st) (Zaj st) .none kV doc pm an cdv ct) ⟨us,[]⟩=pure (ps.zip us)):ZaL K fd ps []:=by
 obtain⟨oc,od,kV,doc,pm,an,cdv,ct,osl,rfl,lk,hcd⟩:=F.ex;exact .all (h kV doc pm an cdv ct)
theorem ZyY {x qual:Str} {st:Stmt} {f:Addr} {oc:Value} {od an:Option Addr} {osl:Array (Option Value)} {kV doc pm cdv ct:Value} (l:K.lookup f=some ⟨oc,od,.func (PySem.W.fnOf x qual (Zjl st) (Zgb st) (Zaj st) .none kV doc pm an cdv ct),osl⟩)
  (c:PySem.W.codeIn K cdv qual=true) (k:PySem.W.keepIn K (.ref f)=true):Fun K x qual st f (PySem.W.fnOf x qual (Zjl st) (Zgb st) (Zaj st) .none kV doc pm an cdv ct):=⟨⟨oc,od,kV,doc,pm,an,cdv,ct,osl,rfl,l,c⟩,k⟩
end
section
variable {X:Cx}
theorem pv (i:Nat) {x:Str} {pos:Pos} (hN:X.N[i]?=some x:=by rfl) (hv:Vis X.env.scope x:=by first | exact Or.inl rfl | exact Or.inr (Or.inl rfl) | exact Or.inr (Or.inr rfl)) (hd:(x == ("__debug__" : Str))=false:=by decide)
  (hcd:(x == ("__classdict__" : Str))=false:=by decide):PE X (.Name x pos) (tVar i):=ZDb hN hv hd hcd
end
abbrev Same (H H':Hp):Prop:=∀b o,H b=some o→H' b=some o
theorem Same.refl (H:Hp):Same H H:=fun _ _ h=>h
theorem Same.trans {H H1 H2:Hp} (a:Same H H1) (b:Same H1 H2):Same H H2:=fun c o h=>b c o (a c o h)
theorem Same.free {H H':Hp} (e:Same H H') {l:Addr} (h:H' l=Option.none):H l=Option.none:=by
 cases q:H l with
 | none=>rfl
 | some o=>
  rw[e l o q]at h
  cases h
theorem Same.seq {K:PySem.W.Frag} {H H':Hp} {a:Addr} {xs:List V} (e:Same H H') (h:SqL K H a xs):SqL K H' a xs:=by
 rcases h with(h | ⟨o,h⟩) | h
 ·exact .inl (.inl (e _ _ h))
 ·exact .inl (.inr ⟨o,e _ _ h⟩)
 ·exact .inr h
section
variable {X:Cx}
end
section
variable {κ:Type} [DecidableEq κ]
end
end L2
namespace EM
end EM
namespace EM
inductive W3 where
 | a | e | o
 deriving DecidableEq
inductive Fm where
 | lamp (k:Nat)
 | sure (b:Bool)
 | neg (f:Fm)
 | join (w:W3) (fs:List Fm)
mutual
def Fm.low (m:Nat):Fm→Bool
 | .lamp k=>decide (k < m)
 | .sure _=>true
 | .neg f=>f.low m
 | .join _ fs=>Fm.lowL m fs
def Fm.lowL (m:Nat):List Fm→Bool
 | []=>true
 | f::fs=>f.low m && Fm.lowL m fs
end
theorem Zv0 (m:Nat):∀fs:List Fm,Fm.lowL m fs=fs.all (Fm.low m)
 | []=>by simp[Fm.lowL]
 | f::fs=>by simp[Fm.lowL,Zv0 m fs]
theorem ZpB (m:Nat) (w:W3) (fs:List Fm):(Fm.join w fs).low m=fs.all (Fm.low m):=by
 simp[Fm.low,Zv0]
end EM
namespace L2
open PySem PySem.Spec PyProof.Rows
section
variable {σ:St} {H:Hp} {Q:VK} {D:Ends} {K:PySem.W.Frag} {BQ:Bool→Hp→Prop}
theorem ZCy {i:Nat} {v:V} (h:σ[i]?=some (some v)) (k:Q v H):tVar i σ H Q:=⟨v,h,k⟩
theorem i_c {v:V} (k:Q v H):tC v σ H Q:=k
theorem i_op {r:R2} {ta tb:TE} (h:ta σ H fun x H1=>tb σ H1 fun y H2=>r x y H2 Q):tOp r ta tb σ H Q:=h
theorem i_un {r:V→Hp→VK→Prop} {ta:TE} (h:ta σ H fun x H1=>r x H1 Q):tUn r ta σ H Q:=h
theorem ZCs {g:Int→Int→V} {i j:Int} (h:Q (g i j) H):rI0 g (.int i) (.int j) H Q:=⟨i,j,rfl,rfl,h⟩
theorem i_rI {C:Int→Int→Prop} {g:Int→Int→V} {i j:Int} (c:C i j) (h:Q (g i j) H):rI C g (.int i) (.int j) H Q:=⟨i,j,rfl,rfl,c,h⟩
theorem i_rU {g:Int→V} {i:Int} (h:Q (g i) H):rU g (.int i) H Q:=⟨i,rfl,h⟩
theorem ZAh {i j:Int} (h:Q (.bl (decide (i=j))) H):rEq (.int i) (.int j) H Q:=by
 refine⟨rfl,?_⟩
 have e:decide (V.int i=V.int j)=decide (i=j):=by simp
 rw[e]; exact h
theorem ZAi {i j:Str} (h:Q (.bl (decide (i=j))) H):rEq (.str i) (.str j) H Q:=by
 refine⟨rfl,?_⟩
 have e:decide (V.str i=V.str j)=decide (i=j):=by simp
 rw[e]; exact h
theorem ZAo {i j:Int} (h:Q (.bl (!decide (i=j))) H):rNe (.int i) (.int j) H Q:=by
 refine⟨rfl,?_⟩
 have e:decide (V.int i=V.int j)=decide (i=j):=by simp
 rw[e]; exact h
theorem ZAp {i j:Str} (h:Q (.bl (!decide (i=j))) H):rNe (.str i) (.str j) H Q:=by
 refine⟨rfl,?_⟩
 have e:decide (V.str i=V.str j)=decide (i=j):=by simp
 rw[e]; exact h
theorem Zzm {t:TE} (h:t σ H fun x H'=>∃k,x=.bl k∧BQ k H'):ZDZ t σ H BQ:=h
theorem ZCh {b:Bool} {R:Bool→Prop} (h:R b):∃k,V.bl b=V.bl k∧R k:=⟨b,rfl,h⟩
theorem ZCb {t u:TT} (h:t σ H fun c H1=>if c=true then u σ H1 BQ else BQ false H1):tAnd t u σ H BQ:=h
theorem i_or {t u:TT} (h:t σ H fun c H1=>if c=true then BQ true H1 else u σ H1 BQ):tOr t u σ H BQ:=h
theorem ZCr {t:TT} (h:t σ H fun c H1=>BQ (!c) H1):tNot t σ H BQ:=h
theorem Zy0 {t u:TE} (h:t σ H fun x H1=>∃c,x=.bl c∧if c=true then u σ H1 Q else Q (.bl false) H1):ZDS t u σ H Q:=h
theorem i_if {t:TT} {ta tb:TE} (h:t σ H fun c H1=>if c=true then ta σ H1 Q else tb σ H1 Q):tIf t ta tb σ H Q:=h
theorem ZqM {t u:TS} (h:t { D with nx:=u D } σ H):tSeq t u D σ H:=h
theorem Zzh (h:D.nx σ H):ZDW D σ H:=h
theorem Zy2 {te:TE} (h:te σ H fun _ H1=>D.nx σ H1):ZBv te D σ H:=h
theorem ZCv {te:TE} (h:te σ H D.rt):tRet te D σ H:=h
theorem ZCl {c:TT} {t u:TS} (h:c σ H fun b H1=>if b=true then t D σ H1 else u D σ H1):tIfS c t u D σ H:=h
theorem ZCc {te:TE} {g:TG} (h:te σ H fun x H1=>g x σ H1 D.nx):tAsg te g D σ H:=h
theorem Zze {i:Nat} {v:V} {R:St→Hp→Prop} (h:R (σ.set i (some v)) H):Zn9 i v σ H R:=h
theorem ZCp {R:List V→Hp→Prop} (h:R [] H):tNil σ H R:=h
theorem Zy1 {ta:TE} {tr:TA} {R:List V→Hp→Prop} (h:ta σ H fun x H1=>tr σ H1 fun xs H2=>R (x::xs) H2):Zow ta tr σ H R:=h
theorem i_cb {r:List V→Hp→VK→Prop} {t:TA} (h:t σ H fun vs H1=>r vs H1 Q):tCB r t σ H Q:=h
def NewL (xs:List V) (H:Hp) (Q:VK):Prop:=xs.length≤sizeLine∧∀p,H p=none→Q (.ref p) (upd H p (.lst xs))
def NewT (xs:List V) (H:Hp) (Q:VK):Prop:=xs.length≤sizeLine∧∀p,H p=none→Q (.ref p) (upd H p (.tup xs))
theorem ZCx {t:TA} (h:t σ H fun xs H1=>NewT xs H1 Q):tTup t σ H Q:=h
theorem ZCo {t:TA} (h:t σ H fun xs H1=>NewL xs H1 Q):tLst t σ H Q:=h
theorem i_bm {T:String} {r:V→List V→Hp→VK→Prop} {to:TE} {t:TA} (h:to σ H fun x H1=>tyV K T x H1∧t σ H1 fun xs H2=>r x xs H2 Q):tBM K T r to t σ H Q:=h
theorem ZCd {T:String} {r:V→List V→Hp→VK→Prop} {to:TE} (h:to σ H fun x H1=>tyV K T x H1∧r x [] H1 Q):tBM0 K T r to σ H Q:=h
theorem ZCj {ta:TE} {f:Str} (h:ta σ H fun x H1=>∃a C dx fs v,x=.ref a∧H1 a=some (.ins C dx fs)∧Cls K C∧ZbO K C f∧fs.lookup f=some v∧Q v H1):tFld K ta f σ H Q:=h
theorem Zzl {ta tv:TE} {f:Str} (h:tv σ H fun y H1=>ta σ H1 fun x H2=>∃a C dx fs,x=.ref a∧H2 a=some (.ins C dx fs)∧Cls K C∧ZbO K C f∧fs.length < 1000∧D.nx σ (upd H2 a (.ins C dx (putF f y fs)))):sFld K ta tv f D σ H:=h
theorem i_sl {r:V→Option Int→Option Int→Hp→VK→Prop} {te:TE} {tl th:TO} (h:te σ H fun x H1=>tl σ H1 fun l H2=>th σ H2 fun u H3=>r x l u H3 Q):tSl r te tl th σ H Q:=h
theorem Zzk {t:TE} {R:Option Int→Hp→Prop} (h:t σ H fun x H1=>∃i,x=.int i∧R (some i) H1):ZBx t σ H R:=h
theorem ZCi {b:Int} {R:Int→Prop} (h:R b):∃k,V.int b=V.int k∧R k:=⟨b,rfl,h⟩
theorem Ztk {R:Option Int→Hp→Prop} (h:R none H):Zs3 σ H R:=h
theorem Zzn {b:Bool} {R:Bool→Prop} (h:R b):∃k,TruV K (.bl b) H k∧R k:=⟨b,rfl,h⟩
theorem ZbN {c A B:Prop} [Decidable c] (h1:c→A) (h2 : ¬c→B):if decide c=true then A else B:=by
 by_cases h:c
 ·rw[if_pos (decide_eq_true h)]; exact h1 h
 ·rw[if_neg (by simp[h])]; exact h2 h
theorem ZEd {b:Bool} {A B:Prop} (h1:b=true→A) (h2:b=false→B):if b=true then A else B:=by
 cases b
 ·rw[if_neg Bool.false_ne_true]; exact h2 rfl
 ·rw[if_pos rfl]; exact h1 rfl
theorem Zbn {b:Bool} {A B:Prop} (h:b=true) (k:A):if b=true then A else B:=by rw[if_pos h]; exact k
theorem Za7 {b:Bool} {A B:Prop} (h:b=false) (k:B):if b=true then A else B:=by rw[if_neg (by rw[h]; exact Bool.false_ne_true)]; exact k
end
def ZBC (lo:Int) (n:Nat) (g:TG) (tb:TS) (D:Ends) (σ:St) (H:Hp):Prop:=
 ∃W:Nat→Nat→St→Hp→Prop,(∃m,W 0 m σ H)∧∀i m σ H,W i m σ H→
   ((Itr lo n).stop i H∧D.nx σ H)∨((Itr lo n).go i H∧∃N:St→Hp→Prop,(∀σ' H',N σ' H'→∃m',m' < m∧W (i+1) m' σ' H')∧∀x H',(Itr lo n).yld i H x H'→g x σ H' fun σ2 H2=>tb { D with nx:=N,ct:=N,bk:=D.nx } σ2 H2)
def ZBB (K:PySem.W.Frag) (a:Addr) (g:TG) (tb:TS) (D:Ends) (σ:St) (H:Hp):Prop:=
 ∃W:Nat→Nat→St→Hp→Prop,(∃m,W 0 m σ H)∧∀i m σ H,W i m σ H→
   ((Itl K a).stop i H∧D.nx σ H)∨((Itl K a).go i H∧∃N:St→Hp→Prop,(∀σ' H',N σ' H'→∃m',m' < m∧W (i+1) m' σ' H')∧∀x H',(Itl K a).yld i H x H'→g x σ H' fun σ2 H2=>tb { D with nx:=N,ct:=N,bk:=D.nx } σ2 H2)
def ZBD (K:PySem.W.Frag) (a:Addr) (g:TG) (tb:TS) (D:Ends) (σ:St) (H:Hp):Prop:=
 ∃W:Nat→Nat→St→Hp→Prop,(∃m,W 0 m σ H)∧∀i m σ H,W i m σ H→
   ((Itt K a).stop i H∧D.nx σ H)∨((Itt K a).go i H∧∃N:St→Hp→Prop,(∀σ' H',N σ' H'→∃m',m' < m∧W (i+1) m' σ' H')∧∀x H',(Itt K a).yld i H x H'→g x σ H' fun σ2 H2=>tb { D with nx:=N,ct:=N,bk:=D.nx } σ2 H2)
section
variable {σ:St} {H:Hp} {D:Ends} {K:PySem.W.Frag} {g:TG} {tb:TS}
theorem ZvA {ta:TA} (h:ta σ H fun vs H1=>∃j:Int,vs=[.int j]∧-(2 ^ 62)≤j∧j < 2 ^ 62∧ZBC 0 j.toNat g tb D σ H1):tFor (ZAf ta) g tb D σ H:=h
theorem Zni {n:Nat} (Pv:Nat→St→Hp→Prop) (h0:Pv 0 σ H) (hs:∀(i:Nat) σ H,i < n→Pv i σ H→g (.int (i:Int)) σ H fun σ2 H2=>tb { D with nx:=Pv (i+1),ct:=Pv (i+1),bk:=D.nx } σ2 H2) (hd:∀σ H,Pv n σ H→D.nx σ H):ZBC 0 n g tb D σ H:=Zvq Pv h0 (fun i σ H hi p=>by rw[Int.zero_add]; exact hs i σ H hi p) hd
theorem ZEl {a:Addr} {xs:List V} (Pv:Nat→St→Hp→Prop) (h0:Pv 0 σ H) (hl:∀i σ H,i≤xs.length→Pv i σ H→SqL K H a xs) (hs:∀i x σ H,xs[i]?=some x→Pv i σ H→g x σ H fun σ2 H2=>tb { D with nx:=Pv (i+1),ct:=Pv (i+1),bk:=D.nx } σ2 H2) (hd:∀σ H,Pv xs.length σ H→D.nx σ H):ZBB K a g tb D σ H:=ZxB Pv h0 hl hs hd
theorem ZEm {a:Addr} {xs:List V} (Pv:Nat→St→Hp→Prop) (h0:Pv 0 σ H) (hl:∀i σ H,i≤xs.length→Pv i σ H→SqT K H a xs) (hs:∀i x σ H,xs[i]?=some x→Pv i σ H→g x σ H fun σ2 H2=>tb { D with nx:=Pv (i+1),ct:=Pv (i+1),bk:=D.nx } σ2 H2) (hd:∀σ H,Pv xs.length σ H→D.nx σ H):ZBD K a g tb D σ H:=Zz4 Pv h0 hl hs hd
end
def Its (x:Str):It:=⟨fun i _=>i < x.cps.size,fun i H v H'=>H'=H∧∃c,x.cps[i]?=some c∧v=.str ⟨#[c]⟩,fun i _=>x.cps.size≤i⟩
theorem Zw2 {P:Program} {w:World} {K:PySem.W.Frag} {tg:Expr} (x:Str) (t:Tok) (it:Addr):Turn P w K tg (Its x) [it] it (fun i h=>h.IsStrIter it "str_ascii_iterator" x t i) where
 mem:=by simp
 obj:=fun i h st b hb=>by
  have e:b=it:=by simpa using hb
  subst e;obtain⟨o,e,c,d⟩:=st;exact⟨o,e,fun v z=>by rw[d]at z; cases z⟩
 keep:=fun i h h' st k=>let ⟨o,ho,r⟩:=st; ⟨o,k it (by simp) o ho,r⟩
 item:=by
  intro X hP hw hK hc i pins s σ H E I hf st hg;subst hP hw hK;obtain⟨f0,f1,f2,f3,f4,f5⟩:=hf it (by simp);have hg:i < x.cps.size:=hg;refine wpAny_pyNext_ascii_item st (c:=x.cps[i]) (by simp[hg]) fun h' st' sb=>?_;have I1:Inv X pins σ H { s with heap:=h',toks:=s.toks+1 }:=I.turned (fun b o hb e=>(sb.2 b hb).trans e) f0 f1 f3 f4 f5;obtain⟨o,e,c,d⟩:=id st';exact⟨_,rfl,Zuc (s:={ s with heap:=h',toks:=s.toks+1 }) e c d (by decide) ⟨.str ⟨#[x.cps[i]]⟩,H,I1,⟨_,rfl⟩,⟨rfl,_,by simp[hg],rfl⟩,st',fun b hb=>(hf b hb).1⟩⟩
 done:=by
  intro X hP hw hK hc i pins s σ H E I hf st hg;subst hP hw hK;obtain⟨f0,f1,f2,f3,f4,f5⟩:=hf it (by simp);have hg:x.cps.size≤i:=hg;exact wpAny_pyNext_ascii_end (I.ok.hd hc) st (by simp[hg]) fun h' eb=>⟨rfl,I.turned (t':=s.toks) (fun b o hb e=>eb b o hb e) f0 f1 f3 f4 f5⟩
 self:=fun _ _ _ _ _ st h=>wpAny_pyIter_striter_ascii st h
theorem Zw3 {P:Program} {w:World} {K:PySem.W.Frag} {tg:Expr} (x:Str) (t:Tok) (it:Addr):Turn P w K tg (Its x) [it] it (fun i h=>h.IsStrIter it "str_iterator" x t i) where
 mem:=by simp
 obj:=fun i h st b hb=>by
  have e:b=it:=by simpa using hb
  subst e;obtain⟨o,e,c,d⟩:=st;exact⟨o,e,fun v z=>by rw[d]at z; cases z⟩
 keep:=fun i h h' st k=>let ⟨o,ho,r⟩:=st; ⟨o,k it (by simp) o ho,r⟩
 item:=by
  intro X hP hw hK hc i pins s σ H E I hf st hg;subst hP hw hK;obtain⟨f0,f1,f2,f3,f4,f5⟩:=hf it (by simp);have hg:i < x.cps.size:=hg;refine wpAny_pyNext_wide_item st (c:=x.cps[i]) (by simp[hg]) fun h' st' sb=>?_;have I1:Inv X pins σ H { s with heap:=h',toks:=s.toks+1 }:=I.turned (fun b o hb e=>(sb.2 b hb).trans e) f0 f1 f3 f4 f5;obtain⟨o,e,c,d⟩:=id st';exact⟨_,rfl,Zuc (s:={ s with heap:=h',toks:=s.toks+1 }) e c d (by decide) ⟨.str ⟨#[x.cps[i]]⟩,H,I1,⟨_,rfl⟩,⟨rfl,_,by simp[hg],rfl⟩,st',fun b hb=>(hf b hb).1⟩⟩
 done:=by
  intro X hP hw hK hc i pins s σ H E I hf st hg;subst hP hw hK;obtain⟨f0,f1,f2,f3,f4,f5⟩:=hf it (by simp);have hg:x.cps.size≤i:=hg;exact wpAny_pyNext_wide_end (I.ok.hd hc) st (by simp[hg]) fun h' eb=>⟨rfl,I.turned (t':=s.toks) (fun b o hb e=>eb b o hb e) f0 f1 f3 f4 f5⟩
 self:=fun _ _ _ _ _ st h=>wpAny_pyIter_striter_wide st h
def iSeq (K:PySem.W.Frag) (tl:TE):TI:=fun σ H R=>tl σ H fun x H1=>(∃a xs,x=.ref a∧SqL K H1 a xs∧R (Itl K a) H1)∨(∃a xs,x=.ref a∧SqT K H1 a xs∧R (Itt K a) H1)∨(∃z,x=.str z∧R (Its z) H1)
theorem Zfz {X:Cx} {tg:Expr} {l:Expr} {tl:TE} (hl:PE X l tl):PI X tg l (iSeq X.K tl):=by
 intro pins s σ H R I h;refine thn (hl pins s σ H _ I h) fun v s1 ⟨x,H1,I1,r1,q1⟩=>?_
 have fp:∀b∈[s1.heap.objs.size],FpOk X pins H1 b:=fun b hb=>by
  have e:b=s1.heap.objs.size:=by simpa using hb
  subst e;exact I1.fpOk (Nat.le_refl _) (I1.hok.fresh (Nat.le_refl _))
 rcases q1 with⟨a,xs,e,hq,q⟩ | ⟨a,xs,e,hq,q⟩ | ⟨z,e,q⟩
 ·subst e
  cases r1
  obtain⟨its,rv,p,hz⟩:=I1.list hq;refine wpAny_pyIter_list p.isList ?_;exact⟨s1.heap.objs.size,[s1.heap.objs.size],_,_,H1,rfl,I1.kept (t':=s1.toks) fun b o e=>Heap.get?_push_of_some _ e,Zw1 a _,⟨_,Heap.get?_push_size _ rfl,rfl,rfl⟩,fp,q⟩
 ·subst e
  cases r1
  obtain⟨its,rv,p,hz⟩:=I1.tuple hq;refine wpAny_pyIter_tuple (show s1.heap.IsTuple a its.toArray from p) ?_;exact⟨s1.heap.objs.size,[s1.heap.objs.size],_,_,H1,rfl,I1.kept (t':=s1.toks) fun b o e=>Heap.get?_push_of_some _ e,ZuN a _,⟨_,Heap.get?_push_size _ rfl,rfl,rfl⟩,fp,q⟩
 ·subst e
  obtain⟨t,rfl⟩:=r1
  cases ha:z.cps.all (· < 128) with
  | false=>
   refine wpAny_pyIter_wide ha ?_;exact⟨s1.heap.objs.size,[s1.heap.objs.size],_,_,H1,rfl,I1.kept (t':=s1.toks) fun b o e=>Heap.get?_push_of_some _ e,Zw3 z t _,⟨_,Heap.get?_push_size _ rfl,rfl,rfl⟩,fp,q⟩
  | true=>
   refine wpAny_pyIter_ascii ha ?_;exact⟨s1.heap.objs.size,[s1.heap.objs.size],_,_,H1,rfl,I1.kept (t':=s1.toks) fun b o e=>Heap.get?_push_of_some _ e,Zw2 z t _,⟨_,Heap.get?_push_size _ rfl,rfl,rfl⟩,fp,q⟩
def ZD6 (x:Str) (g:TG) (tb:TS) (D:Ends) (σ:St) (H:Hp):Prop:=
 ∃W:Nat→Nat→St→Hp→Prop,(∃m,W 0 m σ H)∧∀i m σ H,W i m σ H→
   ((Its x).stop i H∧D.nx σ H)∨((Its x).go i H∧∃N:St→Hp→Prop,(∀σ' H',N σ' H'→∃m',m' < m∧W (i+1) m' σ' H')∧∀x' H',(Its x).yld i H x' H'→g x' σ H' fun σ2 H2=>tb { D with nx:=N,ct:=N,bk:=D.nx } σ2 H2)
def SeqW (K:PySem.W.Frag) (x:V) (g:TG) (tb:TS) (D:Ends) (σ:St) (H1:Hp):Prop:=
 (∃a xs,x=.ref a∧SqL K H1 a xs∧ZBB K a g tb D σ H1)∨(∃a xs,x=.ref a∧SqT K H1 a xs∧ZBD K a g tb D σ H1)∨(∃z,x=.str z∧ZD6 z g tb D σ H1)
section
variable {σ:St} {H:Hp} {D:Ends} {K:PySem.W.Frag} {g:TG} {tb:TS}
theorem Zy7 {tl:TE} (h:tl σ H fun x H1=>SeqW K x g tb D σ H1):tFor (iSeq K tl) g tb D σ H:=h
theorem seqL {a:Addr} {xs:List V} (Pv:Nat→St→Hp→Prop) (h0:Pv 0 σ H) (hl:∀i σ H,i≤xs.length→Pv i σ H→SqL K H a xs) (hs:∀i x σ H,xs[i]?=some x→Pv i σ H→g x σ H fun σ2 H2=>tb { D with nx:=Pv (i+1),ct:=Pv (i+1),bk:=D.nx } σ2 H2) (hd:∀σ H,Pv xs.length σ H→D.nx σ H):SeqW K (.ref a) g tb D σ H:=.inl ⟨a,xs,rfl,hl 0 σ H (Nat.zero_le _) h0,ZEl Pv h0 hl hs hd⟩
theorem seqT {a:Addr} {xs:List V} (Pv:Nat→St→Hp→Prop) (h0:Pv 0 σ H) (hl:∀i σ H,i≤xs.length→Pv i σ H→SqT K H a xs) (hs:∀i x σ H,xs[i]?=some x→Pv i σ H→g x σ H fun σ2 H2=>tb { D with nx:=Pv (i+1),ct:=Pv (i+1),bk:=D.nx } σ2 H2) (hd:∀σ H,Pv xs.length σ H→D.nx σ H):SeqW K (.ref a) g tb D σ H:=.inr (.inl ⟨a,xs,rfl,hl 0 σ H (Nat.zero_le _) h0,ZEm Pv h0 hl hs hd⟩)
theorem seqX {x:Str} (Pv:Nat→St→Hp→Prop) (h0:Pv 0 σ H) (hs:∀(i:Nat) (c:Nat) σ H,x.cps[i]?=some c→Pv i σ H→g (.str ⟨#[c]⟩) σ H fun σ2 H2=>tb { D with nx:=Pv (i+1),ct:=Pv (i+1),bk:=D.nx } σ2 H2) (hd:∀σ H,Pv x.cps.size σ H→D.nx σ H):SeqW K (.str x) g tb D σ H:=by
 refine .inr (.inr ⟨x,rfl,fun i m σ H=>m=x.cps.size - i∧i≤x.cps.size∧Pv i σ H,⟨x.cps.size,by simp,Nat.zero_le _,h0⟩,?_⟩);rintro i m σ H ⟨rfl,hi,p⟩
 by_cases hlt:i < x.cps.size
 ·refine .inr ⟨hlt,Pv (i+1),fun σ' H' p'=>⟨x.cps.size - (i+1),by omega,rfl,hlt,p'⟩,fun x' H' y=>?_⟩
  obtain⟨e,c,hc,y⟩:=y;subst e y;exact hs i c σ _ hc p
 ·have e:i=x.cps.size:=by omega
  subst e;exact .inl ⟨Nat.le_refl _,hd σ H p⟩
end
section
variable (P:Program) (w:World) (K:PySem.W.Frag) (mg:Str→Option Value) (base:Heap)
def FnS (k:Nat) (x:Str) (ps:List Str) (sp:Sp):Prop:=∃f fd,FnOk P w K mg base CX0 k f fd ps sp∧ZaL K fd ps []∧PySem.W.keepIn K (.ref f)=true∧mg x=some (.ref f)
def MeS (k:Nat) (C:Addr) (m:Str) (ps:List Str) (sp:Sp):Prop:=Cls K C∧∃f fd,FnOk P w K mg base CX0 k f fd ps sp∧ZaL K fd ps []∧Meth K C m f
def MkS (k:Nat) (x:Str) (C:Addr) (ps:List Str) (sp:Sp):Prop:=mg x=some (.ref C)∧∃f fd,Mk K C f∧FnOk P w K mg base CX0 k f fd ps sp∧ZaL K fd ps []
end
abbrev tFn (sp:Sp) (t:TA):TE:=fun σ H Q=>t σ H fun vs H1=>sp vs H1 Q E0
def MkG (C:Addr) (sp:Sp) (vs:List V) (H1:Hp) (Q:VK):Prop:=∀x dx,H1 x=none→H1 dx=none→dx≠x→
 sp (.ref x::vs) (upd (upd H1 dx (.own x)) x (.ins C dx [])) (fun v H2=>v=.non∧Q (.ref x) H2) E0
abbrev tMk (C:Addr) (sp:Sp) (t:TA):TE:=fun σ H Q=>t σ H fun vs H1=>MkG C sp vs H1 Q
abbrev tDy (D:Addr→Prop) (m:Str) (sp:Sp) (ta:TE) (t:TA):TE:=fun σ H Q=>ta σ H fun x H1=>∃a C dx fs,x=.ref a∧H1 a=some (.ins C dx fs)∧D C∧fs.lookup m=none∧
 t σ H1 fun vs H2=>H2 a=some (.ins C dx fs)∧sp (x::vs) H2 Q E0
def spAt (sp:Sp) (C:Addr):Sp:=fun vs H Q E=>sp vs H Q E∧∃a dx fs r,vs=V.ref a::r∧H a=some (.ins C dx fs)
theorem i_fn {sp:Sp} {t:TA} {σ:St} {H:Hp} {Q:VK} (h:t σ H fun vs H1=>sp vs H1 Q E0):tFn sp t σ H Q:=h
theorem i_mk {C:Addr} {sp:Sp} {t:TA} {σ:St} {H:Hp} {Q:VK} (h:t σ H fun vs H1=>MkG C sp vs H1 Q):tMk C sp t σ H Q:=h
theorem i_dy {D:Addr→Prop} {m:Str} {sp:Sp} {ta:TE} {t:TA} {σ:St} {H:Hp} {Q:VK} (h:ta σ H fun x H1=>∃a C dx fs,x=.ref a∧H1 a=some (.ins C dx fs)∧D C∧fs.lookup m=none∧
 t σ H1 fun vs H2=>H2 a=some (.ins C dx fs)∧sp (x::vs) H2 Q E0):tDy D m sp ta t σ H Q:=h
theorem ZrA (sp:Sp) (t:TA):ZBu sp [] E0 t=tFn sp t:=by
 funext σ H Q
 unfold ZBu tFn
 have e:(fun(vs:List V) (H1:Hp)=>sp (vs++[]) H1 Q E0)=fun vs H1=>sp vs H1 Q E0:=by
  funext vs H1; rw[List.append_nil]
 rw[e]
theorem ZrB (C:Addr) (sp:Sp) (t:TA):ZyK C sp [] E0 t=tMk C sp t:=by
 funext σ H Q
 unfold ZyK tMk MkG
 congr 1
 funext vs H1
 rw[List.append_nil]
section
variable {X:Cx} {k k':Nat} {x m:Str} {C:Addr} {ps:List Str} {sp:Sp} {e o:Expr} {es:List Expr} {ta:TE} {t:TA} {p pos apos:Pos}
theorem Za8 (G:FnS X.prog X.w X.K X.mg X.base k x ps sp) (hr:Room k' X.A) (ha:PA X (e::es) t) (hk:k≤k':=by omega) (hg:Gl X x:=by rfl) (hdb:(x == ("__debug__" : Str))=false:=by decide)
  (he:starEach (e::es) X.env=(false,eval e X.env)::starEach es X.env:=by rfl) (hpl:(backTo pos (starEach es X.env)).any (·.1)=false:=by rfl):PE X (.Call (.Name x p) (e::es) [] pos) (tFn sp t):=by
 obtain⟨f,fd,F,hb,kp,hm⟩:=G;rw[←ZrA];exact ZsQ F (hr.mono hk) hg hm kp hb .nil Zwm ha hdb he hpl
theorem ZpP (G:MkS X.prog X.w X.K X.mg X.base k x C ps sp) (hr:Room k' X.A) (ha:PA X (e::es) t) (hk:k+1≤k':=by omega) (hg:Gl X x:=by rfl) (hdb:(x == ("__debug__" : Str))=false:=by decide)
  (he:starEach (e::es) X.env=(false,eval e X.env)::starEach es X.env:=by rfl) (hpl:(backTo pos (starEach es X.env)).any (·.1)=false:=by rfl):PE X (.Call (.Name x p) (e::es) [] pos) (tMk C sp t):=by
 obtain⟨hm,f,fd,M,F,hb⟩:=G;rw[←ZrB];exact ZAX M F (hr.mono hk) hg hm hb .nil Zwm ha hdb he hpl
theorem ZzD (G:MkS X.prog X.w X.K X.mg X.base k x C ps sp) (hr:Room k' X.A) (hk:k+1≤k':=by omega) (hg:Gl X x:=by rfl) (hdb:(x == ("__debug__" : Str))=false:=by decide):PE X (.Call (.Name x p) [] [] pos) (tMk C sp tNil):=by
 obtain⟨hm,f,fd,M,F,hb⟩:=G;rw[←ZrB];exact Zyf M F (hr.mono hk) hg hm hb .nil Zwm hdb
theorem Zoo {pl:Sem Bool} {D:Addr→Prop} (hD:∀C,D C→MeS X.prog X.w X.K X.mg X.base k C m ps (spAt sp C)) (hr:Room k' X.A) (ho:PE X o ta) (ha:PA X (e::es) t) (hk:k≤k':=by omega)
  (hst:starEach (e::es) X.env=(false,eval e X.env)::starEach es X.env:=by rfl) (hpl:(backTo pos (starEach es X.env)).any (·.1)=false:=by rfl)
  (ht:eval (.Call (.Attribute o m apos) (e::es) [] pos) X.env=(do
   let ov ←eval o X.env
   standAt apos.atName
   let (f,first) ←holding [ov] (getMethod ov m pl)
   callWith pos f first (backTo pos (starEach (e::es) X.env)) (backToKw pos (keywordEach [] X.env))):=by rfl) :
  PE X (.Call (.Attribute o m apos) (e::es) [] pos) (tDy D m sp ta t):=by
 intro pins s σ H Q I h;refine PySem.W.methodCall_KW (pl:=pl) (thn (ho pins s σ H _ I h) fun u s1 ⟨x,H1,I1,rx,a,C,dx,fs,ex,ea,hC,l,q⟩=>?_) ht;subst ex;obtain rfl:u=Value.ref a:=rx;obtain⟨c,f,fd,F,hb,hm⟩:=hD C hC;refine ZkZ I1 ea c hm l ?_;refine PySem.W.callWith_K (first:=[.ref a]) (h₀:=X.base) I.ok.mod.kin hm.kp (thn (ha pos pins s1 σ H1 _ I1 q) fun us s2 ⟨vs,H2,I2,r,eb,q2⟩=>⟨I2.kIn,?_⟩) hst hpl;exact ZtJ (us:=.ref a::us) (vs:=.ref a::vs) (dvs:=[]) (E:=E0) F (hr.mono hk) hb .nil Zwm I2 (.cons rfl r) (by rw[List.append_nil]; exact⟨q2,a,dx,fs,vs,rfl,eb⟩)
theorem Zrp {pl:Sem Bool} {D:Addr→Prop} (hD:∀C,D C→MeS X.prog X.w X.K X.mg X.base k C m ps (spAt sp C)) (hr:Room k' X.A) (ho:PE X o ta) (hk:k≤k':=by omega)
  (ht:eval (.Call (.Attribute o m apos) [] [] pos) X.env=(do
   let ov ←eval o X.env
   standAt apos.atName
   let (f,first) ←holding [ov] (getMethod ov m pl)
   callWith pos f first (backTo pos (starEach [] X.env)) (backToKw pos (keywordEach [] X.env))):=by rfl) :
  PE X (.Call (.Attribute o m apos) [] [] pos) (tDy D m sp ta tNil):=by
 intro pins s σ H Q I h;refine PySem.W.methodCall_KW (pl:=pl) (thn (ho pins s σ H _ I h) fun u s1 ⟨x,H1,I1,rx,a,C,dx,fs,ex,ea,hC,l,eb,q⟩=>?_) ht;subst ex;obtain rfl:u=Value.ref a:=rx;obtain⟨c,f,fd,F,hb,hm⟩:=hD C hC;refine ZkZ I1 ea c hm l ?_;exact PySem.W.callWith_K0 (first:=[.ref a]) I1.kIn hm.kp (ZtJ (us:=[.ref a]) (vs:=[.ref a]) (dvs:=[]) (E:=E0) F (hr.mono hk) hb .nil Zwm I1 (.cons rfl .nil) (by rw[List.append_nil]; exact⟨q,a,dx,fs,[],rfl,eb⟩))
theorem ss (i:Nat) {x:Str} {e:Expr} {te:TE} {pos pos':Pos} (hN:X.N.Nodup) (he:PE X e te) (hi:X.N[i]?=some x:=by rfl) (hx:Loc X.env.scope x:=by first | exact Or.inl rfl | exact Or.inr rfl)
  (hs:swapsWith e (some (.Name x pos')) pos.line X.env=pure false:=by rfl) (hf:X.fn x=true∨X.env.scope.names.lookup x=some .local:=by first | exact .inl rfl | exact .inr rfl):PS X (.Assign [.Name x pos'] e pos) (tAsg te (Zn9 i)):=
 ZDk hN hi hx he hs hf
theorem sg (i:Nat) {x:Str} {pos:Pos} (hN:X.N.Nodup) (hi:X.N[i]?=some x:=by rfl) (hx:Loc X.env.scope x:=by first | exact Or.inl rfl | exact Or.inr rfl) (hf:X.fn x=true∨X.env.scope.names.lookup x=some .local:=by first | exact .inl rfl | exact .inr rfl):PG X (.Name x pos) (Zn9 i):=Zwp hN hi hx hf
def rIsi (K:PySem.W.Frag):List V→Hp→VK→Prop:=fun xs H Q=>∃x t b,TyOf K H x t∧((∃n,xs=[x,.ty n]∧PySem.W.kitOne K t (.type n)=some b)∨(∃c,xs=[x,.ref c]∧PySem.W.kitOne K t (.ref c)=some b))∧Q (.bl b) H
theorem Ztb:ZiP X (.builtin "isinstance") (rIsi X.K):=by
 intro pins s σ H xs us Q I r h;obtain⟨x,t,b,ty,h,q⟩:=h
 rcases h with⟨n,rfl,e⟩ | ⟨c,rfl,e⟩
 ·obtain⟨u,v,rfl,ru,rv⟩:=Zp9 r
  obtain rfl:v=Value.type n:=rv;exact ZqP I ru ty e fun tk=>⟨.bl b,H,I.tok tk,rfl,q⟩
 ·obtain⟨u,v,rfl,ru,rv⟩:=Zp9 r
  obtain rfl:v=Value.ref c:=rv;exact ZqP I ru ty e fun tk=>⟨.bl b,H,I.tok tk,rfl,q⟩
theorem Zzb {K:PySem.W.Frag} {x:V} {n:String} {t:Value} {b:Bool} {H:Hp} {Q:VK} (ty:TyOf K H x t) (e:PySem.W.kitOne K t (.type n)=some b) (h:Q (.bl b) H):rIsi K [x,.ty n] H Q:=⟨x,t,b,ty,.inl ⟨n,rfl,e⟩,h⟩
def ZsV:R2:=fun x y H Q=>rI0 (fun i j=>V.int (i+j)) x y H Q∨(∃i j,x=.str i∧y=.str j∧i.length+j.length≤sizeLine∧Q (.str (i++j)) H)∨rCat x y H Q
theorem Zam:OpR X (binaryOp .Add) ZsV:=OpR.or ZCW (OpR.or ZuA ZCX)
theorem ZyZ {i j:Int} {H:Hp} {Q:VK} (h:Q (.int (i+j)) H):ZsV (.int i) (.int j) H Q:=.inl ⟨i,j,rfl,rfl,h⟩
theorem ZdP {i j:Str} {H:Hp} {Q:VK} (z:i.length+j.length≤sizeLine) (h:Q (.str (i++j)) H):ZsV (.str i) (.str j) H Q:=.inr (.inl ⟨i,j,rfl,rfl,z,h⟩)
theorem ZCa {l b:Addr} {xs zs:List V} {H:Hp} {Q:VK} (h1:H l=some (.lst xs)) (h2:H b=some (.lst zs)) (z:xs.length+zs.length≤sizeLine) (h:∀p,H p=none→Q (.ref p) (upd H p (.lst (xs++zs)))):ZsV (.ref l) (.ref b) H Q:=.inr (.inr ⟨l,b,xs,zs,rfl,rfl,h1,h2,z,h⟩)
end
section
variable {X:Cx} {K:PySem.W.Frag} {H:Hp} {Q:VK} {a:Expr} {ta:TE} {pos:Pos}
theorem ZbV:bootBuiltins "len" = some (.builtin "len"):=by decide +kernel
theorem Za3:bootBuiltins "isinstance" = some (.builtin "isinstance"):=by decide +kernel
theorem ZBO:bootBuiltins "max" = some (.builtin "max"):=by decide +kernel
theorem ZyS:bootBuiltins "int" = some (.type "int"):=by decide +kernel
theorem ZBP:bootBuiltins "str" = some (.type "str"):=by decide +kernel
theorem Zpa:bootBuiltins "list" = some (.type "list"):=by decide +kernel
theorem Ziw:bootBuiltins "tuple" = some (.type "tuple"):=by decide +kernel
theorem Zqx:bootBuiltins "enumerate" = some (.type "enumerate"):=by decide +kernel
theorem ZBQ:bootBuiltins "zip" = some (.type "zip"):=by decide +kernel
def GC (mg:Str→Option Value) (x:Str) (v:V):Prop:=∃u,mg x=some u∧RelV v u
theorem Zop {x:Str} {v:V} (hg:Gl X x) (h:GC X.mg x v) (hd:(x == ("__debug__" : Str))=false:=by decide):PE X (.Name x pos) (tC v):=by
 obtain⟨u,e,r⟩:=h;exact Za5 hg e r hd
abbrev ZBw (K:PySem.W.Frag) (ta:TE):TE:=fun σ H Q=>ta σ H fun x H1=>∃k,TruV K x H1 k∧Q (.bl (!k)) H1
theorem ZAY (ha:PE X a ta):PE X (.UnaryOp .Not a pos) (ZBw X.K ta):=by
 intro pins s σ H Q I h;refine UnaryOp_ (thn (ha pins s σ H _ I h) fun v s1 ⟨x,H1,I1,r1,q1⟩=>?_);exact not_of (thn (ZzO pins s1 σ H1 x v (fun k H2=>Q (.bl (!k)) H2) I1 r1 q1) fun b s2 ⟨H2,I2,q2⟩=>⟨.bl (!b),H2,I2,rfl,q2⟩)
theorem Zzj {σ:St} (h:ta σ H fun x H1=>∃k,TruV K x H1 k∧Q (.bl (!k)) H1):ZBw K ta σ H Q:=h
def rLen (K:PySem.W.Frag):List V→Hp→VK→Prop:=fun xs H Q=>∃x n,xs=[x]∧LenV K x H n∧Q (.int n) H
theorem ZaE:ZiP X (.builtin "len") (rLen X.K):=Zxx
theorem Zzd {p:Addr} {xs:List V} (h:SqL K H p xs) (k:Q (.int xs.length) H):rLen K [.ref p] H Q:=⟨_,_,rfl,.inl ⟨xs,h,rfl⟩,k⟩
theorem Zzc {p:Addr} {xs:List V} (h:H p=some (.lst xs)) (k:Q (.int xs.length) H):rLen K [.ref p] H Q:=⟨_,_,rfl,.inl ⟨xs,SqL.of h,rfl⟩,k⟩
theorem ZCn {x:Str} (z:x.length≤sizeLine) (k:Q (.int x.length) H):rLen K [.str x] H Q:=⟨_,_,rfl,⟨z,rfl⟩,k⟩
def ZDp:List V→Hp→VK→Prop:=fun xs H Q=>∃i j,xs=[.int i,.int j]∧Q (.int (if j > i then j else i)) H
theorem Zu8 (hc:X.calm=true):ZiP X (.builtin "max") ZDp:=Zu7 hc
theorem ZAm {i j:Int} (h:Q (.int (max i j)) H):ZDp [.int i,.int j] H Q:=by
 refine⟨i,j,rfl,?_⟩
 have e:(if j > i then j else i)=max i j:=by split <;> omega
 rw[e]; exact h
def ZDo:List V→Hp→VK→Prop:=fun xs H Q=>(∃i,xs=[.int i]∧Q (.int i) H)∨∃k,xs=[.bl k]∧Q (.int (if k then 1 else 0)) H
theorem Zqz:ZiP X (.type "int") ZDo:=Zu6
theorem Zza {b:Bool} (h:Q (.int (if b then 1 else 0)) H):ZDo [.bl b] H Q:=.inr ⟨b,rfl,h⟩
def ZwB (K:PySem.W.Frag):List V→Hp→VK→Prop:=fun xs H Q=>∃p ys,xs=[.ref p]∧(SqL K H p ys∨SqT K H p ys)∧∀l,H l=none→Q (.ref l) (upd H l (.lst ys))
theorem ZkS:ZiP X (.type "list") (ZwB X.K):=ZqA
def ZzG (K:PySem.W.Frag):List V→Hp→VK→Prop:=fun xs H Q=>∃p ys,xs=[.ref p]∧((SqL K H p ys∧∀l,H l=none→Q (.ref l) (upd H l (.tup ys)))∨(SqT K H p ys∧Q (.ref p) H))
theorem Zea:ZiP X (.type "tuple") (ZzG X.K):=Zpc
theorem ZoH {p:Addr} {ys:List V} (h:H p=some (.lst ys)) (k:∀l,H l=none→Q (.ref l) (upd H l (.tup ys))):ZzG K [.ref p] H Q:=⟨p,ys,rfl,.inl ⟨SqL.of h,k⟩⟩
theorem ZEe {p:Addr} {xs:List V} {j:Nat} {v:V} (h:SqL K H p xs) (e:xs[j]?=some v) (k:Q v H):rIx K (.ref p) (.int (j:Int)) H Q:=.inl ⟨p,xs,j,v,rfl,rfl,h,ZhN e,k⟩
theorem ZaO {p:Addr} {xs:List V} {j:Nat} {v:V} (h:H p=some (.lst xs)) (e:xs[j]?=some v) (k:Q v H):rIx K (.ref p) (.int (j:Int)) H Q:=.inl ⟨p,xs,j,v,rfl,rfl,SqL.of h,ZhN e,k⟩
theorem ZvC {p:Addr} {xs:List V} {i:Int} {v:V} (h:H p=some (.lst xs)) (e:atI xs i=some v) (k:Q v H):rIx K (.ref p) (.int i) H Q:=.inl ⟨p,xs,i,v,rfl,rfl,SqL.of h,e,k⟩
theorem Zss {x:Str} {i:Int} {c:Nat} (z:x.length≤sizeLine) (e:atI x.cps.toList i=some c) (k:Q (.str ⟨#[c]⟩) H):rIx K (.str x) (.int i) H Q:=.inr (.inr ⟨x,i,c,rfl,rfl,z,e,k⟩)
def rSlG (K:PySem.W.Frag):V→Option Int→Option Int→Hp→VK→Prop:=fun x lo hi H Q=>rSlL K x lo hi H Q∨rSlT K x lo hi H Q
theorem ZDD:SlR X (rSlG X.K):=SlR.or ZBj ZDF
theorem ZEg {p:Addr} {xs:List V} {lo hi:Option Int} (h:SqL K H p xs) (k:∀l,H l=none→Q (.ref l) (upd H l (.lst (cutV xs lo hi)))):rSlG K (.ref p) lo hi H Q:=.inl ⟨p,xs,rfl,h,k⟩
def ZBb:R2:=rI CMul fun i j=>V.int (i * j)
theorem Zh3:OpR X (binaryOp .Mult) ZBb:=ZC0
theorem ZlW {i j:Int} (c:CMul i j) (h:Q (.int (i * j)) H):ZBb (.int i) (.int j) H Q:=⟨i,j,rfl,rfl,c,h⟩
def rInG (K:PySem.W.Frag):R2:=fun x y H Q=>(∃i j,x=.str i∧y=.str j∧Q (.bl (!(Builtin.Str.occurrences j i 0 j.length 1).isEmpty)) H)∨rIn K false x y H Q
def ZpS (K:PySem.W.Frag):R2:=fun x y H Q=>(∃i j,x=.str i∧y=.str j∧Q (.bl (!(!(Builtin.Str.occurrences j i 0 j.length 1).isEmpty))) H)∨rIn K true x y H Q
theorem Zl7:OpR X (compareOp .In) (rInG X.K):=OpR.or Zwi Zwh
theorem Zfw:OpR X (compareOp .NotIn) (ZpS X.K):=OpR.or Zrm Zrl
theorem ZxK {l:Addr} {xs:List V} {y:V} (h:H l=some (.lst xs)) (z:xs.length < sizeLine) (k:Q .non (upd H l (.lst (xs++[y])))):ZpR (.ref l) [y] H Q:=⟨l,xs,y,rfl,rfl,h,z,k⟩
theorem ZEf {l:Addr} {xs:List V} {y:V} (h:H l=some (.lst (xs++[y]))) (k:Q y (upd H l (.lst xs))):rPop (.ref l) [] H Q:=⟨l,xs++[y],y,rfl,rfl,h,by simp,by rw[List.dropLast_concat]; exact k⟩
theorem tyL {l:Addr} {xs:List V} (h:H l=some (.lst xs)):tyV K "list" (.ref l) H:=.inl ⟨rfl,xs,SqL.of h⟩
end
theorem ZaQ {n:Nat} (h:n≤1000000):n≤sizeLine:=Nat.le_trans h (by decide)
theorem ZzJ {n:Nat} (h:n < 1000000):n < sizeLine:=Nat.lt_of_lt_of_le h (by decide)
theorem Zbo {l:List Addr} (h:l.Nodup) {i j:Nat} {a b:Addr} (ha:l[i]?=some a) (hb:l[j]?=some b) (hij:i≠j):a≠b:=by
 intro e;subst e;obtain⟨h1,e1⟩:=List.getElem?_eq_some_iff.mp ha;obtain⟨h2,e2⟩:=List.getElem?_eq_some_iff.mp hb;exact hij ((List.getElem_inj h).mp (e1.trans e2.symm))
theorem Ztp (K:PySem.W.Frag) (n:String):PySem.W.kitOne K (.type n) (.type n)=some true:=by
 unfold PySem.W.kitOne;rw[if_pos (by simp)]
theorem Ze9 {H:Hp} {p:Addr} (h:H p=none) (o:HO):Same H (upd H p o):=fun b u q=>by rw[ZaW (Zaf q h)]; exact q
theorem Zii {H:Hp} {p q:Addr} (hp:H p=none) (hq:H q=none) (o u:HO):Same H (upd (upd H q u) p o):=fun b v e=>by rw[ZaW (Zaf e hp),ZaW (Zaf e hq)]; exact e
theorem ZaY {K:PySem.W.Frag} {t:Value} {D:Addr} {b:Bool} (hne:t≠.ref D) (h1:PySem.W.isClsIn K D=true) (h2:PySem.W.typeIn K (.ref D)=some (.type "type")) (h3:PySem.W.subIn K t (.ref D)=some b):PySem.W.kitOne K t (.ref D)=some b:=by
 unfold PySem.W.kitOne;rw[if_neg (by simp[hne])];unfold PySem.W.kitCls
 dsimp only
 unfold PySem.W.isClsIn at h1;rw[if_pos (by rw[h1,h2]; rfl)];exact h3
theorem Znb (K:PySem.W.Frag) (D:Addr):PySem.W.kitOne K (.ref D) (.ref D)=some true:=by
 unfold PySem.W.kitOne;rw[if_pos (by simp)]
def Zp3 (C:Addr) (f:Str):Sp:=fun vs H Q _=>∃p dx v,vs=[.ref p,v]∧H p=some (.ins C dx [])∧Q .non (upd H p (.ins C dx [(f,v)]))
theorem Zpo {C:Addr} {f:Str} {v:V} {H:Hp} {Q:VK} (h:∀(x dx:Addr) (H':Hp),Same H H'→H x=none→H' x=some (.ins C dx [(f,v)])→Q (.ref x) H') :
  MkG C (Zp3 C f) [v] H Q:=by
 intro x dx hx hdx ne;refine⟨x,dx,v,rfl,ZaH,rfl,?_⟩;rw[ZBy];exact h x dx _ (Zii hx hdx _ _) hx ZaH
theorem lk1 (f:Str) (v:V):List.lookup f [(f,v)]=some v:=by
 have h:=ZaT f f v [];rw[if_pos rfl]at h;exact h
theorem lk0 {f g:Str} (v:V) (h : ¬g=f):List.lookup g [(f,v)]=none:=by
 have e:=ZaT f g v [];rw[if_neg h]at e;exact e
structure Bt (mg:Str→Option Value):Prop where
 len:mg "len" = none
 range:mg "range" = none
 isinstance:mg "isinstance" = none
 int:mg "int" = none
 bool:mg "bool" = none
 str:mg "str" = none
 list:mg "list" = none
 tuple:mg "tuple" = none
 dict:mg "dict" = none
 set:mg "set" = none
 sorted:mg "sorted" = none
 max:mg "max" = none
 min:mg "min" = none
 sum:mg "sum" = none
 any:mg "any" = none
 all:mg "all" = none
 abs:mg "abs" = none
 reversed:mg "reversed" = none
 enumerate:mg "enumerate" = none
 zip:mg "zip" = none
def Ext (H H':Hp):Prop:=∀b o,H b=some o→(∀xs,o≠.lst xs)→H' b=some o
theorem Ext.of {H H':Hp} (a:Same H H'):Ext H H':=fun b o h _=>a b o h
theorem ZyU {xs:List V} {k:Nat} (h:k≤xs.length):cutV xs none (some (k:Int))=xs.take k:=by
 unfold cutV;rw[HT.sIx_none,HT.sIx_nat,Nat.min_eq_left h];simp
theorem Zc9 {xs:List V} {k:Nat} (h:k≤xs.length):cutV xs (some (k:Int)) none=xs.drop k:=by
 unfold cutV;rw[HT.sIx_none,HT.sIx_nat,Nat.min_eq_left h];rw[List.take_of_length_le (by rw[List.length_drop]; omega)]
theorem Zxy (xs:List V) (v:V):cutV (xs++[v]) none (some (-1))=xs:=by
 unfold cutV;rw[HT.sIx_none]
 have e:HT.sIx (xs++[v]).length (xs++[v]).length (some (-1))=xs.length:=by
  have h:HT.sIx (xs++[v]).length (xs++[v]).length (some (-1))=(if (-1:Int) < 0 then((-1:Int)+((xs++[v]).length:Int)).toNat else min (-1:Int).toNat (xs++[v]).length):=rfl;rw[h,if_pos (by decide),List.length_append,List.length_singleton];omega
 rw[e];simp
theorem Zz1 (xs:List V) (i j:Nat):cutV xs (some (i:Int)) (some (j:Int))=(xs.drop i).take (j - i):=by
 unfold cutV;rw[HT.sIx_nat,HT.sIx_nat]
 by_cases hi:i≤xs.length
 ·rw[Nat.min_eq_left hi]
  by_cases hj:j≤xs.length
  ·rw[Nat.min_eq_left hj]
  ·rw[Nat.min_eq_right (by omega),List.take_of_length_le (by rw[List.length_drop]; omega),List.take_of_length_le (by rw[List.length_drop]; omega)]
 ·rw[Nat.min_eq_right (show xs.length≤i by omega),List.drop_eq_nil_of_le (Nat.le_refl _),List.drop_eq_nil_of_le (show xs.length≤i by omega)]
  simp
section
variable {K:PySem.W.Frag} {H:Hp} {Q:VK}
theorem ZaD {xs:List V} (z:xs.length≤1000000) (h:∀(p:Addr) (H':Hp),Same H H'→H p=none→H' p=some (.lst xs)→Q (.ref p) H'):NewL xs H Q:=
 ⟨ZaQ z,fun p hp=>h p _ (Ze9 hp _) hp ZaH⟩
theorem Zoc {xs:List V} (z:xs.length≤1000000) (h:∀(p:Addr) (H':Hp),Same H H'→H p=none→H' p=some (.tup xs)→Q (.ref p) H'):NewT xs H Q:=
 ⟨ZaQ z,fun p hp=>h p _ (Ze9 hp _) hp ZaH⟩
theorem j_sl {p:Addr} {xs ys:List V} {lo hi:Option Int} (h:SqL K H p xs) (e:cutV xs lo hi=ys) (k:∀(l:Addr) (H':Hp),Same H H'→H l=none→H' l=some (.lst ys)→Q (.ref l) H'):rSlG K (.ref p) lo hi H Q:=
 ZEg h fun l hl=>by rw[e]; exact k l _ (Ze9 hl _) hl ZaH
theorem Zcs {l b:Addr} {xs zs:List V} (h1:H l=some (.lst xs)) (h2:H b=some (.lst zs)) (z:xs.length+zs.length≤1000000) (h:∀(p:Addr) (H':Hp),Same H H'→H p=none→H' p=some (.lst (xs++zs))→Q (.ref p) H'):ZsV (.ref l) (.ref b) H Q:=
 ZCa h1 h2 (ZaQ z) fun p hp=>h p _ (Ze9 hp _) hp ZaH
theorem ZvJ {p:Addr} {ys:List V} (h:SqL K H p ys∨SqT K H p ys) (k:∀(l:Addr) (H':Hp),Same H H'→H l=none→H' l=some (.lst ys)→Q (.ref l) H'):ZwB K [.ref p] H Q:=
 ⟨p,ys,rfl,h,fun l hl=>k l _ (Ze9 hl _) hl ZaH⟩
def But (l:Addr) (H H':Hp):Prop:=∀b o,b≠l→H b=some o→H' b=some o
theorem But.ext {l:Addr} {H H':Hp} {xs:List V} (h:H l=some (.lst xs)) (s:But l H H'):Ext H H':=fun b o e n=>s b o (ZdI e h (n xs)) e
theorem But.same {l:Addr} {H0 H H':Hp} (s:But l H H') (h0:H0 l=none) (s0:Same H0 H):Same H0 H':=fun b o e=>s b o (Zaf e h0) (s0 b o e)
theorem ZmV {l:Addr} {H:Hp} {o:HO}:But l H (upd H l o):=fun b u n e=>by rw[ZaW n]; exact e
theorem ZaZ {l:Addr} {xs:List V} {y:V} (h:H l=some (.lst xs)) (z:xs.length < 1000000) (k:∀H':Hp,But l H H'→H' l=some (.lst (xs++[y]))→Q .non H'):ZpR (.ref l) [y] H Q:=ZxK h (ZzJ z) (k _ ZmV ZaH)
theorem ZEi {l:Addr} {xs:List V} {y:V} (h:H l=some (.lst (xs++[y]))) (k:∀H':Hp,But l H H'→H' l=some (.lst xs)→Q y H'):rPop (.ref l) [] H Q:=ZEf h (k _ ZmV ZaH)
end
theorem Zy9 {to ti:TE} {t:TSet} {v:V} {σ:St} {H:Hp} {R:St→Hp→Prop} (h:to σ H fun o H1=>ti σ H1 fun i H2=>t o i v H2 fun H3=>R σ H3):gSub to ti t v σ H R:=h
theorem ZAr {n j:Nat} (h:j < n):ixN n (j:Int)=some j:=by
 unfold ixN;rw[if_pos (by omega),if_pos (by omega)]; simp
theorem Zuh {H:Hp} {p:Addr} {xs:List V} {j:Nat} {v:V} {R:Hp→Prop} (h:H p=some (.lst xs)) (hj:j < xs.length) (k:∀H':Hp,But p H H'→H' p=some (.lst (xs.set j v))→R H'):ZDr (.ref p) (.int (j:Int)) v H R:=
 ⟨p,xs,j,j,rfl,rfl,h,ZAr hj,k _ ZmV ZaH⟩
end L2
namespace L2
open PySem PySem.Spec PyProof.Rows
def ZdX (X:Cx) (x:Str) (ns:List Str) (scope:Scope) (cl:List (Str×Addr)) (s:Shared) (H:Hp) (ex:List Addr):Cx where
 prog:=X.prog
 w:=X.w
 K:=X.K
 mg:=X.mg
 base:=X.base
 A:=X.A
 N:=x::ns
 s₀:=s
 H₀:=H
 env:=compEnvC scope cl s.heap.objs.size X.env
 outer:=X.stack
 stack:=X.stack
 ex:=ex
 fn:=fun _=>false
 calm:=X.calm
 pn:=[]
 xe:=fun _ _=>False
def subS (σ:St) (ix:List Nat):St:=ix.map fun k=>(σ[k]?).join
def Zox (sc:Scope) (N:List Str) (x:Str) (ns:List Str) (ix:List Nat) (scope:Scope):Prop:=
 scope.kind=.function∧(∀y∈scope.names,y.2≠.cell∧(y.2=.local→scope.names.lookup y.1=some .local)∧(y.2=.free→sc.names.lookup y.1=some .cell∨sc.names.lookup y.1=some .free))∧
 scope.names.lookup x=some .local∧(∀y∈ns,scope.names.lookup y=some .free)∧(ix.map fun k=>N[k]?)=ns.map some∧(x::ns).Nodup
instance (sc:Scope) (N:List Str) (x:Str) (ns:List Str) (ix:List Nat) (scope:Scope):Decidable (Zox sc N x ns ix scope):=by unfold Zox; infer_instance
def ZrO (J:It) (ix:List Nat) (tc:TT) (te:TE) (σ:St) (Q:VK) (H1:Hp):Prop:=∀acc,H1 acc=none→∃W:Nat→Nat→List V→Hp→Prop,(∃m,W 0 m [] (upd H1 acc (.lst [])))∧
 ∀i m ys H,W i m ys H→(J.stop i H∧Q (.ref acc) H)∨(J.go i H∧∀x H',J.yld i H x H'→tc (some x::subS σ ix) H' fun b H2=>
  if b=true then te (some x::subS σ ix) H2 fun y H3=>H3 acc=some (.lst ys)∧ys.length < sizeLine∧∃m',m' < m∧W (i+1) m' (ys++[y]) (upd H3 acc (.lst (ys++[y]))) else ∃m',m' < m∧W (i+1) m' ys H2)
def ZyJ (wi:TI) (ix:List Nat) (tc:TT) (te:TE):TE:=fun σ H Q=>wi σ H fun J H1=>ZrO J ix tc te σ Q H1
theorem ZgE {α β:Type} [BEq α] [LawfulBEq α]:∀{l:List (α×β)} {a:α} {b:β},l.lookup a=some b→(a,b)∈l
 | [],_,_,h=>by simp at h
 | (k,v)::r,a,b,h=>by
  rw[List.lookup_cons]at h
  cases e:a == k with
  | true=>
   rw[e]at h
   have:a=k:=by simpa using e
   subst this
   cases h
   exact List.mem_cons_self
  | false=>
   rw[e]at h;exact List.mem_cons_of_mem _ (ZgE h)
theorem ZkT {env:Env}:∀(names:List (Str×NameKind)) (acc:List (Str×Addr)),(∀y∈names,y.2=.free→∃c,env.cells.lookup y.1=some c)→(∀y c,acc.lookup y=some c→env.cells.lookup y=some c)→
  ∃cl,(forIn names acc fun x r=>match x with | (name,kind)=>if (kind == NameKind.free)=true then(do let a ←cellOf env name; pure (ForInStep.yield ((name,a)::r))) else pure (ForInStep.yield r):Sem (List (Str×Addr)))=pure cl∧
   (∀y c,cl.lookup y=some c→env.cells.lookup y=some c)∧(∀y,(∃c,acc.lookup y=some c)→∃c,cl.lookup y=some c)∧∀y∈names,y.2=.free→∃c,cl.lookup y.1=some c
 | [],acc,_,ha=>⟨acc,rfl,ha,fun _ h=>h,fun _ h=>nomatch h⟩
 | (name,kind)::r,acc,hn,ha=>by
  cases hk:kind == NameKind.free with
  | false=>
   obtain⟨cl,e,h1,h2,h3⟩:=ZkT r acc (fun y hy=>hn y (List.mem_cons_of_mem _ hy)) ha;refine⟨cl,?_,h1,h2,fun y hy hf=>?_⟩
   ·rw[List.forIn_cons]
    simp only [hk,Bool.false_eq_true,if_false];exact e
   ·rcases List.mem_cons.mp hy with rfl | hy
    ·have:kind=.free:=hf
     subst this;simp at hk
    ·exact h3 y hy hf
  | true=>
   have hkf:kind=.free:=by simpa using hk
   obtain⟨c,hc⟩:=hn (name,kind) List.mem_cons_self hkf;have hc:env.cells.lookup name=some c:=hc
   obtain⟨cl,e,h1,h2,h3⟩:=ZkT r ((name,c)::acc) (fun y hy=>hn y (List.mem_cons_of_mem _ hy)) (fun y c' hy=>by
    rw[List.lookup_cons]at hy
    cases e:y == name with
    | true=>
     rw[e]at hy
     have:y=name:=by simpa using e
     subst this
     cases hy
     exact hc
    | false=>
     rw[e]at hy
     exact ha y c' hy)
   refine⟨cl,?_,h1,fun y hy=>h2 y ?_,fun y hy hf=>?_⟩
   ·rw[List.forIn_cons]
    simp only [hk,if_true]
    have:cellOf env name=pure c:=by unfold cellOf; rw[hc]
    rw[this];exact e
   ·obtain⟨c',hc'⟩:=hy
    rw[List.lookup_cons]
    cases y == name
    ·exact⟨c',hc'⟩
    ·exact⟨c,rfl⟩
   ·rcases List.mem_cons.mp hy with rfl | hy
    ·exact h2 _ ⟨c,by rw[List.lookup_cons]; simp⟩
    ·exact h3 y hy hf
theorem ZoE {env:Env} (scope:Scope) (h:∀y∈scope.names,y.2=.free→∃c,env.cells.lookup y.1=some c) :
  ∃cl,closureFor scope env=pure cl∧(∀y c,cl.lookup y=some c→env.cells.lookup y=some c)∧∀y∈scope.names,y.2=.free→∃c,cl.lookup y.1=some c:=by
 obtain⟨cl,e,h1,_,h3⟩:=ZkT (env:=env) scope.names [] h (fun _ _ z=>by simp at z);refine⟨cl,?_,h1,h3⟩;show((forIn scope.names [] fun x r=>match x with | (name,kind)=>if (kind == NameKind.free)=true then(do let a ←cellOf env name; pure (ForInStep.yield ((name,a)::r))) else pure (ForInStep.yield r):Sem (List (Str×Addr))) >>= fun s=>pure s)=pure cl;rw[e];rfl
theorem Zl9 {env:Env}:∀(names:List (Str×NameKind)) (y:Str),(names.map fun(n,k)=>if (k == NameKind.free && env.scope.kind == .function && env.kindOf n == some .cell) then(n,NameKind.cell) else(n,k)).lookup y =
  (names.lookup y).map fun k=>if (k == NameKind.free && env.scope.kind == .function && env.kindOf y == some .cell)=true then NameKind.cell else k
 | [],y=>by simp
 | (n,k)::r,y=>by
  have ih:=Zl9 (env:=env) r y;rw[List.map_cons,List.lookup_cons]
  cases e:y == n with
  | true=>
   have ey:y=n:=by simpa using e
   subst ey
   by_cases hc:(k == NameKind.free && env.scope.kind == .function && env.kindOf y == some .cell)=true
   ·simp only [hc,if_true,List.lookup_cons,beq_self_eq_true,Option.map_some]
   ·simp only [hc,if_false,List.lookup_cons,beq_self_eq_true,Option.map_some,Bool.false_eq_true]
  | false=>
   by_cases hc:(k == NameKind.free && env.scope.kind == .function && env.kindOf n == some .cell)=true
   ·simp only [hc,if_true,List.lookup_cons,e]; exact ih
   ·simp only [hc,if_false,List.lookup_cons,e,Bool.false_eq_true]; exact ih
section
variable {X:Cx} {pins:List (Addr×Obj)} {σ:St} {H:Hp} {s:Shared} {cl:List (Str×Addr)} {x:Str} {ns:List Str} {ix:List Nat} {sc scope:Scope} {N:List Str} {fp:List Addr}
theorem Zz5 (I:Inv X pins σ H s) (f:∀b∈fp,FpOk X pins H b) (hlt:∀b∈fp,b < s.heap.objs.size) (hcl:∀y c,cl.lookup y=some c→X.env.cells.lookup y=some c) {H':Hp} (hn:∀b∈fp,H' b=none):∀b∈fp,FpOk (ZdX X x ns scope cl s H fp) [] H' b:=fun b hb=>by
 obtain⟨f0,f1,f2,f3,f4,f5⟩:=f b hb;refine⟨hn b hb,Nat.ne_of_lt (hlt b hb),fun z=>?_,.inl hb,fun y c e=>f4 y c (hcl y c e),fun p hp=>?_⟩
 ·rcases List.mem_cons.mp (I.stkSub b z) with z | z
  ·exact f1 z
  ·exact f2 z
 ·exact absurd (show p∈([]:List (Addr×Obj)) from hp) (by simp)
theorem ZxO {h1:Heap} {m:Str→Option Value} {t':Nat} (I:Inv X pins σ H s) (hsc:X.env.scope=sc) (hN:X.N=N) (C:Zox sc N x ns ix scope) (hcl:∀y c,cl.lookup y=some c→X.env.cells.lookup y=some c)
  (hcla:∀y∈scope.names,y.2=.free→∃c,cl.lookup y.1=some c) (f:∀b∈fp,FpOk X pins H b) (hlt:∀b∈fp,b < s.heap.objs.size) (hn:h1.Ns s.heap.objs.size m) (hk:∀b o,s.heap.get? b=some o→h1.get? b=some o) :
  Inv (ZdX X x ns scope cl s H fp) [] (none::subS σ ix) H { s with heap:=h1,toks:=t' }:=by
 obtain⟨c1,c2,c3,c4,c5,c6⟩:=C;have kind:∀y,(relabel scope X.env).names.lookup y=(scope.names.lookup y).map fun k=>if (k == NameKind.free && X.env.scope.kind == .function && X.env.kindOf y == some .cell)=true then NameKind.cell else k:=fun y=>Zl9 scope.names y
 have fr:∀y,((relabel scope X.env).names.lookup y=some .cell∨(relabel scope X.env).names.lookup y=some .free)→scope.names.lookup y=some .free:=fun y h=>by
  rw[kind y]at h
  cases e:scope.names.lookup y with
  | none=>rw[e]at h; simp at h
  | some k=>
   rw[e]at h;have hm:=ZgE e
   cases k with
   | free=>rfl
   | cell=>exact absurd rfl (c2 _ hm).1
   | «local»=>simp at h
   | globalExplicit=>simp at h
   | globalImplicit=>simp at h
 have fr':∀y,scope.names.lookup y=some .free→(relabel scope X.env).names.lookup y=some .cell∨(relabel scope X.env).names.lookup y=some .free:=fun y h=>by
  rw[kind y,h]
  by_cases hc:(NameKind.free == NameKind.free && X.env.scope.kind == .function && X.env.kindOf y == some .cell)=true
  ·left; rw[Option.map_some,if_pos hc]
  ·right; rw[Option.map_some,if_neg hc]
 have noC:∀p:Addr×Obj,p∉(ZdX X x ns scope cl s H fp).pn++[]:=fun p hp=>absurd (show p∈([]:List (Addr×Obj)) from hp) (by simp)
 have lenE:ix.length=ns.length:=by
  have:=congrArg List.length c5
  rwa [List.length_map,List.length_map]at this
 refine⟨⟨I.ok.mod,c1,I.ok.glob,I.ok.blt,Nat.le_refl _,fun y z c h1 h2=>I.ok.inj y z c (hcl y c h1) (hcl z c h2),fun y hy=>?_,fun y c hy=>absurd hy (by simp[ZdX]),I.ok.hd,I.ok.frames,.inl rfl,fun b hb=>?_,I.bs,
  Nat.le_trans I.ok.bsz I.sz,fun b o e hb=>?_,fun b hb=>?_,I.stack,I.stkFree⟩,rfl,I.bare,Un.kept hk,⟨m,hn,fun i y v e1 e2 e3=>?_⟩,fun y c e=>?_,I.hok.fresh (Nat.le_refl _),fun y c e=>I.freeC y c (hcl y c e),fun p hp=>absurd hp (noC p),I.hok.kept hk,?_⟩
 ·exact hcla _ (ZgE (fr y hy)) rfl
 ·obtain⟨f0,f1,f2,f3,f4,f5⟩:=f b hb
  exact⟨Nat.ne_of_lt (hlt b hb),fun y c e=>f4 y c (hcl y c e)⟩
 ·obtain⟨f0,f1,f2,f3,f4,f5⟩:=f b hb
  rcases f3 with z | z
  ·exact I.ok.noex b o e z
  ·exact absurd (Nat.lt_of_lt_of_le (Heap.lt_size (I.ok.bs b o e).1) z) (Nat.lt_irrefl _)
 ·obtain⟨f0,f1,f2,f3,f4,f5⟩:=f b hb
  intro z
  rcases List.mem_cons.mp (I.stkSub b z) with z | z
  ·exact f1 z
  ·exact f2 z
 ·cases i with
  | zero=>cases e2
  | succ j=>
   have e1':ns[j]?=some y:=e1;have e2':(ix.map fun k=>(σ[k]?).join)[j]?=some (some v):=e2;have e5:=congrArg (fun l=>l[j]?) c5;simp only [List.getElem?_map,e1',Option.map_some]at e5 e2'
   cases ek:ix[j]? with
   | none=>rw[ek]at e5; cases e5
   | some k=>
    rw[ek]at e5 e2'
    have eN:N[k]?=some y:=by simpa using e5
    have eσ:(σ[k]?).join=some v:=by simpa using e2'
    have eσ':σ[k]?=some (some v):=by
     cases q:σ[k]? with
     | none=>rw[q]at eσ; cases eσ
     | some w=>rw[q]at eσ; have:w=some v:=eσ; rw[this]
    have hy:=c4 y (List.mem_of_getElem? e1');have hk':=(c2 _ (ZgE hy)).2.2 rfl;rw[←hsc]at hk';obtain⟨m0,hn0,hl⟩:=I.loc;obtain⟨u,r,l⟩:=hl k y v (by rw[hN]; exact eN) eσ' (.inr hk');refine⟨u,r,?_⟩
    rcases l with⟨kl,_⟩ | ⟨_,c,ec,z⟩
    ·exfalso
     have kl:X.env.scope.names.lookup y=some .local:=kl;rw[kl]at hk'
     rcases hk' with z | z <;> cases z
    ·obtain⟨c',ec'⟩:=hcla _ (ZgE hy) rfl
     have ee:c'=c:=by
      have:=hcl y c' ec';rw[ec]at this;exact(Option.some.inj this).symm
     subst ee;obtain⟨o,ho,hd⟩:=z;exact .inr ⟨fr' y hy,c',ec',⟨o,hk _ _ ho,hd⟩⟩
 ·obtain⟨v,o,ho,hd⟩:=I.cell y c (hcl y c e)
  exact⟨v,o,hk _ _ ho,hd⟩
 ·show(none::subS σ ix).length=(x::ns).length
  rw[List.length_cons,List.length_cons];unfold subS;rw[List.length_map,lenE]
end
theorem ZuP {α β:Type} {M:Model} {A:Around} {a:α} {P:α→Shared→Prop} {E E':Value→Shared→Prop} {s s':Shared} {t:Sem β} {Q:β→Shared→Prop} (h:wpAny M A (pure a) P E s) (k:P a s→wpAny M A t Q E' s'):wpAny M A t Q E' s':=
 fun Γ p hi=>k (h Γ p hi) Γ p hi
def PTs (X:Cx) (ifs:List Expr) (t:TT):Prop:=
 ∀(pins:List (Addr×Obj)) (s:Shared) (σ:St) (H:Hp) (Q:Bool→Hp→Prop),Inv X pins σ H s→t σ H Q→
  wpAny (model X.prog X.w) X.A (forIn ifs true fun c r=>if r=true then do let ok ←isTrue c X.env (eval c X.env); pure (ForInStep.yield ok) else pure (ForInStep.yield r)) (TP X pins σ Q) X.xe s
abbrev ZDX:TT:=fun _ H Q=>Q true H
theorem Zwx {X:Cx}:PTs X [] ZDX:=fun _ _ _ H _ I h=>wpAny_tests_nil ⟨H,I,h⟩
section
variable {X:Cx} {pins:List (Addr×Obj)} {σ:St} {H:Hp} {s:Shared} {cl:List (Str×Addr)} {x:Str} {ns:List Str} {ix:List Nat} {sc scope:Scope} {N:List Str} {fp:List Addr} {elt iter:Expr} {px pos:Pos} {ifs:List Expr} {tc:TT} {te:TE} {wi:TI}
theorem Ztd {E:Value→Shared→Prop} {J:It} {it:Addr} {tn:Nat→Heap→Prop} {Q:VK} {RR:Value→Addr→Result→Shared→Prop} (hsc:X.env.scope=sc) (hN:X.N=N) (C:Zox sc N x ns ix scope) (hc:X.calm=true)
  (ht:∀cl s H ex,PTs (ZdX X x ns scope cl s H ex) ifs tc) (he:∀cl s H ex,PE (ZdX X x ns scope cl s H ex) elt te) (I:Inv X pins σ H s) (hcl:∀y c,cl.lookup y=some c→X.env.cells.lookup y=some c)
  (hcla:∀y∈scope.names,y.2=.free→∃c,cl.lookup y.1=some c) (T:Turn X.prog X.w X.K (.Name x px) J fp it tn) (st:tn 0 s.heap) (f:∀b∈fp,FpOk X pins H b) (h:ZrO J ix tc te σ Q H)
  (fin:∀D C m s' H',Inv X pins σ H' s'→s'.heap.Ns C m→FpOk X pins H' C→Q (.ref D) H'→RR (.ref D) C (.ok .next) s') :
  wpAny (model X.prog X.w) X.A (newList []) (fun ja s3=>wpAny (model X.prog X.w) X.A (newFunctionEnv scope X.env.globals cl [] X.env.qual none .none (some X.env)) (fun ce s4=>
   codeAny (model X.prog X.w) X.A (.compStart (.ListComp elt [⟨.Name x px,iter,ifs,0⟩] scope pos) 0 (.ref it) ja { ce with scope:=relabel scope X.env }) (RR ja ce.locals) s4) E s3) E s:=by
 have hC:=C;obtain⟨c1,c2,c3,c4,c5,c6⟩:=C;have hfr:H s.heap.objs.size=none:=I.hok.fresh (Nat.le_refl _);obtain⟨W,⟨m0,w0⟩,turn⟩:=h _ hfr;refine wpAny_newObj_type (wpAny_newFunctionEnv (fun y hy=>(c2 y hy).1) (by intro y hy; simp at hy) (fun h1 hn1 hs1=>?_) c1);have I3:=I.lnew (its:=[]) (ys:=[]) (t':=s.toks) .nil (Nat.zero_le _)
 have hlt0:∀b∈fp,b < s.heap.objs.size:=fun b hb=>by
  obtain⟨o,ho,_⟩:=T.obj _ _ st b hb;exact Heap.lt_size ho
 generalize hs3:({ s with heap:=s.heap.push { cls:=.type "list",data:=.seq ([]:List Value).toArray },toks:=s.toks }:Shared)=s3 at I3
 have e3:s3.heap=s.heap.push { cls:=.type "list",data:=.seq ([]:List Value).toArray }:=by rw[←hs3]
 have sz3:s3.heap.objs.size=s.heap.objs.size+1:=by rw[e3,Heap.size_push]
 have f3:∀b∈fp,FpOk X pins (upd H s.heap.objs.size (.lst [])) b:=fun b hb=>⟨by rw[ZaW (Nat.ne_of_lt (hlt0 b hb))]; exact(f b hb).1,(f b hb).2⟩
 have hlt:∀b∈fp,b < s3.heap.objs.size:=fun b hb=>by rw[sz3]; exact Nat.lt_succ_of_lt (hlt0 b hb)
 have hk:∀b o,s3.heap.get? b=some o→h1.get? b=some o:=fun b o e=>by
  refine(hs1.2 b ?_).trans (Heap.get?_push_of_some _ ?_)
  ·have:=Heap.lt_size e
   rw[sz3]at this;show b≠(s.heap.push _).objs.size;rw[Heap.size_push];exact Nat.ne_of_lt this
  ·rw[e3]at e; exact e
 have hn3:h1.Ns s3.heap.objs.size (fun y=>([]:List (Str×Value)).reverse.lookup y):=by rw[e3]; exact hn1
 have I4:=ZxO (t':=s3.toks+([]:List (Str×Value)).length) I3 hsc hN hC hcl hcla f3 hlt hn3 hk;have st4:tn 0 h1:=T.keep _ _ _ st fun b hb o e=>hk b o (by rw[e3]; exact Heap.get?_push_of_some _ e);have stat:∀{H':Hp},(∀b∈fp,H' b=none)→∀b∈fp,FpOk (ZdX X x ns scope cl s3 (upd H s.heap.objs.size (.lst [])) fp) [] H' b:=fun {H'} hn=>Zz5 I3 f3 hlt hcl hn
 have loop:∀s4:Shared,s4 = { s3 with heap:=h1,toks:=s3.toks+([]:List (Str×Value)).length }→
   codeAny (model X.prog X.w) X.A (.compLoop (.ListComp elt [⟨.Name x px,iter,ifs,0⟩] scope pos) 0 (.ref it) (.ref s.heap.objs.size) (compEnvC scope cl s3.heap.objs.size X.env)) (RR (.ref s.heap.objs.size) s3.heap.objs.size) s4:=by
  rintro s4 rfl;refine codeAny_compLoop_tests (fun n s'=>∃i v0 ys H',Inv (ZdX X x ns scope cl s3 (upd H s.heap.objs.size (.lst [])) fp) [] (v0::subS σ ix) H' s'∧tn i s'.heap∧(∀b∈fp,H' b=none)∧W i n ys H') ?_ m0 ⟨0,none,[],_,I4,st4,fun b hb=>(f3 b hb).1,w0⟩;rintro n s5 ⟨i,v0,ys,H5,I5,st5,fr5,w5⟩
  rcases turn i n ys H5 w5 with⟨stop,q⟩ | ⟨go,step⟩
  ·refine wpAny_mono (T.done (ZdX X x ns scope cl s3 (upd H s.heap.objs.size (.lst [])) fp) rfl rfl rfl hc i [] s5 _ H5 _ I5 (stat fr5) st5 stop) (fun r s6 hr=>?_) fun _ _ e=>e
   obtain⟨hr,I6⟩:=hr;subst hr;obtain⟨m6,hn6,_⟩:=id I6.loc;refine fin _ _ m6 s6 H5 (I3.call' I6.os I6.base I6.hok I6.bare fun b hb=>?_) hn6 (I3.fpOk (Nat.le_refl _) I6.free) q;obtain⟨g0,g1,g2,g3,g4,g5⟩:=f3 b hb;exact⟨g3,g1,g4,g5⟩
  ·refine wpAny_mono (T.item (ZdX X x ns scope cl s3 (upd H s.heap.objs.size (.lst [])) fp) rfl rfl rfl hc i [] s5 _ H5 _ I5 (stat fr5) st5 go) (fun r s6 hr=>?_) fun _ _ e=>e
   obtain⟨u,hr,h6⟩:=hr;subst hr;refine ZuP (a:=()) h6 fun q6=>?_;obtain⟨xv,H6,I6,r6,y6,st6,fr6⟩:=q6;have I6':=I6.pinned (stat fr6) (T.obj _ _ st6)
   have again:∀{m':Nat} {ys':List V} {H7:Hp} {s7:Shared},Inv (ZdX X x ns scope cl s3 (upd H s.heap.objs.size (.lst [])) fp) ([]++Zrq fp s6.heap) (some xv::subS σ ix) H7 s7→W (i+1) m' ys' H7→
     ∃i v0 ys H',Inv (ZdX X x ns scope cl s3 (upd H s.heap.objs.size (.lst [])) fp) [] (v0::subS σ ix) H' s7∧tn i s7.heap∧(∀b∈fp,H' b=none)∧W i m' ys H':=fun {m' ys' H7 s7} I7 w7=>by
    refine⟨i+1,some xv,ys',H7,I7.unpinned,T.keep _ _ _ st6 fun b hb o e=>(I7.pin (b,o) (List.mem_append_right _ (List.mem_append_right _ (ZgG hb e)))).1,fun b hb=>?_,w7⟩;obtain⟨o,e,d⟩:=T.obj _ _ st6 b hb;exact(I7.pin (b,o) (List.mem_append_right _ (List.mem_append_right _ (ZgG hb e)))).2.1
   have lx:(relabel scope X.env).names.lookup x=some .local:=lookup_relabel_local c3;refine wpAny_mono (Zwp (X:=ZdX X x ns scope cl s3 (upd H s.heap.objs.size (.lst [])) fp) (i:=0) (x:=x) (pos:=px) c6 rfl (.inl lx) (.inr lx) _ s6 _ H6 xv u (fun σ' H'=>σ'=some xv::subS σ ix∧H'=H6) I6' r6 ⟨rfl,rfl⟩) (fun _ s7 h7=>?_) fun _ _ e=>e.elim;obtain⟨σ7,H7,I7,rfl,rfl⟩:=h7;refine wpAny_mono (ht cl s3 _ fp _ s7 _ _ _ I7 (step xv _ y6)) (fun b s8 h8=>?_) fun _ _ e=>e.elim;obtain⟨H8,I8,q8⟩:=h8
   cases b with
   | false=>
    rw[if_neg Bool.false_ne_true]at q8 ⊢;obtain⟨m',hm,w8⟩:=q8;exact⟨m',hm,again I8 w8⟩
   | true=>
    rw[if_pos rfl]at q8 ⊢;refine wpAny_mono (he cl s3 _ fp _ s8 _ _ _ I8 q8) (fun uy s9 h9=>?_) fun _ _ e=>e.elim;obtain⟨y,H9,I9,r9,hacc,hz,m',hm,w9⟩:=h9;refine wpAny_mono (ZaU (X:=ZdX X x ns scope cl s3 (upd H s.heap.objs.size (.lst [])) fp) _ s9 _ H9 (.ref s.heap.objs.size) [y] _ [uy] (fun v H'=>H'=upd H9 s.heap.objs.size (.lst (ys++[y]))) I9 rfl (.cons r9 .nil) ⟨_,ys,y,rfl,rfl,hacc,hz,rfl⟩) (fun _ s10 h10=>?_) fun _ _ e=>e.elim;obtain⟨v,H10,I10,_,rfl⟩:=h10;exact⟨m',hm,again I10 w9⟩
 exact codeAny_compStart_list (loop _ rfl) (T.self _ 0 _ _ _ st4 (loop _ rfl))
theorem ZAW (hsc:X.env.scope=sc) (hN:X.N=N) (C:Zox sc N x ns ix scope) (hc:X.calm=true) (hi:PI X (.Name x px) iter wi) (ht:∀cl s H ex,PTs (ZdX X x ns scope cl s H ex) ifs tc) (he:∀cl s H ex,PE (ZdX X x ns scope cl s H ex) elt te)
  (hs:∀v,foldedSetIterable iter X.env v=pure v:=by intro _; rfl):PE X (.ListComp elt [⟨.Name x px,iter,ifs,0⟩] scope pos) (ZyJ wi ix tc te):=by
 intro pins s σ H Q I h
 obtain⟨cl,hclos,hcl,hcla⟩:=ZoE (env:=X.env) scope fun y hy hf=>I.ok.has y.1 (by
  have:=(C.2.1 y hy).2.2 hf;rw[←hsc]at this
  exact this)
 rw[eval_ListComp];refine wpAny_comprehension_free (use:=none) rfl hs hclos C.1 (fun y hy=>(C.2.1 y hy).2.1) (thn (hi pins s σ H _ I h) fun v s1 h1=>thn h1 fun itv s2 h2=>?_);obtain⟨it,fp,tn,J,H2,rfl,I2,T,st2,f2,hg⟩:=h2;refine Ztd (RR:=fun ja C=>compPost (model X.prog X.w) X.A X.xe none (EP X pins σ Q) ja C) hsc hN C hc ht he I2 hcl hcla T st2 f2 hg ?_;intro D C' m s' H' I' hn' fC q;obtain⟨g0,g1,g2,g3,g4,g5⟩:=fC;exact⟨m,hn',fun h' hs'=>⟨.ref D,H',I'.turned (t':=s'.toks) (fun b o hb e=>hs'.extBut b o hb e) g0 (Ne.symm (Ne.symm g1)) g3 g4 g5,rfl,q⟩⟩
theorem ZA7 {y:Str} {py spos:Pos} (i:Nat) (hNd:X.N.Nodup) (hsc:X.env.scope=sc) (hN:X.N=N) (C:Zox sc N x ns ix scope) (hc:X.calm=true) (hi:PI X (.Name x px) iter wi) (ht:∀cl s H ex,PTs (ZdX X x ns scope cl s H ex) ifs tc) (he:∀cl s H ex,PE (ZdX X x ns scope cl s H ex) elt te)
  (hs:∀v,foldedSetIterable iter X.env v=pure v:=by intro _; rfl) (hy:X.N[i]?=some y:=by rfl) (hl:X.env.scope.names.lookup y=some .local:=by rfl)
  (hsw:swapsWith (.ListComp elt [⟨.Name x px,iter,ifs,0⟩] scope pos) (some (.Name y py)) spos.line X.env=pure true:=by rfl) :
  PS X (.Assign [.Name y py] (.ListComp elt [⟨.Name x px,iter,ifs,0⟩] scope pos) spos) (tAsg (ZyJ wi ix tc te) (Zn9 i)):=by
 intro pins s σ H D I h
 obtain⟨cl,hclos,hcl,hcla⟩:=ZoE (env:=X.env) scope fun y hy hf=>I.ok.has y.1 (by
  have:=(C.2.1 y hy).2.2 hf;rw[←hsc]at this
  exact this)
 rw[exec_Assign_Name_used _ _ _ _ hsw];refine wpAny_bind (wpAny_standAt (wpAny_bind ?_));show wpAny _ X.A (do let _ ←comprehension (.ListComp elt [⟨.Name x px,iter,ifs,0⟩] scope pos) scope X.env _ (newList []) false (eval iter X.env) (some (assign (.Name y py) X.env))) _ _ s
 refine wpAny_bind (wpAny_mono (wpAny_comprehension_free (use:=some (assign (.Name y py) X.env)) (Q:=fun _ s'=>SP X pins D .next s') rfl hs hclos C.1 (fun y hy=>(C.2.1 y hy).2.1)
  (thn (hi pins s σ H _ I h) fun v s1 h1=>thn h1 fun itv s2 h2=>?_)) (fun _ s' hq=>wpAny_pure (wpAny_pure hq)) fun _ _ e=>e)
 obtain⟨it,fp,tn,J,H2,rfl,I2,T,st2,f2,hg⟩:=h2;refine Ztd (RR:=fun ja C=>compPost (model X.prog X.w) X.A X.xe (some (assign (.Name y py) X.env)) (fun _ s'=>SP X pins D .next s') ja C) hsc hN C hc ht he I2 hcl hcla T st2 f2 hg ?_;intro D' C' m s' H' I' hn' fC q;obtain⟨g0,g1,g2,g3,g4,g5⟩:=fC;refine wpAny_assign_Name (Zrz I' hNd hy (.inl hl) (v:=.ref D') rfl (fun s'' I'' hs''=>?_) (.inr hl));obtain⟨a,sb,ha⟩:=hs''
 have hne:C'≠a:=by
  rcases ha with ha | ha
  ·rw[ha]; exact g1
  ·intro z; exact g4 y a ha z.symm
 exact⟨m,hn'.sameBut sb hne,fun h' hs'=>⟨_,H',I''.turned (t':=s''.toks) (fun b o hb e=>hs'.extBut b o hb e) g0 g1 g3 g4 g5,q⟩⟩
end
section
variable {wi:TI} {ix:List Nat} {tc:TT} {te:TE} {σ:St} {H:Hp} {Q:VK} {K:PySem.W.Frag}
theorem Zth {ta:TA} (h:ta σ H fun vs H1=>∃j:Int,vs=[.int j]∧-(2 ^ 62)≤j∧j < 2 ^ 62∧ZrO (Itr 0 j.toNat) ix tc te σ Q H1):ZyJ (ZAf ta) ix tc te σ H Q:=h
def ZD4 (K:PySem.W.Frag) (x:V) (ix:List Nat) (tc:TT) (te:TE) (σ:St) (Q:VK) (H1:Hp):Prop:=
 (∃a xs,x=.ref a∧SqL K H1 a xs∧ZrO (Itl K a) ix tc te σ Q H1)∨(∃a xs,x=.ref a∧SqT K H1 a xs∧ZrO (Itt K a) ix tc te σ Q H1)∨(∃z,x=.str z∧ZrO (Its z) ix tc te σ Q H1)
theorem Zvz {tl:TE} (h:tl σ H fun x H1=>ZD4 K x ix tc te σ Q H1):ZyJ (iSeq K tl) ix tc te σ H Q:=h
theorem Zzi {BQ:Bool→Hp→Prop} (h:BQ true H):ZDX σ H BQ:=h
def Wk (J:It) (xs:List V) (H1:Hp):Prop:=∀H',Same H1 H'→(∀i,i < xs.length→J.go i H'∧∀x H2,J.yld i H' x H2→H2=H'∧xs[i]?=some x)∧J.stop xs.length H'
theorem ZyM (lo:Int) (n:Nat) (H:Hp):Wk (Itr lo n) ((List.range n).map fun i:Nat=>V.int (lo+(i:Int))) H:=fun H' _=>by
 refine⟨fun i hi=>?_,?_⟩
 ·rw[List.length_map,List.length_range]at hi
  refine⟨hi,fun x H2 y=>?_⟩;obtain⟨e,y⟩:=y;refine⟨e,?_⟩;rw[List.getElem?_map,List.getElem?_range hi,y];rfl
 ·rw[List.length_map,List.length_range]
  exact Nat.le_refl n
theorem ZBA {a:Addr} {xs:List V} (h:SqL K H a xs):Wk (Itl K a) xs H:=fun H' s=>by
 have h':=s.seq h;refine⟨fun i hi=>⟨⟨xs,xs[i],h',by simp[hi]⟩,fun x H2 y=>?_⟩,⟨xs,h',Nat.le_refl _⟩⟩;obtain⟨e,y⟩:=y;exact⟨e,y xs h'⟩
theorem Zvb {J:It} {xs:List V} (Pv:Nat→List V→Prop) (hw:Wk J xs H) (hz:xs.length≤1000000) (h0:Pv 0 [])
  (hs:∀(i:Nat) (x:V) (ys:List V) (acc:Addr) (H':Hp),xs[i]?=some x→Same H H'→H acc=none→H' acc=some (.lst ys)→Pv i ys→ys.length≤i→
   ∀R:Bool→Hp→Prop,(∀b H2,Same H' H2→(b=false→Pv (i+1) ys)→(b=true→∀R2:V→Hp→Prop,(∀y H3,Same H2 H3→Pv (i+1) (ys++[y])→R2 y H3)→te (some x::subS σ ix) H2 R2)→R b H2)→tc (some x::subS σ ix) H' R)
  (hd:∀(acc:Addr) (ys:List V) (H':Hp),H acc=none→Same H H'→H' acc=some (.lst ys)→Pv xs.length ys→Q (.ref acc) H'):ZrO J ix tc te σ Q H:=by
 intro acc hacc
 have sU:∀{H2:Hp} (o:HO),Same H H2→Same H (upd H2 acc o):=fun o s b u e=>by rw[ZaW (Zaf e hacc)]; exact s b u e
 refine⟨fun i m ys H'=>m=xs.length - i∧i≤xs.length∧Same H H'∧H' acc=some (.lst ys)∧Pv i ys∧ys.length≤i,⟨xs.length,by simp,Nat.zero_le _,Ze9 hacc _,ZaH,h0,Nat.le_refl _⟩,?_⟩;rintro i m ys H' ⟨rfl,hi,sm,ea,pv,hy⟩
 by_cases hlt:i < xs.length
 ·obtain⟨go,yl⟩:=(hw H' sm).1 i hlt
  refine .inr ⟨go,fun x H2 y=>?_⟩;obtain⟨rfl,hx⟩:=yl x H2 y;refine hs i x ys acc _ hx sm hacc ea pv hy _ fun b H3 s3 pf pt=>?_
  cases b with
  | false=>
   rw[if_neg Bool.false_ne_true];exact⟨xs.length - (i+1),by omega,rfl,hlt,sm.trans s3,s3 _ _ ea,pf rfl,Nat.le_succ_of_le hy⟩
  | true=>
   rw[if_pos rfl];refine pt rfl _ fun y H4 s4 py=>⟨s4 _ _ (s3 _ _ ea),ZzJ (by omega),xs.length - (i+1),by omega,rfl,hlt,sU _ (sm.trans (s3.trans s4)),ZaH,py,?_⟩;rw[List.length_append,List.length_singleton];omega
 ·have e:i=xs.length:=by omega
  subst e;exact .inl ⟨(hw H' sm).2,hd acc ys H' hacc sm ea pv⟩
end
section
variable {X:Cx} {K:PySem.W.Frag} {a o:Expr} {ta:TE} {pos:Pos}
theorem Zyg (hK:X.K=K) (ha:PE X a ta):PE X (.UnaryOp .Not a pos) (ZBw K ta):=by subst hK; exact ZAY ha
theorem ZAt (hK:X.K=K):IxR X (rIx K):=by subst hK; exact ZaA
theorem Zt2 (hK:X.K=K):ZiP X (.builtin "len") (rLen K):=by subst hK; exact ZaE
end
end L2
namespace L2
open PySem PySem.Spec PyProof.Rows
section
variable {X:Cx} {K:PySem.W.Frag} {σ:St} {H:Hp} {Q:VK} {a:Expr} {ta:TE} {pos:Pos}
def rSlX:V→Option Int→Option Int→Hp→VK→Prop:=fun x lo hi H Q=>∃z,x=.str z∧z.length≤sizeLine∧Q (.str (Txt.slice z lo hi)) H
theorem ZDE:SlR X rSlX:=by
 intro pins s σ H x v vl vu lo hi sl Q I rx hs pl pu h;obtain⟨z,rfl,hz,q⟩:=h;obtain⟨t,rfl⟩:=rx;refine⟨"str",_,F.slot_str_getitem.lookup,typeIs_str _ _ _,?_⟩;obtain⟨o,ho,hc,hd⟩:=hs
 have fin:∀(l u:Option (Int×Tok)),vl=partValue l→vu=partValue u→l.map (·.1)=lo→u.map (·.1)=hi→wpAny (model X.prog X.w) X.A (getItem (.str z t) (.ref sl)) (EP X pins σ Q) X.xe s:=fun l u e1 e2 e3 e4=>by
  subst e1 e2 e3 e4
  exact wpAny_getItem_str_slice (l:=l) (u:=u) (st:=none) ⟨o,ho,hc,hd⟩ rfl
   (post_val_or_str ⟨Nat.le_trans (Txt.slice_le z _ _) hz,fun t' k=>⟨.str _,H,I.tok k,⟨t',rfl⟩,q⟩⟩)
 have pv:∀{v:Value} {o:Option Int},IsPart v o→∃l:Option (Int×Tok),v=partValue l∧l.map (·.1)=o:=fun {v o} h=>by
  cases h <;> first | exact⟨none,rfl,rfl⟩ | exact⟨some (_,_),rfl,rfl⟩
 obtain⟨l,e1,e3⟩:=pv pl;obtain⟨u,e2,e4⟩:=pv pu;exact fin l u e1 e2 e3 e4
def rSlA (K:PySem.W.Frag):V→Option Int→Option Int→Hp→VK→Prop:=fun x lo hi H Q=>rSlG K x lo hi H Q∨rSlX x lo hi H Q
theorem Zc8:SlR X (rSlA X.K):=SlR.or ZDD ZDE
theorem ZxN {z:Str} {lo hi:Option Int} (hz:z.length≤1000000) (k:Q (.str (Txt.slice z lo hi)) H):rSlA K (.str z) lo hi H Q:=.inr ⟨z,rfl,ZaQ hz,k⟩
theorem ZgD {p:Addr} {xs ys:List V} {lo hi:Option Int} (h:SqL K H p xs) (e:cutV xs lo hi=ys) (k:∀(l:Addr) (H':Hp),Same H H'→H l=none→H' l=some (.lst ys)→Q (.ref l) H'):rSlA K (.ref p) lo hi H Q:=.inl (j_sl h e k)
def ZDn:V→List V→Hp→VK→Prop:=fun x vs H Q=>∃z y,x=.str z∧vs=[.str y]∧Q (.int (Txt.find z y)) H
theorem Zv7:MtM X "str.find" ZDn:=by
 intro pins s σ H x vs v us Q I rx rv h;obtain⟨z,y,rfl,rfl,q⟩:=h;obtain⟨t,rfl⟩:=rx;obtain⟨u,rfl,t',rfl⟩:=rv.one;exact SC.find ⟨.int _,H,I.tok _,⟨_,rfl⟩,q⟩
theorem ZrG:∀{ts:List Str} {us:List Value},Vals (ts.map V.str) us→∃l:List (Str×Tok),us=strValues l∧l.map (·.1)=ts
 | [],_,r=>by cases r; exact⟨[],rfl,rfl⟩
 | t::ts,_,r=>by
  cases r with
  | cons r1 r2=>
   obtain⟨k,rfl⟩:=r1;obtain⟨l,rfl,rfl⟩:=ZrG r2;exact⟨(t,k)::l,rfl,rfl⟩
def ZEt (K:PySem.W.Frag):V→List V→Hp→VK→Prop:=fun x vs H Q=>∃z l ts,x=.str z∧vs=[.ref l]∧SqL K H l (ts.map V.str)∧JoinOk z ts=true∧Q (.str (Txt.join z ts)) H
theorem ZpD:MtM X "str.join" (ZEt X.K):=by
 intro pins s σ H x vs v us Q I rx rv h;obtain⟨z,l,ts,rfl,rfl,hq,hj,q⟩:=h;obtain⟨t,rfl⟩:=rx;obtain⟨u,rfl,ru⟩:=rv.one
 cases ru
 obtain⟨its,r',pl,hz⟩:=I.list hq;obtain⟨ls,rfl,rfl⟩:=ZrG r';exact SC.join pl.isList rfl hj fun t' k=>⟨.str _,H,I.tok k,⟨t',rfl⟩,q⟩
theorem tyS {z:Str}:tyV K "str" (.str z) H:=by
 unfold tyV
 first
  | exact .inr (.inl ⟨rfl,_,rfl⟩)
  | exact .inr (.inr (.inl ⟨rfl,_,rfl⟩))
  | exact .inr (.inr ⟨rfl,_,rfl⟩)
  | simp
abbrev TJ:=St→Hp→Str→VK→Prop
def PJ (X:Cx) (es:List Expr) (t:TJ):Prop:=
 ∀(out:Str) (pins:List (Addr×Obj)) (s:Shared) (σ:St) (H:Hp) (Q:VK),Inv X pins σ H s→t σ H out Q→wpAny (model X.prog X.w) X.A (joinParts out (evalEach es X.env)) (EP X pins σ Q) X.xe s
def tJn:TJ:=fun _ H out Q=>out.length≤sizeLine∧Q (.str out) H
abbrev tJc (te:TE) (tr:TJ):TJ:=fun σ H out Q=>te σ H fun x H1=>∃y,x=.str y∧(out++y).length≤sizeLine∧tr σ H1 (out++y) Q
theorem Znz:PJ X [] tJn:=fun out pins s σ H Q I h=>joinParts_nil ⟨.str out,H,I.tok _,⟨_,rfl⟩,h.2⟩ h.1
theorem Zdk {e:Expr} {es:List Expr} {te:TE} {tr:TJ} (he:PE X e te) (hr:PJ X es tr):PJ X (e::es) (tJc te tr):=by
 intro out pins s σ H Q I h;show wpAny _ _ (joinParts out (eval e X.env::evalEach es X.env)) _ _ s;refine joinParts_cons (thn (he pins s σ H _ I h) fun v s1 ⟨x,H1,I1,r1,y,ex,hz,q⟩=>?_);subst ex;obtain⟨t,rfl⟩:=r1;exact⟨hz,hr _ pins s1 σ H1 Q I1 q⟩
abbrev tFs (t:TJ):TE:=fun σ H Q=>t σ H Str.empty Q
theorem Zfy {e1 e2:Expr} {es:List Expr} {t:TJ} (h:PJ X (e1::e2::es) t):PE X (.JoinedStr (e1::e2::es) pos) (tFs t):=by
 intro pins s σ H Q I q;exact JoinedStr_many (h Str.empty pins s σ H Q I q)
abbrev tFmt (ta:TE):TE:=fun σ H Q=>ta σ H fun x H1=>∃z,x=.str z∧z.length≤sizeLine∧Q (.str z) H1
theorem Zwn (ha:PE X a ta):PE X (.FormattedValue a (-1) none pos) (tFmt ta):=by
 intro pins s σ H Q I h;refine FormattedValue_plain (thn (ha pins s σ H _ I h) fun v s1 ⟨x,H1,I1,r1,z,ex,hz,q⟩=>?_);subst ex;obtain⟨t,rfl⟩:=r1;exact formatField_str (fun t' k=>⟨.str z,H1,I1.tok k,⟨t',rfl⟩,q⟩) hz
theorem i_fs {t:TJ} (h:t σ H Str.empty Q):tFs t σ H Q:=h
theorem i_jn {out:Str} (z:out.length≤1000000) (h:Q (.str out) H):tJn σ H out Q:=⟨ZaQ z,h⟩
theorem i_jc {te:TE} {tr:TJ} {out:Str} (h:te σ H fun x H1=>∃y,x=.str y∧(out++y).length≤sizeLine∧tr σ H1 (out++y) Q):tJc te tr σ H out Q:=h
theorem ZCk (h:ta σ H fun x H1=>∃z,x=.str z∧z.length≤sizeLine∧Q (.str z) H1):tFmt ta σ H Q:=h
end
end L2
namespace L2
open PySem PySem.Spec PyProof.Rows
mutual
def DV (H:Hp):PyData→V→Prop
 | .none,v=>v=.non
 | .bool b,v=>v=.bl b
 | .int i,v=>v=.int i
 | .str x,v=>v=.str x
 | .list ds,v=>∃p xs,v=.ref p∧H p=some (.lst xs)∧DVs H ds xs
 | .tuple ds,v=>∃p xs,v=.ref p∧H p=some (.tup xs)∧DVs H ds xs
 | .dict _,_=>False
def DVs (H:Hp):List PyData→List V→Prop
 | [],xs=>xs=[]
 | d::ds,xs=>∃v r,xs=v::r∧DV H d v∧DVs H ds r
end
section
variable {X:Cx} {pins:List (Addr×Obj)} {σ:St} {H:Hp} {s:Shared}
mutual
theorem Zhc (I:Inv X pins σ H s):∀(d:PyData) (v:V) (u:Value),DV H d v→RelV v u→∃as,Reads s.heap u d as
 | .none,v,u,h,r=>by
  rw[DV]at h; subst h; cases r; exact⟨_,.none⟩
 | .bool b,v,u,h,r=>by
  rw[DV]at h; subst h; cases r; exact⟨_,.bool b⟩
 | .int i,v,u,h,r=>by
  rw[DV]at h; subst h; obtain⟨t,rfl⟩:=r; exact⟨_,.int i t⟩
 | .str x,v,u,h,r=>by
  rw[DV]at h; subst h; obtain⟨t,rfl⟩:=r; exact⟨_,.str x t⟩
 | .list ds,v,u,h,r=>by
  rw[DV]at h;obtain⟨p,xs,rfl,e,hs⟩:=h
  cases r
  obtain⟨z,its,n,r',e'⟩:=I.hok p _ e;obtain⟨as,ra⟩:=ZnC I ds xs its hs r';exact⟨_,.list e' rfl rfl (by simpa using ra)⟩
 | .tuple ds,v,u,h,r=>by
  rw[DV]at h;obtain⟨p,xs,rfl,e,hs⟩:=h
  cases r
  obtain⟨z,its,r',o,e',hc,n,hd⟩:=I.hok p _ e;obtain⟨as,ra⟩:=ZnC I ds xs its hs r';exact⟨_,.tuple e' hc hd (by simpa using ra)⟩
 | .dict _,v,u,h,r=>by rw[DV]at h; exact h.elim
theorem ZnC (I:Inv X pins σ H s):∀(ds:List PyData) (xs:List V) (us:List Value),DVs H ds xs→Vals xs us→∃as,ReadsAll s.heap us ds as
 | [],xs,us,h,r=>by
  rw[DVs]at h; subst h; cases r; exact⟨_,.nil⟩
 | d::ds,xs,us,h,r=>by
  rw[DVs]at h;obtain⟨v,r0,rfl,h1,h2⟩:=h
  cases r with
  | cons r1 r2=>
   obtain⟨a1,q1⟩:=Zhc I d v _ h1 r1;obtain⟨a2,q2⟩:=ZnC I ds r0 _ h2 r2;exact⟨_,.cons q1 q2⟩
end
def rEqD:R2:=fun x y H Q=>∃d1 d2,DV H d1 x∧DV H d2 y∧d1.canLay0=true∧d2.canLay0=true∧d1.depth≤60∧Q (.bl (PyData.eqv d1 d2)) H
theorem ZCY (hu:X.A.units+64 < cLine):OpR X (compareOp .Eq) rEqD:=by
 intro pins s σ H x y v u Q I rx ry h;obtain⟨d1,d2,h1,h2,c1,c2,hd,q⟩:=h;obtain⟨a1,q1⟩:=Zhc I d1 x v h1 rx;obtain⟨a2,q2⟩:=Zhc I d2 y u h2 ry;exact SeqAt.compareEq_reads q1 q2 c1 c2 (Nat.lt_of_le_of_lt (Nat.add_le_add_left (Nat.le_trans (Nat.min_le_left _ _) hd) _) (by omega)) ⟨.bl _,H,I,rfl,q⟩
def rEqA:R2:=fun x y H Q=>rEq x y H Q∨rEqD x y H Q
theorem ZaF (hu:X.A.units+64 < cLine):OpR X (compareOp .Eq) rEqA:=OpR.or ZEq (ZCY hu)
def rNeD:R2:=fun x y H Q=>∃d1 d2,DV H (.list d1) x∧DV H (.list d2) y∧PyData.canLayAll0 d1=true∧PyData.canLayAll0 d2=true∧PyData.depthAll d1≤60∧Q (.bl (!PyData.eqvAll d1 d2)) H
theorem ZC1 (hu:X.A.units+64 < cLine):OpR X (compareOp .NotEq) rNeD:=by
 intro pins s σ H x y v u Q I rx ry h;obtain⟨d1,d2,h1,h2,c1,c2,hd,q⟩:=h;obtain⟨a1,q1⟩:=Zhc I (.list d1) x v h1 rx;obtain⟨a2,q2⟩:=Zhc I (.list d2) y u h2 ry
 cases q1 with
 | @list b1 o vs n _ as1 g1 g2 g3 g4=>
  cases q2 with
  | @list b2 o' vs' n' _ as2 k1 k2 k3 k4=>
   have hl:s.heap.IsList _ vs:=⟨_,g1,g2,_,g3⟩;have hl':s.heap.IsList _ vs':=⟨_,k1,k2,_,k3⟩
   have n1:vs.size=d1.length:=by simpa using SeqAt.ReadsAll.length _ _ _ g4
   have n2:vs'.size=d2.length:=by simpa using SeqAt.ReadsAll.length _ _ _ k4
   have fin:EP X pins σ Q (.bool (!PyData.eqvAll d1 d2)) s:=⟨.bl _,H,I,rfl,q⟩
   by_cases hz:vs.size=vs'.size
   ·refine SeqAt.RcNeAt.lists hl hl' hz (by omega) (e:=SeqAt.pairEq d1 d2) (fun j j1 j2=>?_) _ _ _ _ ?_
    ·have:=SeqAt.eqAt_readsAll d1 d2 X.A.in1 s vs.toList vs'.toList _ _ g4 k4 c1 c2 (by
      have:X.A.in1.units=X.A.units+1∨X.A.in1.units=X.A.units:=by first | exact .inl rfl | exact .inr rfl
      have h3:=Nat.min_le_left (PyData.depthAll d1) (PyData.depthAll d2)
      omega) j (by simpa using j1) (by simpa using j2)
     simpa using this
    ·have e:=SeqAt.eqvAll_eq d1 d2
     rw[←n1,←n2,←hz,Nat.min_self,beq_self_eq_true,Bool.and_true]at e;rw[e]; exact fin
   ·refine SeqAt.RcNeAt.lists_lengths hl hl' (by simpa using hz) (by omega) _ _ _ _ ?_
    have e:=SeqAt.eqvAll_eq d1 d2
    have hb:(d1.length == d2.length)=false:=by
     rw[←n1,←n2]; simpa using hz
    rw[hb,Bool.and_false]at e;rw[←e]at fin;exact fin
def rNeT:R2:=fun x y H Q=>∃d1 d2,DV H (.tuple d1) x∧DV H (.tuple d2) y∧PyData.canLayAll0 d1=true∧PyData.canLayAll0 d2=true∧PyData.depthAll d1≤60∧Q (.bl (!PyData.eqvAll d1 d2)) H
theorem ZC2 (hu:X.A.units+64 < cLine):OpR X (compareOp .NotEq) rNeT:=by
 intro pins s σ H x y v u Q I rx ry h;obtain⟨d1,d2,h1,h2,c1,c2,hd,q⟩:=h;obtain⟨a1,q1⟩:=Zhc I (.tuple d1) x v h1 rx;obtain⟨a2,q2⟩:=Zhc I (.tuple d2) y u h2 ry
 cases q1 with
 | @tuple b1 o vs n _ as1 g1 g2 g3 g4=>
  cases q2 with
  | @tuple b2 o' vs' n' _ as2 k1 k2 k3 k4=>
   have hl:s.heap.IsTuple _ vs:=⟨_,g1,g2,_,g3⟩;have hl':s.heap.IsTuple _ vs':=⟨_,k1,k2,_,k3⟩
   have n1:vs.size=d1.length:=by simpa using SeqAt.ReadsAll.length _ _ _ g4
   have n2:vs'.size=d2.length:=by simpa using SeqAt.ReadsAll.length _ _ _ k4
   refine SeqAt.RcNeAt.tuples hl hl' (by omega) (e:=SeqAt.pairEq d1 d2) (fun j j1 j2=>?_) _ _ _ _ ?_
   ·have:=SeqAt.eqAt_readsAll d1 d2 X.A.in1 s vs.toList vs'.toList _ _ g4 k4 c1 c2 (by
     have:X.A.in1.units=X.A.units+1∨X.A.in1.units=X.A.units:=by first | exact .inl rfl | exact .inr rfl
     have h3:=Nat.min_le_left (PyData.depthAll d1) (PyData.depthAll d2)
     omega) j (by simpa using j1) (by simpa using j2)
    simpa using this
   ·rw[n1,n2,SeqAt.eqvAll_eq d1 d2]
    exact⟨.bl _,H,I,rfl,q⟩
def rNeA:R2:=fun x y H Q=>rNe x y H Q∨rNeD x y H Q∨rNeT x y H Q
theorem ZkB (hu:X.A.units+64 < cLine):OpR X (compareOp .NotEq) rNeA:=OpR.or ZEs (OpR.or (ZC1 hu) (ZC2 hu))
end
theorem ZmZ:∀a b:List Str,PyData.eqvAll (a.map .str) (b.map .str)=decide (a=b)
 | [],[]=>rfl
 | [],_::_=>by simp[PyData.eqvAll]
 | _::_,[]=>by simp[PyData.eqvAll]
 | x::a,y::b=>by
  simp only [List.map_cons,PyData.eqvAll,PyData.eqv,ZmZ a b,List.cons.injEq]
  by_cases h:x=y
  ·subst h; simp
  ·simp[h]
theorem Ztf:∀a:List Str,PyData.depthAll (a.map .str)≤60
 | []=>by simp[PyData.depthAll]
 | _::a=>by
  have:=Ztf a;simp only [List.map_cons,PyData.depthAll,PyData.depth]; omega
theorem Zpg (H:Hp):∀a:List Str,DVs H (a.map .str) (a.map V.str)
 | []=>by rw[List.map_nil,DVs]; rfl
 | x::a=>by
  rw[List.map_cons,DVs];exact⟨.str x,a.map V.str,rfl,by rw[DV],Zpg H a⟩
section
variable {K:PySem.W.Frag} {H:Hp} {Q:VK}
theorem Zy3 {i j:Int} (h:Q (.bl (decide (i=j))) H):rEqA (.int i) (.int j) H Q:=.inl (ZAh h)
theorem Zy4 {i j:Str} (h:Q (.bl (decide (i=j))) H):rEqA (.str i) (.str j) H Q:=.inl (ZAi h)
theorem Zzf {i j:Int} (h:Q (.bl (!decide (i=j))) H):rNeA (.int i) (.int j) H Q:=.inl (ZAo h)
theorem Zzg {i j:Str} (h:Q (.bl (!decide (i=j))) H):rNeA (.str i) (.str j) H Q:=.inl (ZAp h)
end
end L2
namespace PySem
open Sem (wp)
open AutoSeq1 (wpAny_loadPart')
theorem Zrb (a:Addr) (vs:Array Value) (m:Nat) (dc:Option Addr) (sc:Array (Option Value)):Meets (Builtin.«enumerate.__new__» ⟨[.type "enumerate",.ref a],[]⟩) (fun _ R z=>
    z.heap.get? a=some { cls:=.type "tuple",dict:=dc,data:=.seq vs m,slots:=sc }∧
    R (.ok (.ret (.ref (z.heap.push { cls:=.type "tuple_iterator",data:=.fields #[.ref a,.int 0 0] }).objs.size)))
      { z with heap:=(z.heap.push { cls:=.type "tuple_iterator",data:=.fields #[.ref a,.int 0 0] }).push { cls:=.type "enumerate",data:=.fields #[.none,.bool false,.ref z.heap.objs.size,rawInt 0,.none,.none] } }):=
  .of_wp fun pr wo ar R z hz=>by
    obtain⟨hp,gg,dd,tt,ss⟩:=z;obtain⟨ha,hR⟩:=hz;have hsubE:=sub_enumerate;have hT:Heap.IsTuple (Shared.heap ⟨hp,gg,dd,tt,ss⟩) a vs:=⟨_,ha,rfl,m,rfl⟩
    wp_walk using wpAny_loadPart' ha
    refine wpAny_stack_any fun stk=>wpAny_pure ?_
    split
    · rename_i cc _ _ _ _ _
      cases (cc == Value.type "enumerate") <;>
        (wp_walk using wpAny_loadPart' ha,wpAny_pyIter_tuple hT
         exact⟨_,rfl,hR⟩)
    · wp_walk using wpAny_loadPart' ha,wpAny_pyIter_tuple hT
      exact⟨_,rfl,hR⟩
section
variable {prog:Program} {w:World} {A:Around} {E:Value→Shared→Prop} {s:Shared}
theorem Zpb {a:Addr} {vs:Array Value} {Q:Value→Shared→Prop} (hT:s.heap.IsTuple a vs)
  (q:∀h',IsEnum h' (s.heap.objs.size+1) s.heap.objs.size 0 .none→h'.IsTupleIter s.heap.objs.size a 0→(∀b o,s.heap.get? b=some o→h'.get? b=some o)→Q (.ref (s.heap.objs.size+1)) { s with heap:=h' }) :
  wpAny (model prog w) A (call (.type "enumerate") [.ref a]) Q E s:=by
 obtain⟨⟨c,dc,dt,sc⟩,ha,hc,m,hd⟩:=hT
 replace hc:c=.type "tuple":=hc
 replace hd:dt=.seq vs m:=hd
 subst hc hd;refine callType_new F.called_enumerate (by decide) (F.typeCall_enumerate_1 _) (F.newCall_enumerate_1 _) (fun z=>F.args_object_init_2 z _) F.entry_enumerate_new (Zrb a vs m dc sc) ⟨ha,?_⟩;have hz:(s.heap.push { cls:=.type "tuple_iterator",data:=.fields #[.ref a,.int 0 0] }).objs.size=s.heap.objs.size+1:=Heap.size_push ..;show _∧_;rw[hz]
 have he:IsEnum ((s.heap.push { cls:=.type "tuple_iterator",data:=.fields #[.ref a,.int 0 0] }).push { cls:=.type "enumerate",data:=.fields #[.none,.bool false,.ref s.heap.objs.size,rawInt 0,.none,.none] }) (s.heap.objs.size+1) s.heap.objs.size 0 .none:=by
  have e:=Heap.get?_push_size (s.heap.push { cls:=.type "tuple_iterator",data:=.fields #[.ref a,.int 0 0] }) (o:={ cls:=.type "enumerate",data:=.fields #[.none,.bool false,.ref s.heap.objs.size,rawInt 0,.none,.none] }) rfl;rw[hz]at e;exact e
 exact⟨⟨_,he,rfl⟩,q _ he ⟨_,Heap.get?_push_of_some _ (Heap.get?_push_size _ rfl),rfl,rfl⟩ fun b o e=>Heap.get?_push_of_some _ (Heap.get?_push_of_some _ e)⟩
theorem Zns {it t:Addr} {i:Nat} {vs} {x:Value} {Q:Value→Shared→Prop} (hi:s.heap.IsTupleIter it t i) (ht:s.heap.IsTuple t vs) (hx:vs[i]?=some x)
  (q:∀h',h'.IsTupleIter it t (i+1)→Heap.SameBut it s.heap h'→Q x { s with heap:=h' }):wpAny (model prog w) A (Builtin.SmallTypes.nextOf (.ref it)) Q E s:=by
 obtain⟨o,ho,hc,hd⟩:=id hi;obtain⟨ot,hot,_,nt,hdt⟩:=ht;unfold Builtin.SmallTypes.nextOf;refine wpAny_bind (wpAny_callSpecial?_slot (name:=Str.ofString "__next__") hi.typeIs F.slot_tuple_iterator_next (wpAny_call_entry F.slot_tuple_iterator_next hi.typeIs F.entry_tuple_iterator_next ?_ (F.args_tuple_iterator_next_1 _)));show wpAny _ _ (field (.ref it) 0 >>= _) _ _ s;refine wpAny_bind (wpAny_field ho hd (x:=.ref t) rfl ?_);show wpAny _ _ (if (Value.ref t == Value.none)=true then _ else _) _ _ s;rw[if_neg (show ¬((Value.ref t == Value.none)=true) from Bool.false_ne_true)];show wpAny _ _ (field (.ref it) 1 >>= _) _ _ s;refine wpAny_bind (wpAny_field ho hd (x:=.int i 0) rfl ?_);show wpAny _ _ (seqItems? (.ref t) >>= _) _ _ s;refine wpAny_bind (wpAny_seqItems hot hdt ?_);simp only [Int.toNat_natCast,hx];refine wpAny_bind (wpAny_setField ho hd (by simp) (wpAny_pure ⟨x,rfl,wpAny_pure (q _ ?_ (Heap.SameBut.update ..))⟩));exact⟨_,Heap.get?_update_self _ ho (Obj.isFreed_of_fields (Obj.data_mapFields hd _)),(Obj.cls_mapFields ..).trans hc,by rw[Obj.data_mapFields hd]; simp[rawInt]⟩
theorem Zok {it t:Addr} {i:Nat} {vs} {Q:Value→Shared→Prop} (hh:A.handled=none) (hi:s.heap.IsTupleIter it t i) (ht:s.heap.IsTuple t vs) (hx:vs[i]?=none)
  (q:∀h' e,Heap.ExtBut it s.heap h'→(∃o,h'.get? e=some o∧o.cls=.type "StopIteration")→E (.ref e) { s with heap:=h' }):wpAny (model prog w) A (Builtin.SmallTypes.nextOf (.ref it)) Q E s:=by
 obtain⟨o,ho,hc,hd⟩:=id hi;obtain⟨ot,hot,_,nt,hdt⟩:=ht;unfold Builtin.SmallTypes.nextOf;refine wpAny_bind (wpAny_callSpecial?_slot (name:=Str.ofString "__next__") hi.typeIs F.slot_tuple_iterator_next (wpAny_call_entry F.slot_tuple_iterator_next hi.typeIs F.entry_tuple_iterator_next ?_ (F.args_tuple_iterator_next_1 _)));show wpAny _ _ (field (.ref it) 0 >>= _) _ _ s;refine wpAny_bind (wpAny_field ho hd (x:=.ref t) rfl ?_);show wpAny _ _ (if (Value.ref t == Value.none)=true then _ else _) _ _ s;rw[if_neg (show ¬((Value.ref t == Value.none)=true) from Bool.false_ne_true)];show wpAny _ _ (field (.ref it) 1 >>= _) _ _ s;refine wpAny_bind (wpAny_field ho hd (x:=.int i 0) rfl ?_);show wpAny _ _ (seqItems? (.ref t) >>= _) _ _ s;refine wpAny_bind (wpAny_seqItems hot hdt ?_);simp only [Int.toNat_natCast,hx];refine wpAny_bind (wpAny_rule (wpAny_bind (wpAny_setField ho hd (by simp) ?_)));show wpAny _ _ (newExc (.type "StopIteration") [] >>= _) _ _ _;refine wpAny_bind ?_;simp only [newExc,newTuple];refine wpAny_bind (wpAny_newObj_type ?_ (by size_fits));refine wpAny_bind (m:=firstArgMember _ _) (wpAny_of_eq (a:=Value.none) (by first | rfl | (simp only [firstArgMember]; rfl)) ?_);refine wpAny_newObj_type ?_ (by size_fits);simp only [raiseNew];refine wpAny_bind (wpAny_handled ?_)
 first | rw[show A.in1.handled=none from hh] | rw[hh]
 refine wpAny_bind (wpAny_pure (wpAny_throw ?_));exact q _ _ (((Heap.SameBut.update ..).extBut.push _).push _) ⟨_,Heap.get?_push_size _ rfl,rfl⟩
end
theorem Draws.tup {prog:Program} {w:World} {A:Around} (hh:A.handled=none) (it t:Addr) (hne:t≠it) (vs:Array Value):Draws prog w A it [it,t] vs.size (fun i v=>vs[i]?=some v) (fun i h=>h.IsTupleIter it t i∧h.IsTuple t vs) where
 live:=fun _ _ z=>let ⟨o,ho,_⟩:=z.1; ⟨o,ho⟩
 frame:=fun _ _ _ z hk=>⟨(let ⟨o,ho,r⟩:=z.1; ⟨o,hk it (by simp) o ho,r⟩),(let ⟨o,ho,r⟩:=z.2; ⟨o,hk t (by simp) o ho,r⟩)⟩
 item:=fun i s Q E hi z q=>Zns z.1 z.2 (x:=vs[i]) (by simp[hi]) fun h' hi' hs'=>q _ h' s.toks (by simp[hi]) ⟨hi',z.2.extBut hs'.extBut hne⟩ hs'
 done:=fun s Q E z q=>Zok hh z.1 z.2 (by simp) q
theorem Zyo {h:Heap} {o o':Obj} {b:Addr} (e:(h.push o).get? b=some o'):b=h.objs.size∧o'=o∨h.get? b=some o':=by
 obtain⟨e1,e2⟩:=Heap.get?_some_iff.mp e
 have e1:(h.objs.push o)[b]?=some o':=by simpa [Heap.push] using e1
 rw[Array.getElem?_push]at e1
 split at e1
 ·rename_i z
  exact .inl ⟨z,(Option.some.inj e1).symm⟩
 ·exact .inr (Heap.get?_some_iff.mpr ⟨e1,e2⟩)
end PySem
namespace L2
open PySem PySem.Spec PyProof.Rows
section
variable {X:Cx} {pins:List (Addr×Obj)} {σ:List (Option V)} {H:Hp} {s:Shared} {h':Heap}
theorem Inv.turnedL {t':Nat} {ch:List Addr} (I:Inv X pins σ H s) (k:∀b o,b∉ch→s.heap.get? b=some o→h'.get? b=some o) (hf:∀b∈ch,FpOk X pins H b):Inv X pins σ H { s with heap:=h',toks:=t' }:=by
 have nit:∀b u,H b=some u→b∉ch:=fun b u e z=>by rw[(hf b z).1]at e; cases e
 have hL:X.env.locals∉ch:=fun z=>(hf _ z).2.1 rfl;refine I.step (g':=s.gens) (d':=s.drawn) (ch:=ch) (fun b hb=>?_) (fun b o _ _ hc e _=>k b o hc e) (fun b o _ _ hc e _=>⟨o.slots,k b o hc e⟩) (fun _ _ _ _ n=>n) (fun b o hc e=>⟨o,k b o hc e⟩) (fun _ _ e=>e) (fun _ _ _ e=>e) (fun b ps e=>⟨#[],by rw[e]; simp⟩) (fun m hm=>?_) (fun b u e=>?_) I.bare
 ·obtain⟨f0,f1,f2,f3,f4,f5⟩:=hf b hb
  exact⟨f3,f1,f4,f5⟩
 ·obtain⟨o,es,ep,ho,r⟩:=hm
  exact⟨o,es,ep,k _ o hL ho,r⟩
 ·refine(I.hok b u e).stay (fun c v hc q=>k c v ?_ q) (fun _ q=>q) fun _ _ q=>q
  rcases hc with z | z
  ·rw[z]; exact nit b u e
  ·exact nit c _ z
theorem Inv.pairTurn {t':Nat} {ch:List Addr} {x y:V} {u v:Value} (I:Inv X pins σ H s) (rx:RelV x u) (ry:RelV y v) (hf:∀b∈ch,FpOk X pins H b) (hch:∀b∈ch,b≠s.heap.objs.size)
  (k:∀b o,b∉ch→s.heap.get? b=some o→h'.get? b=some o) (hT:h'.get? s.heap.objs.size=some { cls:=.type "tuple",data:=.seq #[u,v] }) :
  Inv X pins σ (upd H s.heap.objs.size (.tup [x,y])) { s with heap:=h',toks:=t' }:=by
 have I1:Inv X pins σ (upd H s.heap.objs.size (.tup [x,y])) { s with heap:=s.heap.push { cls:=.type "tuple",data:=.seq #[u,v] } }:=
  I.laid (t':=s.toks) (fun b o e=>Heap.get?_push_of_some _ e) (Nat.le_refl _) (show Zc0 X.prog X.w _ _ _ (.tup [x,y]) from⟨Nat.le_of_ble_eq_true rfl,[u,v],.cons rx (.cons ry .nil),IsTup.new _ _⟩)
 refine Inv.turnedL (s:={ s with heap:=s.heap.push { cls:=.type "tuple",data:=.seq #[u,v] } }) (ch:=ch) I1 (fun b o hb e=>?_) fun b hb=>?_
 ·rcases Zyo e with⟨e1,e2⟩ | e
  ·rw[e1,e2]; exact hT
  ·exact k b o hb e
 ·obtain⟨f0,f1,f2,f3,f4,f5⟩:=hf b hb
  exact⟨by rw[ZaW (hch b hb)]; exact f0,f1,f2,f3,f4,f5⟩
end
def Ite (sq:Hp→Prop) (xs:List V):It:=⟨fun i H=>i < xs.length∧sq H,fun i H x H'=>∃T v,xs[i]?=some v∧H T=none∧x=.ref T∧H'=upd H T (.tup [.int (i:Int),v]),fun i H=>i=xs.length∧sq H⟩
theorem ZrC {P:Program} {w:World} {K:PySem.W.Frag} {elts:List Expr} {kk:Nat} {ps:Pos} {sq:Hp→Prop} {xs:List V} {e it:Addr} {stI:Nat→Heap→Prop} (hei:e≠it)
  (hobj:∀i h,stI i h→∃o,h.get? it=some o∧∀v,o.data≠.cell v) (hkeep:∀i h h',stI i h→(∀o,h.get? it=some o→h'.get? it=some o)→stI i h')
  (hD:∀(X:Cx),X.prog=P→X.w=w→X.K=K→X.calm=true→∀(pins:List (Addr×Obj)) (σ:St) (H:Hp) (s:Shared) (i:Nat),Inv X pins σ H s→sq H→(∃old,IsEnum s.heap e it i old)→stI i s.heap→
   ∃(its:List Value) (fp:List Addr) (S:Nat→Heap→Prop),Vals xs its∧Draws P w X.A.in1 it fp its.length (fun j v=>its[j]?=some v) S∧S i s.heap∧(∀j h,S j h→stI j h)∧e∉fp) :
  Turn P w K (.Tuple elts kk ps) (Ite sq xs) [e,it] e (fun i h=>(∃old,IsEnum h e it i old)∧stI i h) where
 mem:=by simp
 obj:=fun i h st b hb=>by
  obtain⟨⟨old,he⟩,hs⟩:=st
  rcases List.mem_cons.mp hb with rfl | hb
  ·exact⟨_,he,fun v z=>by cases z⟩
  ·rw[List.mem_singleton.mp hb]; exact hobj i h hs
 keep:=fun i h h' st k=>by
  obtain⟨⟨old,he⟩,hs⟩:=st;exact⟨⟨old,k e (by simp) _ he⟩,hkeep i h h' hs fun o z=>k it (by simp) o z⟩
 item:=by
  intro X hP hw hK hc i pins s σ H E I hf st hg;obtain⟨⟨old,he⟩,hs⟩:=st;obtain⟨its,fp,S,rv,D,hS,hst,hef⟩:=hD X hP hw hK hc pins σ H s i I hg.2 ⟨old,he⟩ hs;subst hP hw hK
  have hi:i < its.length:=by rw[←rv.length]; exact hg.1
  refine wpAny_pyNext_enum_itemD D he hS hi hei hef fun u h1 tk hu ho hs1 hT hsz hk=>?_;have hel:e < s.heap.objs.size:=Heap.lt_size he
  have hil:it < s.heap.objs.size:=by obtain⟨o,q,_⟩:=hobj i _ hs; exact Heap.lt_size q
  refine⟨_,rfl,wpAny_letOwnedTupleGo_enum ho fun h2 he2 hs2=>?_⟩;obtain⟨v,hv⟩ : ∃v,xs[i]?=some v:=⟨xs[i]'hg.1,List.getElem?_eq_getElem hg.1⟩;obtain⟨u',hu',ru⟩:=rv.get hv;have eu:u'=u:=Option.some.inj (hu'.symm.trans hu);subst eu
  have I2:Inv X pins σ (upd H s.heap.objs.size (.tup [.int (i:Int),v])) { s with heap:=h2,toks:=tk+1 }:=
   I.pairTurn (ch:=[e,it]) (u:=.int i tk) ⟨tk,rfl⟩ ru hf (fun b hb=>by
    rcases List.mem_cons.mp hb with rfl | hb
    ·exact Nat.ne_of_lt hel
    ·rw[List.mem_singleton.mp hb]; exact Nat.ne_of_lt hil) (fun b o hb z=>by
    have hb1:b≠e:=fun q=>hb (by simp[q]);have hb2:b≠it:=fun q=>hb (by simp[q])
    exact(hs2.2 b hb1).trans (hk b o hb1 hb2 z)) ((hs2.2 _ (Nat.ne_of_gt hel)).trans hT)
  refine⟨.ref s.heap.objs.size,_,I2,rfl,⟨_,v,hv,I.hok.fresh (Nat.le_refl _),rfl,rfl⟩,⟨⟨_,by simpa using he2⟩,hst _ _ (D.frame _ _ _ hs1 fun b hb o z=>(hs2.2 b fun q=>hef (q ▸ hb)).trans z)⟩,fun b hb=>?_⟩
  have hne:b≠s.heap.objs.size:=by
   rcases List.mem_cons.mp hb with rfl | hb
   ·exact Nat.ne_of_lt hel
   ·rw[List.mem_singleton.mp hb]; exact Nat.ne_of_lt hil
  rw[ZaW hne];exact(hf b hb).1
 done:=by
  intro X hP hw hK hc i pins s σ H E I hf st hg;obtain⟨⟨old,he⟩,hs⟩:=st;obtain⟨its,fp,S,rv,D,hS,hst,hef⟩:=hD X hP hw hK hc pins σ H s i I hg.2 ⟨old,he⟩ hs;subst hP hw hK
  have hi:i=its.length:=by rw[←rv.length]; exact hg.1
  rw[hi]at hS;obtain⟨f0,f1,f2,f3,f4,f5⟩:=hf it (by simp);exact wpAny_pyNext_enum_endD D he hS fun h1 eb=>⟨rfl,I.turned (t':=s.toks) (fun b o hb z=>eb b o hb z) f0 f1 f3 f4 f5⟩
 self:=fun _ _ _ _ _ st h=>by
  obtain⟨⟨old,he⟩,_⟩:=st;exact wpAny_pyIter_enum he h
section
variable {X:Cx}
def ZB9 (K:PySem.W.Frag) (tl:TE):TI:=fun σ H R=>tl σ H fun x H1=>(∃a xs,x=.ref a∧SqL K H1 a xs∧R (Ite (fun H=>SqL K H a xs) xs) H1)∨(∃a xs,x=.ref a∧SqT K H1 a xs∧R (Ite (fun H=>SqT K H a xs) xs) H1)
theorem ZA2 {elts:List Expr} {kk:Nat} {ps:Pos} {l:Expr} {tl:TE} {p pos:Pos} (hg:Gl X "enumerate") (hm:X.mg "enumerate" = none) (ha:PE X l tl) (he:starEach [l] X.env=(false,eval l X.env)::starEach [] X.env:=by rfl) :
  PI X (.Tuple elts kk ps) (.Call (.Name "enumerate" p) [l] [] pos) (ZB9 X.K tl):=by
 intro pins s σ H R I h;refine wpAny_Call_Name_kw (ZoJ I hg hm Zqx ?_)
 let R':List V→Hp→Prop:=fun vs H1=>match vs with | [x]=>((∃a xs,x=V.ref a∧SqL X.K H1 a xs∧R (Ite (fun H=>SqL X.K H a xs) xs) H1)∨(∃a xs,x=V.ref a∧SqT X.K H1 a xs∧R (Ite (fun H=>SqT X.K H a xs) xs) H1)) | _=>False
 have h':Zow tl tNil σ H R':=h;refine PyProof.Rows.callWith_type1 (thn (Zaa ha Zab he pos pins s σ H R' I h') fun us s1 ⟨vs,H1,I1,r1,q1⟩=>?_) he rfl
 have fpk:∀b∈[s1.heap.objs.size+1,s1.heap.objs.size],FpOk X pins H1 b:=fun b hb=>by
  rcases List.mem_cons.mp hb with rfl | hb
  ·exact I1.fpOk (Nat.le_succ _) (I1.hok.fresh (Nat.le_succ _))
  ·rw[List.mem_singleton.mp hb]; exact I1.fpOk (Nat.le_refl _) (I1.hok.fresh (Nat.le_refl _))
 match vs,r1,q1 with
 | [x],r1,q1=>
  obtain⟨u,rfl,rx⟩:=ZuO r1
  rcases q1 with⟨a,xs,rfl,hq,q⟩ | ⟨a,xs,rfl,hq,q⟩
  ·cases rx
   obtain⟨its,rv,pl,hz⟩:=I1.list hq;refine call_enumerate_list pl.isList fun h2 he2 hi2 hsz hk=>?_;refine wpAny_pyIter_enum he2 ⟨s1.heap.objs.size+1,_,_,_,H1,rfl,I1.kept (t':=s1.toks) hk,ZrC (e:=s1.heap.objs.size+1) (it:=s1.heap.objs.size) (stI:=fun i h=>h.IsListIter s1.heap.objs.size a i) (Nat.succ_ne_self _) ?_ ?_ ?_,⟨⟨_,he2⟩,hi2⟩,fpk,q⟩
   ·rintro i h ⟨o,e,c,d⟩
    exact⟨o,e,fun v z=>by rw[d]at z; cases z⟩
   ·exact fun i h h' z k=>z.at k
   ·intro Y hP hw hK hc pins' σ' H' s' i I' hs ⟨old,hen⟩ hit
    have hs:SqL Y.K H' a xs:=by rw[hK]; exact hs
    obtain⟨its',rv',pl',hz'⟩:=I'.list hs
    have na:a≠s1.heap.objs.size:=fun z=>by
     obtain⟨o,e,c,d⟩:=hit;obtain⟨o',e',c',d'⟩:=pl'.isList;rw[z,e]at e'
     cases e'
     rw[c]at c';exact absurd c' (by decide)
    have nb:s1.heap.objs.size+1∉[s1.heap.objs.size,a]:=fun z=>by
     rcases List.mem_cons.mp z with z | z
     ·exact Nat.succ_ne_self _ z
     ·obtain⟨o',e',c',d'⟩:=pl'.isList
      rw[←List.mem_singleton.mp z,hen]at e'
      cases e'
      have c2:Value.type "enumerate" = Value.type "list":=c';exact absurd c2 (by decide)
    have D:=Draws.list (prog:=Y.prog) (w:=Y.w) (A:=Y.A.in1) (I'.ok.hd hc) s1.heap.objs.size a na its'.toArray;rw[hP,hw]at D;exact⟨its',[s1.heap.objs.size,a],fun i h=>h.IsListIter s1.heap.objs.size a i∧h.IsList a its'.toArray,rv',by simpa using D,⟨hit,pl'.isList⟩,fun j h z=>z.1,nb⟩
  ·cases rx
   obtain⟨its,rv,pl,hz⟩:=I1.tuple hq;refine Zpb (show s1.heap.IsTuple a its.toArray from pl) fun h2 he2 hi2 hk=>?_;refine wpAny_pyIter_enum he2 ⟨s1.heap.objs.size+1,_,_,_,H1,rfl,I1.kept (t':=s1.toks) hk,ZrC (e:=s1.heap.objs.size+1) (it:=s1.heap.objs.size) (stI:=fun i h=>h.IsTupleIter s1.heap.objs.size a i) (Nat.succ_ne_self _) ?_ ?_ ?_,⟨⟨_,he2⟩,hi2⟩,fpk,q⟩
   ·rintro i h ⟨o,e,c,d⟩
    exact⟨o,e,fun v z=>by rw[d]at z; cases z⟩
   ·exact fun i h h' z k=>let ⟨o,e,r⟩:=z; ⟨o,k o e,r⟩
   ·intro Y hP hw hK hc pins' σ' H' s' i I' hs ⟨old,hen⟩ hit
    have hs:SqT Y.K H' a xs:=by rw[hK]; exact hs
    obtain⟨its',rv',pl',hz'⟩:=I'.tuple hs
    have na:a≠s1.heap.objs.size:=fun z=>by
     obtain⟨o,e,c,d⟩:=hit;obtain⟨o',e',c',d'⟩:=pl';rw[z,e]at e'
     cases e'
     rw[c]at c';exact absurd c' (by decide)
    have nb:s1.heap.objs.size+1∉[s1.heap.objs.size,a]:=fun z=>by
     rcases List.mem_cons.mp z with z | z
     ·exact Nat.succ_ne_self _ z
     ·obtain⟨o',e',c',d'⟩:=pl'
      rw[←List.mem_singleton.mp z,hen]at e'
      cases e'
      have c2:Value.type "enumerate" = Value.type "tuple":=c';exact absurd c2 (by decide)
    have D:=Draws.tup (prog:=Y.prog) (w:=Y.w) (A:=Y.A.in1) (I'.ok.hd hc) s1.heap.objs.size a na its'.toArray;rw[hP,hw]at D;exact⟨its',[s1.heap.objs.size,a],fun i h=>h.IsTupleIter s1.heap.objs.size a i∧h.IsTuple a its'.toArray,rv',by simpa using D,⟨hit,pl'⟩,fun j h z=>z.1,nb⟩
end
section
variable {σ:St} {H:Hp} {Q:VK} {D:Ends} {K:PySem.W.Frag} {g:TG} {tb:TS}
def ZzT (sq:Hp→Prop) (xs:List V) (g:TG) (tb:TS) (D:Ends) (σ:St) (H:Hp):Prop:=
 ∃W:Nat→Nat→St→Hp→Prop,(∃m,W 0 m σ H)∧∀i m σ H,W i m σ H→
   ((Ite sq xs).stop i H∧D.nx σ H)∨((Ite sq xs).go i H∧∃N:St→Hp→Prop,(∀σ' H',N σ' H'→∃m',m' < m∧W (i+1) m' σ' H')∧∀x H',(Ite sq xs).yld i H x H'→g x σ H' fun σ2 H2=>tb { D with nx:=N,ct:=N,bk:=D.nx } σ2 H2)
def SeqE (K:PySem.W.Frag) (x:V) (g:TG) (tb:TS) (D:Ends) (σ:St) (H1:Hp):Prop:=(∃a xs,x=.ref a∧SqL K H1 a xs∧ZzT (fun H=>SqL K H a xs) xs g tb D σ H1)∨(∃a xs,x=.ref a∧SqT K H1 a xs∧ZzT (fun H=>SqT K H a xs) xs g tb D σ H1)
theorem Zy6 {tl:TE} (h:tl σ H fun x H1=>SeqE K x g tb D σ H1):tFor (ZB9 K tl) g tb D σ H:=h
theorem ZEk {sq:Hp→Prop} {xs:List V} (Pv:Nat→St→Hp→Prop) (h0:Pv 0 σ H) (hl:∀i σ H,i≤xs.length→Pv i σ H→sq H)
  (hs:∀(i:Nat) (v:V) (T:Addr) σ H H',xs[i]?=some v→Pv i σ H→Same H H'→H T=none→H' T=some (.tup [.int (i:Int),v])→g (.ref T) σ H' fun σ2 H2=>tb { D with nx:=Pv (i+1),ct:=Pv (i+1),bk:=D.nx } σ2 H2) (hd:∀σ H,Pv xs.length σ H→D.nx σ H):ZzT sq xs g tb D σ H:=by
 refine⟨fun i m σ H=>m=xs.length - i∧i≤xs.length∧Pv i σ H,⟨xs.length,by simp,Nat.zero_le _,h0⟩,?_⟩;rintro i m σ H ⟨rfl,hi,p⟩
 by_cases hlt:i < xs.length
 ·refine .inr ⟨⟨hlt,hl i σ H hi p⟩,Pv (i+1),fun σ' H' p'=>⟨xs.length - (i+1),by omega,rfl,hlt,p'⟩,fun x H' y=>?_⟩
  obtain⟨T,v,hv,hT,rfl,rfl⟩:=y;exact hs i v T σ H _ hv p (Ze9 hT _) hT ZaH
 ·have e:i=xs.length:=by omega
  subst e;exact .inl ⟨⟨rfl,hl _ σ H hi p⟩,hd σ H p⟩
theorem ZEv {a:Addr} {xs:List V} (Pv:Nat→St→Hp→Prop) (h0:Pv 0 σ H) (hl:∀i σ H,i≤xs.length→Pv i σ H→SqL K H a xs)
  (hs:∀(i:Nat) (v:V) (T:Addr) σ H H',xs[i]?=some v→Pv i σ H→Same H H'→H T=none→H' T=some (.tup [.int (i:Int),v])→g (.ref T) σ H' fun σ2 H2=>tb { D with nx:=Pv (i+1),ct:=Pv (i+1),bk:=D.nx } σ2 H2) (hd:∀σ H,Pv xs.length σ H→D.nx σ H):SeqE K (.ref a) g tb D σ H:=.inl ⟨a,xs,rfl,hl 0 σ H (Nat.zero_le _) h0,ZEk Pv h0 hl hs hd⟩
theorem ZAk {T:Addr} {x y:V} {i j:Nat} {R:St→Hp→Prop} (e:H T=some (.tup [x,y])) (h:R ((σ.set i (some x)).set j (some y)) H):gTup K 2 (Zz6 (Zn9 i) (Zz6 (Zn9 j) gNil)) (.ref T) σ H R:=
 ⟨T,[x,y],rfl,SqT.of e,rfl,x,[y],rfl,y,[],rfl,rfl,h⟩
end
end L2
namespace L2
open PySem PySem.Spec PyProof.Rows
def Itz (K:PySem.W.Frag) (a b:Addr) (xs ys:List V):It:=⟨fun i H=>(i < xs.length∧i < ys.length)∧SqL K H a xs∧SqL K H b ys,
 fun i H x H'=>∃T v u,xs[i]?=some v∧ys[i]?=some u∧H T=none∧x=.ref T∧H'=upd H T (.tup [v,u]),fun i H=>(xs.length≤i∨ys.length≤i)∧SqL K H a xs∧SqL K H b ys⟩
theorem ZeR {h:Heap} {a b:Addr} {o o':Obj} (e:h.get? a=some o) (e':h.get? b=some o') (n:o.cls≠o'.cls):a≠b:=fun z=>by
 rw[z,e']at e
 cases e
 exact n rfl
theorem ZiR {m n:String} (h:m≠n):Value.type m≠Value.type n:=fun e=>h (by injection e)
theorem ZyL {P:Program} {w:World} {K:PySem.W.Frag} {elts:List Expr} {kk:Nat} {ps:Pos} {a b z TI TO i1 i2:Addr} {xs ys:List V} (d1:TI≠z) (d2:TO≠z) (d3:i1≠z) (d4:i2≠z) (d5:TI≠TO) (d6:TI≠i1) (d7:TI≠i2) (d8:TO≠i1) (d9:TO≠i2) (d10:i1≠i2) :
  Turn P w K (.Tuple elts kk ps) (Itz K a b xs ys) [z,TI,TO,i1,i2] z (fun i h=>IsZip h z TI TO .none∧IsPair h TI (.ref i1) (.ref i2)∧(∃u v,IsPair h TO u v)∧h.IsListIter i1 a i∧h.IsListIter i2 b i) where
 mem:=by simp
 obj:=fun i h st c hc=>by
  obtain⟨hz,hTI,⟨u,v,hTO⟩,⟨o1,e1,_,g1⟩,⟨o2,e2,_,g2⟩⟩:=st;simp at hc
  rcases hc with rfl | rfl | rfl | rfl | rfl
  ·exact⟨_,hz,fun v z=>by cases z⟩
  ·exact⟨_,hTI,fun v z=>by cases z⟩
  ·exact⟨_,hTO,fun v z=>by cases z⟩
  ·exact⟨_,e1,fun v z=>by rw[g1]at z; cases z⟩
  ·exact⟨_,e2,fun v z=>by rw[g2]at z; cases z⟩
 keep:=fun i h h' st k=>by
  obtain⟨hz,hTI,⟨u,v,hTO⟩,h1,h2⟩:=st;exact⟨k z (by simp) _ hz,k TI (by simp) _ hTI,⟨u,v,k TO (by simp) _ hTO⟩,h1.at fun o e=>k i1 (by simp) o e,h2.at fun o e=>k i2 (by simp) o e⟩
 item:=by
  intro X hP hw hK hc i pins s σ H E I hf st hg;subst hP hw hK;obtain⟨hz,hTI,⟨u0,v0,hTO⟩,h1,h2⟩:=st;obtain⟨⟨hi1,hi2⟩,hq1,hq2⟩:=hg;obtain⟨its,rv,pl,hzz⟩:=I.list hq1;obtain⟨jts,rw',pm,hzw⟩:=I.list hq2;obtain⟨x,hx⟩ : ∃v,xs[i]?=some v:=⟨xs[i]'hi1,List.getElem?_eq_getElem hi1⟩;obtain⟨y,hy⟩ : ∃v,ys[i]?=some v:=⟨ys[i]'hi2,List.getElem?_eq_getElem hi2⟩;obtain⟨u,hu,ru⟩:=rv.get hx;obtain⟨v,hv,rvv⟩:=rw'.get hy;obtain⟨oa,ea,ca,_⟩:=id pl.isList;obtain⟨ob,eb,cb,_⟩:=id pm.isList;obtain⟨o1,e1,c1,_⟩:=id h1;obtain⟨o2,e2,c2,_⟩:=id h2
  have D:ZipApart z TI TO i1 i2 a b:=⟨d1,d2,d3,d4,d5,d6,d7,d8,d9,d10,ZeR ea hz (by rw[ca]; exact ZiR (m:="list") (n:="zip") (by decide)),ZeR ea hTO (by rw[ca]; exact ZiR (m:="list") (n:="tuple") (by decide)),ZeR ea e1 (by rw[ca,c1]; exact ZiR (m:="list") (n:="list_iterator") (by decide)),ZeR ea e2 (by rw[ca,c2]; exact ZiR (m:="list") (n:="list_iterator") (by decide)),
   ZeR eb hz (by rw[cb]; exact ZiR (m:="list") (n:="zip") (by decide)),ZeR eb hTO (by rw[cb]; exact ZiR (m:="list") (n:="tuple") (by decide)),ZeR eb e1 (by rw[cb,c1]; exact ZiR (m:="list") (n:="list_iterator") (by decide)),ZeR eb e2 (by rw[cb,c2]; exact ZiR (m:="list") (n:="list_iterator") (by decide))⟩
  refine wpAny_pyNext_zip_item D hz hTI hTO h1 h2 pl.isList pm.isList (x:=u) (y:=v) (by simpa using hu) (by simpa using hv) fun h' q1 q2 q3 q4 q5 q6 hk=>?_;refine⟨_,rfl,wpAny_letOwnedTupleGo_zip q1 fun h2' hz' hs'=>?_⟩
  have lts:∀c∈[z,TI,TO,i1,i2],c≠s.heap.objs.size:=fun c hc=>by
   simp at hc
   rcases hc with rfl | rfl | rfl | rfl | rfl
   ·exact Nat.ne_of_lt (Heap.lt_size hz)
   ·exact Nat.ne_of_lt (Heap.lt_size hTI)
   ·exact Nat.ne_of_lt (Heap.lt_size hTO)
   ·exact Nat.ne_of_lt (Heap.lt_size e1)
   ·exact Nat.ne_of_lt (Heap.lt_size e2)
  have hzT:s.heap.objs.size≠z:=(lts z (by simp)).symm
  have I2:Inv X pins σ (upd H s.heap.objs.size (.tup [x,y])) { s with heap:=h2' }:=I.pairTurn (t':=s.toks) (ch:=[z,TI,TO,i1,i2]) ru rvv hf lts (fun c o hc e=>by
   have n1:c≠z:=fun q=>hc (by simp[q])
   exact hs'.extBut _ _ n1 (hk c o n1 (fun q=>hc (by simp[q])) (fun q=>hc (by simp[q])) (fun q=>hc (by simp[q])) e)) (hs'.extBut _ _ hzT q5)
  refine⟨.ref s.heap.objs.size,_,I2,rfl,⟨_,x,y,hx,hy,I.hok.fresh (Nat.le_refl _),rfl,rfl⟩,⟨hz',hs'.extBut _ _ d1 (hk _ _ d1 d5 d6 d7 hTI),⟨_,_,hs'.extBut _ _ d2 q2⟩,q3.extBut hs'.extBut d3,q4.extBut hs'.extBut d4⟩,fun c hc=>?_⟩;rw[ZaW (lts c hc)];exact(hf c hc).1
 done:=by
  intro X hP hw hK hc i pins s σ H E I hf st hg;subst hP hw hK;obtain⟨hz,hTI,⟨u0,v0,hTO⟩,h1,h2⟩:=st;obtain⟨hend,hq1,hq2⟩:=hg;obtain⟨its,rv,pl,hzz⟩:=I.list hq1;obtain⟨jts,rw',pm,hzw⟩:=I.list hq2;obtain⟨oa,ea,ca,_⟩:=id pl.isList;obtain⟨ob,eb,cb,_⟩:=id pm.isList;obtain⟨o1,e1,c1,_⟩:=id h1;obtain⟨o2,e2,c2,_⟩:=id h2;have l1:=rv.length;have l2:=rw'.length
  have D:ZipApart z TI TO i1 i2 a b:=⟨d1,d2,d3,d4,d5,d6,d7,d8,d9,d10,ZeR ea hz (by rw[ca]; exact ZiR (m:="list") (n:="zip") (by decide)),ZeR ea hTO (by rw[ca]; exact ZiR (m:="list") (n:="tuple") (by decide)),ZeR ea e1 (by rw[ca,c1]; exact ZiR (m:="list") (n:="list_iterator") (by decide)),ZeR ea e2 (by rw[ca,c2]; exact ZiR (m:="list") (n:="list_iterator") (by decide)),
   ZeR eb hz (by rw[cb]; exact ZiR (m:="list") (n:="zip") (by decide)),ZeR eb hTO (by rw[cb]; exact ZiR (m:="list") (n:="tuple") (by decide)),ZeR eb e1 (by rw[cb,c1]; exact ZiR (m:="list") (n:="list_iterator") (by decide)),ZeR eb e2 (by rw[cb,c2]; exact ZiR (m:="list") (n:="list_iterator") (by decide))⟩
  refine wpAny_pyNext_zip_end (I.ok.hd hc) D hz hTI hTO h1 h2 pl.isList pm.isList (hend.imp (fun q=>by simp; omega) fun q=>by simp; omega) fun h' hk=>⟨rfl,?_⟩;exact I.turnedL (t':=s.toks) (ch:=[z,TI,TO,i1,i2]) (fun c o hc e=>hk c o (fun q=>hc (by simp[q])) (fun q=>hc (by simp[q])) (fun q=>hc (by simp[q])) (fun q=>hc (by simp[q])) e) hf
 self:=fun _ _ _ _ _ st h=>wpAny_pyIter_zip st.1 h
section
variable {X:Cx}
def iZip (K:PySem.W.Frag) (ta:TA):TI:=fun σ H R=>ta σ H fun vs H1=>∃a b xs ys,vs=[.ref a,.ref b]∧SqL K H1 a xs∧SqL K H1 b ys∧R (Itz K a b xs ys) H1
theorem ZDh {elts:List Expr} {kk:Nat} {ps:Pos} {a b:Expr} {ta:TA} {p pos:Pos} (hg:Gl X "zip") (hm:X.mg "zip" = none) (ha:PA X [a,b] ta) (hs:starEach [a,b] X.env=[(false,eval a X.env),(false,eval b X.env)]:=by rfl) (hs2:starEach [b] X.env=[(false,eval b X.env)]:=by rfl) :
  PI X (.Tuple elts kk ps) (.Call (.Name "zip" p) [a,b] [] pos) (iZip X.K ta):=by
 intro pins s σ H R I h;refine Call_ (ZoJ I hg hm ZBQ (PyProof.Rows.callWith_type1 (thn (ha pos pins s σ H _ I h) fun us s1 ⟨vs,H1,I1,r1,q1⟩=>?_) (by rw[hs,hs2]) (by rw[hs2]; rfl)));obtain⟨a1,b1,xs,ys,rfl,hq1,hq2,q⟩:=q1
 cases r1 with
 | cons r rr=>
  cases rr with
  | cons r' rr=>
   cases rr
   cases r
   cases r'
   obtain⟨its,rv,pl,hzz⟩:=I1.list hq1;obtain⟨jts,rw',pm,hzw⟩:=I1.list hq2;refine call_zip_2 pl.isList pm.isList fun h' hz hTI hTO h1 h2 hsz hk=>?_;refine wpAny_pyIter_zip hz ⟨_,_,_,_,H1,rfl,I1.kept (t':=s1.toks) hk,ZyL (i1:=s1.heap.objs.size) (i2:=s1.heap.objs.size+1) (TI:=s1.heap.objs.size+2) (TO:=s1.heap.objs.size+3) (z:=s1.heap.objs.size+4) (a:=a1) (b:=b1) (xs:=xs) (ys:=ys) (by simp) (by simp) (by simp) (by simp) (by simp) (by simp) (by simp) (by simp) (by simp) (by simp),⟨hz,hTI,⟨_,_,hTO⟩,h1,h2⟩,fun c hc=>?_,q⟩
   have le:s1.heap.objs.size≤c:=by
    simp at hc
    rcases hc with rfl | rfl | rfl | rfl | rfl <;> simp
   exact I1.fpOk le (I1.hok.fresh le)
end
section
open PySem.SeqAt
open PySem.AutoSeq1 (wpAny_loadPart')
open PySem.MeetsSeq PySem.MeetsSeq2 PySem.MeetsSeq3
end
def ZD3 (i j:Int):Prop:=0 < j∧j≤18446744073709551616
theorem Zay {X:Cx}:OpR X (binaryOp .FloorDiv) (rI ZD3 fun i j=>.int (i / j)):=opI fun i j _ _ _ _ _ hc q=>by
 have h1:(0:Int) < j:=hc.1;have h2:j≤18446744073709551616:=hc.2;refine floordiv_int (by omega) (by rw[Int.fdiv_eq_ediv_of_nonneg i (by omega)]; exact q) (.inl (PyProof.noPylong_of_log2 ?_));have h3:j.natAbs.log2 < 65:=(Nat.log2_lt (by omega)).mpr (by omega);omega
section
variable {σ:St} {H:Hp} {Q:VK} {D:Ends} {K:PySem.W.Frag} {g:TG} {tb:TS}
def ZBE (K:PySem.W.Frag) (a b:Addr) (xs ys:List V) (g:TG) (tb:TS) (D:Ends) (σ:St) (H:Hp):Prop:=
 ∃W:Nat→Nat→St→Hp→Prop,(∃m,W 0 m σ H)∧∀i m σ H,W i m σ H→
   ((Itz K a b xs ys).stop i H∧D.nx σ H)∨((Itz K a b xs ys).go i H∧∃N:St→Hp→Prop,(∀σ' H',N σ' H'→∃m',m' < m∧W (i+1) m' σ' H')∧∀x H',(Itz K a b xs ys).yld i H x H'→g x σ H' fun σ2 H2=>tb { D with nx:=N,ct:=N,bk:=D.nx } σ2 H2)
theorem Zy8 {ta:TA} (h:ta σ H fun vs H1=>∃a b xs ys,vs=[.ref a,.ref b]∧SqL K H1 a xs∧SqL K H1 b ys∧ZBE K a b xs ys g tb D σ H1):tFor (iZip K ta) g tb D σ H:=h
theorem ZEn {a b:Addr} {xs ys:List V} (n:Nat) (hn:n=min xs.length ys.length) (Pv:Nat→St→Hp→Prop) (h0:Pv 0 σ H) (hl:∀i σ H,i≤n→Pv i σ H→SqL K H a xs∧SqL K H b ys)
  (hs:∀(i:Nat) (v u:V) (T:Addr) σ H H',xs[i]?=some v→ys[i]?=some u→Pv i σ H→Same H H'→H T=none→H' T=some (.tup [v,u])→g (.ref T) σ H' fun σ2 H2=>tb { D with nx:=Pv (i+1),ct:=Pv (i+1),bk:=D.nx } σ2 H2) (hd:∀σ H,Pv n σ H→D.nx σ H):ZBE K a b xs ys g tb D σ H:=by
 refine⟨fun i m σ H=>m=n - i∧i≤n∧Pv i σ H,⟨n,by simp,Nat.zero_le _,h0⟩,?_⟩;rintro i m σ H ⟨rfl,hi,p⟩
 by_cases hlt:i < n
 ·refine .inr ⟨⟨⟨by omega,by omega⟩,hl i σ H hi p⟩,Pv (i+1),fun σ' H' p'=>⟨n - (i+1),by omega,rfl,hlt,p'⟩,fun x H' y=>?_⟩
  obtain⟨T,v,u,hv,hu,hT,rfl,rfl⟩:=y;exact hs i v u T σ H _ hv hu p (Ze9 hT _) hT ZaH
 ·have e:i=n:=by omega
  subst e;exact .inl ⟨⟨by omega,hl _ σ H hi p⟩,hd σ H p⟩
end
end L2
namespace PySem
open Sem (wp)
theorem Obj.dict_mapFields (o:Obj) (f:Array Value→Array Value):(Obj.mapFields f o).dict=o.dict:=by unfold Obj.mapFields; split <;> rfl
def Zvr (l:List Env):List Addr:=l.filterMap (·.frame)
def Heap.Tr (h:Heap) (e:Addr) (cls:Value) (T:Addr):Prop:=∃oe vs oT ts,h.get? e=some oe∧oe.cls=cls∧oe.dict=none∧oe.data=.fields vs∧vs[1]?=some (.ref T)∧T≠e∧h.get? T=some oT∧oT.data=.fields ts∧ts[3]?=some .none
structure Heap.Gone (fs own:List Addr) (h h':Heap):Prop where
 kept:∀b o,b∉fs→b∉own→h.get? b=some o→h'.get? b=some o
 slot:∀b o,b∈fs→b∉own→h.get? b=some o→∃sl,h'.get? b=some { o with slots:=sl }
section
variable {M:Model} {A:Around} {E:Value→Shared→Prop} {s:Shared}
theorem Zne {base:Heap} {env:Env} {outer:List Env} {L e:Addr} {oe:Obj} {vs:Array Value} {head:Value} {nx:Bool} {Q:Unit→Shared→Prop} (hfr:A.frames=some (env::outer)) (hl:s.heap.FunFrames base (env::outer)) (hf:env.frame=some L)
  (he:s.heap.get? e=some oe) (hdi:oe.dict=none) (hd:oe.data=.fields vs) (hsz:1 < vs.size)
  (q:∀h' T,Heap.Gone (Zvr (env::outer)) [e] s.heap h'→s.heap.get? T=none→s.heap.objs.size≤T→h'.Tr e oe.cls T→Q () { s with heap:=h' }) :
  wpAny M A (do let a ←frameOf env; let pl ←entryPlaceOf L nx; let b ←EntryCells.newEntry head a .none (rawInt L) .none pl; setField (.ref e) 1 b) (fun _ s'=>wpAny M A (setFlight (.ref e) none) Q E s') E s:=by
 have hene:e∉Zvr (env::outer):=fun hm=>by
  obtain⟨_,o,ho,hnf⟩:=hl.mem hm
  rw[he]at ho; injection ho with ho; subst ho; exact hnf vs hd
 refine wpAny_bind (wpAny_frameOf_fun hfr hl hf fun h₁ hs₁=>?_);refine wpAny_bind (wpAny_entryPlaceOf fun pl hpl=>?_);unfold EntryCells.newEntry newFields;refine wpAny_bind (wpAny_newObj_type ?_ (hpl.sizeOk5 _ _ _ _ _));have he₁:h₁.get? e=some oe:=(hs₁.2.1 e hene).trans he;generalize hrec:({ cls:=.type "traceback",dict:=none,data:=.fields ([head,.ref L,.none,rawInt L,.none]++(if pl.isEmpty then List.replicate 6 Value.none else pl)).toArray }:Obj)=rec
 have hfree:rec.isFreed=false:=by subst hrec; rfl
 have hrd:rec.data=.fields ([head,.ref L,.none,rawInt L,.none]++(if pl.isEmpty then List.replicate 6 Value.none else pl)).toArray:=by subst hrec; rfl
 have he₂:=Heap.get?_push_of_some (h:=h₁) rec he₁;refine wpAny_setField he₂ hd hsz ?_;have hTe:h₁.objs.size≠e:=Nat.ne_of_gt (Heap.lt_size he₁);have hd₃:=Obj.data_mapFields hd (·.setIfInBounds 1 (Value.ref h₁.objs.size));have he₃:=Heap.get?_update_self (Obj.mapFields (·.setIfInBounds 1 (Value.ref h₁.objs.size))) he₂ (Obj.isFreed_of_fields hd₃);have hT₃:=(Heap.get?_update_other (h₁.push rec) (Obj.mapFields (·.setIfInBounds 1 (Value.ref h₁.objs.size))) (Ne.symm hTe)).trans (Heap.get?_push_size h₁ hfree);unfold setFlight;refine wpAny_bind (wpAny_field he₃ hd₃ (x:=.ref h₁.objs.size) (by simp[hsz]) ?_);rw[if_pos (show(Value.ref h₁.objs.size != Value.none)=true from by simp)];refine wpAny_setField hT₃ hrd (by simp only [List.size_toArray,List.length_append,List.length_cons,List.length_nil] <;> omega) ?_
 have keep:∀b o,b≠e→h₁.get? b=some o→(((h₁.push rec).update e (Obj.mapFields (·.setIfInBounds 1 (Value.ref h₁.objs.size)))).update h₁.objs.size (Obj.mapFields (·.setIfInBounds 3 ((none:Option Addr).elim Value.none fun f=>rawInt f)))).get? b=some o:=fun b o hbe hb=>by
  have hbT:h₁.objs.size≠b:=Nat.ne_of_gt (Heap.lt_size hb);rw[Heap.get?_update_other _ _ hbT,Heap.get?_update_other _ _ (Ne.symm hbe)];exact Heap.get?_push_of_some _ hb
 refine q _ h₁.objs.size ⟨fun b o hb ho e'=>?_,fun b o hb ho e'=>?_⟩ (Heap.get?_none_of_le (by rw[hs₁.1]; exact Nat.le_refl _)) (by rw[hs₁.1]; exact Nat.le_refl _) ?_
 ·exact keep b o (fun z=>ho (by rw[z]; exact List.mem_singleton.mpr rfl)) ((hs₁.2.1 b hb).trans e')
 ·obtain⟨sl,e2⟩:=hs₁.2.2 b o e'
  exact⟨sl,keep b _ (fun z=>ho (by rw[z]; exact List.mem_singleton.mpr rfl)) e2⟩
 ·refine⟨_,_,_,_,?_,Obj.cls_mapFields _ _,(Obj.dict_mapFields _ _).trans hdi,hd₃,by simp[hsz],hTe,Heap.get?_update_self _ hT₃ (Obj.isFreed_of_fields (Obj.data_mapFields hrd _)),Obj.data_mapFields hrd _,by first | (simp; done) | (rcases hpl with rfl | ⟨_,_,_,_,_,_,_,rfl⟩ <;> simp)⟩
  rw[Heap.get?_update_other _ _ hTe]; exact he₃
theorem ZsH {base:Heap} {env:Env} {outer:List Env} {L e:Addr} {oe:Obj} {vs:Array Value} {Q:Unit→Shared→Prop} (hfr:A.frames=some (env::outer)) (hl:s.heap.FunFrames base (env::outer)) (hf:env.frame=some L)
  (he:s.heap.get? e=some oe) (hdi:oe.dict=none) (hd:oe.data=.fields vs) (h1:vs[1]?=some .none)
  (q:∀h' T,Heap.Gone (Zvr (env::outer)) [e] s.heap h'→s.heap.get? T=none→s.heap.objs.size≤T→h'.Tr e oe.cls T→Q () { s with heap:=h' }):wpAny M A (leaving env (.ref e)) Q E s:=by
 unfold leaving noteFrame;simp only [hf];refine wpAny_bind (wpAny_bind (wpAny_field he hd h1 ?_));rw[if_neg (by decide)];exact Zne hfr hl hf he hdi hd (Array.getElem?_eq_some_iff.mp h1).1 q
theorem Zrc {base:Heap} {env:Env} {outer:List Env} {L e T:Addr} {cls:Value} {Q:Unit→Shared→Prop} (hfr:A.frames=some (env::outer)) (hl:s.heap.FunFrames base (env::outer)) (hf:env.frame=some L) (ht:s.heap.Tr e cls T)
  (q:∀h' T',Heap.Gone (Zvr (env::outer)) [e,T] s.heap h'→s.heap.get? T'=none→s.heap.objs.size≤T'→h'.Tr e cls T'→Q () { s with heap:=h' }):wpAny M A (noteFrame (.ref e) env) (fun _ s'=>wpAny M A (setFlight (.ref e) none) Q E s') E s:=by
 obtain⟨oe,vs,oT,ts,he,hcls,hdi,hd,h1,hTe,hT,hdT,h3⟩:=ht;subst hcls;unfold noteFrame;simp only [hf];refine wpAny_bind (wpAny_field he hd h1 ?_);rw[if_pos (show(Value.ref T != Value.none)=true from by simp)];refine wpAny_bind (wpAny_field hT hdT h3 ?_);rw[if_neg (show ¬((Value.none == rawInt L)=true) from by simp[rawInt])];refine wpAny_bind (wpAny_setField hT hdT (Array.getElem?_eq_some_iff.mp h3).1 ?_);have other:∀b,b≠T→(s.heap.update T (Obj.mapFields (·.setIfInBounds 3 Value.none))).get? b=s.heap.get? b:=fun b hb=>Heap.get?_update_other _ _ (Ne.symm hb)
 have noRec:∀b o,s.heap.get? b=some o→(∀vs,o.data≠.fields vs)→b≠T:=fun b o hb hnf z=>by
  rw[z,hT]at hb; injection hb with hb; subst hb; exact hnf ts hdT
 have hsz:(s.heap.update T (Obj.mapFields (·.setIfInBounds 3 Value.none))).objs.size=s.heap.objs.size:=Heap.size_after_update ..;refine Zne (s:={ s with heap:=s.heap.update T (Obj.mapFields (·.setIfInBounds 3 Value.none)) }) hfr (hl.of_keeps fun b o hb hnf=>⟨o,(other b (noRec b o hb hnf)).trans hb,rfl⟩) hf ((other e (Ne.symm hTe)).trans he) hdi hd (Array.getElem?_eq_some_iff.mp h1).1 fun h' T' g n le tr=>?_
 have le':s.heap.objs.size≤T':=by rw[←hsz]; exact le
 refine q h' T' ⟨fun b o hb ho e'=>?_,fun b o hb ho e'=>?_⟩ (Heap.get?_none_of_le le') le' tr
 ·have hbT:b≠T:=fun z=>ho (by simp[z])
  exact g.kept b o hb (fun z=>ho (by simp[List.mem_singleton.mp z])) ((other b hbT).trans e')
 ·have hbT:b≠T:=fun z=>ho (by simp[z])
  exact g.slot b o hb (fun z=>ho (by simp[List.mem_singleton.mp z])) ((other b hbT).trans e')
theorem Zuo {base:Heap} {env:Env} {outer:List Env} {L e T:Addr} {cls:Value} {Q:Unit→Shared→Prop} (hfr:A.frames=some (env::outer)) (hl:s.heap.FunFrames base (env::outer)) (hf:env.frame=some L) (ht:s.heap.Tr e cls T)
  (q:∀h' T',Heap.Gone (Zvr (env::outer)) [e,T] s.heap h'→s.heap.get? T'=none→s.heap.objs.size≤T'→h'.Tr e cls T'→Q () { s with heap:=h' }):wpAny M A (leaving env (.ref e)) Q E s:=by
 unfold leaving;exact wpAny_bind (Zrc hfr hl hf ht q)
end
end PySem
namespace L2
open PySem PySem.Spec PyProof.Rows
section
variable {P:Program} {w:World} {H H':Hp} {h h' h1 h2:Heap} {a:Addr} {o:HO} {fs own:List Addr}
theorem Zc0.at (x:Zc0 P w H h a o):∃u,h.get? a=some u:=by
 cases o with
 | lst xs=>obtain⟨_,_,_,_,e⟩:=x; exact⟨_,e⟩
 | tup xs=>obtain⟨_,_,_,⟨_,e,_⟩⟩:=x; exact⟨_,e⟩
 | dK kvs=>obtain⟨_,_,_,_,o,_,_,e,_⟩:=x; exact⟨_,e⟩
 | dT kvs=>obtain⟨_,_,_,_,o,_,_,e,_⟩:=x; exact⟨_,e⟩
 | set S n=>obtain⟨o,_,_,_,e,_⟩:=x; exact⟨_,e⟩
 | ins C dx fs=>obtain⟨_,_,_,e,_⟩:=x; exact⟨_,e⟩
 | own y=>obtain⟨_,e⟩:=x; exact⟨_,e⟩
 | xd fs=>obtain⟨_,⟨_,_,_,e,_⟩,_⟩:=x; exact⟨_,e⟩
 | rng lo hi=>obtain⟨_,_,_,e⟩:=x; exact⟨_,e⟩
 | frz ob u=>obtain⟨e,_⟩:=x; exact⟨_,e⟩
 | tbl ps=>exact⟨_,(show h.get? a=some _ from x)⟩
 | met f y=>exact⟨_,(show h.get? a=some _ from x)⟩
 | ext φ=>obtain⟨_,⟨_,e⟩,_⟩:=x; exact⟨_,e⟩
theorem HOk.out (x:HOk P w H h) (e:h.get? a=none):H a=none:=by
 cases q:H a with
 | none=>rfl
 | some u=>obtain⟨v,z⟩:=Zc0.at (x a u q); rw[e]at z; cases z
theorem Zsk (u:Un fs [] H H' h h1) (g:Heap.Gone fs own h1 h2) (hn:∀b∈own,h.get? b=none):Un fs [] H H' h h2:=by
 have no:∀b o,h.get? b=some o→b∉own:=fun b o e z=>by rw[hn b z]at e; cases e
 refine⟨fun b o e n hf hx=>g.kept b o hf (no b o e) (u.keep b o e n hf hx),fun b o e n hf hx=>?_,u.free,fun b o e hx=>?_,u.tups,u.frzs,u.tbls⟩
 ·obtain⟨sl,q⟩:=u.slot b o e n hf hx
  obtain⟨sl',q'⟩:=g.slot b _ hf (no b o e) q;exact⟨sl',q'⟩
 ·obtain⟨o',q⟩:=u.there b o e hx
  by_cases hf:b∈fs
  ·obtain⟨sl',q'⟩:=g.slot b _ hf (no b o e) q
   exact⟨_,q'⟩
  ·exact⟨_,g.kept b _ hf (no b o e) q⟩
theorem Zpk (x:HOk P w H h) (g:Heap.Gone fs own h h2) (hf:∀b∈fs,H b=none) (ho:∀b∈own,H b=none):HOk P w H h2:=fun b u e=>by
 refine(x b u e).stay (fun c v hc q=>?_) (fun _ q=>q) fun _ _ q=>q
 have hs:∃z,H c=some z:=by
  rcases hc with z | z
  ·rw[z]; exact⟨_,e⟩
  ·exact⟨_,z⟩
 obtain⟨z,hz⟩:=hs;exact g.kept c v (fun m=>by rw[hf c m]at hz; cases hz) (fun m=>by rw[ho c m]at hz; cases hz) q
end
def CX1 (P:Program) (w:World):CXT:=fun outer H s E e s'=>∃ea T C H',e=.ref ea∧s'.os=s.os∧AllBare s'.gens∧Un (frs outer) [] H H' s.heap s'.heap∧HOk P w H' s'.heap∧H' ea=none∧H' T=none∧
 s.heap.get? ea=none∧s.heap.get? T=none∧s'.heap.Tr ea (.ref C) T∧E (.ref C) none H'
def Lets (X:Cx) (E:XK):Prop:=∀(pins:List (Addr×Obj)) (σ:St) (H:Hp) (s:Shared) (h':Heap) (e C:Addr) (args:List Value),Inv X pins σ H s→Heap.MadeExcOf s.heap h' e (.ref C) args→E (.ref C) none H→X.xe (.ref e) { s with heap:=h' }
section
variable {P:Program} {w:World} {K:PySem.W.Frag} {mg:Str→Option Value} {base:Heap} {N:List Str} {qual:Str} {scope:Scope} {f:Addr} {cd:Value} {A:Around} {outer:List Env} {s:Shared} {H:Hp} {E:XK}
theorem Zle:Lets (cxOf (CX1 P w) P w K mg base N qual scope f cd A outer s H E) E:=by
 intro pins σ H1 s1 h' e C args I hm hE;obtain⟨t,ho,_,_⟩:=hm.there;have I1:Inv (cxOf (CX1 P w) P w K mg base N qual scope f cd A outer s H E) pins σ H1 { s1 with heap:=h' }:=I.kept (t':=s1.toks) hm.keeps;show wpAny _ _ (leaving _ _) _ _ _;refine ZsH (s:={ s1 with heap:=h' }) I.ok.frames I1.stack rfl ho rfl rfl (by simp) fun h2 T g nT _ tr=>?_;have He:H1 e=none:=I.hok.out hm.new;have HT:H1 T=none:=I1.hok.out nT;have un:Un (frs (cxOf (CX1 P w) P w K mg base N qual scope f cd A outer s H E).stack) [] H1 H1 s1.heap h2:=Zsk (Un.kept hm.keeps) g (fun b hb=>by rw[List.mem_singleton.mp hb]; exact hm.new);have hk:HOk P w H1 h2:=Zpk I1.hok g I1.stkFree (fun b hb=>by rw[List.mem_singleton.mp hb]; exact He);have I2:Inv (cxOf (CX1 P w) P w K mg base N qual scope f cd A outer s H E) pins σ H1 { s1 with heap:=h2 }:=I.call (g':=s1.gens) (t':=s1.toks) (d':=s1.drawn) (ch:=[]) un hk I.bare (fun b z=>absurd z (by simp))
 have back:∀b,s1.heap.get? b=none→s.heap.get? b=none:=fun b hb=>by
  cases q:s.heap.get? b with
  | none=>rfl
  | some o=>
   obtain⟨o',z⟩:=I.base.there b o q (by show b∉[]; simp);rw[hb]at z; cases z
 have nT1:s1.heap.get? T=none:=by
  cases q:s1.heap.get? T with
  | none=>rfl
  | some o=>have z:=hm.keeps T o q; rw[show h'.get? T=none from nT]at z; cases z
 exact⟨e,T,C,H1,rfl,I.os,I.bare,I2.base,hk,He,HT,back e hm.new,back T nT1,tr,hE⟩
theorem ZiQ:Zi0 (CX1 P w) (cxOf (CX1 P w) P w K mg base N qual scope f cd A outer s H E) E:=by
 intro pins σ H1 s1 e s2 I hx;obtain⟨ea,T,C,H2,rfl,os,bare,un,hok,He,HT,ne,nT,tr,hE⟩:=hx;have I2:Inv (cxOf (CX1 P w) P w K mg base N qual scope f cd A outer s H E) pins σ H2 s2:=I.call' (ch:=[]) os un hok bare (fun b z=>absurd z (by simp));show wpAny _ _ (leaving _ _) _ _ _;refine Zuo I.ok.frames I2.stack rfl tr fun h3 T' g nT' _ tr'=>?_;have HT':H2 T'=none:=hok.out nT'
 have un3:Un (frs (cxOf (CX1 P w) P w K mg base N qual scope f cd A outer s H E).stack) [] H1 H2 s1.heap h3:=Zsk un g (fun b hb=>by
  rcases List.mem_cons.mp hb with z | z
  ·rw[z]; exact ne
  ·rw[List.mem_singleton.mp z]; exact nT)
 have hk:HOk P w H2 h3:=Zpk hok g I2.stkFree (fun b hb=>by
  rcases List.mem_cons.mp hb with z | z
  ·rw[z]; exact He
  ·rw[List.mem_singleton.mp z]; exact HT)
 have I3:Inv (cxOf (CX1 P w) P w K mg base N qual scope f cd A outer s H E) pins σ H2 { s2 with heap:=h3 }:=I.call' (s':={ s2 with heap:=h3 }) (ch:=[]) os un3 hk bare (fun b z=>absurd z (by simp))
 have back:∀b,s1.heap.get? b=none→s.heap.get? b=none:=fun b hb=>by
  cases q:s.heap.get? b with
  | none=>rfl
  | some o=>
   obtain⟨o',z⟩:=I.base.there b o q (by show b∉[]; simp);rw[hb]at z; cases z
 have nT1:s.heap.get? T'=none:=by
  cases q:s.heap.get? T' with
  | none=>rfl
  | some o=>
   obtain⟨o',z⟩:=I2.base.there T' o q (by show T'∉[]; simp);rw[nT']at z; cases z
 exact⟨ea,T',C,H2,rfl,I3.os,bare,I3.base,hk,He,HT',back ea ne,nT1,tr',hE⟩
end
theorem Fun.ok1 {P:Program} {w:World} {K:PySem.W.Frag} {mg:Str→Option Value} {base:Heap} {x qual:Str} {st:Stmt} {f:Addr} {fd:FuncData} {N ps:List Str} {k:Nat} {sp:Sp} (F:Fun K x qual st f fd) (S:FnScope N ps (Zaj st)) (len:∀vs H Q E,sp vs H Q E→vs.length=ps.length)
  (hbody:∀(cdv:Value) (A:Around) (outer:List Env) (s:Shared) (H:Hp) (vs:List V) (Q:VK) (E:XK),Room k (A.deeper (envOfC qual (Zaj st) s.heap.objs.size f cdv))→sp vs H Q E→
   ∃t,PSs (cxOf (CX1 P w) P w K mg base N qual (Zaj st) f cdv A outer s H E) (Zgb st) t∧t { nx:=fun _ H'=>Q .non H',rt:=Q } (start N vs) H):FnOk P w K mg base (CX1 P w) (k+1) f fd ps sp:=by
 obtain⟨oc,od,kV,doc,pm,an,cdv,ct,osl,rfl,lk,hcd⟩:=F.ex;exact ZB3 lk hcd S len fun A outer s H vs Q E hr hsp=>hbody cdv A outer s H vs Q E hr hsp
end L2
namespace L2
open PySem PySem.Spec PyProof.Rows
abbrev vErr:List Value:=[.type "ValueError",.type "Exception",.type "BaseException",.type "object"]
abbrev Zs7 (K:PySem.W.Frag) (C:Addr):Prop:=PySem.W.excIn K C vErr "ValueError.__new__" = true
theorem ZBZ {K:PySem.W.Frag} {h:Heap} {C:Addr} (X:K.In h) (q:Zs7 K C):∃bm N nm qn bs hdct sn sub ab col dd k0 k1 k2 k3 k5 mN,
  h.get? C=some (excClassObj nm qn C N bs bm hdct sn sub ab col dd k0 k1 k2 k3 k5 "ValueError.__new__")∧h.Ns N mN∧mN "__init__" = none∧OwnTail h vErr bm:=by
 unfold Zs7 PySem.W.excIn at q
 split at q
 ·rename_i dd cd sl ho
  split at q
  ·rename_i C' bm k0 k1 k2 k3 n k5 hm hs
   simp only [Bool.and_eq_true,beq_iff_eq,Bool.not_eq_true']at q;obtain⟨⟨⟨⟨⟨rfl,rfl⟩,hdel⟩,ht⟩,hok⟩,hni⟩:=q;obtain⟨nm,bs,mro,ns,qn,hd,sn,sub,ab,col,del⟩:=cd
   dsimp only at hm hdel hok hni
   subst hm hdel
   have hsl:sl = #[k0,k1,k2,k3,some (.builtin "ValueError.__new__"),k5]:=by
    obtain⟨l⟩:=sl;simp only at hs;rw[hs]
   subst hsl;exact⟨bm,ns,nm,qn,bs,hd,sn,sub,ab,col,dd,k0,k1,k2,k3,k5,_,X _ _ ho,.of_isNs (PySem.W.isNs_of_in X hok),PySem.W.nsMap_none_of_in X hok hni,PySem.W.tail_of_in X ht⟩
  ·cases q
 ·cases q
section
variable {X:Cx} {E:XK} {C:Addr} {x:Str} {np cpos pos:Pos} {e:Expr} {es:List Expr} {t:TA}
def ZzM (C:Addr) (E:XK) (t:TA):TS:=fun _ σ H=>t σ H fun vs H1=>vs.length≤9∧E (.ref C) none H1
theorem ZcY (hc:X.calm=true) (hl:Lets X E) (q:Zs7 X.K C) (hg:Gl X x) (hm:X.mg x=some (.ref C)) (ha:PA X (e::es) t) (hdb:(x == ("__debug__" : Str))=false:=by decide)
  (he:starEach (e::es) X.env=(false,eval e X.env)::starEach es X.env:=by rfl) (hpl:(backTo cpos (starEach es X.env)).any (·.1)=false:=by rfl) :
  PS X (.Raise (some (.Call (.Name x np) (e::es) [] cpos)) none pos) (ZzM C E t):=by
 intro pins s σ H D I h;obtain⟨tl,N,nm,qn,bs,hdct,sn,sub,ab,col,dd,k0,k1,k2,k3,k5,mN,hC,hN,hni,T⟩:=ZBZ I.mod.kin q;have F:=PySem.F.excBase_ValueError
 refine wpAny_Raise_call_subU (C:=C) (nm:=nm) (q:=qn) (N:=N) (bs:=bs) (bm:=tl) (hdct:=hdct) (sn:=sn) (sub:=sub) (ab:=ab) (col:=col) (dd:=dd) (k0:=k0) (k1:=k1) (k2:=k2) (k3:=k3) (k5:=k5)
  F F.hasB F (mN:=mN) (T.hasType F.hasBase) (I.ok.hd hc) (by rw[he]; show(false || (backTo cpos (starEach es X.env)).any (·.1))=false; rw[hpl]; rfl) hni (ZhZ I hg hm ⟨rfl,?_⟩ hdb)
 have h2:=ha cpos pins s σ H _ I h;rw[he]at h2 ⊢;refine Calls.evalArgs_plain (wpAny_mono h2 (fun vs s2 h3=>?_) fun _ _ y=>y);obtain⟨us,H2,I2,r,hlen,hE⟩:=h3;refine⟨rfl,?_,I2.bk _ _ hC,hN.keeps I2.bk,T.keeps I2.bk,fun h' e hm=>hl pins σ H2 s2 h' e C vs I2 hm hE⟩;show vs.length≤sizeLine;rw[←r.length]; exact Nat.le_trans hlen (by decide)
end
def XP (X:Cx) (pins:List (Addr×Obj)) (σ:St) (E:XK) (e:Value) (s':Shared):Prop:=∃s1 H1,Inv X pins σ H1 s1∧CX1 X.prog X.w X.stack H1 s1 E e s'
abbrev TEx:=St→Hp→VK→XK→Prop
def PEx (X:Cx) (e:Expr) (t:TEx):Prop:=∀(pins:List (Addr×Obj)) (s:Shared) (σ:St) (H:Hp) (Q:VK) (E:XK),Inv X pins σ H s→t σ H Q E→wpAny (model X.prog X.w) X.A (eval e X.env) (EP X pins σ Q) (XP X pins σ E) s
section
variable {X:Cx} {k:Nat} {f C:Addr} {fd:FuncData} {ps:List Str} {sp:Sp} {dvs:List V} {ds:List Value} {x m:Str} {p pos apos:Pos} {e o:Expr} {es:List Expr} {ta:TE} {t:TA}
theorem ZBd {pins:List (Addr×Obj)} {σ:St} {H:Hp} {s:Shared} {Q:VK} {E:XK} {us:List Value} {vs:List V} (F:FnOk X.prog X.w X.K X.mg X.base (CX1 X.prog X.w) k f fd ps sp) (hr:Room k X.A) (hb:ZaL X.K fd ps ds) (hd:Vals dvs ds)
  (I:Inv X pins σ H s) (r:Vals vs us) (h:sp (vs++dvs) H Q E):wpAny (model X.prog X.w) X.A (call (.ref f) us) (EP X pins σ Q) (XP X pins σ E) s:=by
 have r2:Vals (vs++dvs) (us++ds):=r.append hd
 have hl:(us++ds).length=ps.length:=by rw[←r2.length]; exact F.len _ _ _ _ h
 refine wpAny_call (codeAny_mono (F.run X.A X.stack s H ⟨us,[]⟩ (us++ds) (vs++dvs) Q E hr I.env0 (hb s us I.kIn hl) r2 h) fun r s' hq=>?_)
 cases r with
 | error e=>exact⟨s,H,I,hq⟩
 | ok fl=>
  cases fl with
  | ret u=>exact I.after hq
  | next=>exact False.elim hq
  | brk=>exact False.elim hq
  | cont=>exact False.elim hq
def ZwZ (sp:Sp) (dvs:List V) (t:TA):TEx:=fun σ H Q E=>t σ H fun vs H1=>sp (vs++dvs) H1 Q E
theorem Zyh (F:FnOk X.prog X.w X.K X.mg X.base (CX1 X.prog X.w) k f fd ps sp) (hr:Room k X.A) (hg:Gl X x) (hm:X.mg x=some (.ref f)) (hk:PySem.W.keepIn X.K (.ref f)=true) (hb:ZaL X.K fd ps ds) (hd:Vals dvs ds)
  (ha:PA X.nox (e::es) t) (hdb:(x == ("__debug__" : Str))=false:=by decide) (he:starEach (e::es) X.env=(false,eval e X.env)::starEach es X.env:=by rfl) (hpl:(backTo pos (starEach es X.env)).any (·.1)=false:=by rfl) :
  PEx X (.Call (.Name x p) (e::es) [] pos) (ZwZ sp dvs t):=by
 intro pins s σ H Q E I h;refine wpAny_Call_Name_kw (ZhZ I hg hm ?_ hdb);refine PySem.W.callWith_K (h₀:=X.base) I.ok.mod.kin hk (wpAny_mono (ha pos pins s σ H _ (I.wish _) h) (fun us s1 ⟨vs,H1,I1,r,q⟩=>⟨I1.unwish.kIn,?_⟩) fun _ _ z=>False.elim z) he hpl;exact ZBd F hr hb hd I1.unwish r q
end
structure Caught (X:Cx) (pins:List (Addr×Obj)) (σ:St) (H:Hp) (s:Shared) (ea T C:Addr):Prop where
 inv:Inv X pins σ H s
 from_:∃s1 H1,Inv X pins σ H1 s1∧s.os=s1.os∧Un (frs X.stack) [] H1 H s1.heap s.heap∧s1.heap.get? ea=none∧s1.heap.get? T=none
 he:H ea=none
 hT:H T=none
 tr:s.heap.Tr ea (.ref C) T
section
variable {X:Cx} {pins:List (Addr×Obj)} {σ:St} {H:Hp} {s:Shared} {ea T T' C:Addr} {h':Heap}
theorem Inv.new (I:Inv X pins σ H s) {b:Addr} (n:s.heap.get? b=none):b≠X.env.locals∧b∉X.fs∧∀p∈X.pn++pins,p.1≠b:=by
 refine⟨fun z=>?_,fun z=>?_,fun p hp z=>?_⟩
 ·obtain⟨m,⟨o,es,ep,ho,_⟩,_⟩:=I.loc
  rw[z,ho]at n; cases n
 ·obtain⟨_,o,ho,_⟩:=I.funs.mem z
  rw[n]at ho; cases ho
 ·have q:=(I.pin p hp).1
  rw[z,n]at q; cases q
theorem Caught.gone (c:Caught X pins σ H s ea T C) (g:Heap.Gone (frs X.stack) [ea,T] s.heap h') (hn:T'=T∨s.heap.get? T'=none) (tr:h'.Tr ea (.ref C) T'):Caught X pins σ H { s with heap:=h' } ea T' C:=by
 obtain⟨s1,H1,I1,os,un,ne,nT⟩:=c.from_
 have un2:=Zsk un g (fun b hb=>by
  rcases List.mem_cons.mp hb with z | z
  ·rw[z]; exact ne
  ·rw[List.mem_singleton.mp z]; exact nT)
 have hk:HOk X.prog X.w H h':=Zpk c.inv.hok g c.inv.stkFree (fun b hb=>by
  rcases List.mem_cons.mp hb with z | z
  ·rw[z]; exact c.he
  ·rw[List.mem_singleton.mp z]; exact c.hT)
 have nT':s1.heap.get? T'=none:=by
  rcases hn with z | z
  ·rw[z]; exact nT
  ·cases q:s1.heap.get? T' with
   | none=>rfl
   | some o=>
    obtain⟨o',q'⟩:=un.there T' o q (by simp);rw[z]at q'; cases q'
 refine⟨I1.call' (s':={ s with heap:=h' }) (ch:=[]) os un2 hk c.inv.bare (fun b z=>absurd z (by simp)),⟨s1,H1,I1,os,un2,ne,nT'⟩,c.he,?_,tr⟩
 rcases hn with z | z
 ·rw[z]; exact c.hT
 ·exact c.inv.hok.out z
theorem Zpd {M:Model} {A:Around} {E:Value→Shared→Prop} {Q:Unit→Shared→Prop} (c:Caught X pins σ H s ea T C) (q:∀h',Caught X pins σ H { s with heap:=h' } ea T C→Q () { s with heap:=h' }):wpAny M A (setFlight (.ref ea) none) Q E s:=by
 obtain⟨oe,vs,oT,ts,he,hcls,hdi,hd,h1,hTe,hT,hdT,h3⟩:=id c.tr;refine wpAny_setFlight_none he hd h1 hT hdT (Array.getElem?_eq_some_iff.mp h3).1 (q _ ?_);have other:∀b,b≠T→(s.heap.update T (Obj.mapFields (·.setIfInBounds 3 Value.none))).get? b=s.heap.get? b:=fun b hb=>Heap.get?_update_other _ _ (Ne.symm hb);have hd':=Obj.data_mapFields hdT (·.setIfInBounds 3 Value.none)
 refine c.gone ⟨fun b o hf ho e=>(other b fun z=>ho (by simp[z])).trans e,fun b o hf ho e=>⟨o.slots,(other b fun z=>ho (by simp[z])).trans e⟩⟩ (.inl rfl)
  ⟨oe,vs,_,_,(other ea (Ne.symm hTe)).trans he,hcls,hdi,hd,h1,hTe,Heap.get?_update_self _ hT (Obj.isFreed_of_fields hd'),hd',?_⟩
 simp[(Array.getElem?_eq_some_iff.mp h3).1]
theorem Zr9 {M:Model} {E:Value→Shared→Prop} {Q:Unit→Shared→Prop} {EX:XK} {e:Value} (hst:X.stack=X.env::X.outer) (hf:X.env.frame=some X.env.locals) (h:XP X pins σ EX e s)
  (q:∀ea T C H' h',e=.ref ea→EX (.ref C) none H'→Caught X pins σ H' { s with heap:=h' } ea T C→Q () { s with heap:=h' }) :
  wpAny M X.A (noteFrame e X.env) (fun _ s'=>wpAny M X.A (setFlight e none) Q E s') E s:=by
 obtain⟨s1,H1,I1,ea,T,C,H2,rfl,os,bare,un,hok,He,HT,ne,nT,tr,hE⟩:=h;have I2:Inv X pins σ H2 s:=I1.call' (ch:=[]) os un hok bare (fun b z=>absurd z (by simp));have c:Caught X pins σ H2 s ea T C:=⟨I2,⟨s1,H1,I1,os,un,ne,nT⟩,He,HT,tr⟩;refine Zrc (base:=X.base) (env:=X.env) (outer:=X.outer) (by rw[I2.ok.frames,hst]) (by have:=I2.stack; rwa [hst]at this) hf tr fun h3 T' g nT' _ tr'=>q ea T' C H2 h3 rfl hE (c.gone (T':=T') ?_ (.inr nT') tr');rw[hst]; exact g
end
abbrev TSx:=Ends→(St→XK)→St→Hp→Prop
def PSx (X:Cx) (b:List Stmt) (t:TSx):Prop:=∀(pins:List (Addr×Obj)) (s:Shared) (σ:St) (H:Hp) (D:Ends) (E:St→XK),Inv X pins σ H s→t D E σ H→wpAny (model X.prog X.w) X.A (execs b X.env) (SP X pins D) (fun e s'=>∃σ',XP X pins σ' (E σ') e s') s
def PH (X:Cx) (hs:List ExceptHandler) (t:Addr→TS):Prop:=∀(pins:List (Addr×Obj)) (s:Shared) (σ:St) (H:Hp) (D:Ends) (ea T C:Addr),Caught X pins σ H s ea T C→t C D σ H→wpAny (model X.prog X.w) X.A (handleBy (.ref ea) X.env hs) (SP X pins D) X.xe s
def tTry (tb:TSx) (th:Addr→TS):TS:=fun D σ H=>tb D (fun σ' v _ H'=>∃C,v=.ref C∧th C D σ' H') σ H
section
variable {X:Cx} {b:List Stmt} {h₀:ExceptHandler} {hs:List ExceptHandler} {tb:TSx} {th:Addr→TS} {pos:Pos} {e:Expr} {te:TEx}
theorem ZDl (hb:PSx X b tb) (hh:PH X (h₀::hs) th) (hst:X.stack=X.env::X.outer:=by rfl) (hf:X.env.frame=some X.env.locals:=by rfl):PS X (.Try b (h₀::hs) [] [] pos) (tTry tb th):=by
 intro pins s σ H D I h;refine wpAny_Try_except (wpAny_mono (hb pins s σ H D _ I h) (fun fl s1 h1=>?_) fun e s1 h1=>?_)
 ·cases fl with
  | next=>exact wpAny_execs_nil h1
  | brk=>exact h1
  | cont=>exact h1
  | ret u=>exact h1
 ·obtain⟨σ',hx⟩:=h1
  refine Zr9 hst hf hx fun ea T C H' h' e1 hE c=>?_;subst e1;obtain⟨C',hC,ht⟩:=hE
  cases hC
  exact hh pins _ σ' H' D ea T C c ht
theorem Zyn {pos:Pos} (he:PEx X e te) (hs:swapsWith e none pos.line X.env=pure false:=by rfl):PSx X [.Expr e pos] (fun D E σ H=>te σ H (fun _ H'=>D.nx σ H') (E σ)):=by
 intro pins s σ H D E I h;refine wpAny_execs_cons (wpAny_Expr_any (wpAny_mono (he pins s σ H _ _ I h) (fun u s1 h1=>?_) fun e s1 h1=>⟨σ,h1⟩) I.quiet hs);obtain⟨v,H',I',r,q⟩:=h1;exact wpAny_execs_nil ⟨σ,H',I',q⟩
end
end L2
namespace L2
open PySem PySem.Spec PyProof.Rows
structure ExcK (K:PySem.W.Frag) (C:Addr):Prop where
 own:Zs7 K C
 cl:(PySem.W.clsIn K C).isSome=true
 ga:PySem.W.findIn K (.ref C) "__getattribute__" = some (some (.builtin "BaseException.__getattribute__"))
 gb:PySem.W.findIn K (.ref C) "__getattr__" = some none
 cc:PySem.W.findIn K (.ref C) "__class__" = some (some (.builtin "object.__class__"))
 mb:PySem.W.mroIn K C (.type "BaseException")=some true
 mo:PySem.W.mroIn K C (.type "object")=some true
section
variable {prog:Program} {w:World} {A:Around} {E:Value→Shared→Prop} {h:Heap} {g:Array GenState} {d:Drawn} {t:Nat} {os:OsState} {a C:Addr} {o:Obj} {K:PySem.W.Frag}
theorem Zvl {M:Model} {nameV:Value} {Q:Unit→Shared→Prop} (X:K.In h) (c:ExcK K C) (I:PySem.W.InstAt h a o C none) (hq:Q () ⟨h,g,d,t,os⟩):wpAny M A (checkBuiltinCall "BaseException.__getattribute__" ⟨[.ref a,nameV],[]⟩) Q E ⟨h,g,d,t,os⟩:=by
 have hk:builtinKind "BaseException.__getattribute__" = some .slot:=by decide +kernel
 have hsplit:splitId "BaseException.__getattribute__" = some ("BaseException","__getattribute__"):=by decide +kernel
 have ha:=F.args_bexc_ga (.ref a) nameV;have L0:=I.type (M:=M);have L1:=PySem.W.looks_mroIn (M:=M) X c.mb;simp only [checkBuiltinCall,hk,hsplit];refine wpAny_bind ?_
 ·unfold isInstance
  repeat (first | with_reducible refine L0.at ?_ | with_reducible refine L1.at ?_ | wp_step)
  exact hq
theorem Zvn {tk:Tok} {Q:Fin→Shared→Prop} (X:K.In h) (c:ExcK K C) (I:PySem.W.InstAt h a o C none) (hq:Q (.done (.ret (.ref C))) ⟨h,g,d,t,os⟩) :
  wpAny (model prog w) A (Builtin.«object.__getattribute__» ⟨[.ref a,.str "__class__" tk],[]⟩) Q E ⟨h,g,d,t,os⟩:=by
 have hT5:(⟨h,g,d,t,os⟩ : Shared).TypeIs (.builtin "object.__class__") "getset_descriptor":=F.typeOf_object_class;have f5:=F.typeOf_object_class;have f6:=F.slot_gs_get.lookup;have f7:=F.slot_gs_set.lookup;have L0:=I.type (M:=model prog w);have L1:=PySem.W.looks_findIn (M:=model prog w) X c.cc
 repeat (any_goals (first | assumption | with_reducible refine L0.at ?_ | with_reducible refine L1.at ?_ | wp_step))
 refine PySem.W.class_get (s:=⟨h,g,d,t,os⟩) X I c.mo ?_
 repeat (any_goals (first | assumption | wp_step))
theorem ZB0 {tk:Tok} {Q:Value→Shared→Prop} (X:K.In h) (c:ExcK K C) (I:PySem.W.InstAt h a o C none) (hq:Q (.ref C) ⟨h,g,d,t,os⟩):wpAny (model prog w) A (getAttrBy (.ref a) (.str "__class__" tk) false) Q E ⟨h,g,d,t,os⟩:=by
 have f3:=PySem.F.attr_ValueError.ga.bind (.ref a)
 have hx2:(Value.builtin "BaseException.__getattribute__" == Value.builtin "object.__getattribute__")=false:=by decide +kernel
 have hx1:(onTheHeap (Value.ref C) && Value.builtin "BaseException.__getattribute__" == Value.builtin "object.__getattribute__")=false:=by rw[hx2]; rfl
 have L0:=I.type (M:=model prog w);have L1:=PySem.W.looks_findIn (M:=model prog w) X c.ga;have L2:=PySem.W.looks_findIn (M:=model prog w) X c.gb
 repeat (any_goals (first | assumption | with_reducible refine L0.at ?_ | with_reducible refine L1.at ?_ | with_reducible refine L2.at ?_ | wp_step))
 refine codeAny_call_builtin PySem.F.attr_ValueError.ga.plain F.entry_bexc_ga (Zvl X c I (Zvn X c I ?_))
 repeat (any_goals (first | assumption | wp_step))
theorem Zvm {Q:Option Value→Shared→Prop} (X:K.In h) (c:ExcK K C) (I:PySem.W.InstAt h a o C none) (hq:Q (some (.ref C)) ⟨h,g,d,t+1,os⟩):wpAny (model prog w) A (getAttr? (.ref a) "__class__") Q E ⟨h,g,d,t,os⟩:=by
 unfold getAttr? getAttrBy?
 repeat (any_goals (first | assumption | with_reducible apply ZB0 X c I | wp_step))
theorem ZiF (c:ExcK K C):PySem.W.KitX K (.ref a) (.ref C) (fun h=>∃o,PySem.W.InstAt h a o C none) where
 ty:=fun _ _ _ ⟨_,I⟩=>I.type
 it:=fun _ _ X _=>by
  have hcD:=c.cl;unfold PySem.W.clsIn at hcD
  split at hcD
  ·rename_i c' d' cd' sl' ho
   intro A' Q' E' s' k q;unfold isType loadHead;exact wpAny_bind (wpAny_loadPart (k _ _ (X _ _ ho)) (wpAny_pure q))
  ·cases hcD
 ne:=fun h tp dd its n sl X htp=>by
  have hcD:=c.cl;refine Bool.eq_false_iff.mpr fun q=>?_;have e:C=tp:=Value.ref.inj (beq_iff_eq.mp q);subst e;unfold PySem.W.clsIn at hcD
  split at hcD
  ·rename_i c' d' cd' sl' ho
   have z:=(X _ _ ho).symm.trans htp
   cases z
  ·cases hcD
 ca:=fun {_ _ _ _ _ s} X ⟨_,I⟩ k=>by obtain⟨h,g,d,t,os⟩:=s; exact Zvm X c I k
theorem Zsh {M:Model} {C':Addr} {b:Bool} {Q:Bool→Shared→Prop} (X:K.In h) (I:PySem.W.InstAt h a o C none) (ty:PySem.W.typeIn K (.ref C')=some (.type "type")) (cl:(PySem.W.clsIn K C').isSome=true) (mb:PySem.W.mroIn K C' (.type "BaseException")=some true) (e:PySem.W.mroIn K C (.ref C')=some b)
  (hq:Q b ⟨h,g,d,t,os⟩):wpAny M A (excMatches (.ref a) (.ref C')) Q E ⟨h,g,d,t,os⟩:=by
 have f:=tc_notTuple;have L0:=I.type (M:=M);have L1:=PySem.W.looks_typeIn (M:=M) X ty;have L2:=PySem.W.looks_mroIn (M:=M) X mb;have L3:=PySem.W.looks_mroIn (M:=M) X e
 have L4:PySem.W.Looks M h (isType (.ref C')) true:=by
  unfold PySem.W.clsIn at cl
  split at cl
  ·rename_i c' d' cd' sl' ho
   intro A' Q' E' s' k q;unfold isType loadHead;exact wpAny_bind (wpAny_loadPart (k _ _ (X _ _ ho)) (wpAny_pure q))
  ·cases cl
 unfold excMatches isInstance isExcClass
 repeat (first | with_reducible refine L0.at ?_ | with_reducible refine L1.at ?_ | with_reducible refine L2.at ?_ | with_reducible refine L3.at ?_ | with_reducible refine L4.at ?_ | wp_step)
 cases b <;> first | exact hq | (wp_walk; exact hq) | skip
end
abbrev Cx.hand (X:Cx) (ea:Addr) (pn':List (Addr×Obj)):Cx:={ X with A:=X.A.mark (some (.ref ea)),calm:=false,pn:=pn',xe:=fun _ _=>False }
section
variable {X:Cx} {pins l:List (Addr×Obj)} {σ:St} {H:Hp} {s:Shared} {ea T C:Addr} {h':Heap} {oe:Obj}
theorem Caught.inst (c:Caught X pins σ H s ea T C):∃oe,PySem.W.InstAt s.heap ea oe C none∧∀v,oe.data≠.cell v:=by
 obtain⟨oe,vs,oT,ts,he,hcls,hdi,hd,_⟩:=c.tr;refine⟨oe,⟨he,hcls,?_,?_⟩,fun v z=>?_⟩
 ·unfold PySem.W.notCls; rw[hd]
 ·rw[hdi]; trivial
 ·rw[hd]at z; cases z
theorem Cx.Ok.hand (ok:X.Ok) (pn':List (Addr×Obj)):(X.hand ea pn').Ok:=
 ⟨ok.mod,ok.kind,ok.glob,ok.blt,ok.above,ok.inj,ok.has,ok.cab,fun z=>Bool.noConfusion z,ok.frames,ok.stk,ok.exf,ok.bs,ok.bsz,ok.noex,ok.exfs,ok.funs,ok.frf⟩
theorem Caught.hand (c:Caught X pins σ H s ea T C) (I:PySem.W.InstAt s.heap ea oe C none) (nc:∀v,oe.data≠.cell v):Inv (X.hand ea (X.pn++pins++[(ea,oe)])) [] σ H s:=by
 have J:=c.inv;refine⟨J.ok.hand _,J.os,J.bare,J.base,J.loc,J.cell,J.free,J.freeC,fun p hp=>?_,J.hok,J.len⟩
 have hp':p∈X.pn++pins∨p=(ea,oe):=by
  rcases List.mem_append.mp hp with z | z
  ·rcases List.mem_append.mp z with z | z
   ·exact .inl z
   ·exact .inr (List.mem_singleton.mp z)
  ·cases z
 rcases hp' with z | z
 ·exact J.pin p z
 ·subst z
  obtain⟨s1,H1,I1,_,_,ne,_⟩:=c.from_;obtain⟨n1,n2,_⟩:=I1.new ne;exact⟨I.at_,c.he,n1,n2,nc⟩
theorem Inv.unhand (ok:X.Ok) (J:Inv (X.hand ea (X.pn++pins++l)) [] σ H s):Inv X pins σ H s:=
 ⟨ok,J.os,J.bare,J.base,J.loc,J.cell,J.free,J.freeC,fun p hp=>J.pin p (List.mem_append_left _ (List.mem_append_left _ hp)),J.hok,J.len⟩
theorem SP.unhand {D:Ends} {f:Flow} {s':Shared} (ok:X.Ok) (h:SP (X.hand ea (X.pn++pins++l)) [] D f s'):SP X pins D f s':=by
 cases f with
 | next=>obtain⟨σ',H',I,q⟩:=h; exact⟨σ',H',I.unhand ok,q⟩
 | brk=>obtain⟨σ',H',I,q⟩:=h; exact⟨σ',H',I.unhand ok,q⟩
 | cont=>obtain⟨σ',H',I,q⟩:=h; exact⟨σ',H',I.unhand ok,q⟩
 | ret u=>obtain⟨v,σ',H',I,r,q⟩:=h; exact⟨v,σ',H',I.unhand ok,r,q⟩
theorem Inv.forgot {t':Nat} {m':Str→Option Value} (I:Inv X pins σ H s) (hn':h'.Ns X.env.locals m') (hs:Heap.SameBut X.env.locals s.heap h'):Inv X pins (List.replicate X.N.length none) H { s with heap:=h',toks:=t' }:=by
 obtain⟨m,hn,hl⟩:=id I.loc;obtain⟨oL,_,_,hoL,_⟩:=id hn
 have hok:HOk X.prog X.w H h':=fun b ob e=>by
  refine(I.hok b ob e).stay (fun c w' hc q=>(hs.2 c ?_).trans q) (fun _ q=>q) fun _ _ q=>q;rintro rfl;have hfree:=I.free
  rcases hc with z | hc
  ·rw[←z,hfree]at e; cases e
  ·rw[hfree]at hc; cases hc
 refine⟨I.ok,I.os,I.bare,⟨fun b o e n hb hx=>?_,fun b o e n hb hx=>?_,I.base.free,fun b o e hx=>?_,I.base.tups,I.base.frzs,I.base.tbls⟩,⟨m',hn',fun j y v' e1 e2 e3=>?_⟩,fun y c e=>?_,I.free,I.freeC,fun p hp=>?_,hok,by simp⟩
 ·exact(hs.2 b (Nat.ne_of_lt (Nat.lt_of_lt_of_le (Heap.lt_size e) I.ok.above))).trans (I.base.keep b o e n hb hx)
 ·obtain⟨sl,e1⟩:=I.base.slot b o e n hb hx
  exact⟨sl,(hs.2 b (Nat.ne_of_lt (Nat.lt_of_lt_of_le (Heap.lt_size e) I.ok.above))).trans e1⟩
 ·obtain⟨o',e1⟩:=I.base.there b o e hx
  exact⟨o',(hs.2 b (Nat.ne_of_lt (Nat.lt_of_lt_of_le (Heap.lt_size e) I.ok.above))).trans e1⟩
 ·rw[List.getElem?_replicate]at e2
  split at e2 <;> cases e2
 ·obtain⟨w',o,ho,hd⟩:=I.cell y c e
  exact⟨w',o,(hs.2 c (I.cne y c e)).trans ho,hd⟩
 ·obtain⟨e,n,ne,nf,d⟩:=I.pin p hp
  exact⟨(hs.2 p.1 ne).trans e,n,ne,nf,d⟩
end
structure Clause (X:Cx) (N:Str) (C':Addr):Prop where
 gl:Gl X N
 mg:X.mg N=some (.ref C')
 ty:PySem.W.typeIn X.K (.ref C')=some (.type "type")
 cl:(PySem.W.clsIn X.K C').isSome=true
 mb:PySem.W.mroIn X.K C' (.type "BaseException")=some true
 db:(N == ("__debug__" : Str))=false
def ZDV (K:PySem.W.Frag) (C':Addr) (ts tr:Addr→TS):Addr→TS:=fun C D σ H=>∃b,PySem.W.mroIn K C (.ref C')=some b∧(b=true→ts C D σ H)∧(b=false→tr C D σ H)
section
variable {X:Cx} {N:Str} {C':Addr} {np pos:Pos} {b₀:Stmt} {suite:List Stmt} {rest:List ExceptHandler} {ts tr:Addr→TS}
theorem ZDg:PH X [] (fun _ _ _ _=>False):=fun _ _ _ _ _ _ _ _ _ z=>False.elim z
end
def ZwA (K:PySem.W.Frag) (ea C:Addr):List V→Hp→VK→Prop:=fun xs H Q=>∃b,((∃n,xs=[.ref ea,.ty n]∧PySem.W.kitOne K (.ref C) (.type n)=some b)∨(∃c,xs=[.ref ea,.ref c]∧PySem.W.kitOne K (.ref C) (.ref c)=some b)∨
 (∃c vs,xs=[.ref ea,.ref c]∧H c=some (.tup vs)∧∀us,Vals vs us→PySem.W.kitAny K (.ref C) us=some b))∧Q (.bl b) H
theorem Zj1 {X:Cx} {ea C:Addr} {oe:Obj} {pn':List (Addr×Obj)} (k:ExcK X.K C) (hm:(ea,oe)∈pn') (hc:oe.cls=.ref C) (hd:oe.dict=none) (hn:PySem.W.notCls oe=true):ZiP (X.hand ea pn') (.builtin "isinstance") (ZwA X.K ea C):=by
 intro pins s σ H xs us Q I r h;obtain⟨b,h,q⟩:=h;have at_:=(I.pin _ (List.mem_append_left _ hm)).1;have IA:∃o,PySem.W.InstAt s.heap ea o C none:=⟨oe,at_,hc,hn,by rw[hd]; trivial⟩
 rcases h with⟨n,rfl,e⟩ | ⟨c,rfl,e⟩ | ⟨c,vs,rfl,et,e⟩
 ·obtain⟨u,v,rfl,ru,rv⟩:=Zp9 r
  obtain rfl:v=Value.type n:=rv;obtain rfl:u=Value.ref ea:=ru;exact PySem.W.kia_one (ZiF k) I.kIn IA e (fun z=>nomatch z) fun tk=>⟨.bl b,H,I.tok tk,rfl,q⟩
 ·obtain⟨u,v,rfl,ru,rv⟩:=Zp9 r
  obtain rfl:v=Value.ref c:=rv;obtain rfl:u=Value.ref ea:=ru;exact PySem.W.kia_one (ZiF k) I.kIn IA e (fun z=>nomatch z) fun tk=>⟨.bl b,H,I.tok tk,rfl,q⟩
 ·obtain⟨u,v,rfl,ru,rv⟩:=Zp9 r
  obtain rfl:v=Value.ref c:=rv;obtain rfl:u=Value.ref ea:=ru;obtain⟨_,its,rv,⟨o,h1,h2,n,h3⟩⟩:=(show Zc0 X.prog X.w H s.heap c (.tup vs) from I.hok c _ et);obtain⟨oc,od,oda,osl⟩:=o
  dsimp only at h2 h3
  subst h2 h3;exact PySem.W.kia_tup (ZiF k) I.kIn IA h1 (e its rv) (fun z=>nomatch z) fun tk=>⟨.bl b,H,I.tok tk,rfl,q⟩
theorem PS.nox {X:Cx} {st:Stmt} {t:TS} (h:PS X.nox st t):PS X st t:=fun pins s σ H D I hw=>
 wpAny_mono (h pins s σ H D (I.wish _) hw) (fun _ _ q=>q.unwish) fun _ _ z=>False.elim z
theorem PA.nox {X:Cx} {es:List Expr} {t:TA} (h:PA X.nox es t):PA X es t:=fun pos pins s σ H Q I hw=>
 wpAny_mono (h pos pins s σ H Q (I.wish _) hw) (fun _ _ ⟨v,H',I',r,q⟩=>⟨v,H',I'.unwish,r,q⟩) fun _ _ z=>False.elim z
theorem Zst {K:PySem.W.Frag} {C:Addr} (h:PySem.W.subIn K (.ref C) (.type "ValueError")=some true):PySem.W.kitOne K (.ref C) (.type "ValueError")=some true:=by
 unfold PySem.W.kitOne PySem.W.kitCls
 dsimp only
 rw[if_neg (by simp),if_pos (show PySem.W.kitMeta "ValueError" = true by decide +kernel)];exact h
def FnS1 (P:Program) (w:World) (K:PySem.W.Frag) (mg:Str→Option Value) (base:Heap) (k:Nat) (x:Str) (ps:List Str) (sp:Sp):Prop:=∃f fd,FnOk P w K mg base (CX1 P w) k f fd ps sp∧ZaL K fd ps []∧PySem.W.keepIn K (.ref f)=true∧mg x=some (.ref f)
def tFnX (sp:Sp) (t:TA):TEx:=fun σ H Q E=>t σ H fun vs H1=>sp vs H1 Q E
theorem ZuL (sp:Sp) (t:TA):ZwZ sp [] t=tFnX sp t:=by
 funext σ H Q E
 unfold ZwZ tFnX
 have e:(fun(vs:List V) (H1:Hp)=>sp (vs++[]) H1 Q E)=fun vs H1=>sp vs H1 Q E:=by
  funext vs H1; rw[List.append_nil]
 rw[e]
section
variable {X:Cx} {k k':Nat} {x:Str} {ps:List Str} {sp:Sp} {e:Expr} {es:List Expr} {t:TA} {p pos:Pos}
theorem ZDd (G:FnS1 X.prog X.w X.K X.mg X.base k x ps sp) (hr:Room k' X.A) (ha:PA X.nox (e::es) t) (hk:k≤k':=by omega) (hg:Gl X x:=by rfl) (hdb:(x == ("__debug__" : Str))=false:=by decide)
  (he:starEach (e::es) X.env=(false,eval e X.env)::starEach es X.env:=by rfl) (hpl:(backTo pos (starEach es X.env)).any (·.1)=false:=by rfl):PEx X (.Call (.Name x p) (e::es) [] pos) (tFnX sp t):=by
 obtain⟨f,fd,F,hb,kp,hm⟩:=G;rw[←ZuL];exact Zyh F (hr.mono hk) hg hm kp hb .nil ha hdb he hpl
theorem ZC4 {X:Cx}:Zi0 (CX1 X.prog X.w) X E0:=fun _ _ _ _ _ _ _ ⟨_,_,_,_,_,_,_,_,_,_,_,_,_,_,hE⟩=>hE.elim
theorem ZC8 (G:FnS1 X.prog X.w X.K X.mg X.base k x ps sp) (hr:Room k' X.A) (ha:PA X (e::es) t) (hk:k≤k':=by omega) (hg:Gl X x:=by rfl) (hdb:(x == ("__debug__" : Str))=false:=by decide)
  (he:starEach (e::es) X.env=(false,eval e X.env)::starEach es X.env:=by rfl) (hpl:(backTo pos (starEach es X.env)).any (·.1)=false:=by rfl):PE X (.Call (.Name x p) (e::es) [] pos) (tFn sp t):=by
 obtain⟨f,fd,F,hb,kp,hm⟩:=G;rw[←ZrA];exact ZsQ F (hr.mono hk) hg hm kp hb .nil ZC4 ha hdb he hpl
end
section
variable {K:PySem.W.Frag} {D:Ends} {σ:St} {H:Hp} {Q:VK} {C C':Addr}
theorem Zcr {E:XK} {t:TA} (h:t σ H fun vs H1=>vs.length≤9∧E (.ref C) none H1):ZzM C E t D σ H:=h
theorem ZCw {te:TEx} {th:Addr→TS} (h:te σ H (fun _ H'=>D.nx σ H') (fun v _ H'=>∃C,v=.ref C∧th C D σ H')):tTry (fun D E σ H=>te σ H (fun _ H'=>D.nx σ H') (E σ)) th D σ H:=h
theorem ZEc {sp:Sp} {t:TA} {E:XK} (h:t σ H fun vs H1=>sp vs H1 Q E):tFnX sp t σ H Q E:=h
theorem Zsp {ts tr:Addr→TS} (e:PySem.W.mroIn K C (.ref C')=some true) (h:ts C D σ H):ZDV K C' ts tr C D σ H:=⟨true,e,fun _=>h,fun z=>Bool.noConfusion z⟩
theorem Zha {ea c:Addr} {b:Bool} (e:PySem.W.kitOne K (.ref C) (.ref c)=some b) (h:Q (.bl b) H):ZwA K ea C [.ref ea,.ref c] H Q:=⟨b,.inr (.inl ⟨c,rfl,e⟩),h⟩
theorem Zsr {ea:Addr} {n:String} {b:Bool} (e:PySem.W.kitOne K (.ref C) (.type n)=some b) (h:Q (.bl b) H):ZwA K ea C [.ref ea,.ty n] H Q:=⟨b,.inl ⟨n,rfl,e⟩,h⟩
theorem Zk4 {ea c:Addr} {cs:List Addr} (hc:H c=some (.tup (cs.map V.ref))) (e:∀d∈cs,PySem.W.kitOne K (.ref C) (.ref d)=some false) (h:Q (.bl false) H):ZwA K ea C [.ref ea,.ref c] H Q:=by
 refine⟨false,.inr (.inr ⟨c,_,rfl,hc,fun us r=>?_⟩),h⟩
 have:∀(cs:List Addr) (us:List Value),(∀d∈cs,PySem.W.kitOne K (.ref C) (.ref d)=some false)→Vals (cs.map V.ref) us→PySem.W.kitAny K (.ref C) us=some false:=by
  intro cs
  induction cs with
  | nil=>intro us _ r; cases r; rfl
  | cons d cs ih=>
   intro us e r;rw[List.map_cons]at r
   cases r with
   | cons r1 r2=>
    rename_i u us'
    obtain rfl:u=Value.ref d:=r1;unfold PySem.W.kitAny;rw[e d List.mem_cons_self];exact ih us' (fun x hx=>e x (List.mem_cons_of_mem _ hx)) r2
 exact this cs us e r
end
end L2
namespace L2
open PySem PySem.Spec PyProof.Rows
section
variable {X:Cx} {a:Expr} {ta:TE} {pos:Pos}
abbrev ZDU (ta:TE):TE:=fun σ H Q=>ta σ H fun x H1=>∃z,x=.str z∧(reprText z).length≤sizeLine∧Q (.str (reprText z)) H1
theorem Zny (ha:PE X a ta):PE X (.FormattedValue a 114 none pos) (ZDU ta):=by
 intro pins s σ H Q I h;refine wpAny_FormattedValue_repr (thn (ha pins s σ H _ I h) fun v s1 ⟨x,H1,I1,r1,z,ex,hz,q⟩=>?_);subst ex;obtain⟨t,rfl⟩:=r1;exact wpAny_pyReprObj_str (formatField_str (fun t' k=>⟨.str _,H1,I1.tok k,⟨t',rfl⟩,q⟩) hz) hz
end
section
variable {σ:St} {H:Hp} {Q:VK} {D:Ends} {K:PySem.W.Frag} {g:TG} {tb:TS} {ta:TE}
theorem Zy5 (h:ta σ H fun x H1=>∃z,x=.str z∧(reprText z).length≤sizeLine∧Q (.str (reprText z)) H1):ZDU ta σ H Q:=h
end
def Asc (z:Str):Prop:=∀c∈z.cps.toList,c < 128
theorem Zak (x y:Str):(x++y).length=x.length+y.length:=by
 show(x.cps++y.cps).size=_;rw[Array.size_append]; rfl
end L2
namespace L2
open PySem PySem.Spec PyProof.Rows
section
variable {X:Cx} {k k':Nat} {f C:Addr} {fd:FuncData} {ps:List Str} {sp:Sp} {x:Str} {p pos:Pos} {e:Expr} {es:List Expr} {t:TA}
end
structure RoomH (k:Nat) (A:Around):Prop where
 dp:A.depth+3 * k+5 < recursionLimit
 un:A.units+16 * k+200 < cLine
theorem Room.mark {k:Nat} {A:Around} {v:Option Value} (r:Room k A):RoomH k (A.mark v):=⟨r.dp,r.un⟩
structure Lies (s:Shared) (H:Hp) (outer:List Env) (ea:Addr) (oe:Obj) (C:Addr):Prop where
 at_:s.heap.get? ea=some oe
 no:H ea=none
 nf:ea∉frs outer
 nc:∀v,oe.data≠.cell v
 cls:oe.cls=.ref C
 dict:oe.dict=none
 nk:PySem.W.notCls oe=true
structure FnH (P:Program) (w:World) (K:PySem.W.Frag) (mg:Str→Option Value) (base:Heap) (k:Nat) (f:Addr) (fd:FuncData) (ps:List Str) (sp:Addr→Addr→Sp):Prop where
 len:∀ea C vs H Q E,sp ea C vs H Q E→vs.length=ps.length
 run:∀(A:Around) (outer:List Env) (s:Shared) (H:Hp) (args:Args) (us:List Value) (vs:List V) (Q:VK) (ea C:Addr) (oe:Obj),RoomH k A→Env0 P w K mg base A outer s H→Lies s H outer ea oe C→BindsTo s fd args (ps.zip us)→Vals vs us→sp ea C vs H Q E0→
  codeAny (model P w) A (.call (.ref f) args) (CR CX0 outer P w H s Q E0) s
abbrev cxH (P:Program) (w:World) (K:PySem.W.Frag) (mg:Str→Option Value) (base:Heap) (N:List Str) (qual:Str) (scope:Scope) (f:Addr) (cd:Value) (A:Around) (outer:List Env) (s:Shared) (H:Hp) (ea:Addr) (oe:Obj):Cx:=
 { cxOf CX0 P w K mg base N qual scope f cd A outer s H E0 with calm:=false,pn:=[(ea,oe)] }
theorem ZB4 {P:Program} {w:World} {K:PySem.W.Frag} {mg:Str→Option Value} {base:Heap} {k:Nat} {f:Addr} {name qual:Str} {params:Arguments} {body:List Stmt} {scope:Scope} {dV kV doc pm cdv ct oc:Value} {an od:Option Addr}
  {osl:Array (Option Value)} {N ps:List Str} {sp:Addr→Addr→Sp} (lk:K.lookup f=some ⟨oc,od,.func (PySem.W.fnOf name qual params body scope dV kV doc pm an cdv ct),osl⟩) (hcd:PySem.W.codeIn K cdv qual=true) (S:FnScope N ps scope)
  (len:∀ea C vs H Q E,sp ea C vs H Q E→vs.length=ps.length)
  (hbody:∀(A:Around) (outer:List Env) (s:Shared) (H:Hp) (vs:List V) (Q:VK) (ea C:Addr) (oe:Obj),Lies s H outer ea oe C→sp ea C vs H Q E0→
   ∃t,PSs (cxH P w K mg base N qual scope f cdv A outer s H ea oe) body t∧t { nx:=fun _ H'=>Q .non H',rt:=Q } (start N vs) H) :
  FnH P w K mg base k f (PySem.W.fnOf name qual params body scope dV kV doc pm an cdv ct) ps sp:=by
 refine⟨len,fun A outer s H args us vs Q ea C oe hr e0 hy hb r hsp=>?_⟩;have hl:=len _ _ _ _ _ _ hsp;have KX:K.In s.heap:=e0.mod.kin.keeps fun b o e=>(e0.bs b o e).1;have lim:s.heap.NoLimit:=e0.mod.nolimit.keeps fun b o e=>(e0.bs b o e).1
 have hkind:∀y∈ps.zip us,scope.names.lookup y.1=some .local∨(scope.names.lookup y.1=some .cell∧((cellsFrom (s.heap.objs.size+1) scope.names []).lookup y.1).isSome=true):=fun⟨n,v⟩ hy=>by
  rcases S.par n (List.of_mem_zip hy).1 with q | q
  ·exact .inl q
  ·exact .inr ⟨q,PySem.W.cellsFrom_some _ _ _ (.inl q)⟩
 have hdp:A.depth < recursionLimit:=by have:=hr.dp; omega
 refine codeAny_call_function hdp (KX _ _ lk) rfl S.co S.gen rfl (PySem.W.codeRec_of KX hcd) (hb _ _ _ _ ?_);refine wpAny_newFunctionEnv_cells S.kind hkind fun env he s1 x=>?_;subst he;refine⟨lim.keeps x.toInCall.keep,codeAny_func ?_⟩;obtain⟨t,ht,hq⟩:=hbody A outer s H vs Q ea C oe hy hsp;have e1:Env0 P w K mg base { A with handled:=none } outer s H:=⟨e0.frames,e0.mod,e0.bs,e0.bsz,e0.funs,e0.frf,e0.hok,e0.bare⟩;have J:Inv (cxOf CX0 P w K mg base N qual scope f cdv { A with handled:=none } outer s H E0) [] (start N vs) H s1:=ZqO S rfl e1 hl r x
 have I:Inv (cxH P w K mg base N qual scope f cdv A outer s H ea oe) [] (start N vs) H s1:=by
  refine⟨⟨J.ok.mod,J.ok.kind,J.ok.glob,J.ok.blt,J.ok.above,J.ok.inj,J.ok.has,J.ok.cab,fun z=>Bool.noConfusion z,J.ok.frames,J.ok.stk,J.ok.exf,J.ok.bs,J.ok.bsz,J.ok.noex,J.ok.exfs,J.ok.funs,J.ok.frf⟩,J.os,J.bare,J.base,J.loc,J.cell,J.free,J.freeC,fun p hp=>?_,J.hok,J.len⟩
  have hp':p=(ea,oe):=by
   have z:p∈[(ea,oe)]++[]:=hp
   simpa using z
  subst hp';exact⟨x.toInCall.keep _ _ hy.at_,hy.no,Nat.ne_of_lt (Heap.lt_size hy.at_),hy.nf,hy.nc⟩
 refine wpAny_mono (ht [] s1 (start N vs) H _ I hq) (fun fl s' hs=>?_) fun e s' hs=>hs
 have fin:∀{σ':St} {H':Hp} {v:V} {u:Value},Inv (cxH P w K mg base N qual scope f cdv A outer s H ea oe) [] σ' H' s'→RelV v u→Q v H'→CE outer P w H s Q u s':=
  fun {σ' H' v u} J rv q=>⟨v,H',J.os,J.bare,J.base,J.hok,rv,q⟩
 cases fl with
 | ret u=>
  obtain⟨v,σ',H',J,rv,q⟩:=hs;exact fin J rv q
 | next=>
  obtain⟨σ',H',J,q⟩:=hs;exact fin (v:=V.non) (u:=Value.none) J rfl q
 | brk=>
  obtain⟨_,_,_,q⟩:=hs;exact False.elim q
 | cont=>
  obtain⟨_,_,_,q⟩:=hs;exact False.elim q
theorem Fun.okH {P:Program} {w:World} {K:PySem.W.Frag} {mg:Str→Option Value} {base:Heap} {x qual:Str} {st:Stmt} {f:Addr} {fd:FuncData} {N ps:List Str} {k:Nat} {sp:Addr→Addr→Sp} (F:Fun K x qual st f fd) (S:FnScope N ps (Zaj st)) (len:∀ea C vs H Q E,sp ea C vs H Q E→vs.length=ps.length)
  (hbody:∀(cdv:Value) (A:Around) (outer:List Env) (s:Shared) (H:Hp) (vs:List V) (Q:VK) (ea C:Addr) (oe:Obj),Lies s H outer ea oe C→sp ea C vs H Q E0→
   ∃t,PSs (cxH P w K mg base N qual (Zaj st) f cdv A outer s H ea oe) (Zgb st) t∧t { nx:=fun _ H'=>Q .non H',rt:=Q } (start N vs) H):FnH P w K mg base k f fd ps sp:=by
 obtain⟨oc,od,kV,doc,pm,an,cdv,ct,osl,rfl,lk,hcd⟩:=F.ex;exact ZB4 lk hcd S len fun A outer s H vs Q ea C oe hy hsp=>hbody cdv A outer s H vs Q ea C oe hy hsp
def FnSH (P:Program) (w:World) (K:PySem.W.Frag) (mg:Str→Option Value) (base:Heap) (k:Nat) (x:Str) (ps:List Str) (sp:Addr→Addr→Sp):Prop:=∃f fd,FnH P w K mg base k f fd ps sp∧ZaL K fd ps []∧PySem.W.keepIn K (.ref f)=true∧mg x=some (.ref f)
def tFnH (sp:Addr→Addr→Sp) (ea C:Addr) (t:TA):TE:=fun σ H Q=>t σ H fun vs H1=>sp ea C vs H1 Q E0
theorem ZC9 {X:Cx} {k k':Nat} {x:Str} {ps:List Str} {sp:Addr→Addr→Sp} {ea C:Addr} {oe:Obj} {pn':List (Addr×Obj)} {e:Expr} {es:List Expr} {t:TA} {p pos:Pos} (G:FnSH X.prog X.w X.K X.mg X.base k x ps sp) (hr:Room k' X.A)
  (hm:(ea,oe)∈pn') (hc:oe.cls=.ref C) (hd:oe.dict=none) (hn:PySem.W.notCls oe=true) (hst:X.stack=X.env::X.outer) (hfr:X.env.frame=some X.env.locals)
  (ha:PA (X.hand ea pn') (e::es) t) (hk:k≤k':=by omega) (hg:Gl X x:=by rfl) (hdb:(x == ("__debug__" : Str))=false:=by decide)
  (he:starEach (e::es) X.env=(false,eval e X.env)::starEach es X.env:=by rfl) (hpl:(backTo pos (starEach es X.env)).any (·.1)=false:=by rfl):PE (X.hand ea pn') (.Call (.Name x p) (e::es) [] pos) (tFnH sp ea C t):=by
 obtain⟨f,fd,F,hb,kp,hmg⟩:=G;intro pins s σ H Q I h;refine wpAny_Call_Name_kw (ZhZ (X:=X.hand ea pn') I hg hmg ?_ hdb);refine PySem.W.callWith_K (h₀:=X.base) I.ok.mod.kin kp (thn (ha pos pins s σ H _ I h) fun us s1 ⟨vs,H1,I1,r,q⟩=>⟨I1.kIn,?_⟩) he hpl
 have hl:(us++[]).length=ps.length:=by rw[List.append_nil,←r.length]; exact F.len _ _ _ _ _ _ q
 have hb':=hb s1 us I1.kIn hl;rw[List.append_nil]at hb';obtain⟨pe,pno,pl,pf,pc⟩:=I1.pin _ (List.mem_append_left _ hm)
 have nf:ea∉frs X.stack:=fun z=>by
  rw[hst]at z;unfold frs at z;rw[List.filterMap_cons,hfr]at z
  rcases List.mem_cons.mp z with z | z
  ·exact pl z
  ·exact pf z
 refine wpAny_call (codeAny_mono (F.run (X.hand ea pn').A X.stack s1 H1 ⟨us,[]⟩ us vs Q ea C oe (hr.mono hk).mark I1.env0 ⟨pe,pno,nf,pc,hc,hd,hn⟩ hb' r q) fun r s' hq=>?_)
 cases r with
 | error e=>exact hq.elim
 | ok fl=>
  cases fl with
  | ret u=>exact I1.after hq
  | next=>exact False.elim hq
  | brk=>exact False.elim hq
  | cont=>exact False.elim hq
theorem Zgx {X:Cx} {ea C:Addr} {oe:Obj} (k:ExcK X.K C) (hm:(ea,oe)∈X.pn) (hc:oe.cls=.ref C) (hd:oe.dict=none) (hn:PySem.W.notCls oe=true):ZiP X (.builtin "isinstance") (ZwA X.K ea C):=by
 intro pins s σ H xs us Q I r h;obtain⟨b,h,q⟩:=h;have at_:=(I.pin _ (List.mem_append_left _ hm)).1;have IA:∃o,PySem.W.InstAt s.heap ea o C none:=⟨oe,at_,hc,hn,by rw[hd]; trivial⟩
 rcases h with⟨n,rfl,e⟩ | ⟨c,rfl,e⟩ | ⟨c,vs,rfl,et,e⟩
 ·obtain⟨u,v,rfl,ru,rv⟩:=Zp9 r
  obtain rfl:v=Value.type n:=rv;obtain rfl:u=Value.ref ea:=ru;exact PySem.W.kia_one (ZiF k) I.kIn IA e (fun z=>nomatch z) fun tk=>⟨.bl b,H,I.tok tk,rfl,q⟩
 ·obtain⟨u,v,rfl,ru,rv⟩:=Zp9 r
  obtain rfl:v=Value.ref c:=rv;obtain rfl:u=Value.ref ea:=ru;exact PySem.W.kia_one (ZiF k) I.kIn IA e (fun z=>nomatch z) fun tk=>⟨.bl b,H,I.tok tk,rfl,q⟩
 ·obtain⟨u,v,rfl,ru,rv⟩:=Zp9 r
  obtain rfl:v=Value.ref c:=rv;obtain rfl:u=Value.ref ea:=ru;obtain⟨_,its,rv,⟨o,h1,h2,n,h3⟩⟩:=(show Zc0 X.prog X.w H s.heap c (.tup vs) from I.hok c _ et);obtain⟨oc,od,oda,osl⟩:=o
  dsimp only at h2 h3
  subst h2 h3;exact PySem.W.kia_tup (ZiF k) I.kIn IA h1 (e its rv) (fun z=>nomatch z) fun tk=>⟨.bl b,H,I.tok tk,rfl,q⟩
theorem ZAj {sp:Addr→Addr→Sp} {ea C:Addr} {t:TA} {σ:St} {H:Hp} {Q:VK} (h:t σ H fun vs H1=>sp ea C vs H1 Q E0):tFnH sp ea C t σ H Q:=h
end L2
namespace L2
open PySem PySem.Spec PyProof.Rows
theorem ZAL {h:Heap} {a:Addr} {m m':Str→Option Value} (x:h.Ns a m) (y:h.Ns a m'):m=m':=by
 obtain⟨o,es,ep,ho,hd,_,hm⟩:=x;obtain⟨o',es',ep',ho',hd',_,hm'⟩:=y;rw[ho]at ho'
 cases ho'
 rw[hd]at hd'
 cases hd'
 funext n
 rw[←hm,←hm']
section
variable {X:Cx} {pins:List (Addr×Obj)} {σ:List (Option V)} {H H':Hp} {s:Shared} {h':Heap}
theorem ZjG {M:Model} {A:Around} {E:Value→Shared→Prop} {i:Nat} {x:Str} {v:V} {u:Value} {Q:Unit→Shared→Prop} (I:Inv X pins σ H s) (hN:X.N.Nodup) (hi:X.N[i]?=some x) (hk:X.env.scope.names.lookup x=some .local) (r:RelV v u)
  (h:∀s' m,Inv X pins (σ.set i (some v)) H s'→s'.heap.Ns X.env.locals m→m x=some u→s'.toks=s.toks+1→Heap.SameBut X.env.locals s.heap s'.heap→Q () s'):wpAny M A (storeName X.env x u) Q E s:=by
 obtain⟨m,hn,hl⟩:=id I.loc
 have hcls:(X.env.scope.kind == .class || (X.env.scope.kind == .module && X.env.locals != X.env.globals))=false:=by rw[I.ok.kind]; rfl
 have hiσ:i < σ.length:=by rw[I.len]; exact(List.getElem?_eq_some_iff.mp hi).1
 have cne:=I.cne
 have tracked:∀{a:Addr} {h':Heap},(∃o,s.heap.get? a=some o∧H a=none)→Heap.SameBut a s.heap h'→HOk X.prog X.w H h':=fun {a h'} ha hs b ob e=>by
  obtain⟨_,_,hfree⟩:=ha;refine(I.hok b ob e).stay (fun c w' hc q=>(hs.2 c ?_).trans q) (fun _ q=>q) fun _ _ q=>q;rintro rfl
  rcases hc with rfl | hc
  ·rw[hfree]at e; cases e
  ·rw[hfree]at hc; cases hc
 refine wpAny_storeName_local hk hn (fun h' hn' hs=>?_) hcls;obtain⟨oL,_,_,hoL,_⟩:=id hn;refine h _ _ ⟨I.ok,I.os,I.bare,⟨fun b o e n hb hx=>?_,fun b o e n hb hx=>?_,I.base.free,fun b o e hx=>?_,I.base.tups,I.base.frzs,I.base.tbls⟩,⟨_,hn',fun j y v' e1 e2 e3=>?_⟩,fun y c e=>?_,I.free,I.freeC,fun p hp=>?_,tracked ⟨oL,hoL,I.free⟩ hs,by simpa using I.len⟩ hn' (by simp) rfl hs
 ·exact(hs.2 b (Nat.ne_of_lt (Nat.lt_of_lt_of_le (Heap.lt_size e) I.ok.above))).trans (I.base.keep b o e n hb hx)
 ·obtain⟨sl,e1⟩:=I.base.slot b o e n hb hx
  exact⟨sl,(hs.2 b (Nat.ne_of_lt (Nat.lt_of_lt_of_le (Heap.lt_size e) I.ok.above))).trans e1⟩
 ·obtain⟨o',e1⟩:=I.base.there b o e hx
  exact⟨o',(hs.2 b (Nat.ne_of_lt (Nat.lt_of_lt_of_le (Heap.lt_size e) I.ok.above))).trans e1⟩
 ·by_cases hj:j=i
  ·subst hj
   rw[hi]at e1; cases e1;rw[List.getElem?_set_self hiσ]at e2
   cases e2
   exact⟨u,r,.inl ⟨hk,by simp⟩⟩
  ·rw[List.getElem?_set_ne (Ne.symm hj)]at e2
   obtain⟨u',r',q⟩:=hl j y v' e1 e2 e3;refine⟨u',r',?_⟩
   rcases q with⟨k,e⟩ | ⟨k,c,e,z⟩
   ·refine .inl ⟨k,?_⟩
    have:y≠x:=fun e=>hj (ZpG hN e1 (e ▸ hi));simp[this,e]
   ·exact .inr ⟨k,c,e,z.sameBut hs (cne y c e)⟩
 ·obtain⟨w',z⟩:=I.cell y c e
  exact⟨w',z.sameBut hs (cne y c e)⟩
 ·obtain⟨e,n,ne,nf,d⟩:=I.pin p hp
  exact⟨(hs.2 p.1 ne).trans e,n,ne,nf,d⟩
end
def PSp (X:Cx) (st:Stmt) (t:TS):Prop:=∀(pins:List (Addr×Obj)) (s:Shared) (σ:St) (H:Hp) (D:Ends),Inv X pins σ H s→t D σ H→wpAny (model X.prog X.w) X.A (exec st X.env) (fun f s'=>0 < s'.toks∧SP X pins D f s') X.xe s
def PSt (X:Cx) (st:Stmt) (t:TS):Prop:=∀(pins:List (Addr×Obj)) (s:Shared) (σ:St) (H:Hp) (D:Ends),Inv X pins σ H s→0 < s.toks→t D σ H→wpAny (model X.prog X.w) X.A (exec st X.env) (SP X pins D) X.xe s
def PSst (X:Cx) (b:List Stmt) (t:TS):Prop:=∀(pins:List (Addr×Obj)) (s:Shared) (σ:St) (H:Hp) (D:Ends),Inv X pins σ H s→0 < s.toks→t D σ H→wpAny (model X.prog X.w) X.A (execs b X.env) (SP X pins D) X.xe s
section
variable {X:Cx} {st:Stmt} {rest:List Stmt} {t u:TS} {pos:Pos}
theorem ZDm (h1:PSp X st t) (h2:PSst X rest u):PSs X (st::rest) (tSeq t u):=by
 intro pins s σ H D I h;refine wpAny_execs_cons (thn (h1 pins s σ H { D with nx:=u D } I h) fun f s1 q=>?_);obtain⟨tk,q⟩:=q
 cases f with
 | next=>
  obtain⟨σ',H',I',q⟩:=q;exact h2 pins s1 σ' H' D I' tk q
 | ret v=>exact q
 | brk=>exact q
 | cont=>exact q
theorem Zwv (h1:PSt X st t) (h2:PSs X rest u):PSst X (st::rest) (tSeq t u):=by
 intro pins s σ H D I tk h;refine wpAny_execs_cons (thn (h1 pins s σ H { D with nx:=u D } I tk h) fun f s1 q=>?_)
 cases f with
 | next=>
  obtain⟨σ',H',I',q⟩:=q;exact h2 pins s1 σ' H' D I' q
 | ret v=>exact q
 | brk=>exact q
 | cont=>exact q
theorem ssp (i:Nat) {x:Str} {e:Expr} {te:TE} {pos':Pos} (hN:X.N.Nodup) (he:PE X e te) (hi:X.N[i]?=some x:=by rfl) (hk:X.env.scope.names.lookup x=some .local:=by rfl) (hs:swapsWith e (some (.Name x pos')) pos.line X.env=pure false:=by rfl) :
  PSp X (.Assign [.Name x pos'] e pos) (tAsg te (Zn9 i)):=by
 intro pins s σ H D I h;refine wpAny_Assign_Name (thn (he pins s σ H _ I h) fun v s1 ⟨y,H1,I1,r1,q1⟩=>?_) hs;exact ZjG I1 hN hi hk r1 fun s2 m I2 hn hm ht _=>⟨by omega,_,H1,I2,q1⟩
end
def PEf (X:Cx) (e:Expr) (t:TE):Prop:=∀(pins:List (Addr×Obj)) (s:Shared) (σ:St) (H:Hp) (Q:VK),Inv X pins σ H s→t σ H Q→wpAny (model X.prog X.w) X.A (eval e X.env) (fun u s'=>∃z tk H',Inv X pins σ H' s'∧u=.str z tk∧s.toks≤tk∧Q (.str z) H') X.xe s
section
variable {X:Cx} {a b:Expr} {ta tb:TE} {pos:Pos}
def PJf (X:Cx) (es:List Expr) (t:TJ):Prop:=
 ∀(n:Nat) (out:Str) (pins:List (Addr×Obj)) (s:Shared) (σ:St) (H:Hp) (Q:VK),n≤s.toks→Inv X pins σ H s→t σ H out Q→wpAny (model X.prog X.w) X.A (joinParts out (evalEach es X.env)) (fun u s'=>∃z tk H',Inv X pins σ H' s'∧u=.str z tk∧n≤tk∧Q (.str z) H') X.xe s
theorem ZA3:PJf X [] tJn:=fun n out pins s σ H Q hn I h=>joinParts_nil ⟨out,_,H,I.tok _,rfl,hn,h.2⟩ h.1
theorem ZpQ {e:Expr} {es:List Expr} {te:TE} {tr:TJ} (he:PE X e te) (hr:PJf X es tr):PJf X (e::es) (tJc te tr):=by
 intro n out pins s σ H Q hn I h;show wpAny _ _ (joinParts out (eval e X.env::evalEach es X.env)) _ _ s;refine joinParts_cons (wpAny_mono (wpAny_toks_of hn (he pins s σ H _ I h)) (fun v s1 hv=>?_) fun _ _ y=>y.2);obtain⟨hn1,x,H1,I1,r1,y,ex,hz,q⟩:=hv;subst ex;obtain⟨t,rfl⟩:=r1;exact⟨hz,hr n _ pins s1 σ H1 Q hn1 I1 q⟩
theorem ZuD {e1 e2:Expr} {es:List Expr} {t:TJ} (h:PJf X (e1::e2::es) t):PEf X (.JoinedStr (e1::e2::es) pos) (tFs t):=by
 intro pins s σ H Q I q;exact JoinedStr_many (h s.toks Str.empty pins s σ H Q (Nat.le_refl _) I q)
end
section
variable {X:Cx} {a b:Expr} {ta tb:TE} {pos:Pos}
def tRep (i j:Nat) (te:TE):List Nat→TS
 | []=>fun D σ H=>D.nx σ H
 | c::cs=>fun D σ H=>∃x:Str,(σ.set j (some (.str ⟨#[c]⟩)))[i]?=some (some (.str x))∧te (σ.set j (some (.str ⟨#[c]⟩))) H fun v H1=>∃z:Str,v=.str z∧(((⟨#[c]⟩ : Str) == z)=false)∧x.length+(x.length+1) * z.length≤16777216∧
   tRep i j te cs D ((σ.set j (some (.str ⟨#[c]⟩))).set i (some (.str (Txt.replace x ⟨#[c]⟩ z)))) H1
abbrev Zw0 (i j:Nat) (ti te:TE):TS:=fun D σ H=>ti σ H fun v H1=>∃z:Str,v=.str z∧z.cps.all (· < 128)=true∧tRep i j te z.cps.toList D σ H1
theorem Zyr {i:Nat} {sp mk:Str} {e2:Expr} {te:TE} {p2 p3 p4 ap cp q1:Pos} {pins:List (Addr×Obj)} {σ:St} {H:Hp} {s:Shared} {m:Str→Option Value} {c k:Nat} {x:Str} {R:St→Hp→Prop}
  (hN:X.N.Nodup) (hi:X.N[i]?=some sp) (ki:X.env.scope.names.lookup sp=some .local) (kj:X.env.scope.names.lookup mk=some .local) (he:PEf X e2 te) (di:(sp == ("__debug__" : Str))=false) (dj:(mk == ("__debug__" : Str))=false)
  (hs:swapsWith (.Call (.Attribute (.Name sp p3) "replace" ap) [.Name mk p4,e2] [] cp) (some (.Name sp p2)) q1.line X.env=pure false)
  (hbase:attributeBase (.Name sp p3) "replace" X.env (eval (.Name sp p3) X.env)=eval (.Name sp p3) X.env)
  (hfew:((backTo cp (starEach [.Name mk p4,e2] X.env)).all (fun x=>!x.1) && (backToKw cp (keywordEach [] X.env)).all (fun x=>x.1.isSome)
   && decide ([Expr.Name mk p4,e2].length+([]:List Keyword).length+(if ([]:List Keyword).isEmpty then 0 else 1) < 30))=true)
  (hline:(ap.endLine == cp.line)=true) (h1:starEach [.Name mk p4,e2] X.env=[(false,eval (.Name mk p4) X.env),(false,eval e2 X.env)])
  (I:Inv X pins σ H s) (hn:s.heap.Ns X.env.locals m) (hm:m mk=some (.str ⟨#[c]⟩ k)) (k0:k≠0) (kt:k < s.toks) (ex:σ[i]?=some (some (.str x)))
  (h:te σ H fun v H1=>∃z:Str,v=.str z∧(((⟨#[c]⟩ : Str) == z)=false)∧x.length+(x.length+1) * z.length≤16777216∧R (σ.set i (some (.str (Txt.replace x ⟨#[c]⟩ z)))) H1) :
  wpAny (model X.prog X.w) X.A (execs [.Assign [.Name sp p2] (.Call (.Attribute (.Name sp p3) "replace" ap) [.Name mk p4,e2] [] cp) q1] X.env) (fun f s'=>f=.next∧0 < s'.toks∧∃σ' H',Inv X pins σ' H' s'∧R σ' H') X.xe s:=by
 obtain⟨m',hn',hl⟩:=id I.loc;obtain rfl:=ZAL hn hn';obtain⟨u,ru,lu⟩:=hl i sp _ hi ex (.inl ki);obtain⟨t,rfl⟩:=ru
 have hu:m sp=some (.str x t):=by
  rcases lu with⟨_,z⟩ | ⟨z,_⟩
  ·exact z
  ·have z':X.env.scope.names.lookup sp=some .cell∨X.env.scope.names.lookup sp=some .free:=z
   rw[ki]at z'
   rcases z' with z' | z' <;> cases z'
 refine wpAny_execs_cons (wpAny_Assign_Name ?_ hs);refine wpAny_Call_method_late hbase hfew hline rfl (wpAny_Name (wpAny_loadName_local I.ok.kind ki hn hu ?_) di);obtain⟨t1,t2⟩:=ZtP (T:="str") I (x:=.str x) ⟨t,rfl⟩ tyS;refine⟨"str","str.replace",F.plainAttrs_str,F.slot_str_replace,F.type_str_replace,t1,t2,?_⟩;rw[h1];refine Calls.callWith_builtin rfl (Calls.evalArgs_plain (Calls.spliced_cons (wpAny_Name (wpAny_loadName_local I.ok.kind kj hn hm ?_) dj)));refine Calls.spliced_cons (thn (he pins s σ H _ I h) fun v s1 hv=>Calls.spliced_nil ?_);obtain⟨z,tk,H1,I1,rfl,htk,z',ez,hz,hlen,q⟩:=hv
 cases ez
 refine SC.replace k0 (Nat.ne_of_gt (Nat.lt_of_lt_of_le (Nat.lt_of_le_of_lt (Nat.zero_le _) kt) htk)) (Nat.ne_of_lt (Nat.lt_of_lt_of_le kt htk)) hz hlen fun t' k'=>?_;exact ZjG (v:=.str (Txt.replace x ⟨#[c]⟩ z)) (I1.tok k') hN hi ki ⟨t',rfl⟩ fun s2 m2 I2 _ _ ht _=>wpAny_execs_nil ⟨rfl,by omega,_,H1,I2,q⟩
theorem ZA9 {i j:Nat} {sp mk:Str} {it e2:Expr} {ti te:TE} {p1 p2 p3 p4 ap cp q1 pos:Pos} (hp:PassesOwn (model X.prog X.w) X.A X.env X.xe) (hc:X.calm=true)
  (hN:X.N.Nodup) (hit:PE X it ti) (he:PEf X e2 te) (hi:X.N[i]?=some sp:=by rfl) (hj:X.N[j]?=some mk:=by rfl) (ki:X.env.scope.names.lookup sp=some .local:=by rfl) (kj:X.env.scope.names.lookup mk=some .local:=by rfl)
  (di:(sp == ("__debug__" : Str))=false:=by decide) (dj:(mk == ("__debug__" : Str))=false:=by decide)
  (hs:swapsWith (.Call (.Attribute (.Name sp p3) "replace" ap) [.Name mk p4,e2] [] cp) (some (.Name sp p2)) q1.line X.env=pure false:=by rfl)
  (hbase:attributeBase (.Name sp p3) "replace" X.env (eval (.Name sp p3) X.env)=eval (.Name sp p3) X.env:=by rfl)
  (hfew:((backTo cp (starEach [.Name mk p4,e2] X.env)).all (fun x=>!x.1) && (backToKw cp (keywordEach [] X.env)).all (fun x=>x.1.isSome)
   && decide ([Expr.Name mk p4,e2].length+([]:List Keyword).length+(if ([]:List Keyword).isEmpty then 0 else 1) < 30))=true:=by rfl)
  (hline:(ap.endLine == cp.line)=true:=by rfl) (h1:starEach [.Name mk p4,e2] X.env=[(false,eval (.Name mk p4) X.env),(false,eval e2 X.env)]:=by rfl) (hfs:∀x,foldedSetIterable it X.env x=pure x:=by intro _; rfl) :
  PSt X (.For (.Name mk p1) it [.Assign [.Name sp p2] (.Call (.Attribute (.Name sp p3) "replace" ap) [.Name mk p4,e2] [] cp) q1] [] pos) (Zw0 i j ti te):=by
 intro pins s σ H D I htk h;refine wpAny_For (wpAny_mono (wpAny_toks_of (n:=1) htk (hit pins s σ H _ I h)) (fun v s1 hv=>?_) fun _ _ y=>y.2) hfs;obtain⟨tk1,x,H1,I1,r1,z,ex,hasc,q⟩:=hv;subst ex;obtain⟨t,rfl⟩:=r1;refine wpAny_pyIter_ascii hasc ?_;have fp:FpOk X pins H1 s1.heap.objs.size:=I1.fpOk (Nat.le_refl _) (I1.hok.fresh (Nat.le_refl _));have I2:Inv X pins σ H1 { s1 with heap:=s1.heap.push { cls:=.type "str_ascii_iterator",data:=.fields #[.str z t,.int 0 0] } }:=I1.kept (t':=s1.toks) fun b o e=>Heap.get?_push_of_some _ e
 refine codeAny_forLoop_any (fun n s'=>∃k σ' H',n=z.cps.size - k∧k≤z.cps.size∧Inv X pins σ' H' s'∧s'.heap.IsStrIter s1.heap.objs.size "str_ascii_iterator" z t k∧H' s1.heap.objs.size=none∧0 < s'.toks∧tRep i j te (z.cps.toList.drop k) D σ' H') ?_ z.cps.size
  ⟨0,σ,H1,rfl,Nat.zero_le _,I2,⟨_,Heap.get?_push_size _ rfl,rfl,rfl⟩,fp.1,tk1,by rw[List.drop_zero]; exact q⟩
 rintro n s3 ⟨k,σ3,H3,rfl,hk,I3,st3,f3,tk3,w3⟩;obtain⟨g1,g2,g3,g4,g5⟩:=fp.2
 by_cases hlt:k < z.cps.size
 ·have hz:z.cps[k]?=some z.cps[k]:=by simp[hlt]
  refine wpAny_passesOwn hp (wpAny_pyNext_ascii_item st3 hz fun h' st' sb=>?_);have I4:Inv X pins σ3 H3 { s3 with heap:=h',toks:=s3.toks+1 }:=I3.turned (fun b o hb e=>(sb.2 b hb).trans e) f3 g1 g3 g4 g5;obtain⟨o,e,c,d⟩:=id st';refine Zuc (s:={ s3 with heap:=h',toks:=s3.toks+1 }) e c d (by decide) ?_
  have hd:z.cps.toList.drop k=z.cps[k]::z.cps.toList.drop (k+1):=by
   rw[List.drop_eq_getElem_cons (by simpa using hlt)];simp
  rw[hd]at w3;obtain⟨x,ex,w4⟩:=w3;have I5:=I4.pinned (fp:=[s1.heap.objs.size]) (fun b hb=>by rw[List.mem_singleton.mp hb]; exact⟨f3,g1,g2,g3,g4,g5⟩) (fun b hb=>by rw[List.mem_singleton.mp hb]; exact⟨o,e,fun v y=>by rw[d]at y; cases y⟩);refine wpAny_assign_Name (ZjG (v:=.str ⟨#[z.cps[k]]⟩) I5 hN hj kj ⟨_,rfl⟩ fun s5 m5 I6 hn5 hm5 ht5 _=>?_);refine wpAny_passesOwn hp (wpAny_mono (Zyr hN hi ki kj he di dj hs hbase hfew hline h1 I6 hn5 hm5 (Nat.ne_of_gt tk3) (by show s3.toks < s5.toks; rw[ht5]; exact Nat.lt_succ_of_lt (Nat.lt_succ_self _)) ex w4) (fun f s7 hq=>?_) fun _ _ y=>y);obtain⟨rfl,tk7,σ7,H7,I7,w7⟩:=hq;have pe:=I7.pin (s1.heap.objs.size,o) (List.mem_append_right _ (List.mem_append_right _ (ZgG (by simp) e)));refine⟨z.cps.size - (k+1),by omega,k+1,σ7,H7,rfl,hlt,I7.unpinned,⟨o,pe.1,c,d⟩,pe.2.1,tk7,w7⟩
 ·have hk':k=z.cps.size:=by omega
  subst hk';rw[List.drop_of_length_le (by simp)]at w3;refine wpAny_passesOwn hp (wpAny_pyNext_ascii_end (I3.ok.hd hc) st3 (by simp) fun h' eb=>?_);exact wpAny_execs_nil ⟨σ3,H3,I3.turned (t':=s3.toks) (fun b o hb e=>eb b o hb e) f3 g1 g3 g4 g5,w3⟩
end
section
variable {X:Cx} {pins:List (Addr×Obj)} {σ:List (Option V)} {H:Hp} {s:Shared}
theorem ZoZ:∀ls:List (Str×Tok),Vals (ls.map fun p=>V.str p.1) (strValues ls)
 | []=>.nil
 | (z,t)::ls=>.cons ⟨t,rfl⟩ (ZoZ ls)
theorem ZhY {ls:List (Str×Tok)} {k:Nat} {Q:VK} (I:Inv X pins σ H s) (q:NewL (ls.map fun p=>V.str p.1) H Q):EP X pins σ Q (.ref s.heap.objs.size) { s with heap:=s.heap.push { cls:=.type "list",data:=.seq (strValues ls).toArray },toks:=k }:=
 ⟨.ref s.heap.objs.size,upd H s.heap.objs.size (.lst _),I.laid (t':=k) (fun b u e=>Heap.get?_push_of_some _ e) (Nat.le_refl _) ⟨q.1,strValues ls,0,ZoZ ls,Heap.get?_push_size _ rfl⟩,rfl,q.2 _ (I.hok.fresh (Nat.le_refl _))⟩
theorem Zh1 {ls:List (Str×Tok)} {ts:List Str} (h:ls.map (·.1)=ts):(ls.map fun p=>V.str p.1)=ts.map V.str:=by
 rw[←h,List.map_map]; rfl
def ZDs:V→List V→Hp→VK→Prop:=fun x vs H Q=>∃z:Str,x=.str z∧z.length≤100000∧((vs=[]∧NewL ((Txt.words z).map V.str) H Q)∨(∃c:Nat,vs=[.str ⟨#[c]⟩]∧NewL ((Txt.split z ⟨#[c]⟩).map V.str) H Q))
theorem Zx3:MtR X "str.split" ZDs:=by
 intro pins s σ H x vs v us Q I rx rv h;obtain⟨z,rfl,hz,h⟩:=h;obtain⟨t,rfl⟩:=rx;have hzs:z.length≤sizeLine:=ZaQ (by omega)
 rcases h with⟨rfl,q⟩ | ⟨c,rfl,q⟩
 ·cases rv
  have hw0:=StrLaws.sw_weight z;have hw1:=StrLaws.len_le_wsum (Builtin.Str.spaceWords z (z.length+1));refine call_meets F.slot_str_split (typeIs_str _ _ _) F.entry_str_split (F.args_str_split_1 _) (meets_str_split_space z t hzs (ZaQ (by omega))) ?_
  cases hw:Builtin.Str.spaceWords z (z.length+1) == [(0,z.length)]
  ·simp only [Bool.false_eq_true,if_false]
   rw[strsFrom_eq];have e:(numbered s.toks (wordsOf z)).map (·.1)=Txt.words z:=(numbered_texts _ _).trans (if_neg (ne_true_of_eq_false hw)).symm;exact ZhY (ls:=numbered s.toks (wordsOf z)) I (by rw[Zh1 e]; exact q)
  ·simp only [if_true]
   have e:[(z,t)].map (·.1)=Txt.words z:=(if_pos hw).symm;exact ZhY (ls:=[(z,t)]) (k:=s.toks) I (by rw[Zh1 e]; exact q)
 ·obtain⟨u,rfl,tu,rfl⟩:=rv.one
  have hy:((⟨#[c]⟩ : Str).length == 0)=false:=rfl
  cases h1:(decide (z.length < (⟨#[c]⟩ : Str).length) || decide (Builtin.Str.strKind z < Builtin.Str.strKind ⟨#[c]⟩))
  ·cases hf:(Builtin.Str.occurrences z ⟨#[c]⟩ 0 z.length (z.length+1)).isEmpty
   ·have e0:Txt.split z ⟨#[c]⟩=Builtin.Str.partsBetween z (Builtin.Str.occurrences z ⟨#[c]⟩ 0 z.length (z.length+1)) (⟨#[c]⟩ : Str).length:=(if_neg (ne_true_of_eq_false h1)).trans (if_neg (ne_true_of_eq_false hf))
    have hn:(Builtin.Str.partsBetween z (Builtin.Str.occurrences z ⟨#[c]⟩ 0 z.length (z.length+1)) (⟨#[c]⟩ : Str).length).length≤sizeLine:=by
     rw[←e0];have:=q.1
     rwa [List.length_map]at this
    refine call_meets F.slot_str_split (typeIs_str _ _ _) F.entry_str_split (F.args_str_split_2 _ _) (meets_str_split_sep z ⟨#[c]⟩ t tu h1 hy hf hzs hn) ?_;show wants _ _ _ { s with toks:=_,heap:=s.heap.push { cls:=.type "list",data:=.seq (strsFrom s.toks (Builtin.Str.partsBetween z (Builtin.Str.occurrences z ⟨#[c]⟩ 0 z.length (z.length+1)) (⟨#[c]⟩ : Str).length)).toArray } };rw[strsFrom_eq];have e:(numbered s.toks (Builtin.Str.partsBetween z (Builtin.Str.occurrences z ⟨#[c]⟩ 0 z.length (z.length+1)) (⟨#[c]⟩ : Str).length)).map (·.1)=Txt.split z ⟨#[c]⟩:=(numbered_texts _ _).trans e0.symm;exact ZhY (ls:=numbered s.toks _) I (by rw[Zh1 e]; exact q)
   ·have e:[(z,t)].map (·.1)=Txt.split z ⟨#[c]⟩:=((if_neg (ne_true_of_eq_false h1)).trans (if_pos hf)).symm
    exact call_meets F.slot_str_split (typeIs_str _ _ _) F.entry_str_split (F.args_str_split_2 _ _) (meets_str_split_not_found z ⟨#[c]⟩ t tu h1 hy hf) (ZhY (ls:=[(z,t)]) (k:=s.toks) I (by rw[Zh1 e]; exact q))
  ·have e:[(z,t)].map (·.1)=Txt.split z ⟨#[c]⟩:=(if_pos h1).symm
   exact call_meets F.slot_str_split (typeIs_str _ _ _) F.entry_str_split (F.args_str_split_2 _ _) (meets_str_split_cannot_occur z ⟨#[c]⟩ t tu h1) (ZhY (ls:=[(z,t)]) (k:=s.toks) I (by rw[Zh1 e]; exact q))
def ZDq:R2:=fun x y H Q=>∃(z:Str) (n:Int),x=.str z∧y=.int n∧MulOk z n∧Q (.str (Txt.mul z n)) H
theorem ZAT:OpR X (binaryOp .Mult) ZDq:=by
 intro pins s σ H x y v u Q I rx ry h;obtain⟨z,n,rfl,rfl,hm,q⟩:=h;obtain⟨t,rfl⟩:=rx;obtain⟨t',rfl⟩:=ry;exact SB.mul hm fun t' k=>⟨.str _,H,I.tok k,⟨t',rfl⟩,q⟩
end
section
variable {σ:St} {H:Hp} {Q:VK} {D:Ends}
theorem Zti {i j:Nat} {ti te:TE} (h:ti σ H fun v H1=>∃z:Str,v=.str z∧z.cps.all (· < 128)=true∧tRep i j te z.cps.toList D σ H1):Zw0 i j ti te D σ H:=h
theorem ZCu {i j:Nat} {te:TE} (h:D.nx σ H):tRep i j te [] D σ H:=h
theorem ZvF {i j c:Nat} {cs:List Nat} {te:TE} (x:Str) (e:(σ.set j (some (.str ⟨#[c]⟩)))[i]?=some (some (.str x))) (h:te (σ.set j (some (.str ⟨#[c]⟩))) H fun v H1=>∃z:Str,v=.str z∧(((⟨#[c]⟩ : Str) == z)=false)∧x.length+(x.length+1) * z.length≤16777216∧
   tRep i j te cs D ((σ.set j (some (.str ⟨#[c]⟩))).set i (some (.str (Txt.replace x ⟨#[c]⟩ z)))) H1):tRep i j te (c::cs) D σ H:=⟨x,e,h⟩
end
end L2
namespace L2
open PySem PySem.Spec PyProof.Rows
section
variable {ix:List Nat} {tc:TT} {te:TE} {σ:St} {H:Hp} {Q:VK}
end
def MeS1 (P:Program) (w:World) (K:PySem.W.Frag) (mg:Str→Option Value) (base:Heap) (k:Nat) (C:Addr) (m:Str) (ps:List Str) (sp:Sp):Prop:=Cls K C∧∃f fd,FnOk P w K mg base (CX1 P w) k f fd ps sp∧ZaL K fd ps []∧Meth K C m f
section
variable {X:Cx} {k k':Nat} {m:Str} {ps:List Str} {sp:Sp} {e o:Expr} {es:List Expr} {ta:TE} {t:TA} {pos apos:Pos}
end
end L2
namespace L2
open PySem PySem.Spec PyProof.Rows
section
variable {X:Cx}
end
section
variable {X:Cx} {x x':Str} {ns:List Str} {ix:List Nat} {sc scope:Scope} {N:List Str} {elt iter:Expr} {px px' tp pos:Pos} {tk:Nat} {ifs:List Expr} {tc:TT} {te:TE} {wi:TI}
end
section
variable {ix:List Nat} {tc:TT} {te:TE} {σ:St} {H:Hp} {Q:VK} {K:PySem.W.Frag}
end
section
variable {X:Cx} {k k':Nat} {m:Str} {ps:List Str} {sp:Sp} {e o:Expr} {es:List Expr} {ta:TE} {t:TA} {pos apos:Pos} {E:XK}
abbrev tDyP (D:Addr→Prop) (m:Str) (sp:Sp) (E:XK) (ta:TE) (t:TA):TE:=fun σ H Q=>ta σ H fun x H1=>∃a C dx fs,x=.ref a∧H1 a=some (.ins C dx fs)∧D C∧fs.lookup m=none∧
 t σ H1 fun vs H2=>H2 a=some (.ins C dx fs)∧sp (x::vs) H2 Q E
theorem ZC7 {pl:Sem Bool} {D:Addr→Prop} (hp:Zi0 (CX1 X.prog X.w) X E) (hD:∀C,D C→MeS1 X.prog X.w X.K X.mg X.base k C m ps (spAt sp C)) (hr:Room k' X.A) (ho:PE X o ta) (ha:PA X (e::es) t) (hk:k≤k':=by omega)
  (hst:starEach (e::es) X.env=(false,eval e X.env)::starEach es X.env:=by rfl) (hpl:(backTo pos (starEach es X.env)).any (·.1)=false:=by rfl)
  (ht:eval (.Call (.Attribute o m apos) (e::es) [] pos) X.env=(do
   let ov ←eval o X.env
   standAt apos.atName
   let (f,first) ←holding [ov] (getMethod ov m pl)
   callWith pos f first (backTo pos (starEach (e::es) X.env)) (backToKw pos (keywordEach [] X.env))):=by rfl) :
  PE X (.Call (.Attribute o m apos) (e::es) [] pos) (tDyP D m sp E ta t):=by
 intro pins s σ H Q I h;refine PySem.W.methodCall_KW (pl:=pl) (thn (ho pins s σ H _ I h) fun u s1 ⟨x,H1,I1,rx,a,C,dx,fs,ex,ea,hC,l,q⟩=>?_) ht;subst ex;obtain rfl:u=Value.ref a:=rx;obtain⟨c,f,fd,F,hb,hm⟩:=hD C hC;refine ZkZ I1 ea c hm l ?_;refine PySem.W.callWith_K (first:=[.ref a]) (h₀:=X.base) I.ok.mod.kin hm.kp (thn (ha pos pins s1 σ H1 _ I1 q) fun us s2 ⟨vs,H2,I2,r,eb,q2⟩=>⟨I2.kIn,?_⟩) hst hpl;exact ZtJ (us:=.ref a::us) (vs:=.ref a::vs) (dvs:=[]) (E:=E) F (hr.mono hk) hb .nil hp I2 (.cons rfl r) (by rw[List.append_nil]; exact⟨q2,a,dx,fs,vs,rfl,eb⟩)
theorem ZCg {D:Addr→Prop} {σ:St} {H:Hp} {Q:VK} (h:ta σ H fun x H1=>∃a C dx fs,x=.ref a∧H1 a=some (.ins C dx fs)∧D C∧fs.lookup m=none∧
 t σ H1 fun vs H2=>H2 a=some (.ins C dx fs)∧sp (x::vs) H2 Q E):tDyP D m sp E ta t σ H Q:=h
end
section
variable {X:Cx} {a:Expr} {ta:TE} {pos:Pos}
end
end L2
namespace L2
open PySem PySem.Spec PyProof.Rows
section
variable {X:Cx} {pins:List (Addr×Obj)} {σ:St} {H:Hp} {s:Shared} {h':Heap}
theorem Inv.forgot1 {t':Nat} {i:Nat} {n:Str} {m:Str→Option Value} {v0:Option Value} (I:Inv X pins σ H s) (hN:X.N.Nodup) (hi:X.N[i]?=some n)
  (hl:∀(j:Nat) (x:Str) (v:V),X.N[j]?=some x→σ[j]?=some (some v)→Vis X.env.scope x→∃u,RelV v u∧Look X.env s.heap m x u)
  (hn':h'.Ns X.env.locals (fun x=>if x=n then v0 else m x)) (hs:Heap.SameBut X.env.locals s.heap h'):Inv X pins (σ.set i none) H { s with heap:=h',toks:=t' }:=by
 have J:=I.forgot (t':=t') hn' hs;refine⟨J.ok,J.os,J.bare,J.base,⟨_,hn',fun j y v' e1 e2 e3=>?_⟩,J.cell,J.free,J.freeC,J.pin,J.hok,by rw[List.length_set]; exact I.len⟩
 have hji:j≠i:=fun e=>by
  subst e;rw[List.getElem?_set]at e2
  split at e2
  ·split at e2 <;> cases e2
  ·rename_i z; exact z rfl
 rw[List.getElem?_set,if_neg (Ne.symm hji)]at e2
 have hyn:y≠n:=fun e=>by
  subst e;have hjl:=(List.getElem?_eq_some_iff.mp e1).1;exact hji ((List.getElem?_inj hjl hN).mp (e1.trans hi.symm))
 obtain⟨u,r,l⟩:=hl j y v' e1 e2 e3;refine⟨u,r,?_⟩
 rcases l with⟨k1,k2⟩ | ⟨k1,c,k2,k3⟩
 ·exact .inl ⟨k1,by show(if y=n then v0 else m y)=_; rw[if_neg hyn]; exact k2⟩
 ·obtain⟨o,ho,hd⟩:=k3
  exact .inr ⟨k1,c,k2,⟨o,(hs.2 c (I.cne y c k2)).trans ho,hd⟩⟩
end
def tAsN (K:PySem.W.Frag) (i:Nat) (ts:Addr→Addr→TS):Addr→TS:=fun C D σ H=>ExcK K C∧∀ea,ts ea C { nx:=fun σ' H'=>D.nx (σ'.set i none) H',rt:=D.rt } (σ.set i (some (.ref ea))) H
section
variable {X:Cx} {N:Str} {C':Addr} {np pos:Pos} {b₀:Stmt} {suite:List Stmt} {rest:List ExceptHandler} {ts tr:Addr→TS}
theorem Zwr {i:Nat} {n:Str} {ts:Addr→Addr→TS} (cn:Clause X N C') (hN:X.N.Nodup) (hi:X.N[i]?=some n) (hx:X.env.scope.names.lookup n=some .local)
  (hs:∀ea oe C pn',(ea,oe)∈pn'→oe.cls=.ref C→oe.dict=none→PySem.W.notCls oe=true→ExcK X.K C→PSs (X.hand ea pn') (b₀::suite) (ts ea C)) (hr:PH X rest tr) :
  PH X (.ExceptHandler (some (.Name N np)) (some n) (b₀::suite) pos::rest) (ZDV X.K C' (tAsN X.K i ts) tr):=by
 intro pins s σ H D ea T C c h;obtain⟨b,eb,h1,h2⟩:=h;obtain⟨oe,IA,nc⟩:=c.inst;have J:=c.hand IA nc;refine wpAny_handleBy_cons (codeAny_handlers_test (ZhZ (X:=X.hand ea (X.pn++pins++[(ea,oe)])) J cn.gl cn.mg ?_ cn.db)) (by intro q; cases q);obtain⟨hp,g,d,t,os⟩:=s;refine Zsh c.inv.kIn IA cn.ty cn.cl cn.mb eb ?_
 cases b with
 | false=>exact hr pins _ σ H D ea T C c (h2 rfl)
 | true=>
  refine codeAny_handlers_suite_as (Zpd c fun h' c'=>?_);obtain⟨oe',IA',nc'⟩:=c'.inst;have J':=c'.hand IA' nc';refine Zp5 (X:=X.hand ea (X.pn++pins++[(ea,oe')])) (v:=.ref ea) J' hN hi (.inl hx) rfl (fun s1 I1=>?_) (.inr hx)
  have hd:oe'.dict=none:=by
   have z:=IA'.dict
   cases q:oe'.dict with
   | none=>rfl
   | some y=>rw[q]at z; exact z.elim
  refine wpAny_mono (hs ea oe' C _ (List.mem_append_right _ (List.mem_singleton.mpr rfl)) IA'.cls hd IA'.no (h1 rfl).1 [] _ _ H _ I1 ((h1 rfl).2 ea)) (fun f s2 q=>?_) fun _ _ z=>False.elim z;have q':=SP.unhand c.inv.ok q
  cases f with
  | next=>
   obtain⟨σ',H',I2,z⟩:=q';obtain⟨m,hn,hl⟩:=id I2.loc;refine wpAny_nameGoes_keeps hx hn (by rw[I2.ok.kind]; rfl) fun h3 m3 hn3 hs3=>?_;exact⟨_,H',I2.forgot1 (t':=s2.toks+1) hN hi hl hn3 hs3,z⟩
  | brk=>obtain⟨_,_,_,z⟩:=q'; exact False.elim z
  | cont=>obtain⟨_,_,_,z⟩:=q'; exact False.elim z
  | ret u=>
   obtain⟨v,σ',H',I2,r,z⟩:=q';obtain⟨m,hn,_⟩:=id I2.loc;refine wpAny_nameGoes hx hn (by rw[I2.ok.kind]; rfl) fun h3 m3 hn3 hs3=>?_;exact⟨v,_,H',I2.forgot (t':=s2.toks+1) hn3 hs3,r,z⟩
theorem ZAg {K:PySem.W.Frag} {i:Nat} {ts:Addr→Addr→TS} {C:Addr} {D:Ends} {σ:St} {H:Hp} (e:ExcK K C) (h:∀ea,ts ea C { nx:=fun σ' H'=>D.nx (σ'.set i none) H',rt:=D.rt } (σ.set i (some (.ref ea))) H):tAsN K i ts C D σ H:=⟨e,h⟩
end
end L2
namespace L2
open PySem PySem.Spec PyProof.Rows
section
variable {X:Cx}
end
section
variable {X:Cx} {e:Expr} {td:TE} {st:Stmt} {t:TS}
end
theorem ZpM {X:Cx} {a b c d:Str} {i j k l:Nat} {p q r o:Pos} {es:List Expr} {t:TA} (h:PA X es t):PA X (.Constant (.str a) i p::.Constant (.str b) j q::.Constant (.str c) k r::.Constant (.str d) l o::es) (Zow (tC (.str a)) (Zow (tC (.str b)) (Zow (tC (.str c)) (Zow (tC (.str d)) t)))):=
 Zaa Zai (Zaa Zai (Zaa Zai (Zaa Zai h)))
end L2
namespace PySem
open Sem (wp)
section
variable {prog:Program} {w:World} {A:Around} {E:Value→Shared→Prop} {s:Shared}
open PySem.W in
end
section
variable {prog:Program} {w:World} {K:Type} [DecidableEq K] {knd:HeapKind prog w K} {A:Around} {E:Value→Shared→Prop} {s:Shared}
end
end PySem
namespace L2
open PySem PySem.Spec PyProof.Rows
section
variable {X:Cx}
end
section
variable {σ:St} {H:Hp} {Q:VK} {D:Ends} {g:TG} {tb:TS} {ix:List Nat} {tc:TT} {te:TE}
theorem ZCe {td ty:TE} (h:td σ H fun x H1=>ty σ H1 fun y H2=>∃a v,x=.ref a∧DGet H2 a y (some v)∧Q v H2):ZDT td ty σ H Q:=h
end
end L2
namespace L2
open PySem PySem.Spec PyProof.Rows
section
variable {X:Cx} {k k':Nat} {x:Str} {ps:List Str} {sp:Sp} {e:Expr} {es:List Expr} {t:TA} {pos p:Pos} {E:XK}
def tFnP (sp:Sp) (E:XK) (t:TA):TE:=fun σ H Q=>t σ H fun vs H1=>sp vs H1 Q E
theorem Zfx (hp:Zi0 (CX1 X.prog X.w) X E) (G:FnS1 X.prog X.w X.K X.mg X.base k x ps sp) (hr:Room k' X.A) (ha:PA X (e::es) t) (hk:k≤k':=by omega) (hg:Gl X x:=by rfl) (hdb:(x == ("__debug__" : Str))=false:=by decide)
  (he:starEach (e::es) X.env=(false,eval e X.env)::starEach es X.env:=by rfl) (hpl:(backTo pos (starEach es X.env)).any (·.1)=false:=by rfl):PE X (.Call (.Name x p) (e::es) [] pos) (tFnP sp E t):=by
 obtain⟨f,fd,F,hb,kp,hm⟩:=G;have z:=ZsQ (p:=p) (pos:=pos) F (hr.mono hk) hg hm kp hb .nil hp ha hdb he hpl;intro pins s σ H Q I h;refine z pins s σ H Q I ?_;show t σ H fun vs H1=>sp (vs++[]) H1 Q E;simp only [List.append_nil];exact h
theorem ZEb {σ:St} {H:Hp} {Q:VK} (h:t σ H fun vs H1=>sp vs H1 Q E):tFnP sp E t σ H Q:=h
end
def isTx (z:Str):Value→Bool
 | .str a _=>a == z
 | _=>false
section
variable {X:Cx}
def Zwz:V→List V→Hp→VK→Prop:=fun x vs H Q=>∃(l:Addr) (ns:List Str) (z:Str) (j:Nat),x=.ref l∧vs=[.str z]∧H l=some (.lst (ns.map V.str))∧ns[j]?=some z∧(∀m,m < j→ns[m]?≠some z)∧j < 1000000∧Q (.int (j:Int)) H
theorem Zkx:MtM X "list.index" Zwz:=by
 intro pins s σ H x vs v us Q I rx rv h;obtain⟨l,ns,z,j,rfl,rfl,hH,hj,hno,hz,q⟩:=h
 cases rx
 obtain⟨u,rfl,ru⟩:=rv.one;obtain⟨tu,rfl⟩:=(show ∃t,u=Value.str z t from ru);obtain⟨_,its,n,r,hl,e⟩:=I.lstM hH
 have at':∀m (hm:m < its.toArray.size),∃a t,ns[m]?=some a∧its.toArray[m]=Value.str a t:=fun m hm=>by
  rw[List.size_toArray]at hm
  have hn:m < ns.length:=by
   have:=r.length;rw[List.length_map]at this;omega
  obtain⟨w',hw,rw'⟩:=r.get (i:=m) (x:=V.str ns[m]) (by rw[List.getElem?_map,List.getElem?_eq_getElem hn]; rfl);obtain⟨t,ht⟩:=(show ∃t,w'=Value.str ns[m] t from rw');refine⟨ns[m],t,List.getElem?_eq_getElem hn,?_⟩;rw[List.getElem?_eq_getElem hm]at hw;rw[List.getElem_toArray,Option.some.inj hw,ht]
 have hjl:j < its.toArray.size:=by
  have h1:=(List.getElem?_eq_some_iff.mp hj).1;have:=r.length;rw[List.length_map]at this;rw[List.size_toArray];omega
 refine call_meets F.slot_list_index ⟨_,e,rfl⟩ F.entry_list_index (F.args_list_index_2 _ _) (MeetsSeq.list_index l its.toArray n (.str z tu) (isTx z) (fun y hy=>?_) j hjl (by omega) ?_ (fun m hm hlt=>?_)) ⟨e,⟨.int (j:Int),H,I.tok _,⟨_,rfl⟩,q⟩⟩
 ·obtain⟨m,hm,rfl⟩:=Array.mem_iff_getElem.mp hy
  obtain⟨a,t,_,e2⟩:=at' m hm;rw[e2];exact eqGives_str a z t tu
 ·obtain⟨a,t,h1,e2⟩:=at' j hjl
  rw[e2];rw[hj]at h1
  cases h1
  show(z == z)=true;exact beq_self_eq_true z
 ·obtain⟨a,t,h1,e2⟩:=at' m hm
  rw[e2];show(a == z)=false;have ne:a≠z:=fun y=>hno m hlt (by rw[h1,y]);exact beq_false_of_ne ne
end
section
variable {H:Hp} {Q:VK}
theorem Zm2 {l:Addr} {ns:List Str} {z:Str} {j:Nat} (h:H l=some (.lst (ns.map V.str))) (hj:ns[j]?=some z) (hno:∀m,m < j→ns[m]?≠some z) (hz:j < 1000000) (q:Q (.int (j:Int)) H):Zwz (.ref l) [.str z] H Q:=⟨l,ns,z,j,rfl,rfl,h,hj,hno,hz,q⟩
end
end L2
namespace L2
open PySem PySem.Spec PyProof.Rows
def PEt (X:Cx) (e:Expr) (t:TE):Prop:=∀(pins:List (Addr×Obj)) (s:Shared) (σ:St) (H:Hp) (Q:VK),Inv X pins σ H s→0 < s.toks→t σ H Q→wpAny (model X.prog X.w) X.A (eval e X.env) (EP X pins σ Q) X.xe s
def ZDY (to:TE) (y z:Str):TE:=fun σ H Q=>to σ H fun v H1=>∃x:Str,v=.str x∧(y == z)=false∧x.length+(x.length+1) * z.length≤16777216∧Q (.str (Txt.replace x y z)) H1
section
variable {X:Cx}
theorem ZDc {e:Expr} {t:TE} (h:PE X e t):PEt X e t:=fun pins s σ H Q I _ q=>h pins s σ H Q I q
theorem ZsR {o:Expr} {to:TE} {y z:Str} {i j:Nat} {p q ap cp:Pos} (ho:PEt X o to)
  (hbase:attributeBase o "replace" X.env (eval o X.env)=eval o X.env:=by rfl)
  (hfew:((backTo cp (starEach [.Constant (.str y) i p,.Constant (.str z) j q] X.env)).all (fun x=>!x.1) && (backToKw cp (keywordEach [] X.env)).all (fun x=>x.1.isSome)
   && decide ([Expr.Constant (.str y) i p,.Constant (.str z) j q].length+([]:List Keyword).length+(if ([]:List Keyword).isEmpty then 0 else 1) < 30))=true:=by rfl)
  (hline:(ap.endLine == cp.line)=true:=by rfl) (h1:starEach [.Constant (.str y) i p,.Constant (.str z) j q] X.env=[(false,eval (.Constant (.str y) i p) X.env),(false,eval (.Constant (.str z) j q) X.env)]:=by rfl) :
  PEt X (.Call (.Attribute o "replace" ap) [.Constant (.str y) i p,.Constant (.str z) j q] [] cp) (ZDY to y z):=by
 intro pins s σ H Q I htk h;refine wpAny_Call_method_late hbase hfew hline rfl (wpAny_mono (wpAny_toks_of (n:=1) htk (ho pins s σ H _ I htk h)) (fun v s1 hv=>?_) fun _ _ y=>y.2);obtain⟨tk1,w',H1,I1,r1,x,rfl,hz,hlen,q1⟩:=hv;obtain⟨t,rfl⟩:=r1;obtain⟨t1,t2⟩:=ZtP (T:="str") I1 (x:=.str x) ⟨t,rfl⟩ tyS;refine⟨"str","str.replace",F.plainAttrs_str,F.slot_str_replace,F.type_str_replace,t1,t2,?_⟩;rw[h1];refine Calls.callWith_builtin rfl (Calls.evalArgs_plain (Calls.spliced_cons (Calls.Constant_str (k:=i) (pos:=p) (Calls.spliced_cons (Calls.Constant_str (k:=j) (pos:=q) (Calls.spliced_nil ?_))))));refine SC.replace (Nat.ne_of_gt tk1) (Nat.succ_ne_zero _) (Nat.ne_of_lt (Nat.lt_succ_self _)) hz hlen fun t' k'=>?_;exact⟨.str (Txt.replace x y z),H1,I1.tok k',⟨t',rfl⟩,q1⟩
theorem ZBa {e:Expr} {t:TE} {pos:Pos} (h:PEt X e t):PSt X (.Return (some e) pos) (tRet t):=fun pins s σ H D I htk q=>wpAny_Return_some (thn (h pins s σ H _ I htk q) fun u s1 ⟨v,H1,I1,r,z⟩=>⟨v,σ,H1,I1,r,z⟩)
theorem Zym {st:Stmt} {t:TS} (h:PSt X st t):PSst X [st] t:=by
 intro pins s σ H D I htk q;refine wpAny_execs_cons (thn (h pins s σ H D I htk q) fun f s1 q=>?_)
 cases f with
 | next=>exact wpAny_execs_nil q
 | ret v=>exact q
 | brk=>exact q
 | cont=>exact q
theorem ZCt {to:TE} {y z:Str} {σ:St} {H:Hp} {Q:VK} (h:to σ H fun v H1=>∃x:Str,v=.str x∧(y == z)=false∧x.length+(x.length+1) * z.length≤16777216∧Q (.str (Txt.replace x y z)) H1):ZDY to y z σ H Q:=h
end
section
variable {X:Cx}
def ZEu:R2:=fun x y H Q=>ZBb x y H Q∨ZDq x y H Q
theorem ZsN:OpR X (binaryOp .Mult) ZEu:=OpR.or Zh3 ZAT
end
end L2
open PySem L2
abbrev Stp (G N:Prop):=G=N→N→G
local macro_rules | `(tactic| walk_at "side") => `(tactic| first | omega | (show (_ : Int) < _; omega) | exact ⟨by omega, by omega⟩ | exact ⟨by omega, by omega, by decide⟩)
local macro_rules | `(tactic| walk_at $z:str) => do
  let z:=z.getString
  unless ["rd","rs",""].contains z do Lean.Macro.throwUnsupported
  let f:=fun (s:String)=>((s.splitOn " ").toArray.map fun x=>Lean.mkIdent x.toName)
  let a←(f ((if z=="rs" then "" else "ZqM ZCe ZEb ZCt ")++"ZCh ZCi Zzn ZCx ZCo ZvA Zy7 Zy6 Zy8 Zth Zvz ZCs ZyZ i_rU Zy3 Zy4 Zzf Zzg ZAh ZAi ZAo ZAp Zza ZAm")).mapM fun i=>`(tactic|refine $i ?_)
  let t←`(tactic| first
 | ((with_reducible refine' ZCy ?hv ?_); (case hv=>exact rfl))
 | ((with_reducible refine Zze ?_); (try dsimp only [List.set_cons_succ,List.set_cons_zero]))
 | (with_reducible first $[| $a:tactic]*)
 | ((with_reducible refine i_rI ?hc ?_); (case hc=>walk_at "side"))
 | ((with_reducible refine' Zzd ?hc ?_); (case hc=>assumption))
 | ((with_reducible refine' Zzc ?hc ?_); (case hc=>assumption))
 | ((with_reducible refine' Zzb ?ht ?he ?_); (case ht=>first | exact TyOf.bl _ | exact TyOf.int _ | exact TyOf.str _ | exact TyOf.non | exact TyOf.lst (by assumption) | exact TyOf.tup (by assumption)); (case he=>first | exact Ztp _ _)))
  let c←`(tactic| try (refine' (?wf:Stp _ _) ?we ?_; (case we=>(with_reducible conv=>lhs;whnf)); (case wf=>with_reducible exact fun _ h=>h)))
  `(tactic| ($c:tactic; repeat ($t:tactic; $c:tactic)))
local macro_rules | `(tactic| walk_at "hp") => `(tactic| first | assumption | solve_by_elim (maxDepth := 16) only [*, Zaf])
local macro_rules | `(tactic| walk_at "rd0") => `(tactic| ((try dsimp only [cxOf]); (try simp only [L2.start, List.map_cons, List.map_nil, List.length_cons, List.length_nil, Nat.reduceAdd, Nat.reduceSub, List.replicate_zero, List.append_nil, List.cons_append, List.nil_append, List.replicate_succ]); walk_at "rd"))
local macro_rules | `(tactic| walk_at "rs0") => `(tactic| ((try dsimp only [cxOf]); (try simp only [L2.start, List.map_cons, List.map_nil, List.length_cons, List.length_nil, Nat.reduceAdd, Nat.reduceSub, List.replicate_zero, List.append_nil, List.cons_append, List.nil_append, List.replicate_succ]); walk_at "rs"))
local macro_rules | `(tactic| walk_at "tst") => `(tactic| (walk_at "rd"; repeat ((first | refine Zbn (decide_eq_true (by omega)) ?_ | refine Za7 (decide_eq_false (by omega)) ?_ | refine Za7 rfl ?_ | refine Zbn rfl ?_ | refine ⟨_, rfl, ?_⟩); walk_at "rd")))
open PySem L2
theorem lnZ1 {A:Type} {P:List A→Prop} (h:∀a,P [a]):∀u:List A,u.length=1→P u|[_],_=>h _
theorem lnZ2 {A:Type} {P:List A→Prop} (h:∀a b,P [a,b]):∀u:List A,u.length=2→P u|[_,_],_=>h _ _
theorem lnZ3 {A:Type} {P:List A→Prop} (h:∀a b c,P [a,b,c]):∀u:List A,u.length=3→P u|[_,_,_],_=>h _ _ _
theorem lnZ4 {A:Type} {P:List A→Prop} (h:∀a b c d,P [a,b,c,d]):∀u:List A,u.length=4→P u|[_,_,_,_],_=>h _ _ _ _
theorem lnZ5 {A:Type} {P:List A→Prop} (h:∀a b c d e,P [a,b,c,d,e]):∀u:List A,u.length=5→P u|[_,_,_,_,_],_=>h _ _ _ _ _
local macro_rules | `(tactic| walk_at "b") => `(tactic| (intro _ _ _ _ _ _; first | exact lnZ1 (fun _=>rfl) | exact lnZ2 (fun _ _=>rfl) | exact lnZ3 (fun _ _ _=>rfl) | exact lnZ4 (fun _ _ _ _=>rfl) | exact lnZ5 (fun _ _ _ _ _=>rfl)))
local macro_rules | `(tactic| walk_at "sc") => `(tactic| exact ⟨rfl, rfl, rfl, by decide +kernel, rfl, by decide +kernel, by decide +kernel⟩)
namespace LW
open PySem L2 EM
open List (all_eq_true any_cons append_assoc append_nil cons_append count_append count_cons_self count_eq_zero drop_zero filterMap_append getD_eq_getElem?_getD getElem?_append_left getElem?_drop getElem?_map getLast?_cons_of_ne_nil length_append length_cons length_drop length_eq_zero_iff length_map length_nil length_set length_singleton length_take map_append map_congr_left map_cons map_drop map_map map_nil map_set map_take mem_append mem_cons mem_cons_of_mem mem_cons_self mem_map mem_of_getElem? mem_of_mem_take mem_singleton nil_append nodup_append nodup_cons nodup_nil not_mem_nil set_cons_succ set_cons_zero sum_cons take_length take_nil take_zero)
def top (i:Nat):Stmt:=PySem.Challenge.pw_evernever_k19_lines_refused.main.body.getD i (.Pass ⟨0,0,0,0⟩)
abbrev ZjC:Stmt:=top 19
abbrev Zs0:Stmt:=top 32
abbrev ZpU:Stmt:=top 35
abbrev ZjD:Stmt:=top 36
abbrev ZsZ:Stmt:=top 37
abbrev ZpV:Stmt:=top 38
abbrev Zig:Stmt:=top 40
abbrev Zgn:Stmt:=top 46
abbrev ZnE:Stmt:=top 47
abbrev ZfC:Stmt:=top 48
abbrev ZdT:Stmt:=top 49
abbrev ZjE:Stmt:=top 50
abbrev Zhj:Stmt:=top 51
abbrev Zif:Stmt:=top 52
abbrev Zie:Stmt:=top 53
abbrev Zlm:Stmt:=top 54
abbrev Zll:Stmt:=top 55
abbrev ZnD:Stmt:=top 56
abbrev Zln:Stmt:=top 57
abbrev ZeQ:Stmt:=top 58
abbrev Zih:Stmt:=top 59
abbrev Zgk:Stmt:=top 61
abbrev Zia:Stmt:=top 62
abbrev Zgl:Stmt:=top 63
abbrev ZjA:Stmt:=top 64
abbrev Zib:Stmt:=top 65
abbrev Zhi:Stmt:=top 66
abbrev Zic:Stmt:=top 67
abbrev Zjx:Stmt:=top 68
abbrev Zhh:Stmt:=top 69
abbrev Zjz:Stmt:=top 70
abbrev Zjy:Stmt:=top 71
abbrev Zhg:Stmt:=top 72
abbrev Zgm:Stmt:=top 73
abbrev Zcz:Stmt:=top 74
abbrev Zeq:Stmt:=top 75
abbrev Zid:Stmt:=top 76
abbrev ZeP:Stmt:=top 77
abbrev ZjB:Stmt:=top 78
abbrev Zor:Stmt:=top 79
abbrev Zju:Stmt:=ZbP (top 16) 0
abbrev Zgi:Stmt:=ZbP (top 17) 0
abbrev Zdl:Stmt:=ZbP (top 20) 0
abbrev Zjt:Stmt:=ZbP (top 21) 0
abbrev Zh6:Stmt:=ZbP (top 21) 4
abbrev Zjw:Stmt:=ZbP (top 22) 0
abbrev Zh9:Stmt:=ZbP (top 22) 4
abbrev Zlk:Stmt:=ZbP (top 23) 0
abbrev Zjv:Stmt:=ZbP (top 23) 4
abbrev Zhe:Stmt:=ZbP (top 24) 0
abbrev Zgh:Stmt:=ZbP (top 24) 2
abbrev ZfB:Stmt:=ZbP (top 25) 0
abbrev Zhd:Stmt:=ZbP (top 25) 1
abbrev ZdS:Stmt:=ZbP (top 26) 0
abbrev ZeO:Stmt:=ZbP (top 26) 1
abbrev Zgj:Stmt:=ZbP (top 27) 0
abbrev Zh8:Stmt:=ZbP (top 27) 1
abbrev Zh7:Stmt:=ZbP (top 39) 0
abbrev Zeo:Stmt:=ZbP (top 39) 1
abbrev Zen:Stmt:=ZbP (top 39) 2
abbrev Zep:Stmt:=ZbP (top 39) 3
abbrev Zhf:Stmt:=ZbP (top 39) 4
theorem Zru:FnScope ["part","text","bound"] ["part","text","bound"] (Zaj ZjC):=by walk_at "sc"
theorem ZmE:FnScope ["text","sign","spaced","mark"] ["text"] (Zaj Zs0):=by walk_at "sc"
theorem ZwH:FnScope ["parts"] ["parts"] (Zaj ZpU):=by walk_at "sc"
theorem Zrv:FnScope ["parts"] ["parts"] (Zaj ZjD):=by walk_at "sc"
theorem Zyu:FnScope ["parts"] ["parts"] (Zaj ZsZ):=by walk_at "sc"
theorem ZwI:FnScope ["word","names"] ["word","names"] (Zaj ZpV):=by walk_at "sc"
theorem Zfb:FnScope ["found","names","levels","word","level"] ["found","names"] (Zaj Zig):=by walk_at "sc"
theorem ZdV:FnScope ["move","names","pieces","lamp","formula"] ["move","names"] (Zaj Zgn):=by walk_at "sc"
theorem Zfk:FnScope ["machine","names","lines","formula","move"] ["machine"] (Zaj ZnE):=by walk_at "sc"
theorem ZhB:FnScope ["line","found"] ["line"] (Zaj ZfC):=by walk_at "sc"
theorem Zdm:FnScope ["found","pieces","word"] ["found"] (Zaj ZdT):=by walk_at "sc"
theorem Zrw:FnScope ["found"] ["found"] (Zaj ZjE):=by walk_at "sc"
theorem Zov:FnScope ["found"] ["found"] (Zaj Zhj):=by walk_at "sc"
theorem ZkJ:FnScope ["found","piece"] ["found"] (Zaj Zif):=by walk_at "sc"
theorem Zp0:FnScope ["found"] ["found"] (Zaj Zie):=by walk_at "sc"
theorem Zhn:FnScope ["found","names","at","name"] ["found"] (Zaj Zlm):=by walk_at "sc"
theorem Zhm:FnScope ["pieces","names","lamps","piece","name"] ["pieces","names"] (Zaj Zll):=by walk_at "sc"
theorem Zer:FnScope ["found","names","pieces","lamps","guard","changes","lamp","piece"] ["found","names"] (Zaj ZnD):=by walk_at "sc"
theorem Zs2:FnScope ["found","names"] ["found","names"] (Zaj Zln):=by walk_at "sc"
theorem ZgJ:FnScope ["line","found"] ["line"] (Zaj ZeQ):=by walk_at "sc"
theorem ZcZ:FnScope ["lines","names","things","sort","line","found"] ["lines"] (Zaj Zih):=by walk_at "sc"
theorem ZnH:FnScope ["_law_script","_law_k"] ["_law_script","_law_k"] (Zaj Zgk):=by walk_at "sc"
theorem Zhk:FnScope ["_law_name_here","_law_names_here","_law_some"] ["_law_name_here","_law_names_here"] (Zaj Zia):=by walk_at "sc"
theorem ZbL:FnScope ["_law_seed","_law_size","_law_some","_law_name_here","_law_state","_law_k"] ["_law_seed","_law_size"] (Zaj Zgl):=by walk_at "sc"
theorem Zb6:FnScope ["_law_k","_law_cell","_law_some","_law_way","_law_size","_law_word","_law_place","_law_at"] ["_law_k","_law_cell"] (Zaj ZjA):=by walk_at "sc"
theorem Zhl:FnScope ["_law_many","_law_cell","_law_names_here","_law_k"] ["_law_many","_law_cell"] (Zaj Zib):=by walk_at "sc"
theorem Za9:FnScope ["_law_some","_law_seed","_law_line","_law_last","_law_state","_law_word","_law_gap"] ["_law_some","_law_seed"] (Zaj Zhi):=by walk_at "sc"
theorem ZkI:FnScope ["_law_some","_law_line"] ["_law_some"] (Zaj Zic):=by walk_at "sc"
theorem Zf6:FnScope ["_law_cell","_law_names_here","_law_one","_law_other","_law_join"] ["_law_cell","_law_names_here"] (Zaj Zjx):=by walk_at "sc"
theorem ZeB:FnScope ["_law_cell","_law_names_here","_law_first","_law_pieces_here","_law_second"] ["_law_cell","_law_names_here"] (Zaj Zhh):=by walk_at "sc"
theorem Zf7:FnScope ["_law_guard","_law_pieces_here","_law_some","_law_piece"] ["_law_guard","_law_pieces_here"] (Zaj Zjz):=by walk_at "sc"
theorem Zb5:FnScope ["_law_script","_law_names_here","_law_first","_law_lines","_law_k","_law_guard","_law_pieces_here"] ["_law_script","_law_names_here"] (Zaj Zjy):=by walk_at "sc"
theorem Zgo:FnScope ["_law_names_here","_law_cell","_law_form_here","_law_name_here"] ["_law_names_here","_law_cell"] (Zaj Zhg):=by walk_at "sc"
theorem Zij:FnScope ["_law_names_here","_law_cell","_law_name_here"] ["_law_names_here","_law_cell"] (Zaj Zgm):=by walk_at "sc"
theorem ZaK:FnScope ["_law_names_here","_law_way","_law_cell","_law_some","_law_count","_law_place","_law_word","_law_step"] ["_law_names_here","_law_way","_law_cell"] (Zaj Zcz):=by walk_at "sc"
theorem Za0:FnScope ["_law_names_here","_law_way","_law_cell","_law_more","_law_guard","_law_marks","_law_pieces_here","_law_place"] ["_law_names_here","_law_way","_law_cell","_law_more"] (Zaj Zeq):=by walk_at "sc"
theorem Zfa:FnScope ["_law_names_here","_law_way","_law_cell","_law_more","_law_word","_law_some"] ["_law_names_here","_law_way","_law_cell","_law_more"] (Zaj Zid):=by walk_at "sc"
theorem Zlp:FnScope ["_law_e"] ["_law_e"] (Zaj ZeP):=by walk_at "sc"
theorem ZeK:FnScope ["_law_lines","_law_told_here","_law_handed","_law_e"] ["_law_lines"] (Zaj ZjB):=by walk_at "sc"
theorem ZeL:FnScope ["_law_script","_law_many","_law_names_here","_law_good_here","_law_way","_law_cell","_law_wrong_here","_law_place","_law_lines","_law_behind","_law_spoilt","_law_due","_law_found","_law_k"] ["_law_script"] (Zaj Zor):=by walk_at "sc"
theorem Zrs:FnScope ["self","guard","changes"] ["self","guard","changes"] (Zaj Zju):=by walk_at "sc"
theorem ZnF:FnScope ["self","names","starts","bads","moves"] ["self","names","starts","bads","moves"] (Zaj Zgi):=by walk_at "sc"
theorem Zc1:FnScope ["self"] ["self"] (Zaj Zdl):=by walk_at "sc"
theorem Zrr:FnScope ["self","at"] ["self","at"] (Zaj Zjt):=by walk_at "sc"
theorem ZpW:FnScope ["self","names"] ["self","names"] (Zaj Zh6):=by walk_at "sc"
theorem Zrt:FnScope ["self","truth"] ["self","truth"] (Zaj Zjw):=by walk_at "sc"
theorem ZpZ:FnScope ["self","names"] ["self","names"] (Zaj Zh9):=by walk_at "sc"
theorem Zs1:FnScope ["self","part"] ["self","part"] (Zaj Zlk):=by walk_at "sc"
theorem Zma:FnScope ["self","names","text"] ["self","names"] (Zaj Zjv):=by walk_at "sc"
theorem Zot:FnScope ["self","parts"] ["self","parts"] (Zaj Zhe):=by walk_at "sc"
theorem ZfD:FnScope ["self","names","texts","part"] ["self","names"] (Zaj Zgh):=by walk_at "sc"
theorem Zmr:FnScope ["self"] ["self"] (Zaj ZfB):=by walk_at "sc"
theorem Zos:FnScope ["self"] ["self"] (Zaj Zhd):=by walk_at "sc"
theorem ZjF:FnScope ["self"] ["self"] (Zaj ZdS):=by walk_at "sc"
theorem Zlo:FnScope ["self"] ["self"] (Zaj ZeO):=by walk_at "sc"
theorem ZnG:FnScope ["self"] ["self"] (Zaj Zgj):=by walk_at "sc"
theorem ZpY:FnScope ["self"] ["self"] (Zaj Zh8):=by walk_at "sc"
theorem ZpX:FnScope ["self"] ["self"] (Zaj Zh7):=by walk_at "sc"
theorem ZdU:FnScope ["self","part","turn"] ["self","part"] (Zaj Zeo):=by walk_at "sc"
theorem ZkG:FnScope ["self","word"] ["self","word"] (Zaj Zen):=by walk_at "sc"
theorem ZkH:FnScope ["self","word","names"] ["self","word","names"] (Zaj Zep):=by walk_at "sc"
theorem Zou:FnScope ["self"] ["self"] (Zaj Zhf):=by walk_at "sc"
def DF (K:W.Frag) (st:Stmt) (nm q:Str) (f:Addr):Prop:=∃d,Fun K nm q st f d
theorem dmk {K:W.Frag} {st:Stmt} {nm q:Str} {f:Addr} {od an:Option Addr} {sl:Array (Option Value)} {oc kV dc pm cd ct:Value} (l:K.lookup f=some ⟨oc,od,.func (W.fnOf nm q (Zjl st) (Zgb st) (Zaj st) .none kV dc pm an cd ct),sl⟩) (c:W.codeIn K cd q=true) (k:W.keepIn K (.ref f)=true):DF K st nm q f:=⟨_,ZyY l c k⟩
set_option genInjectivity false in
structure Ad where
 Zeh:Addr
 Zg6:FuncData
 ZkY:Addr
 Zpf:FuncData
 ZiC:Addr
 Zmx:FuncData
 Zei:Addr
 Zg7:FuncData
 ZkX:Addr
 Zpe:FuncData
 ZiD:Addr
 Zmy:FuncData
 ZdF:Addr
 Zf0:FuncData
 Zcq:Addr
 Zez:FuncData
 Zgz:Addr
 Zj3:FuncData
 Zb1:Addr
 ZdO:FuncData
 Zbv:Addr
 Zcx:FuncData
 Zej:Addr
 Zg8:FuncData
 ZcW:Addr
 Ze3:FuncData
 ZdE:Addr
 ZfZ:FuncData
 ZdD:Addr
 ZfY:FuncData
 Zfh:Addr
 ZiA:FuncData
 Zfg:Addr
 Ziz:FuncData
 Zgy:Addr
 Zj2:FuncData
 Zfi:Addr
 ZiB:FuncData
 ZbU:Addr
 Zdc:FuncData
 ZdG:Addr
 Zf1:FuncData
 Zcn:Addr
 Zew:FuncData
 Zdz:Addr
 ZfU:FuncData
 Zco:Addr
 Zex:FuncData
 Zef:Addr
 Zg4:FuncData
 ZdA:Addr
 ZfV:FuncData
 ZcV:Addr
 Ze2:FuncData
 ZdB:Addr
 ZfW:FuncData
 Zec:Addr
 Zg1:FuncData
 ZcU:Addr
 Ze1:FuncData
 Zee:Addr
 Zg3:FuncData
 Zed:Addr
 Zg2:FuncData
 ZcT:Addr
 Ze0:FuncData
 Zcp:Addr
 Zey:FuncData
 Zbu:Addr
 Zcw:FuncData
 ZbH:Addr
 ZcS:FuncData
 ZdC:Addr
 ZfX:FuncData
 ZbT:Addr
 Zdb:FuncData
 Zeg:Addr
 Zg5:FuncData
 f_law:Addr
 d_law:FuncData
 Zdf:Addr
 ZgY:FuncData
 ZbX:Addr
 Zeu:FuncData
 ZaC:Addr
 Zb9:FuncData
 Zde:Addr
 ZgX:FuncData
 ZcA:Addr
 ZfQ:FuncData
 Zdh:Addr
 Zg0:FuncData
 ZcD:Addr
 ZfT:FuncData
 Zeb:Addr
 Ziy:FuncData
 Zdg:Addr
 ZgZ:FuncData
 Za4:Addr
 ZdN:FuncData
 ZaV:Addr
 Zet:FuncData
 ZbI:Addr
 ZdM:FuncData
 Zca:Addr
 ZeY:FuncData
 Zbf:Addr
 Zcv:FuncData
 Zbw:Addr
 Zda:FuncData
 ZbY:Addr
 Zev:FuncData
 ZcC:Addr
 ZfS:FuncData
 ZcB:Addr
 ZfR:FuncData
 Zbl:Addr
 ZcQ:FuncData
 Zbk:Addr
 ZcP:FuncData
 Zbm:Addr
 ZcR:FuncData
 Zcb:Addr
 ZeZ:FuncData
 Zcu:Addr
 Zav:Addr
 Zbx:Addr
 Zby:Addr
 C_Not:Addr
 C_And:Addr
 ZaI:Addr
 C_Or:Addr
 ZaB:Addr
 Zag:Addr
 Zao:Addr
 Zar:Addr
 Zb7:Addr
 Zba:Addr
 Zbb:Addr
 Zbc:Addr
 ZaJ:Addr
 ZbA:Addr
 Zbd:Addr
 Zaz:Addr
 Zbe:Addr
 ZaR:Addr
 v_JOINS:Addr
 v_NO_NAMES:Addr
 v_SORTS:Addr
structure Txt (K:W.Frag) (mg:Str→Option Value) (t:Ad):Prop where
 Zd7:Fun K "bracketed" "bracketed" ZjC t.Zeh t.Zg6
 ZmR:ZaL K t.Zg6 ["part","text","bound"] []
 Znp:mg "bracketed" = some (.ref t.Zeh)
 ZkP:Fun K "words" "words" Zs0 t.ZkY t.Zpf
 Zu4:ZaL K t.Zpf ["text"] []
 Zv3:mg "words" = some (.ref t.ZkY)
 Ziu:Fun K "and_of" "and_of" ZpU t.ZiC t.Zmx
 Zs9:ZaL K t.Zmx ["parts"] []
 Ztv:mg "and_of" = some (.ref t.ZiC)
 Zd8:Fun K "either_of" "either_of" ZjD t.Zei t.Zg7
 ZmS:ZaL K t.Zg7 ["parts"] []
 Znq:mg "either_of" = some (.ref t.Zei)
 ZkO:Fun K "or_of" "or_of" ZsZ t.ZkX t.Zpe
 Zu3:ZaL K t.Zpe ["parts"] []
 Zv2:mg "or_of" = some (.ref t.ZkX)
 Ziv:Fun K "single" "single" ZpV t.ZiD t.Zmy
 Zta:ZaL K t.Zmy ["word","names"] []
 Ztw:mg "single" = some (.ref t.ZiD)
 Zdx:Fun K "formula_in" "formula_in" Zig t.ZdF t.Zf0
 ZlS:ZaL K t.Zf0 ["found","names"] []
 Zl3:mg "formula_in" = some (.ref t.ZdF)
 Zcm:Fun K "written_move" "written_move" Zgn t.Zcq t.Zez
 Zi6:ZaL K t.Zez ["move","names"] []
 Zjb:mg "written_move" = some (.ref t.Zcq)
 Zgs:Fun K "written" "written" ZnE t.Zgz t.Zj3
 Zqs:ZaL K t.Zj3 ["machine"] []
 Zq9:mg "written" = some (.ref t.Zgz)
 Zb0:Fun K "words_of_line" "words_of_line" ZfC t.Zb1 t.ZdO
 ZhR:ZaL K t.ZdO ["line"] []
 Zh0:mg "words_of_line" = some (.ref t.Zb1)
 Zbt:Fun K "parted_by_commas" "parted_by_commas" ZdT t.Zbv t.Zcx
 ZfP:ZaL K t.Zcx ["found"] []
 Zf4:mg "parted_by_commas" = some (.ref t.Zbv)
 Zd9:Fun K "pieces_in" "pieces_in" ZjE t.Zej t.Zg8
 ZmT:ZaL K t.Zg8 ["found"] []
 Znr:mg "pieces_in" = some (.ref t.Zej)
 ZcO:Fun K "check_lamps" "check_lamps" Zhj t.ZcW t.Ze3
 Zj0:ZaL K t.Ze3 ["found"] []
 Zkv:mg "check_lamps" = some (.ref t.ZcW)
 Zdw:Fun K "check_move" "check_move" Zif t.ZdE t.ZfZ
 ZlR:ZaL K t.ZfZ ["found"] []
 Zl2:mg "check_move" = some (.ref t.ZdE)
 Zdv:Fun K "check_form" "check_form" Zie t.ZdD t.ZfY
 ZlQ:ZaL K t.ZfY ["found"] []
 Zl1:mg "check_form" = some (.ref t.ZdD)
 Zfe:Fun K "names_in" "names_in" Zlm t.Zfh t.ZiA
 ZoA:ZaL K t.ZiA ["found"] []
 ZoM:mg "names_in" = some (.ref t.Zfh)
 Zfd:Fun K "lamps_in" "lamps_in" Zll t.Zfg t.Ziz
 Zoz:ZaL K t.Ziz ["pieces","names"] []
 ZoL:mg "lamps_in" = some (.ref t.Zfg)
 Zgr:Fun K "move_in" "move_in" ZnD t.Zgy t.Zj2
 Zqr:ZaL K t.Zj2 ["found","names"] []
 Zq8:mg "move_in" = some (.ref t.Zgy)
 Zff:Fun K "thing_in" "thing_in" Zln t.Zfi t.ZiB
 ZoB:ZaL K t.ZiB ["found","names"] []
 ZoN:mg "thing_in" = some (.ref t.Zfi)
 ZbS:Fun K "names_of_first" "names_of_first" ZeQ t.ZbU t.Zdc
 Zht:ZaL K t.Zdc ["line"] []
 Zhz:mg "names_of_first" = some (.ref t.ZbU)
 Zdy:Fun K "machine_of" "machine_of" Zih t.ZdG t.Zf1
 ZlT:ZaL K t.Zf1 ["lines"] []
 Zl4:mg "machine_of" = some (.ref t.ZdG)
 Zcj:Fun K "_law_cell_at" "_law_cell_at" Zgk t.Zcn t.Zew
 Zi3:ZaL K t.Zew ["_law_script","_law_k"] []
 Zi8:mg "_law_cell_at" = some (.ref t.Zcn)
 Zdr:Fun K "_law_fresh" "_law_fresh" Zia t.Zdz t.ZfU
 ZlM:ZaL K t.ZfU ["_law_name_here","_law_names_here"] []
 ZlX:mg "_law_fresh" = some (.ref t.Zdz)
 Zck:Fun K "_law_letters" "_law_letters" Zgl t.Zco t.Zex
 Zi4:ZaL K t.Zex ["_law_seed","_law_size"] []
 Zi9:mg "_law_letters" = some (.ref t.Zco)
 Zd5:Fun K "_law_name" "_law_name" ZjA t.Zef t.Zg4
 ZmP:ZaL K t.Zg4 ["_law_k","_law_cell"] []
 Znn:mg "_law_name" = some (.ref t.Zef)
 Zds:Fun K "_law_names" "_law_names" Zib t.ZdA t.ZfV
 ZlN:ZaL K t.ZfV ["_law_many","_law_cell"] []
 ZlY:mg "_law_names" = some (.ref t.ZdA)
 ZcN:Fun K "_law_spaced" "_law_spaced" Zhi t.ZcV t.Ze2
 ZjZ:ZaL K t.Ze2 ["_law_some","_law_seed"] []
 Zku:mg "_law_spaced" = some (.ref t.ZcV)
 Zdt:Fun K "_law_plain" "_law_plain" Zic t.ZdB t.ZfW
 ZlO:ZaL K t.ZfW ["_law_some"] []
 ZlZ:mg "_law_plain" = some (.ref t.ZdB)
 Zd2:Fun K "_law_form" "_law_form" Zjx t.Zec t.Zg1
 ZmM:ZaL K t.Zg1 ["_law_cell","_law_names_here"] []
 Znk:mg "_law_form" = some (.ref t.Zec)
 ZcM:Fun K "_law_pieces" "_law_pieces" Zhh t.ZcU t.Ze1
 ZjY:ZaL K t.Ze1 ["_law_cell","_law_names_here"] []
 Zkt:mg "_law_pieces" = some (.ref t.ZcU)
 Zd4:Fun K "_law_move" "_law_move" Zjz t.Zee t.Zg3
 ZmO:ZaL K t.Zg3 ["_law_guard","_law_pieces_here"] []
 Znm:mg "_law_move" = some (.ref t.Zee)
 Zd3:Fun K "_law_good" "_law_good" Zjy t.Zed t.Zg2
 ZmN:ZaL K t.Zg2 ["_law_script","_law_names_here"] []
 Znl:mg "_law_good" = some (.ref t.Zed)
 ZcL:Fun K "_law_broken" "_law_broken" Zhg t.ZcT t.Ze0
 ZjX:ZaL K t.Ze0 ["_law_names_here","_law_cell"] []
 Zks:mg "_law_broken" = some (.ref t.ZcT)
 Zcl:Fun K "_law_no_lamp" "_law_no_lamp" Zgm t.Zcp t.Zey
 Zi5:ZaL K t.Zey ["_law_names_here","_law_cell"] []
 Zja:mg "_law_no_lamp" = some (.ref t.Zcp)
 Zbs:Fun K "_law_wrong_lamps" "_law_wrong_lamps" Zcz t.Zbu t.Zcw
 ZfO:ZaL K t.Zcw ["_law_names_here","_law_way","_law_cell"] []
 Zf3:mg "_law_wrong_lamps" = some (.ref t.Zbu)
 ZbG:Fun K "_law_wrong_move" "_law_wrong_move" Zeq t.ZbH t.ZcS
 Zgw:ZaL K t.ZcS ["_law_names_here","_law_way","_law_cell","_law_more"] []
 ZgF:mg "_law_wrong_move" = some (.ref t.ZbH)
 Zdu:Fun K "_law_wrong" "_law_wrong" Zid t.ZdC t.ZfX
 ZlP:ZaL K t.ZfX ["_law_names_here","_law_way","_law_cell","_law_more"] []
 Zl0:mg "_law_wrong" = some (.ref t.ZdC)
 ZbR:Fun K "_law_of_others" "_law_of_others" ZeP t.ZbT t.Zdb
 Zhs:ZaL K t.Zdb ["_law_e"] []
 Zhy:mg "_law_of_others" = some (.ref t.ZbT)
 Zd6:Fun K "_law_told" "_law_told" ZjB t.Zeg t.Zg5
 ZmQ:ZaL K t.Zg5 ["_law_lines"] []
 Zno:mg "_law_told" = some (.ref t.Zeg)
 F_law:Fun K "law" "law" Zor t.f_law t.d_law
 m_law:mg "law" = some (.ref t.f_law)
 Zfm:Fun K "__init__" "Move.__init__" Zju t.Zdf t.ZgY
 ZmK:ZaL K t.ZgY ["self","guard","changes"] []
 Zc2:Fun K "__init__" "Machine.__init__" Zgi t.ZbX t.Zeu
 Zi1:ZaL K t.Zeu ["self","names","starts","bads","moves"] []
 ZaG:Fun K "looseness" "Formula.looseness" Zdl t.ZaC t.Zb9
 Zb8:ZaL K t.Zb9 ["self"] []
 Zfl:Fun K "__init__" "Lamp.__init__" Zjt t.Zde t.ZgX
 ZmJ:ZaL K t.ZgX ["self","at"] []
 Zdo:Fun K "shown" "Lamp.shown" Zh6 t.ZcA t.ZfQ
 ZhP:ZaL K t.ZfQ ["self","names"] []
 Zfn:Fun K "__init__" "Sure.__init__" Zjw t.Zdh t.Zg0
 ZmL:ZaL K t.Zg0 ["self","truth"] []
 Zdq:Fun K "shown" "Sure.shown" Zh9 t.ZcD t.ZfT
 ZhQ:ZaL K t.ZfT ["self","names"] []
 Zgq:Fun K "__init__" "Not.__init__" Zlk t.Zeb t.Ziy
 Zoy:ZaL K t.Ziy ["self","part"] []
 Zd1:Fun K "shown" "Not.shown" Zjv t.Zdg t.ZgZ
 Zjj:ZaL K t.ZgZ ["self","names"] []
 ZdJ:Fun K "__init__" "Joined.__init__" Zhe t.Za4 t.ZdN
 ZeX:ZaL K t.ZdN ["self","parts"] []
 ZbB:Fun K "shown" "Joined.shown" Zgh t.ZaV t.Zet
 Zc3:ZaL K t.Zet ["self","names"] []
 ZbZ:Fun K "looseness" "And.looseness" ZfB t.ZbI t.ZdM
 ZhO:ZaL K t.ZdM ["self"] []
 ZcJ:Fun K "between" "And.between" Zhd t.Zca t.ZeY
 ZjV:ZaL K t.ZeY ["self"] []
 Zbr:Fun K "looseness" "Either.looseness" ZdS t.Zbf t.Zcv
 ZfN:ZaL K t.Zcv ["self"] []
 ZbQ:Fun K "between" "Either.between" ZeO t.Zbw t.Zda
 Zhr:ZaL K t.Zda ["self"] []
 Zci:Fun K "looseness" "Or.looseness" Zgj t.ZbY t.Zev
 Zi2:ZaL K t.Zev ["self"] []
 Zdp:Fun K "between" "Or.between" Zh8 t.ZcC t.ZfS
 ZlL:ZaL K t.ZfS ["self"] []
 ZeC:Fun K "__init__" "Level.__init__" Zh7 t.ZcB t.ZfR
 ZlK:ZaL K t.ZfR ["self"] []
 ZbE:Fun K "take_part" "Level.take_part" Zeo t.Zbl t.ZcQ
 Zgu:ZaL K t.ZcQ ["self","part"] []
 ZbD:Fun K "take_join" "Level.take_join" Zen t.Zbk t.ZcP
 Zgt:ZaL K t.ZcP ["self","word"] []
 ZbF:Fun K "take_word" "Level.take_word" Zep t.Zbm t.ZcR
 Zgv:ZaL K t.ZcR ["self","word","names"] []
 ZcK:Fun K "whole" "Level.whole" Zhf t.Zcb t.ZeZ
 ZjW:ZaL K t.ZeZ ["self"] []
 Zzw:mg "Move" = some (.ref t.Zcu)
 Zqy:Cls K t.Zcu
 Zzr:Mk K t.Zcu t.Zdf
 ZeG:ZbO K t.Zcu "guard"
 Zc6:ZbO K t.Zcu "changes"
 Zq7:mg "Machine" = some (.ref t.Zav)
 ZdL:Cls K t.Zav
 ZqS:Mk K t.Zav t.ZbX
 ZcG:ZbO K t.Zav "names"
 Zch:ZbO K t.Zav "starts"
 Zc5:ZbO K t.Zav "bads"
 ZcF:ZbO K t.Zav "moves"
 Zzv:mg "Lamp" = some (.ref t.Zbx)
 ZoC:Cls K t.Zbx
 Zzq:Mk K t.Zbx t.Zde
 Zh2:ZbO K t.Zbx "at"
 ZhT:Meth K t.Zbx "shown" t.ZcA
 Zhv:Meth K t.Zbx "looseness" t.ZaC
 Zzx:mg "Sure" = some (.ref t.Zby)
 ZoD:Cls K t.Zby
 Zzs:Mk K t.Zby t.Zdh
 ZeH:ZbO K t.Zby "truth"
 ZhV:Meth K t.Zby "shown" t.ZcD
 Zhw:Meth K t.Zby "looseness" t.ZaC
 m_Not:mg "Not" = some (.ref t.C_Not)
 c_Not:Cls K t.C_Not
 k_Not:Mk K t.C_Not t.Zeb
 Zfj:ZbO K t.C_Not "part"
 Zjn:Meth K t.C_Not "shown" t.Zdg
 ZhU:Meth K t.C_Not "looseness" t.ZaC
 m_And:mg "And" = some (.ref t.C_And)
 c_And:Cls K t.C_And
 k_And:Mk K t.C_And t.Za4
 Zfu:ZbO K t.C_And "parts"
 ZhS:Meth K t.C_And "looseness" t.ZbI
 Zj8:Meth K t.C_And "between" t.Zca
 Zjm:Meth K t.C_And "shown" t.ZaV
 Ztu:mg "Either" = some (.ref t.ZaI)
 Zix:Cls K t.ZaI
 Zto:Mk K t.ZaI t.Za4
 Zc4:ZbO K t.ZaI "parts"
 Zf2:Meth K t.ZaI "looseness" t.Zbf
 Zhu:Meth K t.ZaI "between" t.Zbw
 Zgd:Meth K t.ZaI "shown" t.ZaV
 m_Or:mg "Or" = some (.ref t.C_Or)
 c_Or:Cls K t.C_Or
 k_Or:Mk K t.C_Or t.Za4
 ZgH:ZbO K t.C_Or "parts"
 Zi7:Meth K t.C_Or "looseness" t.ZbY
 ZlV:Meth K t.C_Or "between" t.ZcC
 Zk0:Meth K t.C_Or "shown" t.ZaV
 Zv1:mg "Level" = some (.ref t.ZaB)
 Za6:Cls K t.ZaB
 ZvO:Mk K t.ZaB t.ZcB
 Zb4:ZbO K t.ZaB "nots"
 ZcE:ZbO K t.ZaB "ands"
 ZbJ:ZbO K t.ZaB "eithers"
 Zel:ZbO K t.ZaB "ors"
 ZaM:ZbO K t.ZaB "lacking"
 ZgB:Meth K t.ZaB "take_part" t.Zbl
 ZgA:Meth K t.ZaB "take_join" t.Zbk
 ZgC:Meth K t.ZaB "take_word" t.Zbm
 Zj9:Meth K t.ZaB "whole" t.Zcb
 b_ValueError:mg "ValueError" = none
 Zft:mg "NoFormula" = some (.ref t.Zag)
 Ze4:mg "NoLine" = some (.ref t.Zao)
 Zkp:mg "NoName" = some (.ref t.Zar)
 ZpC:mg "NoBar" = some (.ref t.Zb7)
 Zkm:mg "NoChart" = some (.ref t.Zba)
 Zkn:mg "NoFence" = some (.ref t.Zbb)
 Zko:mg "NoFrame" = some (.ref t.Zbc)
 Zhb:mg "NoMachine" = some (.ref t.ZaJ)
 ZmC:mg "NoStep" = some (.ref t.ZbA)
 Zkq:mg "NotShut" = some (.ref t.Zbd)
 Ze5:mg "NothingLeft" = some (.ref t.Zaz)
 Zkr:mg "TooMany" = some (.ref t.Zbe)
 Znj:mg "EverError" = some (.ref t.ZaR)
 Zf8:W.typeIn K (.ref t.ZaR)=some (.type "type")
 ZlU:(W.clsIn K t.ZaR).isSome=true
 Zf5:W.mroIn K t.ZaR (.type "BaseException")=some true
 Zem:ExcK K t.Zag
 ZnN:W.kitOne K (.ref t.Zag) (.type "ValueError")=some true
 ZdZ:W.kitOne K (.ref t.Zag) (.ref t.Zag)=some true
 ZfF:W.kitOne K (.ref t.Zag) (.ref t.Zao)=some false
 ZfG:W.kitOne K (.ref t.Zag) (.ref t.Zar)=some false
 Zf9:W.kitOne K (.ref t.Zag) (.ref t.Zb7)=some false
 ZeS:W.kitOne K (.ref t.Zag) (.ref t.Zba)=some false
 ZeT:W.kitOne K (.ref t.Zag) (.ref t.Zbb)=some false
 ZeU:W.kitOne K (.ref t.Zag) (.ref t.Zbc)=some false
 Zd0:W.kitOne K (.ref t.Zag) (.ref t.ZaJ)=some false
 ZfH:W.kitOne K (.ref t.Zag) (.ref t.ZbA)=some false
 ZeV:W.kitOne K (.ref t.Zag) (.ref t.Zbd)=some false
 ZdH:W.kitOne K (.ref t.Zag) (.ref t.Zaz)=some false
 ZeW:W.kitOne K (.ref t.Zag) (.ref t.Zbe)=some false
 ZbM:W.mroIn K t.Zag (.ref t.ZaR)=some true
 ZeA:ExcK K t.Zao
 ZtQ:W.kitOne K (.ref t.Zao) (.type "ValueError")=some true
 ZfI:W.kitOne K (.ref t.Zao) (.ref t.Zag)=some false
 ZhC:W.kitOne K (.ref t.Zao) (.ref t.Zao)=some true
 ZhD:W.kitOne K (.ref t.Zao) (.ref t.Zar)=some false
 Zis:W.kitOne K (.ref t.Zao) (.ref t.Zb7)=some false
 ZgM:W.kitOne K (.ref t.Zao) (.ref t.Zba)=some false
 ZgN:W.kitOne K (.ref t.Zao) (.ref t.Zbb)=some false
 ZgO:W.kitOne K (.ref t.Zao) (.ref t.Zbc)=some false
 ZfJ:W.kitOne K (.ref t.Zao) (.ref t.ZaJ)=some false
 ZhE:W.kitOne K (.ref t.Zao) (.ref t.ZbA)=some false
 ZgP:W.kitOne K (.ref t.Zao) (.ref t.Zbd)=some false
 ZeM:W.kitOne K (.ref t.Zao) (.ref t.Zaz)=some false
 ZgQ:W.kitOne K (.ref t.Zao) (.ref t.Zbe)=some false
 Zcf:W.mroIn K t.Zao (.ref t.ZaR)=some true
 ZiL:ExcK K t.Zar
 ZtR:W.kitOne K (.ref t.Zar) (.type "ValueError")=some true
 ZfK:W.kitOne K (.ref t.Zar) (.ref t.Zag)=some false
 ZhF:W.kitOne K (.ref t.Zar) (.ref t.Zao)=some false
 ZhG:W.kitOne K (.ref t.Zar) (.ref t.Zar)=some true
 Zit:W.kitOne K (.ref t.Zar) (.ref t.Zb7)=some false
 ZgR:W.kitOne K (.ref t.Zar) (.ref t.Zba)=some false
 ZgS:W.kitOne K (.ref t.Zar) (.ref t.Zbb)=some false
 ZgT:W.kitOne K (.ref t.Zar) (.ref t.Zbc)=some false
 ZfL:W.kitOne K (.ref t.Zar) (.ref t.ZaJ)=some false
 ZhH:W.kitOne K (.ref t.Zar) (.ref t.ZbA)=some false
 ZgU:W.kitOne K (.ref t.Zar) (.ref t.Zbd)=some false
 ZeN:W.kitOne K (.ref t.Zar) (.ref t.Zaz)=some false
 ZgV:W.kitOne K (.ref t.Zar) (.ref t.Zbe)=some false
 Zcg:W.mroIn K t.Zar (.ref t.ZaR)=some true
 ZjI:t.Zbx≠t.Zby
 Zlx:t.Zbx≠t.C_Not
 Zlw:t.Zbx≠t.C_And
 Zhp:t.Zbx≠t.ZaI
 ZnQ:t.Zbx≠t.C_Or
 Zmc:t.Zbx≠t.ZaB
 Zlz:t.Zby≠t.C_Not
 Zly:t.Zby≠t.C_And
 Zhq:t.Zby≠t.ZaI
 ZnT:t.Zby≠t.C_Or
 Zmd:t.Zby≠t.ZaB
 ZnR:t.C_Not≠t.C_And
 Zio:t.C_Not≠t.ZaI
 Zqc:t.C_Not≠t.C_Or
 ZnS:t.C_Not≠t.ZaB
 Zin:t.C_And≠t.ZaI
 Zqb:t.C_And≠t.C_Or
 ZnP:t.C_And≠t.ZaB
 ZjH:t.ZaI≠t.C_Or
 Zjf:t.ZaI≠t.ZaB
 Zo1:t.C_Or≠t.ZaB
 bl:∀(s:Shared) (u:Value),BindsTo s t.d_law ⟨[u],[]⟩ [("_law_script",u)]
 B:Bt mg
 g_LETTERS:GC mg "LETTERS" (.str "abcdefghijklmnopqrstuvwxyz")
 g_MARKS:GC mg "MARKS" (.str "(),")
 g_BLANK:GC mg "BLANK" (.str " ")
 g_MOST_LAMPS:GC mg "MOST_LAMPS" (.int 6)
 g_LONGEST_NAME:GC mg "LONGEST_NAME" (.int 8)
 g_JOINS:GC mg "JOINS" (.ref t.v_JOINS)
 q_JOINS:∀H,SqT K H t.v_JOINS ((["and","either","or"]:List Str).map V.str)
 g_NO_NAMES:GC mg "NO_NAMES" (.ref t.v_NO_NAMES)
 q_NO_NAMES:∀H,SqT K H t.v_NO_NAMES ((["and","or","not","either","yes","no","then","is","(",")",","]:List Str).map V.str)
 g_SORTS:GC mg "SORTS" (.ref t.v_SORTS)
 q_SORTS:∀H,SqT K H t.v_SORTS ((["start","bad","move"]:List Str).map V.str)
theorem txt_mk {K:W.Frag} {h:Heap} {mg:Str→Option Value} (X:K.In h) (G:h.Ns mainGlobals mg)
 {Zeh ZkY ZiC Zei ZkX ZiD ZdF Zcq Zgz Zb1 Zbv Zej ZcW ZdE ZdD Zfh Zfg Zgy Zfi ZbU ZdG Zcn Zdz Zco Zef ZdA ZcV ZdB Zec ZcU Zee Zed ZcT Zcp Zbu ZbH ZdC ZbT Zeg:Addr}
  {f_law:Addr} {ZCS ZyR:Option Addr} {ZDC:Array (Option Value)} {ZCR Zzp ZyV ZzF Zu9 ZyT:Value}
 {Zdf ZbX ZaC Zde ZcA Zdh ZcD Zeb Zdg Za4 ZaV ZbI Zca Zbf Zbw ZbY ZcC ZcB Zbl Zbk Zbm Zcb Zcu Zav Zqd Zbx Zby C_Not Zs6 C_And ZaI C_Or ZaB Zag Zao Zar Zb7 Zba Zbb Zbc ZaJ ZbA Zbd Zaz Zbe ZaR:Addr}
  {tk_LETTERS:Tok}
  {tk_MARKS:Tok}
  {tk_BLANK:Tok}
  {tk_MOST_LAMPS:Tok}
  {tk_LONGEST_NAME:Tok}
  {v_JOINS:Addr} {nn_JOINS:Nat} {od_JOINS:Option Addr} {sl_JOINS:Array (Option Value)} {tk_JOINS_0 tk_JOINS_1 tk_JOINS_2:Tok}
  {v_NO_NAMES:Addr} {nn_NO_NAMES:Nat} {od_NO_NAMES:Option Addr} {sl_NO_NAMES:Array (Option Value)} {tk_NO_NAMES_0 tk_NO_NAMES_1 tk_NO_NAMES_2 tk_NO_NAMES_3 tk_NO_NAMES_4 tk_NO_NAMES_5 tk_NO_NAMES_6 tk_NO_NAMES_7 tk_NO_NAMES_8 tk_NO_NAMES_9 tk_NO_NAMES_10:Tok}
  {v_SORTS:Addr} {nn_SORTS:Nat} {od_SORTS:Option Addr} {sl_SORTS:Array (Option Value)} {tk_SORTS_0 tk_SORTS_1 tk_SORTS_2:Tok}
  (Zr2:W.nsIn K mainGlobals "bracketed" = some (some (.ref Zeh)))
  (ZzZ:W.nsIn K mainGlobals "words" = some (some (.ref ZkY)))
  (Zxs:W.nsIn K mainGlobals "and_of" = some (some (.ref ZiC)))
  (Zr3:W.nsIn K mainGlobals "either_of" = some (some (.ref Zei)))
  (ZzY:W.nsIn K mainGlobals "or_of" = some (some (.ref ZkX)))
  (Zxt:W.nsIn K mainGlobals "single" = some (some (.ref ZiD)))
  (Zqp:W.nsIn K mainGlobals "formula_in" = some (some (.ref ZdF)))
  (Zn5:W.nsIn K mainGlobals "written_move" = some (some (.ref Zcq)))
  (Zu1:W.nsIn K mainGlobals "written" = some (some (.ref Zgz)))
  (ZmH:W.nsIn K mainGlobals "words_of_line" = some (some (.ref Zb1)))
  (ZjU:W.nsIn K mainGlobals "parted_by_commas" = some (some (.ref Zbv)))
  (Zr4:W.nsIn K mainGlobals "pieces_in" = some (some (.ref Zej)))
  (Zo8:W.nsIn K mainGlobals "check_lamps" = some (some (.ref ZcW)))
  (Zqo:W.nsIn K mainGlobals "check_move" = some (some (.ref ZdE)))
  (Zqn:W.nsIn K mainGlobals "check_form" = some (some (.ref ZdD)))
  (ZtZ:W.nsIn K mainGlobals "names_in" = some (some (.ref Zfh)))
  (ZtY:W.nsIn K mainGlobals "lamps_in" = some (some (.ref Zfg)))
  (Zu0:W.nsIn K mainGlobals "move_in" = some (some (.ref Zgy)))
  (Zt0:W.nsIn K mainGlobals "thing_in" = some (some (.ref Zfi)))
  (Zmi:W.nsIn K mainGlobals "names_of_first" = some (some (.ref ZbU)))
  (Zqq:W.nsIn K mainGlobals "machine_of" = some (some (.ref ZdG)))
  (Zn2:W.nsIn K mainGlobals "_law_cell_at" = some (some (.ref Zcn)))
  (Zqj:W.nsIn K mainGlobals "_law_fresh" = some (some (.ref Zdz)))
  (Zn3:W.nsIn K mainGlobals "_law_letters" = some (some (.ref Zco)))
  (Zr0:W.nsIn K mainGlobals "_law_name" = some (some (.ref Zef)))
  (Zqk:W.nsIn K mainGlobals "_law_names" = some (some (.ref ZdA)))
  (Zo7:W.nsIn K mainGlobals "_law_spaced" = some (some (.ref ZcV)))
  (Zql:W.nsIn K mainGlobals "_law_plain" = some (some (.ref ZdB)))
  (ZrX:W.nsIn K mainGlobals "_law_form" = some (some (.ref Zec)))
  (Zo6:W.nsIn K mainGlobals "_law_pieces" = some (some (.ref ZcU)))
  (ZrZ:W.nsIn K mainGlobals "_law_move" = some (some (.ref Zee)))
  (ZrY:W.nsIn K mainGlobals "_law_good" = some (some (.ref Zed)))
  (Zo5:W.nsIn K mainGlobals "_law_broken" = some (some (.ref ZcT)))
  (Zn4:W.nsIn K mainGlobals "_law_no_lamp" = some (some (.ref Zcp)))
  (ZjT:W.nsIn K mainGlobals "_law_wrong_lamps" = some (some (.ref Zbu)))
  (ZkR:W.nsIn K mainGlobals "_law_wrong_move" = some (some (.ref ZbH)))
  (Zqm:W.nsIn K mainGlobals "_law_wrong" = some (some (.ref ZdC)))
  (Zmh:W.nsIn K mainGlobals "_law_of_others" = some (some (.ref ZbT)))
  (Zr1:W.nsIn K mainGlobals "_law_told" = some (some (.ref Zeg)))
  (a_law:W.nsIn K mainGlobals "law" = some (some (.ref f_law)))
  (ZBK:W.nsIn K mainGlobals "Move" = some (some (.ref Zcu)))
  (ZuU:W.nsIn K mainGlobals "Machine" = some (some (.ref Zav)))
  (ZBI:W.nsIn K mainGlobals "Formula" = some (some (.ref Zqd)))
  (ZBJ:W.nsIn K mainGlobals "Lamp" = some (some (.ref Zbx)))
  (ZBL:W.nsIn K mainGlobals "Sure" = some (some (.ref Zby)))
  (a_Not:W.nsIn K mainGlobals "Not" = some (some (.ref C_Not)))
  (ZD2:W.nsIn K mainGlobals "Joined" = some (some (.ref Zs6)))
  (a_And:W.nsIn K mainGlobals "And" = some (some (.ref C_And)))
  (Zxo:W.nsIn K mainGlobals "Either" = some (some (.ref ZaI)))
  (a_Or:W.nsIn K mainGlobals "Or" = some (some (.ref C_Or)))
  (ZzW:W.nsIn K mainGlobals "Level" = some (some (.ref ZaB)))
  (ZrV:W.nsIn K mainGlobals "NoFormula" = some (some (.ref Zag)))
  (Zxp:W.nsIn K mainGlobals "NoLine" = some (some (.ref Zao)))
  (Zxq:W.nsIn K mainGlobals "NoName" = some (some (.ref Zar)))
  (ZzX:W.nsIn K mainGlobals "NoBar" = some (some (.ref Zb7)))
  (ZuV:W.nsIn K mainGlobals "NoChart" = some (some (.ref Zba)))
  (ZuW:W.nsIn K mainGlobals "NoFence" = some (some (.ref Zbb)))
  (ZuX:W.nsIn K mainGlobals "NoFrame" = some (some (.ref Zbc)))
  (ZrW:W.nsIn K mainGlobals "NoMachine" = some (some (.ref ZaJ)))
  (Zxr:W.nsIn K mainGlobals "NoStep" = some (some (.ref ZbA)))
  (ZuY:W.nsIn K mainGlobals "NotShut" = some (some (.ref Zbd)))
  (Zo4:W.nsIn K mainGlobals "NothingLeft" = some (some (.ref Zaz)))
  (ZuZ:W.nsIn K mainGlobals "TooMany" = some (some (.ref Zbe)))
  (ZrU:W.nsIn K mainGlobals "EverError" = some (some (.ref ZaR)))
  (ZhW:W.isClsIn K Zag=true)
  (Zmb:W.typeIn K (.ref Zag)=some (.type "type"))
  (Zra:W.mroIn K Zag (.type "BaseException")=some true)
  (Zm3:W.isClsIn K Zao=true)
  (ZrD:W.typeIn K (.ref Zao)=some (.type "type"))
  (Zv4:W.mroIn K Zao (.type "BaseException")=some true)
  (Zm4:W.isClsIn K Zar=true)
  (ZrE:W.typeIn K (.ref Zar)=some (.type "type"))
  (Zv5:W.mroIn K Zar (.type "BaseException")=some true)
  (Zpp:W.isClsIn K Zb7=true)
  (Zp6:W.typeIn K (.ref Zb7)=some (.type "type"))
  (Zk5:W.isClsIn K Zba=true)
  (Zlr:W.typeIn K (.ref Zba)=some (.type "type"))
  (Zk6:W.isClsIn K Zbb=true)
  (Zls:W.typeIn K (.ref Zbb)=some (.type "type"))
  (Zk7:W.isClsIn K Zbc=true)
  (Zlt:W.typeIn K (.ref Zbc)=some (.type "type"))
  (ZhX:W.isClsIn K ZaJ=true)
  (Zim:W.typeIn K (.ref ZaJ)=some (.type "type"))
  (Zm5:W.isClsIn K ZbA=true)
  (ZnM:W.typeIn K (.ref ZbA)=some (.type "type"))
  (Zk8:W.isClsIn K Zbd=true)
  (Zlu:W.typeIn K (.ref Zbd)=some (.type "type"))
  (Zgf:W.isClsIn K Zaz=true)
  (Zgp:W.typeIn K (.ref Zaz)=some (.type "type"))
  (Zk9:W.isClsIn K Zbe=true)
  (Zlv:W.typeIn K (.ref Zbe)=some (.type "type"))
  (ZqN:W.isClsIn K ZaR=true)
  (Zf8:W.typeIn K (.ref ZaR)=some (.type "type"))
  (Zf5:W.mroIn K ZaR (.type "BaseException")=some true)
  (Zip:W.excIn K Zag [.type "ValueError",.type "Exception",.type "BaseException",.type "object"] "ValueError.__new__" = true)
  (ZrK:W.findIn K (.ref Zag) "__getattribute__" = some (some (.builtin "BaseException.__getattribute__")))
  (ZrL:W.findIn K (.ref Zag) "__getattr__" = some none)
  (ZrJ:W.findIn K (.ref Zag) "__class__" = some (some (.builtin "object.__class__")))
  (ZrM:W.mroIn K Zag (.type "object")=some true)
  (ZrN:W.subIn K (.ref Zag) (.type "ValueError")=some true)
  (ZjJ:W.mroIn K Zag (.ref Zao)=some false)
  (ZjK:W.mroIn K Zag (.ref Zar)=some false)
  (ZkM:W.mroIn K Zag (.ref Zb7)=some false)
  (ZiS:W.mroIn K Zag (.ref Zba)=some false)
  (ZiT:W.mroIn K Zag (.ref Zbb)=some false)
  (ZiU:W.mroIn K Zag (.ref Zbc)=some false)
  (ZhJ:W.mroIn K Zag (.ref ZaJ)=some false)
  (ZjL:W.mroIn K Zag (.ref ZbA)=some false)
  (ZiV:W.mroIn K Zag (.ref Zbd)=some false)
  (ZgL:W.mroIn K Zag (.ref Zaz)=some false)
  (ZiW:W.mroIn K Zag (.ref Zbe)=some false)
  (ZbM:W.mroIn K Zag (.ref ZaR)=some true)
  (ZnU:W.excIn K Zao [.type "ValueError",.type "Exception",.type "BaseException",.type "object"] "ValueError.__new__" = true)
  (Zxa:W.findIn K (.ref Zao) "__getattribute__" = some (some (.builtin "BaseException.__getattribute__")))
  (Zxc:W.findIn K (.ref Zao) "__getattr__" = some none)
  (Zw8:W.findIn K (.ref Zao) "__class__" = some (some (.builtin "object.__class__")))
  (Zxe:W.mroIn K Zao (.type "object")=some true)
  (Zxg:W.subIn K (.ref Zao) (.type "ValueError")=some true)
  (ZjM:W.mroIn K Zao (.ref Zag)=some false)
  (Zmt:W.mroIn K Zao (.ref Zar)=some false)
  (ZnW:W.mroIn K Zao (.ref Zb7)=some false)
  (ZlA:W.mroIn K Zao (.ref Zba)=some false)
  (ZlB:W.mroIn K Zao (.ref Zbb)=some false)
  (ZlC:W.mroIn K Zao (.ref Zbc)=some false)
  (ZjN:W.mroIn K Zao (.ref ZaJ)=some false)
  (Zmu:W.mroIn K Zao (.ref ZbA)=some false)
  (ZlD:W.mroIn K Zao (.ref Zbd)=some false)
  (Ziq:W.mroIn K Zao (.ref Zaz)=some false)
  (ZlE:W.mroIn K Zao (.ref Zbe)=some false)
  (Zcf:W.mroIn K Zao (.ref ZaR)=some true)
  (ZnV:W.excIn K Zar [.type "ValueError",.type "Exception",.type "BaseException",.type "object"] "ValueError.__new__" = true)
  (Zxb:W.findIn K (.ref Zar) "__getattribute__" = some (some (.builtin "BaseException.__getattribute__")))
  (Zxd:W.findIn K (.ref Zar) "__getattr__" = some none)
  (Zw9:W.findIn K (.ref Zar) "__class__" = some (some (.builtin "object.__class__")))
  (Zxf:W.mroIn K Zar (.type "object")=some true)
  (Zxh:W.subIn K (.ref Zar) (.type "ValueError")=some true)
  (ZjO:W.mroIn K Zar (.ref Zag)=some false)
  (Zmv:W.mroIn K Zar (.ref Zao)=some false)
  (ZnX:W.mroIn K Zar (.ref Zb7)=some false)
  (ZlF:W.mroIn K Zar (.ref Zba)=some false)
  (ZlG:W.mroIn K Zar (.ref Zbb)=some false)
  (ZlH:W.mroIn K Zar (.ref Zbc)=some false)
  (ZjP:W.mroIn K Zar (.ref ZaJ)=some false)
  (Zmw:W.mroIn K Zar (.ref ZbA)=some false)
  (ZlI:W.mroIn K Zar (.ref Zbd)=some false)
  (Zir:W.mroIn K Zar (.ref Zaz)=some false)
  (ZlJ:W.mroIn K Zar (.ref Zbe)=some false)
  (Zcg:W.mroIn K Zar (.ref ZaR)=some true)
  (b_ValueError:W.nsIn K mainGlobals "ValueError" = some none)
  (ne_:[Zag,Zao,Zar,Zb7,Zba,Zbb,Zbc,ZaJ,ZbA,Zbd,Zaz,Zbe,ZaR].Nodup)
  (Zse:W.findIn K (.ref Zcu) "__init__" = some (some (.ref Zdf)))
  (Zn7:W.findIn K (.ref Zav) "__init__" = some (some (.ref ZbX)))
  (Zsd:W.findIn K (.ref Zbx) "__init__" = some (some (.ref Zde)))
  (ZqB:W.findIn K (.ref Zbx) "shown" = some (some (.ref ZcA)))
  (Zmk:W.findIn K (.ref Zbx) "looseness" = some (some (.ref ZaC)))
  (Zsg:W.findIn K (.ref Zby) "__init__" = some (some (.ref Zdh)))
  (ZqE:W.findIn K (.ref Zby) "shown" = some (some (.ref ZcD)))
  (Zml:W.findIn K (.ref Zby) "looseness" = some (some (.ref ZaC)))
  (Zt5:W.findIn K (.ref C_Not) "__init__" = some (some (.ref Zeb)))
  (Zsf:W.findIn K (.ref C_Not) "shown" = some (some (.ref Zdg)))
  (ZmY:W.findIn K (.ref C_Not) "looseness" = some (some (.ref ZaC)))
  (ZmX:W.findIn K (.ref C_And) "looseness" = some (some (.ref ZbI)))
  (Zph:W.findIn K (.ref C_And) "between" = some (some (.ref Zca)))
  (Zt4:W.findIn K (.ref C_And) "__init__" = some (some (.ref Za4)))
  (Zsc:W.findIn K (.ref C_And) "shown" = some (some (.ref ZaV)))
  (Zj4:W.findIn K (.ref ZaI) "looseness" = some (some (.ref Zbf)))
  (Zmj:W.findIn K (.ref ZaI) "between" = some (some (.ref Zbw)))
  (Zpi:W.findIn K (.ref ZaI) "__init__" = some (some (.ref Za4)))
  (Zn6:W.findIn K (.ref ZaI) "shown" = some (some (.ref ZaV)))
  (Zn8:W.findIn K (.ref C_Or) "looseness" = some (some (.ref ZbY)))
  (ZqD:W.findIn K (.ref C_Or) "between" = some (some (.ref ZcC)))
  (Zvk:W.findIn K (.ref C_Or) "__init__" = some (some (.ref Za4)))
  (Zt6:W.findIn K (.ref C_Or) "shown" = some (some (.ref ZaV)))
  (ZqC:W.findIn K (.ref ZaB) "__init__" = some (some (.ref ZcB)))
  (ZkV:W.findIn K (.ref ZaB) "take_part" = some (some (.ref Zbl)))
  (ZkU:W.findIn K (.ref ZaB) "take_join" = some (some (.ref Zbk)))
  (ZkW:W.findIn K (.ref ZaB) "take_word" = some (some (.ref Zbm)))
  (Zpj:W.findIn K (.ref ZaB) "whole" = some (some (.ref Zcb)))
  (ZsD:DF K ZjC "bracketed" "bracketed" Zeh)
  (ZAC:DF K Zs0 "words" "words" ZkY)
  (ZxT:DF K ZpU "and_of" "and_of" ZiC)
  (ZsE:DF K ZjD "either_of" "either_of" Zei)
  (ZAB:DF K ZsZ "or_of" "or_of" ZkX)
  (ZxU:DF K ZpV "single" "single" ZiD)
  (Zq3:DF K Zig "formula_in" "formula_in" ZdF)
  (Zoj:DF K Zgn "written_move" "written_move" Zcq)
  (ZvV:DF K ZnE "written" "written" Zgz)
  (Znd:DF K ZfC "words_of_line" "words_of_line" Zb1)
  (Zki:DF K ZdT "parted_by_commas" "parted_by_commas" Zbv)
  (ZsF:DF K ZjE "pieces_in" "pieces_in" Zej)
  (Zpy:DF K Zhj "check_lamps" "check_lamps" ZcW)
  (Zq2:DF K Zif "check_move" "check_move" ZdE)
  (Zq1:DF K Zie "check_form" "check_form" ZdD)
  (Zum:DF K Zlm "names_in" "names_in" Zfh)
  (Zul:DF K Zll "lamps_in" "lamps_in" Zfg)
  (ZvU:DF K ZnD "move_in" "move_in" Zgy)
  (Zun:DF K Zln "thing_in" "thing_in" Zfi)
  (Zmq:DF K ZeQ "names_of_first" "names_of_first" ZbU)
  (Zq4:DF K Zih "machine_of" "machine_of" ZdG)
  (Zog:DF K Zgk "_law_cell_at" "_law_cell_at" Zcn)
  (ZqX:DF K Zia "_law_fresh" "_law_fresh" Zdz)
  (Zoh:DF K Zgl "_law_letters" "_law_letters" Zco)
  (ZsB:DF K ZjA "_law_name" "_law_name" Zef)
  (ZqY:DF K Zib "_law_names" "_law_names" ZdA)
  (Zpx:DF K Zhi "_law_spaced" "_law_spaced" ZcV)
  (ZqZ:DF K Zic "_law_plain" "_law_plain" ZdB)
  (Zsy:DF K Zjx "_law_form" "_law_form" Zec)
  (Zpw:DF K Zhh "_law_pieces" "_law_pieces" ZcU)
  (ZsA:DF K Zjz "_law_move" "_law_move" Zee)
  (Zsz:DF K Zjy "_law_good" "_law_good" Zed)
  (Zpv:DF K Zhg "_law_broken" "_law_broken" ZcT)
  (Zoi:DF K Zgm "_law_no_lamp" "_law_no_lamp" Zcp)
  (Zkh:DF K Zcz "_law_wrong_lamps" "_law_wrong_lamps" Zbu)
  (Zld:DF K Zeq "_law_wrong_move" "_law_wrong_move" ZbH)
  (Zq0:DF K Zid "_law_wrong" "_law_wrong" ZdC)
  (Zmp:DF K ZeP "_law_of_others" "_law_of_others" ZbT)
  (ZsC:DF K ZjB "_law_told" "_law_told" Zeg)
  (l_law:K.lookup f_law=some ⟨ZCR,ZCS,.func (W.fnOf "law" "law" (Zjl Zor) (Zgb Zor) (Zaj Zor) .none Zzp ZyV ZzF ZyR Zu9 ZyT),ZDC⟩)
  (c_law:W.codeIn K Zu9 "law" = true)
  (k_law:W.keepIn K (.ref f_law)=true)
  (Zsv:DF K Zju "__init__" "Move.__init__" Zdf)
  (Zsm:W.isFn K (.ref Zdf)=true)
  (Zoe:DF K Zgi "__init__" "Machine.__init__" ZbX)
  (Zoa:W.isFn K (.ref ZbX)=true)
  (Zjp:DF K Zdl "looseness" "Formula.looseness" ZaC)
  (Zdi:W.isFn K (.ref ZaC)=true)
  (Zsu:DF K Zjt "__init__" "Lamp.__init__" Zde)
  (Zsl:W.isFn K (.ref Zde)=true)
  (ZqT:DF K Zh6 "shown" "Lamp.shown" ZcA)
  (ZqI:W.isFn K (.ref ZcA)=true)
  (Zsx:DF K Zjw "__init__" "Sure.__init__" Zdh)
  (Zso:W.isFn K (.ref Zdh)=true)
  (ZqW:DF K Zh9 "shown" "Sure.shown" ZcD)
  (ZqL:W.isFn K (.ref ZcD)=true)
  (Zuk:DF K Zlk "__init__" "Not.__init__" Zeb)
  (Zue:W.isFn K (.ref Zeb)=true)
  (Zsw:DF K Zjv "shown" "Not.shown" Zdg)
  (Zsn:W.isFn K (.ref Zdg)=true)
  (Zpt:DF K Zhe "__init__" "Joined.__init__" Za4)
  (Zg9:W.isFn K (.ref Za4)=true)
  (Zod:DF K Zgh "shown" "Joined.shown" ZaV)
  (Zge:W.isFn K (.ref ZaV)=true)
  (Znc:DF K ZfB "looseness" "And.looseness" ZbI)
  (Zm1:W.isFn K (.ref ZbI)=true)
  (Zps:DF K Zhd "between" "And.between" Zca)
  (Zpm:W.isFn K (.ref Zca)=true)
  (Zkg:DF K ZdS "looseness" "Either.looseness" Zbf)
  (Zka:W.isFn K (.ref Zbf)=true)
  (Zmo:DF K ZeO "between" "Either.between" Zbw)
  (Zmm:W.isFn K (.ref Zbw)=true)
  (Zof:DF K Zgj "looseness" "Or.looseness" ZbY)
  (Zob:W.isFn K (.ref ZbY)=true)
  (ZqV:DF K Zh8 "between" "Or.between" ZcC)
  (ZqK:W.isFn K (.ref ZcC)=true)
  (ZqU:DF K Zh7 "__init__" "Level.__init__" ZcB)
  (ZqJ:W.isFn K (.ref ZcB)=true)
  (Zlb:DF K Zeo "take_part" "Level.take_part" Zbl)
  (Zk2:W.isFn K (.ref Zbl)=true)
  (Zla:DF K Zen "take_join" "Level.take_join" Zbk)
  (Zk1:W.isFn K (.ref Zbk)=true)
  (Zlc:DF K Zep "take_word" "Level.take_word" Zbm)
  (Zk3:W.isFn K (.ref Zbm)=true)
  (Zpu:DF K Zhf "whole" "Level.whole" Zcb)
  (Zpn:W.isFn K (.ref Zcb)=true)
  (ZA0:W.plainGet K Zcu Str.empty=true)
  (ZAd:W.hasDictIn K Zcu=true)
  (ZA5:W.plainOver K Zcu=true)
  (ZBf:W.findIn K (.ref Zcu) "__setattr__" = some (some (.builtin "object.__setattr__")))
  (ZAx:W.keepIn K (.ref Zcu)=true)
  (ZAI:W.makesIn K Zcu=true)
  (ZeG:W.findIn K (.ref Zcu) "guard" = some none)
  (Zc6:W.findIn K (.ref Zcu) "changes" = some none)
  (ZuE:W.plainGet K Zav Str.empty=true)
  (Zud:W.hasDictIn K Zav=true)
  (ZuG:W.plainOver K Zav=true)
  (ZuH:W.findIn K (.ref Zav) "__setattr__" = some (some (.builtin "object.__setattr__")))
  (Zui:W.keepIn K (.ref Zav)=true)
  (Zut:W.makesIn K Zav=true)
  (ZcG:W.findIn K (.ref Zav) "names" = some none)
  (Zch:W.findIn K (.ref Zav) "starts" = some none)
  (Zc5:W.findIn K (.ref Zav) "bads" = some none)
  (ZcF:W.findIn K (.ref Zav) "moves" = some none)
  (ZAZ:W.plainGet K Zbx Str.empty=true)
  (ZAc:W.hasDictIn K Zbx=true)
  (ZA4:W.plainOver K Zbx=true)
  (ZBe:W.findIn K (.ref Zbx) "__setattr__" = some (some (.builtin "object.__setattr__")))
  (ZAw:W.keepIn K (.ref Zbx)=true)
  (ZAH:W.makesIn K Zbx=true)
  (Zh2:W.findIn K (.ref Zbx) "at" = some none)
  (ZA1:W.plainGet K Zby Str.empty=true)
  (ZAe:W.hasDictIn K Zby=true)
  (ZA6:W.plainOver K Zby=true)
  (ZBg:W.findIn K (.ref Zby) "__setattr__" = some (some (.builtin "object.__setattr__")))
  (ZAy:W.keepIn K (.ref Zby)=true)
  (ZAJ:W.makesIn K Zby=true)
  (ZeH:W.findIn K (.ref Zby) "truth" = some none)
  (ZDf:W.plainGet K C_Not Str.empty=true)
  (ZB8:W.hasDictIn K C_Not=true)
  (ZDj:W.plainOver K C_Not=true)
  (ZDB:W.findIn K (.ref C_Not) "__setattr__" = some (some (.builtin "object.__setattr__")))
  (ZCE:W.keepIn K (.ref C_Not)=true)
  (ZCM:W.makesIn K C_Not=true)
  (Zfj:W.findIn K (.ref C_Not) "part" = some none)
  (ZDe:W.plainGet K C_And Str.empty=true)
  (ZB7:W.hasDictIn K C_And=true)
  (ZDi:W.plainOver K C_And=true)
  (ZDA:W.findIn K (.ref C_And) "__setattr__" = some (some (.builtin "object.__setattr__")))
  (ZCD:W.keepIn K (.ref C_And)=true)
  (ZCL:W.makesIn K C_And=true)
  (Zfu:W.findIn K (.ref C_And) "parts" = some none)
  (Zwo:W.plainGet K ZaI Str.empty=true)
  (Zvx:W.hasDictIn K ZaI=true)
  (Zwt:W.plainOver K ZaI=true)
  (ZwG:W.findIn K (.ref ZaI) "__setattr__" = some (some (.builtin "object.__setattr__")))
  (ZvP:W.keepIn K (.ref ZaI)=true)
  (Zv6:W.makesIn K ZaI=true)
  (Zc4:W.findIn K (.ref ZaI) "parts" = some none)
  (pg_Or:W.plainGet K C_Or Str.empty=true)
  (hd_Or:W.hasDictIn K C_Or=true)
  (po_Or:W.plainOver K C_Or=true)
  (sa_Or:W.findIn K (.ref C_Or) "__setattr__" = some (some (.builtin "object.__setattr__")))
  (kc_Or:W.keepIn K (.ref C_Or)=true)
  (mk_Or:W.makesIn K C_Or=true)
  (ZgH:W.findIn K (.ref C_Or) "parts" = some none)
  (Zyi:W.plainGet K ZaB Str.empty=true)
  (ZxH:W.hasDictIn K ZaB=true)
  (Zyk:W.plainOver K ZaB=true)
  (Zyt:W.findIn K (.ref ZaB) "__setattr__" = some (some (.builtin "object.__setattr__")))
  (ZxR:W.keepIn K (.ref ZaB)=true)
  (Zx2:W.makesIn K ZaB=true)
  (Zb4:W.findIn K (.ref ZaB) "nots" = some none)
  (ZcE:W.findIn K (.ref ZaB) "ands" = some none)
  (ZbJ:W.findIn K (.ref ZaB) "eithers" = some none)
  (Zel:W.findIn K (.ref ZaB) "ors" = some none)
  (ZaM:W.findIn K (.ref ZaB) "lacking" = some none)
  (nd_:[Zcu,Zav,Zqd,Zbx,Zby,C_Not,Zs6,C_And,ZaI,C_Or,ZaB].Nodup)
  (b_len:W.nsIn K mainGlobals "len" = some none)
  (b_range:W.nsIn K mainGlobals "range" = some none)
  (b_isinstance:W.nsIn K mainGlobals "isinstance" = some none)
  (b_int:W.nsIn K mainGlobals "int" = some none)
  (b_bool:W.nsIn K mainGlobals "bool" = some none)
  (b_str:W.nsIn K mainGlobals "str" = some none)
  (b_list:W.nsIn K mainGlobals "list" = some none)
  (b_tuple:W.nsIn K mainGlobals "tuple" = some none)
  (b_dict:W.nsIn K mainGlobals "dict" = some none)
  (b_set:W.nsIn K mainGlobals "set" = some none)
  (b_sorted:W.nsIn K mainGlobals "sorted" = some none)
  (b_max:W.nsIn K mainGlobals "max" = some none)
  (b_min:W.nsIn K mainGlobals "min" = some none)
  (b_sum:W.nsIn K mainGlobals "sum" = some none)
  (b_any:W.nsIn K mainGlobals "any" = some none)
  (b_all:W.nsIn K mainGlobals "all" = some none)
  (b_abs:W.nsIn K mainGlobals "abs" = some none)
  (b_reversed:W.nsIn K mainGlobals "reversed" = some none)
  (b_enumerate:W.nsIn K mainGlobals "enumerate" = some none)
  (b_zip:W.nsIn K mainGlobals "zip" = some none)
  (g_LETTERS:W.nsIn K mainGlobals "LETTERS" = some (some (.str "abcdefghijklmnopqrstuvwxyz" tk_LETTERS)))
  (g_MARKS:W.nsIn K mainGlobals "MARKS" = some (some (.str "()," tk_MARKS)))
  (g_BLANK:W.nsIn K mainGlobals "BLANK" = some (some (.str " " tk_BLANK)))
  (g_MOST_LAMPS:W.nsIn K mainGlobals "MOST_LAMPS" = some (some (.int 6 tk_MOST_LAMPS)))
  (g_LONGEST_NAME:W.nsIn K mainGlobals "LONGEST_NAME" = some (some (.int 8 tk_LONGEST_NAME)))
  (g_JOINS:W.nsIn K mainGlobals "JOINS" = some (some (.ref v_JOINS)))
  (lk_JOINS:K.lookup v_JOINS=some ⟨.type "tuple",od_JOINS,.seq #[.str "and" tk_JOINS_0,.str "either" tk_JOINS_1,.str "or" tk_JOINS_2] nn_JOINS,sl_JOINS⟩)
  (g_NO_NAMES:W.nsIn K mainGlobals "NO_NAMES" = some (some (.ref v_NO_NAMES)))
  (lk_NO_NAMES:K.lookup v_NO_NAMES=some ⟨.type "tuple",od_NO_NAMES,.seq #[.str "and" tk_NO_NAMES_0,.str "or" tk_NO_NAMES_1,.str "not" tk_NO_NAMES_2,.str "either" tk_NO_NAMES_3,.str "yes" tk_NO_NAMES_4,.str "no" tk_NO_NAMES_5,.str "then" tk_NO_NAMES_6,.str "is" tk_NO_NAMES_7,.str "(" tk_NO_NAMES_8,.str ")" tk_NO_NAMES_9,.str "," tk_NO_NAMES_10] nn_NO_NAMES,sl_NO_NAMES⟩)
  (g_SORTS:W.nsIn K mainGlobals "SORTS" = some (some (.ref v_SORTS)))
  (lk_SORTS:K.lookup v_SORTS=some ⟨.type "tuple",od_SORTS,.seq #[.str "start" tk_SORTS_0,.str "bad" tk_SORTS_1,.str "move" tk_SORTS_2] nn_SORTS,sl_SORTS⟩)
  : ∃t:Ad,Txt K mg t:=by
 obtain⟨Zg6,Zd7⟩:=ZsD;obtain⟨Zpf,ZkP⟩:=ZAC;obtain⟨Zmx,Ziu⟩:=ZxT;obtain⟨Zg7,Zd8⟩:=ZsE;obtain⟨Zpe,ZkO⟩:=ZAB;obtain⟨Zmy,Ziv⟩:=ZxU;obtain⟨Zf0,Zdx⟩:=Zq3;obtain⟨Zez,Zcm⟩:=Zoj;obtain⟨Zj3,Zgs⟩:=ZvV;obtain⟨ZdO,Zb0⟩:=Znd;obtain⟨Zcx,Zbt⟩:=Zki;obtain⟨Zg8,Zd9⟩:=ZsF;obtain⟨Ze3,ZcO⟩:=Zpy;obtain⟨ZfZ,Zdw⟩:=Zq2;obtain⟨ZfY,Zdv⟩:=Zq1;obtain⟨ZiA,Zfe⟩:=Zum;obtain⟨Ziz,Zfd⟩:=Zul;obtain⟨Zj2,Zgr⟩:=ZvU;obtain⟨ZiB,Zff⟩:=Zun;obtain⟨Zdc,ZbS⟩:=Zmq;obtain⟨Zf1,Zdy⟩:=Zq4;obtain⟨Zew,Zcj⟩:=Zog;obtain⟨ZfU,Zdr⟩:=ZqX;obtain⟨Zex,Zck⟩:=Zoh;obtain⟨Zg4,Zd5⟩:=ZsB;obtain⟨ZfV,Zds⟩:=ZqY;obtain⟨Ze2,ZcN⟩:=Zpx;obtain⟨ZfW,Zdt⟩:=ZqZ;obtain⟨Zg1,Zd2⟩:=Zsy;obtain⟨Ze1,ZcM⟩:=Zpw;obtain⟨Zg3,Zd4⟩:=ZsA;obtain⟨Zg2,Zd3⟩:=Zsz;obtain⟨Ze0,ZcL⟩:=Zpv;obtain⟨Zey,Zcl⟩:=Zoi;obtain⟨Zcw,Zbs⟩:=Zkh;obtain⟨ZcS,ZbG⟩:=Zld;obtain⟨ZfX,Zdu⟩:=Zq0;obtain⟨Zdb,ZbR⟩:=Zmp;obtain⟨Zg5,Zd6⟩:=ZsC;obtain⟨ZgY,Zfm⟩:=Zsv;obtain⟨Zeu,Zc2⟩:=Zoe;obtain⟨Zb9,ZaG⟩:=Zjp;obtain⟨ZgX,Zfl⟩:=Zsu;obtain⟨ZfQ,Zdo⟩:=ZqT;obtain⟨Zg0,Zfn⟩:=Zsx;obtain⟨ZfT,Zdq⟩:=ZqW;obtain⟨Ziy,Zgq⟩:=Zuk;obtain⟨ZgZ,Zd1⟩:=Zsw;obtain⟨ZdN,ZdJ⟩:=Zpt;obtain⟨Zet,ZbB⟩:=Zod;obtain⟨ZdM,ZbZ⟩:=Znc;obtain⟨ZeY,ZcJ⟩:=Zps;obtain⟨Zcv,Zbr⟩:=Zkg;obtain⟨Zda,ZbQ⟩:=Zmo;obtain⟨Zev,Zci⟩:=Zof;obtain⟨ZfS,Zdp⟩:=ZqV;obtain⟨ZfR,ZeC⟩:=ZqU;obtain⟨ZcQ,ZbE⟩:=Zlb;obtain⟨ZcP,ZbD⟩:=Zla;obtain⟨ZcR,ZbF⟩:=Zlc;obtain⟨ZeZ,ZcK⟩:=Zpu;refine⟨⟨Zeh,Zg6,ZkY,Zpf,ZiC,Zmx,Zei,Zg7,ZkX,Zpe,ZiD,Zmy,ZdF,Zf0,Zcq,Zez,Zgz,Zj3,Zb1,ZdO,Zbv,Zcx,Zej,Zg8,ZcW,Ze3,ZdE,ZfZ,ZdD,ZfY,Zfh,ZiA,Zfg,Ziz,Zgy,Zj2,Zfi,ZiB,ZbU,Zdc,ZdG,Zf1,Zcn,Zew,Zdz,ZfU,Zco,Zex,Zef,Zg4,ZdA,ZfV,ZcV,Ze2,ZdB,ZfW,Zec,Zg1,ZcU,Ze1,Zee,Zg3,Zed,Zg2,ZcT,Ze0,Zcp,Zey,Zbu,Zcw,ZbH,ZcS,ZdC,ZfX,ZbT,Zdb,Zeg,Zg5,f_law,W.fnOf "law" "law" (Zjl Zor) (Zgb Zor) (Zaj Zor) .none Zzp ZyV ZzF ZyR Zu9 ZyT,Zdf,ZgY,ZbX,Zeu,ZaC,Zb9,Zde,ZgX,ZcA,ZfQ,Zdh,Zg0,ZcD,ZfT,Zeb,Ziy,Zdg,ZgZ,Za4,ZdN,ZaV,Zet,ZbI,ZdM,Zca,ZeY,Zbf,Zcv,Zbw,Zda,ZbY,Zev,ZcC,ZfS,ZcB,ZfR,Zbl,ZcQ,Zbk,ZcP,Zbm,ZcR,Zcb,ZeZ,Zcu,Zav,Zbx,Zby,C_Not,C_And,ZaI,C_Or,ZaB,Zag,Zao,Zar,Zb7,Zba,Zbb,Zbc,ZaJ,ZbA,Zbd,Zaz,Zbe,ZaR,v_JOINS,v_NO_NAMES,v_SORTS⟩,?_⟩
 exact {
  Zd7:=Zd7,
  ZmR:=Zd7.binds (ps:=["part","text","bound"]) (by walk_at "b"),
  Znp:=W.mg_of X G Zr2,
  ZkP:=ZkP,
  Zu4:=ZkP.binds (ps:=["text"]) (by walk_at "b"),
  Zv3:=W.mg_of X G ZzZ,
  Ziu:=Ziu,
  Zs9:=Ziu.binds (ps:=["parts"]) (by walk_at "b"),
  Ztv:=W.mg_of X G Zxs,
  Zd8:=Zd8,
  ZmS:=Zd8.binds (ps:=["parts"]) (by walk_at "b"),
  Znq:=W.mg_of X G Zr3,
  ZkO:=ZkO,
  Zu3:=ZkO.binds (ps:=["parts"]) (by walk_at "b"),
  Zv2:=W.mg_of X G ZzY,
  Ziv:=Ziv,
  Zta:=Ziv.binds (ps:=["word","names"]) (by walk_at "b"),
  Ztw:=W.mg_of X G Zxt,
  Zdx:=Zdx,
  ZlS:=Zdx.binds (ps:=["found","names"]) (by walk_at "b"),
  Zl3:=W.mg_of X G Zqp,
  Zcm:=Zcm,
  Zi6:=Zcm.binds (ps:=["move","names"]) (by walk_at "b"),
  Zjb:=W.mg_of X G Zn5,
  Zgs:=Zgs,
  Zqs:=Zgs.binds (ps:=["machine"]) (by walk_at "b"),
  Zq9:=W.mg_of X G Zu1,
  Zb0:=Zb0,
  ZhR:=Zb0.binds (ps:=["line"]) (by walk_at "b"),
  Zh0:=W.mg_of X G ZmH,
  Zbt:=Zbt,
  ZfP:=Zbt.binds (ps:=["found"]) (by walk_at "b"),
  Zf4:=W.mg_of X G ZjU,
  Zd9:=Zd9,
  ZmT:=Zd9.binds (ps:=["found"]) (by walk_at "b"),
  Znr:=W.mg_of X G Zr4,
  ZcO:=ZcO,
  Zj0:=ZcO.binds (ps:=["found"]) (by walk_at "b"),
  Zkv:=W.mg_of X G Zo8,
  Zdw:=Zdw,
  ZlR:=Zdw.binds (ps:=["found"]) (by walk_at "b"),
  Zl2:=W.mg_of X G Zqo,
  Zdv:=Zdv,
  ZlQ:=Zdv.binds (ps:=["found"]) (by walk_at "b"),
  Zl1:=W.mg_of X G Zqn,
  Zfe:=Zfe,
  ZoA:=Zfe.binds (ps:=["found"]) (by walk_at "b"),
  ZoM:=W.mg_of X G ZtZ,
  Zfd:=Zfd,
  Zoz:=Zfd.binds (ps:=["pieces","names"]) (by walk_at "b"),
  ZoL:=W.mg_of X G ZtY,
  Zgr:=Zgr,
  Zqr:=Zgr.binds (ps:=["found","names"]) (by walk_at "b"),
  Zq8:=W.mg_of X G Zu0,
  Zff:=Zff,
  ZoB:=Zff.binds (ps:=["found","names"]) (by walk_at "b"),
  ZoN:=W.mg_of X G Zt0,
  ZbS:=ZbS,
  Zht:=ZbS.binds (ps:=["line"]) (by walk_at "b"),
  Zhz:=W.mg_of X G Zmi,
  Zdy:=Zdy,
  ZlT:=Zdy.binds (ps:=["lines"]) (by walk_at "b"),
  Zl4:=W.mg_of X G Zqq,
  Zcj:=Zcj,
  Zi3:=Zcj.binds (ps:=["_law_script","_law_k"]) (by walk_at "b"),
  Zi8:=W.mg_of X G Zn2,
  Zdr:=Zdr,
  ZlM:=Zdr.binds (ps:=["_law_name_here","_law_names_here"]) (by walk_at "b"),
  ZlX:=W.mg_of X G Zqj,
  Zck:=Zck,
  Zi4:=Zck.binds (ps:=["_law_seed","_law_size"]) (by walk_at "b"),
  Zi9:=W.mg_of X G Zn3,
  Zd5:=Zd5,
  ZmP:=Zd5.binds (ps:=["_law_k","_law_cell"]) (by walk_at "b"),
  Znn:=W.mg_of X G Zr0,
  Zds:=Zds,
  ZlN:=Zds.binds (ps:=["_law_many","_law_cell"]) (by walk_at "b"),
  ZlY:=W.mg_of X G Zqk,
  ZcN:=ZcN,
  ZjZ:=ZcN.binds (ps:=["_law_some","_law_seed"]) (by walk_at "b"),
  Zku:=W.mg_of X G Zo7,
  Zdt:=Zdt,
  ZlO:=Zdt.binds (ps:=["_law_some"]) (by walk_at "b"),
  ZlZ:=W.mg_of X G Zql,
  Zd2:=Zd2,
  ZmM:=Zd2.binds (ps:=["_law_cell","_law_names_here"]) (by walk_at "b"),
  Znk:=W.mg_of X G ZrX,
  ZcM:=ZcM,
  ZjY:=ZcM.binds (ps:=["_law_cell","_law_names_here"]) (by walk_at "b"),
  Zkt:=W.mg_of X G Zo6,
  Zd4:=Zd4,
  ZmO:=Zd4.binds (ps:=["_law_guard","_law_pieces_here"]) (by walk_at "b"),
  Znm:=W.mg_of X G ZrZ,
  Zd3:=Zd3,
  ZmN:=Zd3.binds (ps:=["_law_script","_law_names_here"]) (by walk_at "b"),
  Znl:=W.mg_of X G ZrY,
  ZcL:=ZcL,
  ZjX:=ZcL.binds (ps:=["_law_names_here","_law_cell"]) (by walk_at "b"),
  Zks:=W.mg_of X G Zo5,
  Zcl:=Zcl,
  Zi5:=Zcl.binds (ps:=["_law_names_here","_law_cell"]) (by walk_at "b"),
  Zja:=W.mg_of X G Zn4,
  Zbs:=Zbs,
  ZfO:=Zbs.binds (ps:=["_law_names_here","_law_way","_law_cell"]) (by walk_at "b"),
  Zf3:=W.mg_of X G ZjT,
  ZbG:=ZbG,
  Zgw:=ZbG.binds (ps:=["_law_names_here","_law_way","_law_cell","_law_more"]) (by walk_at "b"),
  ZgF:=W.mg_of X G ZkR,
  Zdu:=Zdu,
  ZlP:=Zdu.binds (ps:=["_law_names_here","_law_way","_law_cell","_law_more"]) (by walk_at "b"),
  Zl0:=W.mg_of X G Zqm,
  ZbR:=ZbR,
  Zhs:=ZbR.binds (ps:=["_law_e"]) (by walk_at "b"),
  Zhy:=W.mg_of X G Zmh,
  Zd6:=Zd6,
  ZmQ:=Zd6.binds (ps:=["_law_lines"]) (by walk_at "b"),
  Zno:=W.mg_of X G Zr1,
  F_law:=ZyY (st:=Zor) l_law c_law k_law,
  m_law:=W.mg_of X G a_law,
  Zfm:=Zfm,
  ZmK:=Zfm.binds (ps:=["self","guard","changes"]) (by walk_at "b"),
  Zc2:=Zc2,
  Zi1:=Zc2.binds (ps:=["self","names","starts","bads","moves"]) (by walk_at "b"),
  ZaG:=ZaG,
  Zb8:=ZaG.binds (ps:=["self"]) (by walk_at "b"),
  Zfl:=Zfl,
  ZmJ:=Zfl.binds (ps:=["self","at"]) (by walk_at "b"),
  Zdo:=Zdo,
  ZhP:=Zdo.binds (ps:=["self","names"]) (by walk_at "b"),
  Zfn:=Zfn,
  ZmL:=Zfn.binds (ps:=["self","truth"]) (by walk_at "b"),
  Zdq:=Zdq,
  ZhQ:=Zdq.binds (ps:=["self","names"]) (by walk_at "b"),
  Zgq:=Zgq,
  Zoy:=Zgq.binds (ps:=["self","part"]) (by walk_at "b"),
  Zd1:=Zd1,
  Zjj:=Zd1.binds (ps:=["self","names"]) (by walk_at "b"),
  ZdJ:=ZdJ,
  ZeX:=ZdJ.binds (ps:=["self","parts"]) (by walk_at "b"),
  ZbB:=ZbB,
  Zc3:=ZbB.binds (ps:=["self","names"]) (by walk_at "b"),
  ZbZ:=ZbZ,
  ZhO:=ZbZ.binds (ps:=["self"]) (by walk_at "b"),
  ZcJ:=ZcJ,
  ZjV:=ZcJ.binds (ps:=["self"]) (by walk_at "b"),
  Zbr:=Zbr,
  ZfN:=Zbr.binds (ps:=["self"]) (by walk_at "b"),
  ZbQ:=ZbQ,
  Zhr:=ZbQ.binds (ps:=["self"]) (by walk_at "b"),
  Zci:=Zci,
  Zi2:=Zci.binds (ps:=["self"]) (by walk_at "b"),
  Zdp:=Zdp,
  ZlL:=Zdp.binds (ps:=["self"]) (by walk_at "b"),
  ZeC:=ZeC,
  ZlK:=ZeC.binds (ps:=["self"]) (by walk_at "b"),
  ZbE:=ZbE,
  Zgu:=ZbE.binds (ps:=["self","part"]) (by walk_at "b"),
  ZbD:=ZbD,
  Zgt:=ZbD.binds (ps:=["self","word"]) (by walk_at "b"),
  ZbF:=ZbF,
  Zgv:=ZbF.binds (ps:=["self","word","names"]) (by walk_at "b"),
  ZcK:=ZcK,
  ZjW:=ZcK.binds (ps:=["self"]) (by walk_at "b"),
  Zzw:=W.mg_of X G ZBK,
  Zqy:=⟨ZA0,ZAd,ZA5,ZBf⟩,
  Zzr:=⟨ZAI,Zse,Zsm,ZAx⟩,
  ZeG:=ZeG,
  Zc6:=Zc6,
  Zq7:=W.mg_of X G ZuU,
  ZdL:=⟨ZuE,Zud,ZuG,ZuH⟩,
  ZqS:=⟨Zut,Zn7,Zoa,Zui⟩,
  ZcG:=ZcG,
  Zch:=Zch,
  Zc5:=Zc5,
  ZcF:=ZcF,
  Zzv:=W.mg_of X G ZBJ,
  ZoC:=⟨ZAZ,ZAc,ZA4,ZBe⟩,
  Zzq:=⟨ZAH,Zsd,Zsl,ZAw⟩,
  Zh2:=Zh2,
  ZhT:=⟨ZqB,ZqI,Zdo.kp⟩,
  Zhv:=⟨Zmk,Zdi,ZaG.kp⟩,
  Zzx:=W.mg_of X G ZBL,
  ZoD:=⟨ZA1,ZAe,ZA6,ZBg⟩,
  Zzs:=⟨ZAJ,Zsg,Zso,ZAy⟩,
  ZeH:=ZeH,
  ZhV:=⟨ZqE,ZqL,Zdq.kp⟩,
  Zhw:=⟨Zml,Zdi,ZaG.kp⟩,
  m_Not:=W.mg_of X G a_Not,
  c_Not:=⟨ZDf,ZB8,ZDj,ZDB⟩,
  k_Not:=⟨ZCM,Zt5,Zue,ZCE⟩,
  Zfj:=Zfj,
  Zjn:=⟨Zsf,Zsn,Zd1.kp⟩,
  ZhU:=⟨ZmY,Zdi,ZaG.kp⟩,
  m_And:=W.mg_of X G a_And,
  c_And:=⟨ZDe,ZB7,ZDi,ZDA⟩,
  k_And:=⟨ZCL,Zt4,Zg9,ZCD⟩,
  Zfu:=Zfu,
  ZhS:=⟨ZmX,Zm1,ZbZ.kp⟩,
  Zj8:=⟨Zph,Zpm,ZcJ.kp⟩,
  Zjm:=⟨Zsc,Zge,ZbB.kp⟩,
  Ztu:=W.mg_of X G Zxo,
  Zix:=⟨Zwo,Zvx,Zwt,ZwG⟩,
  Zto:=⟨Zv6,Zpi,Zg9,ZvP⟩,
  Zc4:=Zc4,
  Zf2:=⟨Zj4,Zka,Zbr.kp⟩,
  Zhu:=⟨Zmj,Zmm,ZbQ.kp⟩,
  Zgd:=⟨Zn6,Zge,ZbB.kp⟩,
  m_Or:=W.mg_of X G a_Or,
  c_Or:=⟨pg_Or,hd_Or,po_Or,sa_Or⟩,
  k_Or:=⟨mk_Or,Zvk,Zg9,kc_Or⟩,
  ZgH:=ZgH,
  Zi7:=⟨Zn8,Zob,Zci.kp⟩,
  ZlV:=⟨ZqD,ZqK,Zdp.kp⟩,
  Zk0:=⟨Zt6,Zge,ZbB.kp⟩,
  Zv1:=W.mg_of X G ZzW,
  Za6:=⟨Zyi,ZxH,Zyk,Zyt⟩,
  ZvO:=⟨Zx2,ZqC,ZqJ,ZxR⟩,
  Zb4:=Zb4,
  ZcE:=ZcE,
  ZbJ:=ZbJ,
  Zel:=Zel,
  ZaM:=ZaM,
  ZgB:=⟨ZkV,Zk2,ZbE.kp⟩,
  ZgA:=⟨ZkU,Zk1,ZbD.kp⟩,
  ZgC:=⟨ZkW,Zk3,ZbF.kp⟩,
  Zj9:=⟨Zpj,Zpn,ZcK.kp⟩,
  b_ValueError:=W.mg_none_of X G b_ValueError,
  Zft:=W.mg_of X G ZrV,
  Ze4:=W.mg_of X G Zxp,
  Zkp:=W.mg_of X G Zxq,
  ZpC:=W.mg_of X G ZzX,
  Zkm:=W.mg_of X G ZuV,
  Zkn:=W.mg_of X G ZuW,
  Zko:=W.mg_of X G ZuX,
  Zhb:=W.mg_of X G ZrW,
  ZmC:=W.mg_of X G Zxr,
  Zkq:=W.mg_of X G ZuY,
  Ze5:=W.mg_of X G Zo4,
  Zkr:=W.mg_of X G ZuZ,
  Znj:=W.mg_of X G ZrU,
  Zf8:=Zf8,
  ZlU:=ZqN,
  Zf5:=Zf5,
  Zem:=⟨Zip,ZhW,ZrK,ZrL,ZrJ,Zra,ZrM⟩,
  ZnN:=Zst ZrN,
  ZdZ:=Znb _ _,
  ZfF:=ZaY (fun e=>Zbo ne_ (i:=0) (j:=1) rfl rfl (by decide) (Value.ref.inj e)) Zm3 ZrD ZjJ,
  ZfG:=ZaY (fun e=>Zbo ne_ (i:=0) (j:=2) rfl rfl (by decide) (Value.ref.inj e)) Zm4 ZrE ZjK,
  Zf9:=ZaY (fun e=>Zbo ne_ (i:=0) (j:=3) rfl rfl (by decide) (Value.ref.inj e)) Zpp Zp6 ZkM,
  ZeS:=ZaY (fun e=>Zbo ne_ (i:=0) (j:=4) rfl rfl (by decide) (Value.ref.inj e)) Zk5 Zlr ZiS,
  ZeT:=ZaY (fun e=>Zbo ne_ (i:=0) (j:=5) rfl rfl (by decide) (Value.ref.inj e)) Zk6 Zls ZiT,
  ZeU:=ZaY (fun e=>Zbo ne_ (i:=0) (j:=6) rfl rfl (by decide) (Value.ref.inj e)) Zk7 Zlt ZiU,
  Zd0:=ZaY (fun e=>Zbo ne_ (i:=0) (j:=7) rfl rfl (by decide) (Value.ref.inj e)) ZhX Zim ZhJ,
  ZfH:=ZaY (fun e=>Zbo ne_ (i:=0) (j:=8) rfl rfl (by decide) (Value.ref.inj e)) Zm5 ZnM ZjL,
  ZeV:=ZaY (fun e=>Zbo ne_ (i:=0) (j:=9) rfl rfl (by decide) (Value.ref.inj e)) Zk8 Zlu ZiV,
  ZdH:=ZaY (fun e=>Zbo ne_ (i:=0) (j:=10) rfl rfl (by decide) (Value.ref.inj e)) Zgf Zgp ZgL,
  ZeW:=ZaY (fun e=>Zbo ne_ (i:=0) (j:=11) rfl rfl (by decide) (Value.ref.inj e)) Zk9 Zlv ZiW,
  ZbM:=ZbM,
  ZeA:=⟨ZnU,Zm3,Zxa,Zxc,Zw8,Zv4,Zxe⟩,
  ZtQ:=Zst Zxg,
  ZfI:=ZaY (fun e=>Zbo ne_ (i:=1) (j:=0) rfl rfl (by decide) (Value.ref.inj e)) ZhW Zmb ZjM,
  ZhC:=Znb _ _,
  ZhD:=ZaY (fun e=>Zbo ne_ (i:=1) (j:=2) rfl rfl (by decide) (Value.ref.inj e)) Zm4 ZrE Zmt,
  Zis:=ZaY (fun e=>Zbo ne_ (i:=1) (j:=3) rfl rfl (by decide) (Value.ref.inj e)) Zpp Zp6 ZnW,
  ZgM:=ZaY (fun e=>Zbo ne_ (i:=1) (j:=4) rfl rfl (by decide) (Value.ref.inj e)) Zk5 Zlr ZlA,
  ZgN:=ZaY (fun e=>Zbo ne_ (i:=1) (j:=5) rfl rfl (by decide) (Value.ref.inj e)) Zk6 Zls ZlB,
  ZgO:=ZaY (fun e=>Zbo ne_ (i:=1) (j:=6) rfl rfl (by decide) (Value.ref.inj e)) Zk7 Zlt ZlC,
  ZfJ:=ZaY (fun e=>Zbo ne_ (i:=1) (j:=7) rfl rfl (by decide) (Value.ref.inj e)) ZhX Zim ZjN,
  ZhE:=ZaY (fun e=>Zbo ne_ (i:=1) (j:=8) rfl rfl (by decide) (Value.ref.inj e)) Zm5 ZnM Zmu,
  ZgP:=ZaY (fun e=>Zbo ne_ (i:=1) (j:=9) rfl rfl (by decide) (Value.ref.inj e)) Zk8 Zlu ZlD,
  ZeM:=ZaY (fun e=>Zbo ne_ (i:=1) (j:=10) rfl rfl (by decide) (Value.ref.inj e)) Zgf Zgp Ziq,
  ZgQ:=ZaY (fun e=>Zbo ne_ (i:=1) (j:=11) rfl rfl (by decide) (Value.ref.inj e)) Zk9 Zlv ZlE,
  Zcf:=Zcf,
  ZiL:=⟨ZnV,Zm4,Zxb,Zxd,Zw9,Zv5,Zxf⟩,
  ZtR:=Zst Zxh,
  ZfK:=ZaY (fun e=>Zbo ne_ (i:=2) (j:=0) rfl rfl (by decide) (Value.ref.inj e)) ZhW Zmb ZjO,
  ZhF:=ZaY (fun e=>Zbo ne_ (i:=2) (j:=1) rfl rfl (by decide) (Value.ref.inj e)) Zm3 ZrD Zmv,
  ZhG:=Znb _ _,
  Zit:=ZaY (fun e=>Zbo ne_ (i:=2) (j:=3) rfl rfl (by decide) (Value.ref.inj e)) Zpp Zp6 ZnX,
  ZgR:=ZaY (fun e=>Zbo ne_ (i:=2) (j:=4) rfl rfl (by decide) (Value.ref.inj e)) Zk5 Zlr ZlF,
  ZgS:=ZaY (fun e=>Zbo ne_ (i:=2) (j:=5) rfl rfl (by decide) (Value.ref.inj e)) Zk6 Zls ZlG,
  ZgT:=ZaY (fun e=>Zbo ne_ (i:=2) (j:=6) rfl rfl (by decide) (Value.ref.inj e)) Zk7 Zlt ZlH,
  ZfL:=ZaY (fun e=>Zbo ne_ (i:=2) (j:=7) rfl rfl (by decide) (Value.ref.inj e)) ZhX Zim ZjP,
  ZhH:=ZaY (fun e=>Zbo ne_ (i:=2) (j:=8) rfl rfl (by decide) (Value.ref.inj e)) Zm5 ZnM Zmw,
  ZgU:=ZaY (fun e=>Zbo ne_ (i:=2) (j:=9) rfl rfl (by decide) (Value.ref.inj e)) Zk8 Zlu ZlI,
  ZeN:=ZaY (fun e=>Zbo ne_ (i:=2) (j:=10) rfl rfl (by decide) (Value.ref.inj e)) Zgf Zgp Zir,
  ZgV:=ZaY (fun e=>Zbo ne_ (i:=2) (j:=11) rfl rfl (by decide) (Value.ref.inj e)) Zk9 Zlv ZlJ,
  Zcg:=Zcg,
  ZjI:=Zbo nd_ (i:=3) (j:=4) rfl rfl (by decide),
  Zlx:=Zbo nd_ (i:=3) (j:=5) rfl rfl (by decide),
  Zlw:=Zbo nd_ (i:=3) (j:=7) rfl rfl (by decide),
  Zhp:=Zbo nd_ (i:=3) (j:=8) rfl rfl (by decide),
  ZnQ:=Zbo nd_ (i:=3) (j:=9) rfl rfl (by decide),
  Zmc:=Zbo nd_ (i:=3) (j:=10) rfl rfl (by decide),
  Zlz:=Zbo nd_ (i:=4) (j:=5) rfl rfl (by decide),
  Zly:=Zbo nd_ (i:=4) (j:=7) rfl rfl (by decide),
  Zhq:=Zbo nd_ (i:=4) (j:=8) rfl rfl (by decide),
  ZnT:=Zbo nd_ (i:=4) (j:=9) rfl rfl (by decide),
  Zmd:=Zbo nd_ (i:=4) (j:=10) rfl rfl (by decide),
  ZnR:=Zbo nd_ (i:=5) (j:=7) rfl rfl (by decide),
  Zio:=Zbo nd_ (i:=5) (j:=8) rfl rfl (by decide),
  Zqc:=Zbo nd_ (i:=5) (j:=9) rfl rfl (by decide),
  ZnS:=Zbo nd_ (i:=5) (j:=10) rfl rfl (by decide),
  Zin:=Zbo nd_ (i:=7) (j:=8) rfl rfl (by decide),
  Zqb:=Zbo nd_ (i:=7) (j:=9) rfl rfl (by decide),
  ZnP:=Zbo nd_ (i:=7) (j:=10) rfl rfl (by decide),
  ZjH:=Zbo nd_ (i:=8) (j:=9) rfl rfl (by decide),
  Zjf:=Zbo nd_ (i:=8) (j:=10) rfl rfl (by decide),
  Zo1:=Zbo nd_ (i:=9) (j:=10) rfl rfl (by decide),
  bl:=fun s u=>.of_eq rfl,
  B:=⟨W.mg_none_of X G b_len,W.mg_none_of X G b_range,W.mg_none_of X G b_isinstance,W.mg_none_of X G b_int,W.mg_none_of X G b_bool,W.mg_none_of X G b_str,W.mg_none_of X G b_list,W.mg_none_of X G b_tuple,W.mg_none_of X G b_dict,W.mg_none_of X G b_set,W.mg_none_of X G b_sorted,W.mg_none_of X G b_max,W.mg_none_of X G b_min,W.mg_none_of X G b_sum,W.mg_none_of X G b_any,W.mg_none_of X G b_all,W.mg_none_of X G b_abs,W.mg_none_of X G b_reversed,W.mg_none_of X G b_enumerate,W.mg_none_of X G b_zip⟩,
  g_LETTERS:=⟨_,W.mg_of X G g_LETTERS,⟨_,rfl⟩⟩,
  g_MARKS:=⟨_,W.mg_of X G g_MARKS,⟨_,rfl⟩⟩,
  g_BLANK:=⟨_,W.mg_of X G g_BLANK,⟨_,rfl⟩⟩,
  g_MOST_LAMPS:=⟨_,W.mg_of X G g_MOST_LAMPS,⟨_,rfl⟩⟩,
  g_LONGEST_NAME:=⟨_,W.mg_of X G g_LONGEST_NAME,⟨_,rfl⟩⟩,
  g_JOINS:=⟨_,W.mg_of X G g_JOINS,rfl⟩,
  q_JOINS:=fun H=>.inr ⟨_,_,_,lk_JOINS,rfl,rfl,Nat.le_of_ble_eq_true rfl,.cons ⟨_,rfl⟩ (.cons ⟨_,rfl⟩ (.cons ⟨_,rfl⟩ (.nil)))⟩,
  g_NO_NAMES:=⟨_,W.mg_of X G g_NO_NAMES,rfl⟩,
  q_NO_NAMES:=fun H=>.inr ⟨_,_,_,lk_NO_NAMES,rfl,rfl,Nat.le_of_ble_eq_true rfl,.cons ⟨_,rfl⟩ (.cons ⟨_,rfl⟩ (.cons ⟨_,rfl⟩ (.cons ⟨_,rfl⟩ (.cons ⟨_,rfl⟩ (.cons ⟨_,rfl⟩ (.cons ⟨_,rfl⟩ (.cons ⟨_,rfl⟩ (.cons ⟨_,rfl⟩ (.cons ⟨_,rfl⟩ (.cons ⟨_,rfl⟩ (.nil)))))))))))⟩,
  g_SORTS:=⟨_,W.mg_of X G g_SORTS,rfl⟩,
  q_SORTS:=fun H=>.inr ⟨_,_,_,lk_SORTS,rfl,rfl,Nat.le_of_ble_eq_true rfl,.cons ⟨_,rfl⟩ (.cons ⟨_,rfl⟩ (.cons ⟨_,rfl⟩ (.nil)))⟩ }
def cell (ns:List Int) (k:Nat):Int:=ns.getD k 0
def spLaw (K:W.Frag):Sp:=fun vs H Q _=>∃(a:Addr) (ns:List Int),vs=[.ref a]∧SqL K H a (ns.map V.int)∧ns.length≤63∧Only H∧∀H',Q (.bl true) H'
def ZDG (K:W.Frag):Sp:=fun vs H Q _=>∃(a:Addr) (ns:List Int) (k:Nat),vs=[.ref a,.int (k:Int)]∧SqL K H a (ns.map V.int)∧Q (.int (cell ns k)) H
section
variable {P:Program} {w:World} {K:W.Frag} {mg:Str→Option Value} {base:Heap} {t:Ad}
theorem ZoO (T:Txt K mg t):FnS P w K mg base 1 "_law_cell_at" ["_law_script","_law_k"] (ZDG K):=by
 refine⟨_,_,T.Zcj.ok ZnH (fun vs H Q E h=>?_) (fun cdv A outer s H vs Q E hr h=>?_),T.Zi3,T.Zcj.kp,T.Zi8⟩
 ·obtain⟨a,ns,k,rfl,_⟩:=h
  rfl
 ·obtain⟨a,ns,k,rfl,hS,q⟩:=h
  refine⟨_,(Zac (ZaP (Zal Zyc (pv 1) (Zaw ZaE rfl T.B.len ZbV (Zaa (pv 0) Zab)) (Zat _))
   (Zae (Zas (Za1 ZaA (pv 0) (pv 1) (fun _ _=>rfl))))
   Zap)
   (Zae (Zas Zad))),?_⟩
  walk_at "rd0";refine ZbN (fun h=>?_) (fun h=>?_)
  ·rw[length_map]at h
   have hk:k < ns.length:=by omega
   walk_at "";refine ZEe (j:=k) (v:=.int (cell ns k)) hS ?_ q;rw[getElem?_map,List.getElem?_eq_getElem hk];simp[cell,getD_eq_getElem?_getD,List.getElem?_eq_getElem hk]
  ·rw[length_map]at h
   walk_at ""
   have e:cell ns k=0:=by
    simp only [cell,getD_eq_getElem?_getD];rw[List.getElem?_eq_none (by omega)];rfl
   rw[e]at q;exact q
end
theorem Zhx {t u:TS} {D:Ends} {σ:St} {H:Hp} (Pn:St→Hp→Prop) (h2:∀σ H,Pn σ H→u D σ H) (h1:∀Kn:St→Hp→Prop,(∀σ H,Pn σ H→Kn σ H)→t { D with nx:=Kn } σ H):tSeq t u D σ H:=h1 (u D) h2
def cw (t:Ad):W3→Addr
 | .a=>t.C_And
 | .e=>t.ZaI
 | .o=>t.C_Or
def FmAt (t:Ad) (H:Hp):Nat→Addr→Fm→Prop
 | 0,_,_=>False
 | n+1,p,f=>match f with
  | .lamp k=>∃dx,H p=some (.ins t.Zbx dx [(("at" : Str),.int (k:Int))])
  | .sure b=>∃dx,H p=some (.ins t.Zby dx [(("truth" : Str),.bl b)])
  | .neg g=>∃dx q,H p=some (.ins t.C_Not dx [(("part" : Str),.ref q)])∧FmAt t H n q g
  | .join w gs=>∃dx tp ps,H p=some (.ins (cw t w) dx [(("parts" : Str),.ref tp)])∧H tp=some (.tup (ps.map V.ref))∧Paired (FmAt t H n) ps gs
def isFm (t:Ad) (C:Addr):Prop:=C=t.Zbx∨C=t.Zby∨C=t.C_Not∨C=t.C_And∨C=t.ZaI∨C=t.C_Or
theorem Zan {α β:Type} {F G:α→β→Prop} (h:∀a b,F a b→G a b):∀{xs:List α} {ys:List β},Paired F xs ys→Paired G xs ys
 | _,_,.nil=>.nil
 | _,_,.cons r s=>.cons (h _ _ r) (Zan h s)
theorem ZoQ {α β:Type} {F:α→β→Prop}:∀{xs:List α} {ys:List β} {i:Nat} {x:α},Paired F xs ys→xs[i]?=some x→∃y,ys[i]?=some y∧F x y
 | _,_,_,_,.nil,e=>by simp at e
 | _,_,0,_,.cons r _,e=>by simp at e; subst e; exact⟨_,rfl,r⟩
 | _,_,i+1,x,.cons _ s,e=>by
  obtain⟨u,h1,h2⟩:=ZoQ (i:=i) (x:=x) s (by simpa using e);exact⟨u,by simpa using h1,h2⟩
theorem ZaX {α β:Type} {F:α→β→Prop}:∀{xs xs':List α} {ys ys':List β},Paired F xs ys→Paired F xs' ys'→Paired F (xs++xs') (ys++ys')
 | _,_,_,_,.nil,s=>s
 | _,_,_,_,.cons r q,s=>.cons r (ZaX q s)
theorem Znw {α β:Type} {F:α→β→Prop}:∀{xs:List α} {ys:List β} (n:Nat),Paired F xs ys→Paired F (xs.take n) (ys.take n)
 | _,_,0,_=>by rw[take_zero,take_zero]; exact .nil
 | _,_,_+1,.nil=>by rw[take_nil,take_nil]; exact .nil
 | _,_,n+1,.cons r q=>by rw[List.take_succ_cons,List.take_succ_cons]; exact .cons r (Znw n q)
theorem Zau {α β:Type} {F:α→β→Prop} {xs:List α} {ys:List β} (h:Paired F xs ys):xs.length=ys.length:=Paired.length h
theorem Zgc {ps:List Addr} {i:Nat} {x:V} (h:(ps.map V.ref)[i]?=some x):∃p,x=V.ref p∧ps[i]?=some p:=by
 rw[getElem?_map]at h
 cases e:ps[i]? with
 | none=>rw[e]at h; cases h
 | some p=>rw[e]at h; exact⟨p,(Option.some.inj h).symm,rfl⟩
theorem Zbh {α:Type} {l:List α} {i:Nat} {x:α} (h:l[i]?=some x):l.take (i+1)=l.take i++[x]:=by
 rw[List.take_add_one,h]; rfl
section
variable {P:Program} {w:World} {K:W.Frag} {mg:Str→Option Value} {base:Heap} {t:Ad} {H H':Hp} {n:Nat} {p:Addr} {f:Fm}
theorem FmAt.mono (s:Ext H H'):∀{n:Nat} {p:Addr} {f:Fm},FmAt t H n p f→FmAt t H' n p f
 | 0,_,_,h=>h
 | n+1,p,f,h=>by
  cases f with
  | lamp k=>obtain⟨dx,e⟩:=h; exact⟨dx,s _ _ e (fun _ z=>nomatch z)⟩
  | sure b=>obtain⟨dx,e⟩:=h; exact⟨dx,s _ _ e (fun _ z=>nomatch z)⟩
  | neg g=>obtain⟨dx,q,e,h⟩:=h; exact⟨dx,q,s _ _ e (fun _ z=>nomatch z),FmAt.mono s h⟩
  | join w gs=>obtain⟨dx,tp,ps,e,e2,h⟩:=h; exact⟨dx,tp,ps,s _ _ e (fun _ z=>nomatch z),s _ _ e2 (fun _ z=>nomatch z),Zan (fun a b h=>FmAt.mono s h) h⟩
theorem FmAt.le:∀{n m:Nat} {p:Addr} {f:Fm},n≤m→FmAt t H n p f→FmAt t H m p f
 | 0,_,_,_,_,h=>h.elim
 | n+1,0,_,_,hm,_=>absurd hm (by omega)
 | n+1,m+1,p,f,hm,h=>by
  have hm':n≤m:=by omega
  cases f with
  | lamp k=>exact h
  | sure b=>exact h
  | neg g=>obtain⟨dx,q,e,h⟩:=h; exact⟨dx,q,e,FmAt.le hm' h⟩
  | join w gs=>obtain⟨dx,tp,ps,e,e2,h⟩:=h; exact⟨dx,tp,ps,e,e2,Zan (fun a b h=>FmAt.le hm' h) h⟩
theorem ZAq (t:Ad) (w:W3):isFm t (cw t w):=by
 cases w
 ·exact .inr (.inr (.inr (.inl rfl)))
 ·exact .inr (.inr (.inr (.inr (.inl rfl))))
 ·exact .inr (.inr (.inr (.inr (.inr rfl))))
theorem FmAt.ins (h:FmAt t H n p f) (m:Str) (h1 : ¬m = "at") (h2 : ¬m = "truth") (h3 : ¬m = "part") (h4 : ¬m = "parts"):∃C dx fs,H p=some (.ins C dx fs)∧isFm t C∧fs.lookup m=none:=by
 cases n with
 | zero=>exact h.elim
 | succ n=>
  cases f with
  | lamp k=>obtain⟨dx,e⟩:=h; exact⟨_,dx,_,e,.inl rfl,lk0 _ h1⟩
  | sure b=>obtain⟨dx,e⟩:=h; exact⟨_,dx,_,e,.inr (.inl rfl),lk0 _ h2⟩
  | neg g=>obtain⟨dx,q,e,h⟩:=h; exact⟨_,dx,_,e,.inr (.inr (.inl rfl)),lk0 _ h3⟩
  | join w gs=>obtain⟨dx,tp,ps,e,e2,h⟩:=h; exact⟨_,dx,_,e,ZAq t w,lk0 _ h4⟩
theorem FmAt.lamp {dx:Addr} {fs:List (Str×V)} (T:Txt K mg t) (h:FmAt t H (n+1) p f) (e:H p=some (.ins t.Zbx dx fs)):∃k:Nat,f=.lamp k∧fs=[(("at" : Str),.int (k:Int))]:=by
 cases f with
 | lamp k=>obtain⟨dx',e'⟩:=h; rw[e]at e'; injection e' with e'; injection e' with _ _ e'; exact⟨k,rfl,e'⟩
 | sure b=>obtain⟨dx',e'⟩:=h; rw[e]at e'; injection e' with e'; injection e' with e' _ _; exact absurd e' T.ZjI
 | neg g=>obtain⟨dx',q,e',_⟩:=h; rw[e]at e'; injection e' with e'; injection e' with e' _ _; exact absurd e' T.Zlx
 | join w gs=>obtain⟨dx',tp,ps,e',_⟩:=h; rw[e]at e'; injection e' with e'; injection e' with e' _ _; cases w; exact absurd e' T.Zlw; exact absurd e' T.Zhp; exact absurd e' T.ZnQ
theorem FmAt.sure {dx:Addr} {fs:List (Str×V)} (T:Txt K mg t) (h:FmAt t H (n+1) p f) (e:H p=some (.ins t.Zby dx fs)):∃b:Bool,f=.sure b∧fs=[(("truth" : Str),.bl b)]:=by
 cases f with
 | lamp k=>obtain⟨dx',e'⟩:=h; rw[e]at e'; injection e' with e'; injection e' with e' _ _; exact absurd e'.symm T.ZjI
 | sure b=>obtain⟨dx',e'⟩:=h; rw[e]at e'; injection e' with e'; injection e' with _ _ e'; exact⟨b,rfl,e'⟩
 | neg g=>obtain⟨dx',q,e',_⟩:=h; rw[e]at e'; injection e' with e'; injection e' with e' _ _; exact absurd e' T.Zlz
 | join w gs=>obtain⟨dx',tp,ps,e',_⟩:=h; rw[e]at e'; injection e' with e'; injection e' with e' _ _; cases w; exact absurd e' T.Zly; exact absurd e' T.Zhq; exact absurd e' T.ZnT
theorem FmAt.neg {dx:Addr} {fs:List (Str×V)} (T:Txt K mg t) (h:FmAt t H (n+1) p f) (e:H p=some (.ins t.C_Not dx fs)):∃g q,f=.neg g∧fs=[(("part" : Str),.ref q)]∧FmAt t H n q g:=by
 cases f with
 | lamp k=>obtain⟨dx',e'⟩:=h; rw[e]at e'; injection e' with e'; injection e' with e' _ _; exact absurd e'.symm T.Zlx
 | sure b=>obtain⟨dx',e'⟩:=h; rw[e]at e'; injection e' with e'; injection e' with e' _ _; exact absurd e'.symm T.Zlz
 | neg g=>obtain⟨dx',q,e',h⟩:=h; rw[e]at e'; injection e' with e'; injection e' with _ _ e'; exact⟨g,q,rfl,e',h⟩
 | join w gs=>obtain⟨dx',tp,ps,e',_⟩:=h; rw[e]at e'; injection e' with e'; injection e' with e' _ _; cases w; exact absurd e' T.ZnR; exact absurd e' T.Zio; exact absurd e' T.Zqc
theorem Zte (T:Txt K mg t) {v w:W3} (e:cw t v=cw t w):v=w:=by
 cases v <;> cases w <;> first
  | rfl
  | exact absurd e T.Zin
  | exact absurd e T.Zqb
  | exact absurd e T.ZjH
  | exact absurd e.symm T.Zin
  | exact absurd e.symm T.Zqb
  | exact absurd e.symm T.ZjH
theorem FmAt.join {dx:Addr} {fs:List (Str×V)} {w:W3} (T:Txt K mg t) (h:FmAt t H (n+1) p f) (e:H p=some (.ins (cw t w) dx fs)) :
  ∃gs tp ps,f=.join w gs∧fs=[(("parts" : Str),.ref tp)]∧H tp=some (.tup (ps.map V.ref))∧Paired (FmAt t H n) ps gs:=by
 cases f with
 | lamp k=>obtain⟨dx',e'⟩:=h; rw[e]at e'; injection e' with e'; injection e' with e' _ _; cases w; exact absurd e'.symm T.Zlw; exact absurd e'.symm T.Zhp; exact absurd e'.symm T.ZnQ
 | sure b=>obtain⟨dx',e'⟩:=h; rw[e]at e'; injection e' with e'; injection e' with e' _ _; cases w; exact absurd e'.symm T.Zly; exact absurd e'.symm T.Zhq; exact absurd e'.symm T.ZnT
 | neg g=>obtain⟨dx',q,e',_⟩:=h; rw[e]at e'; injection e' with e'; injection e' with e' _ _; cases w; exact absurd e'.symm T.ZnR; exact absurd e'.symm T.Zio; exact absurd e'.symm T.Zqc
 | join v gs=>
  obtain⟨dx',tp,ps,e',e2,h⟩:=h
  rw[e]at e'; injection e' with e'; injection e' with e1 _ e3
  obtain rfl:=Zte T e1;exact⟨gs,tp,ps,rfl,e3,e2,h⟩
theorem ZAN (T:Txt K mg t):MkS P w K mg base 1 "Lamp" t.Zbx ["self","at"] (Zp3 t.Zbx "at"):=by
 refine⟨T.Zzv,_,_,T.Zzq,T.Zfl.ok Zrr (fun vs H Q E h=>?_) (fun cdv A outer s H vs Q E hr h=>?_),T.ZmJ⟩
 ·obtain⟨p,dx,v,rfl,_⟩:=h
  rfl
 ·obtain⟨p,dx,v,rfl,hp,q⟩:=h
  refine⟨_,(Zae (Zc7 (pv 0) (pv 1) rfl)),?_⟩;walk_at "rd0";exact⟨p,_,_,_,rfl,hp,T.ZoC,T.Zh2,by decide,q⟩
theorem ZAP (T:Txt K mg t):MkS P w K mg base 1 "Sure" t.Zby ["self","truth"] (Zp3 t.Zby "truth"):=by
 refine⟨T.Zzx,_,_,T.Zzs,T.Zfn.ok Zrt (fun vs H Q E h=>?_) (fun cdv A outer s H vs Q E hr h=>?_),T.ZmL⟩
 ·obtain⟨p,dx,v,rfl,_⟩:=h
  rfl
 ·obtain⟨p,dx,v,rfl,hp,q⟩:=h
  refine⟨_,(Zae (Zc7 (pv 0) (pv 1) rfl)),?_⟩;walk_at "rd0";exact⟨p,_,_,_,rfl,hp,T.ZoD,T.ZeH,by decide,q⟩
theorem ZCV (T:Txt K mg t):MkS P w K mg base 1 "Not" t.C_Not ["self","part"] (Zp3 t.C_Not "part"):=by
 refine⟨T.m_Not,_,_,T.k_Not,T.Zgq.ok Zs1 (fun vs H Q E h=>?_) (fun cdv A outer s H vs Q E hr h=>?_),T.Zoy⟩
 ·obtain⟨p,dx,v,rfl,_⟩:=h
  rfl
 ·obtain⟨p,dx,v,rfl,hp,q⟩:=h
  refine⟨_,(Zae (Zc7 (pv 0) (pv 1) rfl)),?_⟩;walk_at "rd0";exact⟨p,_,_,_,rfl,hp,T.c_Not,T.Zfj,by decide,q⟩
def ZnJ (C:Addr):Sp:=fun vs H Q _=>∃p dx l ys,vs=[.ref p,.ref l]∧H p=some (.ins C dx [])∧H l=some (.lst ys)∧∀tp,H tp=none→Q .non (upd (upd H tp (.tup ys)) p (.ins C dx [(("parts" : Str),.ref tp)]))
theorem Zlf {C:Addr} (T:Txt K mg t) (cl:Cls K C) (na:ZbO K C "parts"):FnOk P w K mg base CX0 1 t.Za4 t.ZdN ["self","parts"] (ZnJ C):=by
 refine T.ZdJ.ok Zot (fun vs H Q E h=>?_) (fun cdv A outer s H vs Q E hr h=>?_)
 ·obtain⟨p,dx,l,ys,rfl,_⟩:=h
  rfl
 ·obtain⟨p,dx,l,ys,rfl,hp,hl,q⟩:=h
  refine⟨_,(Zae (Zc7 (pv 0) (ZcH Zea rfl T.B.tuple Ziw (Zaa (pv 1) Zab)) rfl)),?_⟩;walk_at "rd0";refine ZoH hl fun tp htp=>?_;walk_at "";exact⟨p,_,_,_,rfl,by rw[ZaW (Zaf hp htp)]; exact hp,cl,na,by decide,q tp htp⟩
theorem ZCU (T:Txt K mg t):MkS P w K mg base 1 "And" t.C_And ["self","parts"] (ZnJ t.C_And):=⟨T.m_And,_,_,T.k_And,Zlf T T.c_And T.Zfu,T.ZeX⟩
theorem Zwc (T:Txt K mg t):MkS P w K mg base 1 "Either" t.ZaI ["self","parts"] (ZnJ t.ZaI):=⟨T.Ztu,_,_,T.Zto,Zlf T T.Zix T.Zc4,T.ZeX⟩
theorem ZEp (T:Txt K mg t):MkS P w K mg base 1 "Or" t.C_Or ["self","parts"] (ZnJ t.C_Or):=⟨T.m_Or,_,_,T.k_Or,Zlf T T.c_Or T.ZgH,T.ZeX⟩
theorem Zsq {C l:Addr} {ys:List V} {H:Hp} {Q:VK} (hl:H l=some (.lst ys)) (h:∀(x dx tp:Addr) (H':Hp),Same H H'→H x=none→H' x=some (.ins C dx [(("parts" : Str),.ref tp)])→H' tp=some (.tup ys)→Q (.ref x) H') :
  MkG C (ZnJ C) [.ref l] H Q:=by
 intro x dx hx hdx ne;have s2:=Zii hx hdx (.ins C dx []) (.own x);refine⟨x,dx,l,ys,rfl,ZaH,s2 _ _ hl,fun tp htp=>⟨rfl,?_⟩⟩
 have hxt:tp≠x:=by
  intro e; subst e; rw[ZaH]at htp; cases htp
 have htp0:H tp=none:=s2.free htp;refine h x dx tp _ (fun b o e=>?_) hx ZaH (by rw[ZaW hxt,ZaH]);rw[ZaW (Zaf e hx),ZaW (Zaf e htp0),ZaW (Zaf e hx),ZaW (Zaf e hdx)];exact e
end
def Lt (z:Str):Prop:=∀c∈z.cps.toList,97≤c∧c≤122
theorem ZmB {z:Str} (h:Lt z) (lo hi:Option Int):Lt (Txt.slice z lo hi):=by
 unfold Txt.slice
 split
 ·exact h
 ·intro c hc
  have hc:c∈(Builtin.Str.strSliceIndices lo hi 1 z.length).filterMap (z.cps[·]?):=by simpa using hc
  obtain⟨i,_,e⟩:=List.mem_filterMap.mp hc;obtain⟨hi,e⟩:=Array.getElem?_eq_some_iff.mp e;exact h c (by rw[←e]; simp)
theorem ZeF {x y:Str} (hx:Lt x) (hy:Lt y):Lt (x++y):=by
 intro c hc;have hc:c∈(x.cps++y.cps).toList:=hc;rw[Array.toList_append,mem_append]at hc;exact hc.elim (hx c) (hy c)
theorem Ztt {k:Nat} (h:k < 26):Lt ⟨#[97+k]⟩:=by
 intro c hc;have hc:c∈[97+k]:=hc;rw[mem_singleton.mp hc];omega
def abc:Str:="abcdefghijklmnopqrstuvwxyz"
theorem ZvW:∀k,k < 26→abc.cps.toList[k]?=some (97+k):=by decide +kernel
theorem ZxW:∀k,k < 26→Txt.find abc ⟨#[97+k]⟩=(k:Int):=by decide +kernel
theorem Zsj {z:Str} {k:Nat} (h:k < z.length):∃c,z.cps.toList[k]?=some c:=by
 have h:k < z.cps.toList.length:=by simpa [Str.length] using h
 exact⟨_,List.getElem?_eq_getElem h⟩
theorem Zws {α:Type} [DecidableEq α] (f:Nat→α):∀(k:Nat) (L:List α),(∀i,i < k→f i∈L)→(∀i j,i < j→j < k→f i≠f j)→k≤L.length
 | 0,_,_,_=>Nat.zero_le _
 | k+1,L,h,d=>by
  have hk:=h k (by omega);have:=Zws f k (L.erase (f k)) (fun i hi=>(List.mem_erase_of_ne (d i k hi (by omega))).mpr (h i (by omega))) (fun i j hij hj=>d i j hij (by omega));rw[List.length_erase_of_mem hk]at this;have:0 < L.length:=List.length_pos_of_mem hk;omega
def rot (u:Str) (c j:Nat):Str:=u++⟨#[97+(c+j) % 26]⟩
theorem ZDu {u:Str} {c i j:Nat} (h:i < j) (hj:j < 26):rot u c i≠rot u c j:=by
 intro e;have e:(u.cps ++ #[97+(c+i) % 26])=(u.cps ++ #[97+(c+j) % 26]):=congrArg Str.cps e;have e:=congrArg Array.toList e;rw[Array.toList_append,Array.toList_append]at e;have e:=List.append_cancel_left e;simp at e;omega
theorem Zvd {z:Str} (h:1≤z.length) (hz:Lt z):∃c,c < 26∧z=rot (Txt.slice z none (some (-1))) c 0:=by
 have hl:z.cps.toList.length=z.length:=by simp[Str.length]
 obtain⟨c,hc⟩:=Zsj (z:=z) (k:=z.length - 1) (by omega);have hm:=hz c (mem_of_getElem? hc);refine⟨c - 97,by omega,?_⟩
 have e1:Txt.slice z none (some (-1))=⟨(z.cps.toList.take (z.length - 1)).toArray⟩:=by
  rw[PyProof.Rows.slice_to_neg (by decide)];show StrLaws.sliceText z none (some _)=_;rw[StrLaws.sliceText_to (by constructor <;> omega)];rw[drop_zero,show((max 0 ((z.length:Int) + -1)) - 0).toNat=z.length - 1 by omega]
 rw[e1];unfold rot
 have e2:z.cps.toList=z.cps.toList.take (z.length - 1)++[c]:=by
  have:=Zbh hc;rw[show z.length - 1+1=z.cps.toList.length by omega,take_length]at this;exact this
 have e3:97+(c - 97+0) % 26=c:=by omega
 rw[e3];show z=Str.append _ _;unfold Str.append;obtain⟨a⟩:=z
 congr 1
 apply Array.toList_inj.mp;rw[Array.toList_append];exact e2
theorem ZwE (u:Str) (c j:Nat):Txt.slice (rot u c j) none (some (-1))=u:=by
 have hl:(rot u c j).length=u.length+1:=by unfold rot; rw[Zak]; rfl
 rw[PyProof.Rows.slice_to_neg (by decide)];show StrLaws.sliceText (rot u c j) none (some _)=_
 have hl2:(rot u c j).cps.toList.length=(rot u c j).length:=by simp[Str.length]
 rw[StrLaws.sliceText_to (by constructor <;> omega)];rw[drop_zero,show((max 0 (((rot u c j).length:Int) + -1)) - 0).toNat=u.length by omega];obtain⟨a⟩:=u
 congr 1
 show((a ++ #[97+(c+j) % 26]).toList.take a.size).toArray=a;rw[Array.toList_append,show a.size=a.toList.length by simp,List.take_left]
theorem Zys (u:Str) (c j:Nat):atI (rot u c j).cps.toList (-1)=some (97+(c+j) % 26):=by
 have e:(rot u c j).cps.toList=u.cps.toList++[97+(c+j) % 26]:=by
  show(u.cps ++ #[97+(c+j) % 26]).toList=_;rw[Array.toList_append]
 rw[e];unfold atI ixN;rw[if_neg (by decide),if_pos (by rw[length_append,length_singleton]; omega)];show(u.cps.toList++[97+(c+j) % 26])[_]?=_;rw[length_append,length_singleton,show(-1+((u.cps.toList.length+1:Nat):Int)).toNat=u.cps.toList.length by omega,List.getElem?_append_right (Nat.le_refl _)];simp
theorem Zkc (x:Str):∀ns:List Str,inV (.str x) (ns.map V.str)=decide (x∈ns)
 | []=>rfl
 | y::ns=>by
  have ih:=Zkc x ns;unfold inV at ih ⊢;rw[map_cons,any_cons,ih];have e:eqV (.str y) (.str x)=decide (y=x):=rfl;rw[e]
  by_cases h:y=x
  ·simp[h]
  ·have h' : ¬x=y:=fun z=>h z.symm
   simp[h,h']
section
variable {P:Program} {w:World} {K:W.Frag} {mg:Str→Option Value} {base:Heap} {t:Ad} {n:Nat}
theorem ZvB {p:Addr} {x:Str} {ns:List Str} {H:Hp} {Q:VK} (h:H p=some (.lst (ns.map V.str))∨H p=some (.tup (ns.map V.str))) (k:Q (.bl (decide (x∈ns))) H):rInG K (.str x) (.ref p) H Q:=by
 refine .inr ⟨p,ns.map V.str,rfl,h.imp SqL.of SqT.of,rfl,?_,?_⟩
 ·rw[all_eq_true]
  intro v hv;obtain⟨z,_,rfl⟩:=mem_map.mp hv;rfl
 ·rw[Zkc]
  exact k
theorem ZEa {x:Int} {H:Hp} {Q:VK} (h:∀e,e < 26→Q (.str ⟨#[97+e]⟩) H):rIx K (.str "abcdefghijklmnopqrstuvwxyz") (.int (x % 26)) H Q:=by
 obtain⟨e,he,he26⟩ : ∃e:Nat,x % 26=(e:Int)∧e < 26:=⟨(x % 26).toNat,by omega,by omega⟩;rw[he];exact Zss (by decide) (ZhN (ZvW e he26)) (h e he26)
end
def jn (z:List Nat):List (List Nat)→List Nat
 | []=>[]
 | [p]=>p
 | p::q::r=>p++z++jn z (q::r)
theorem list_append (x y:Str):(x++y).cps.toList=x.cps.toList++y.cps.toList:=by
 show(x.cps++y.cps).toList=_;rw[Array.toList_append]
theorem Zfr (z:Str):∀ps:List Str,(Str.join z ps).cps.toList=jn z.cps.toList (ps.map fun p=>p.cps.toList)
 | []=>rfl
 | [p]=>rfl
 | p::q::r=>by
  show(p++z++Str.join z (q::r)).cps.toList=_;rw[list_append,list_append,Zfr z (q::r)];rfl
def rp (c:Nat) (z l:List Nat):List Nat:=l.flatMap fun d=>if d=c then z else [d]
theorem Zh4 (c:Nat) (z a b:List Nat):rp c z (a++b)=rp c z a++rp c z b:=by
 unfold rp; rw[List.flatMap_append]
theorem Zlj {c:Nat} {z:List Nat}:∀{p:List Nat},c∉p→rp c z p=p
 | [],_=>rfl
 | d::p,h=>by
  have h1 : ¬d=c:=fun e=>h (by rw[e]; exact mem_cons_self);have h2:c∉p:=fun e=>h (mem_cons_of_mem _ e);show(if d=c then z else [d])++rp c z p=d::p;rw[if_neg h1,Zlj h2];rfl
theorem ZDx (c:Nat) (z:List Nat):rp c z [c]=z:=by
 show(if c=c then z else [c])++[]=z;rw[if_pos rfl,append_nil]
theorem ZDv (c:Nat) (z:List Nat):∀ps:List (List Nat),(∀p∈ps,c∉p)→rp c z (jn [c] ps)=jn z ps
 | [],_=>rfl
 | [p],h=>Zlj (h p mem_cons_self)
 | p::q::r,h=>by
  show rp c z (p++[c]++jn [c] (q::r))=p++z++jn z (q::r);rw[Zh4,Zh4,Zlj (h p mem_cons_self),ZDx,ZDv c z (q::r) fun x hx=>h x (mem_cons_of_mem _ hx)]
theorem Zt9 (x:Str) (c:Nat):∀p∈(Txt.split x ⟨#[c]⟩).map fun p=>p.cps.toList,c∉p:=by
 intro p hp;obtain⟨q,hq,rfl⟩:=mem_map.mp hp;exact StrLaws.split_free x c q hq
theorem ZyG (x:Str) (c:Nat):jn [c] ((Txt.split x ⟨#[c]⟩).map fun p=>p.cps.toList)=x.cps.toList:=by
 have e:=Zfr ⟨#[c]⟩ (Txt.split x ⟨#[c]⟩);rw[StrLaws.join_split]at e;exact e.symm
theorem ZeJ (x z:Str) (c:Nat):(Txt.replace x ⟨#[c]⟩ z).cps.toList=rp c z.cps.toList x.cps.toList:=by
 rw[StrLaws.replace_one,Zfr,←ZDv c _ _ (Zt9 x c),ZyG]
theorem ZzH {c:Nat} {z:List Nat} {n:Nat} (hz:z.length≤n) (h1:1≤n):∀l:List Nat,(rp c z l).length≤l.length * n
 | []=>Nat.zero_le _
 | d::l=>by
  have ih:=ZzH (c:=c) hz h1 l;show((if d=c then z else [d])++rp c z l).length≤(l.length+1) * n;rw[length_append,Nat.succ_mul]
  by_cases e:d=c
  ·rw[if_pos e]; omega
  ·rw[if_neg e]; simp only [length_singleton]; omega
theorem ZDw {c:Nat} {z l:List Nat} {d:Nat} (h:d∈rp c z l):d∈l∨d∈z:=by
 unfold rp at h;obtain⟨e,he,hd⟩:=List.mem_flatMap.mp h
 by_cases q:e=c
 ·rw[if_pos q]at hd; exact .inr hd
 ·rw[if_neg q]at hd; rw[mem_singleton.mp hd]; exact .inl he
def wl:List Nat→List Nat→List (List Nat)
 | [],cur=>if cur=[] then [] else [cur]
 | c::cs,cur=>if c=32 then(if cur=[] then wl cs [] else cur::wl cs []) else wl cs (cur++[c])
open StrLaws Builtin.Str in
def SwIs (x:Str) (cur:Nat) (st:SwSt):Prop:=
 st.fst=none∧(∀p∈st.snd.fst.toList,p.2≤x.length)∧
 match st.snd.snd with
 | some b=>b < cur∧wsum st.snd.fst.toList≤b∧(st.snd.fst.toList.map fun p:Nat×Nat=>(strSub x p.1 p.2).cps.toList)++wl (x.cps.toList.drop cur) ((x.cps.toList.drop b).take (cur - b))=wl x.cps.toList []
 | none=>wsum st.snd.fst.toList≤cur∧(st.snd.fst.toList.map fun p:Nat×Nat=>(strSub x p.1 p.2).cps.toList)++wl (x.cps.toList.drop cur) []=wl x.cps.toList []
theorem ZxA {l:List Nat} {k c:Nat} (h:l[k]?=some c):l.drop k=c::l.drop (k+1):=by
 obtain⟨hk,e⟩:=List.getElem?_eq_some_iff.mp h;rw[List.drop_eq_getElem_cons hk,e]
theorem ZtO {l:List Nat} {b k c:Nat} (hb:b≤k) (h:l[k]?=some c):(l.drop b).take (k+1 - b)=(l.drop b).take (k - b)++[c]:=by
 have e:k+1 - b=(k - b)+1:=by omega
 rw[e,List.take_add_one,getElem?_drop,show b+(k - b)=k by omega,h];rfl
open StrLaws Builtin.Str in
theorem ZnL (x:Str) (hsp:∀c∈x.cps.toList,Unicode.isSpace c=decide (c=32)):∀(m cur:Nat) (st:SwSt),cur+m≤x.length→SwIs x cur st→SwIs x (cur+m) (forIn (List.range' cur m) st (swBody x (x.length+1))).run
 | 0,cur,st,_,h=>h
 | m+1,cur,(r,words,sta),hm,h=>by
  rw[List.range'_succ,List.forIn_cons]
  have e:cur+(m+1)=(cur+1)+m:=by omega
  rw[e];obtain⟨h1,h2,h3⟩:=h
  have hcs:cur < x.cps.size:=by show cur < x.length; omega
  have hcl:x.cps.toList[cur]?=some x.cps[cur]:=by rw[Array.getElem?_toList]; simp[hcs]
  have hc0:x.cps.getD cur 0=x.cps[cur]:=by simp[Array.getD,hcs]
  have hs:Unicode.isSpace (x.cps.getD cur 0)=decide (x.cps[cur]=32):=by rw[hc0]; exact hsp _ (mem_of_getElem? hcl)
  have hd:=ZxA hcl
  have hsz : ¬((words.size == x.length+1)=true):=by
   have a:=len_le_wsum words.toList
   have b:words.toList.length=words.size:=by simp
   have c:wsum words.toList≤cur:=by
    cases sta with
    | none=>exact h3.1
    | some b=>exact Nat.le_trans h3.2.1 (Nat.le_of_lt h3.1)
   rw[beq_iff_eq]; omega
  unfold swBody;simp only [hsz,if_false];rw[hs]
  cases sta with
  | none=>
   obtain⟨g1,g2⟩:=h3;rw[hd]at g2
   by_cases q:x.cps[cur]=32
   ·rw[decide_eq_true q]
    refine ZnL x hsp m (cur+1) _ (by omega) ⟨rfl,h2,Nat.le_succ_of_le g1,?_⟩;rw[show wl (x.cps[cur]::x.cps.toList.drop (cur+1)) []=wl (x.cps.toList.drop (cur+1)) [] by show(if x.cps[cur]=32 then _ else _)=_; rw[if_pos q]; rfl]at g2;exact g2
   ·rw[decide_eq_false q]
    refine ZnL x hsp m (cur+1) _ (by omega) ⟨rfl,h2,Nat.lt_succ_self _,g1,?_⟩;rw[show wl (x.cps[cur]::x.cps.toList.drop (cur+1)) []=wl (x.cps.toList.drop (cur+1)) [x.cps[cur]] by show(if x.cps[cur]=32 then _ else _)=_; rw[if_neg q]; rfl]at g2;rw[ZtO (Nat.le_refl cur) hcl,Nat.sub_self,take_zero];exact g2
  | some b=>
   obtain⟨g0,g1,g2⟩:=h3;have g0:b < cur:=g0;have g1:wsum words.toList≤b:=g1;rw[hd]at g2
   have hne:(x.cps.toList.drop b).take (cur - b)≠[]:=by
    intro z;have:=congrArg List.length z;rw[length_take,length_drop,Array.length_toList]at this;simp only [length_nil]at this;omega
   by_cases q:x.cps[cur]=32
   ·rw[decide_eq_true q]
    refine ZnL x hsp m (cur+1) _ (by omega) ⟨rfl,?_,?_,?_⟩
    ·intro p hp
     rw[Array.toList_push,mem_append,mem_singleton]at hp
     rcases hp with hp | rfl
     ·exact h2 p hp
     ·show cur≤x.length; omega
    ·show wsum (words.push (b,cur)).toList≤cur+1
     rw[Array.toList_push,wsum_snoc];show wsum words.toList+(cur - b+1)≤cur+1;omega
    ·show((words.push (b,cur)).toList.map fun p:Nat×Nat=>(strSub x p.1 p.2).cps.toList)++wl (x.cps.toList.drop (cur+1)) []=_
     rw[show wl (x.cps[cur]::x.cps.toList.drop (cur+1)) ((x.cps.toList.drop b).take (cur - b))=((x.cps.toList.drop b).take (cur - b))::wl (x.cps.toList.drop (cur+1)) [] by show(if x.cps[cur]=32 then(if _=[] then _ else _) else _)=_; rw[if_pos q,if_neg hne]]at g2;rw[Array.toList_push,map_append,append_assoc,←g2]
     congr 1
     show [(strSub x b cur).cps.toList]++_=_;rw[strSub_toList];rfl
   ·rw[decide_eq_false q]
    refine ZnL x hsp m (cur+1) _ (by omega) ⟨rfl,h2,Nat.lt_succ_of_lt g0,g1,?_⟩;rw[show wl (x.cps[cur]::x.cps.toList.drop (cur+1)) ((x.cps.toList.drop b).take (cur - b))=wl (x.cps.toList.drop (cur+1)) ((x.cps.toList.drop b).take (cur - b)++[x.cps[cur]]) by show(if x.cps[cur]=32 then _ else _)=_; rw[if_neg q]]at g2;rw[ZtO (Nat.le_of_lt g0) hcl];exact g2
open StrLaws Builtin.Str in
theorem Zs5 (x:Str) (hsp:∀c∈x.cps.toList,Unicode.isSpace c=decide (c=32)):(Txt.words x).map (fun p=>p.cps.toList)=wl x.cps.toList []:=by
 have key:(wordsOf x).map (fun p=>p.cps.toList)=wl x.cps.toList []:=by
  unfold wordsOf;rw[sw_eq];have k:=ZnL x hsp x.length 0 ((none,#[],none):SwSt) (by omega) ⟨rfl,fun p hp=>by simp at hp,Nat.le_refl 0,rfl⟩;rw[Nat.zero_add]at k;generalize (forIn (List.range' 0 x.length) ((none,#[],none):SwSt) (swBody x (x.length+1))).run=st at k;obtain⟨r,words,sta⟩:=st;obtain⟨h1,h2,h3⟩:=k;have h1':r=none:=h1;subst h1';have hdr:x.cps.toList.drop x.length=[]:=List.drop_of_length_le (by rw[Array.length_toList]; exact Nat.le_refl _);unfold swEnd
  cases sta with
  | none=>
   obtain⟨g1,g2⟩:=h3;rw[hdr]at g2;rw[map_map];rw[←g2];show _=_++[];rw[append_nil];rfl
  | some b=>
   obtain⟨g0,g1,g2⟩:=h3;have g0:b < x.length:=g0;rw[hdr]at g2
   have hne:(x.cps.toList.drop b).take (x.length - b)≠[]:=by
    intro z;have:=congrArg List.length z;rw[length_take,length_drop,Array.length_toList]at this;simp only [length_nil]at this;have e:x.cps.size=x.length:=rfl;omega
   show((words.push (b,x.length)).toList.map _).map _=_;rw[Array.toList_push,map_append,map_append,map_map,←g2]
   congr 1
   show [(strSub x b x.length).cps.toList]=if _=[] then [] else _;rw[if_neg hne,strSub_toList]
 unfold Txt.words
 split
 ·rename_i hw
  have e:spaceWords x (x.length+1)=[(0,x.length)]:=eq_of_beq hw;unfold wordsOf at key;rw[e]at key;rw[←key];show [x.cps.toList]=[(strSub x 0 x.length).cps.toList];rw[sub_whole]
 ·exact key
theorem Zq5:∀{a b:List Str},a.map (fun p=>p.cps.toList)=b.map (fun p=>p.cps.toList)→a=b
 | [],[],_=>rfl
 | [],_::_,h=>by cases h
 | _::_,[],h=>by cases h
 | x::a,y::b,h=>by
  have h1:x.cps.toList=y.cps.toList:=(List.cons.inj h).1;have h2:=Zq5 (List.cons.inj h).2
  have:x=y:=by
   cases x; cases y
   simp only [Str.mk.injEq];exact Array.toList_inj.mp h1
  rw[this,h2]
structure Lv where
 nots:Nat
 ands:List Fm
 eithers:List Fm
 ors:List Fm
 lack:Bool
def Lv.new:Lv:=⟨0,[],[],[],true⟩
def Lv.size (L:Lv):Nat:=L.nots+L.ands.length+L.eithers.length+L.ors.length
def negs:Nat→Fm→Fm
 | 0,f=>f
 | n+1,f=>.neg (negs n f)
def Zb3 (w:W3):List Fm→Fm
 | [f]=>f
 | fs=>.join w fs
theorem Zkf {w:W3} {fs:List Fm} (h:fs.length≠1):Zb3 w fs=.join w fs:=by
 match fs,h with
 | [],_=>rfl
 | [f],h=>exact absurd rfl h
 | _::_::_,_=>rfl
def Lv.part (L:Lv) (f:Fm):Lv:=⟨0,L.ands++[negs L.nots f],L.eithers,L.ors,false⟩
def Lv.join (L:Lv):W3→Lv
 | .a=>⟨L.nots,L.ands,L.eithers,L.ors,true⟩
 | .e=>⟨L.nots,[],L.eithers++[Zb3 .a L.ands],L.ors,true⟩
 | .o=>⟨L.nots,[],[],L.ors++[Zb3 .e (L.eithers++[Zb3 .a L.ands])],true⟩
def Lv.whole (L:Lv):Fm:=Zb3 .o (L.join .o).ors
def kw3:W3→Str
 | .a=>"and"
 | .e=>"either"
 | .o=>"or"
def idxS (z:Str):List Str→Option Nat
 | []=>none
 | n::r=>if n=z then some 0 else(idxS z r).map (· + 1)
theorem Zkb {z:Str}:∀{ns:List Str} {j:Nat},idxS z ns=some j→ns[j]?=some z∧∀m,m < j→ns[m]?≠some z
 | [],_,h=>by cases h
 | n::r,j,h=>by
  unfold idxS at h
  by_cases e:n=z
  ·rw[if_pos e]at h
   cases h
   subst e;exact⟨rfl,fun m hm=>absurd hm (Nat.not_lt_zero _)⟩
  ·rw[if_neg e]at h
   obtain⟨k,hk,rfl⟩:=Option.map_eq_some_iff.mp h;obtain⟨h1,h2⟩:=Zkb hk;refine⟨by simpa using h1,fun m hm=>?_⟩
   cases m with
   | zero=>simpa using e
   | succ m=>simpa using h2 m (by omega)
theorem Zm6 {z:Str}:∀{ns:List Str},idxS z ns=none→z∉ns
 | [],_=>by simp
 | n::r,h=>by
  unfold idxS at h
  by_cases e:n=z
  ·rw[if_pos e]at h; cases h
  ·rw[if_neg e]at h
   have:=Zm6 (Option.map_eq_none_iff.mp h);simp only [mem_cons,not_or];exact⟨fun y=>e y.symm,this⟩
def Zdn (ns:List Str) (z:Str):Option Fm:=if z = "yes" then some (.sure true) else if z = "no" then some (.sure false) else(idxS z ns).map Fm.lamp
def Zmn (z:Str):Option W3:=if z = "and" then some .a else if z = "either" then some .e else if z = "or" then some .o else none
theorem ZxP {z:Str} {w:W3} (h:Zmn z=some w):z=kw3 w:=by
 unfold Zmn at h
 by_cases h1:z = "and"
 ·rw[if_pos h1]at h; cases h; exact h1
 ·rw[if_neg h1]at h
  by_cases h2:z = "either"
  ·rw[if_pos h2]at h; cases h; exact h2
  ·rw[if_neg h2]at h
   by_cases h3:z = "or"
   ·rw[if_pos h3]at h; cases h; exact h3
   ·rw[if_neg h3]at h; cases h
def Lv.word (ns:List Str) (L:Lv) (z:Str):Option Lv:=
 if L.lack=true then(if z = "not" then some ⟨L.nots+1,L.ands,L.eithers,L.ors,L.lack⟩ else(Zdn ns z).map L.part) else(Zmn z).map L.join
def Zct (ns:List Str):List Lv→Str→Option (List Lv)
 | [],_=>none
 | L::R,z=>if z = "("∧L.lack=true then some (Lv.new::L::R) else match R with
  | []=>(L.word ns z).map ([·])
  | M::R'=>if z = ")"∧L.lack=false then some (M.part L.whole::R') else(L.word ns z).map (· :: M::R')
def runW (ns:List Str):List Lv→List Str→Option (List Lv)
 | S,[]=>some S
 | S,z::r=>(Zct ns S z).bind fun S'=>runW ns S' r
theorem ZfA (ns:List Str):∀(a b:List Str) (S:List Lv),runW ns S (a++b)=(runW ns S a).bind fun S'=>runW ns S' b
 | [],b,S=>rfl
 | z::a,b,S=>by
  show(Zct ns S z).bind _=((Zct ns S z).bind _).bind _
  cases Zct ns S z with
  | none=>rfl
  | some S'=>exact ZfA ns a b S'
def endF:Lv→Option Fm:=fun L=>if L.lack=true then none else some L.whole
def Ze7 (ns:List Str) (ws:List Str):Option Fm:=(runW ns [Lv.new] ws).bind fun S=>S.getLast?.bind endF
theorem ZwW {ns:List Str} {S S':List Lv} {z:Str} {n:Nat} (h:Zct ns S z=some S') (hs:∀L∈S,L.size≤n):∀L∈S',L.size≤n+1:=by
 have hp:∀(L:Lv) (f:Fm),L.size≤n→(L.part f).size≤n+1:=fun L f hl=>by
  unfold Lv.size Lv.part at *;simp only [length_append,length_singleton]at *;omega
 have hw:∀(L L':Lv),L.size≤n→L.word ns z=some L'→L'.size≤n+1:=fun L L' hl e=>by
  unfold Lv.word at e
  by_cases h1:L.lack=true
  ·rw[if_pos h1]at e
   by_cases h2:z = "not"
   ·rw[if_pos h2]at e
    cases e
    unfold Lv.size at *
    dsimp only at *
    omega
   ·rw[if_neg h2]at e
    obtain⟨f,_,rfl⟩:=Option.map_eq_some_iff.mp e;exact hp L f hl
  ·rw[if_neg h1]at e
   obtain⟨v,_,rfl⟩:=Option.map_eq_some_iff.mp e
   cases v <;> (unfold Lv.size Lv.join at *; simp only [length_append,length_singleton,length_nil]at *; omega)
 cases S with
 | nil=>cases h
 | cons L R=>
  have hL:=hs L mem_cons_self;have hR:∀M∈R,M.size≤n+1:=fun M hM=>Nat.le_succ_of_le (hs M (mem_cons_of_mem _ hM));simp only [Zct]at h
  by_cases h1:z = "("∧L.lack=true
  ·rw[if_pos h1]at h
   cases h
   intro M hM
   rcases mem_cons.mp hM with rfl | hM
   ·exact Nat.zero_le _
   rcases mem_cons.mp hM with rfl | hM
   ·omega
   ·exact hR M hM
  ·rw[if_neg h1]at h
   cases R with
   | nil=>
    obtain⟨L',e,rfl⟩:=Option.map_eq_some_iff.mp h;intro M hM;rw[mem_singleton.mp hM];exact hw L L' hL e
   | cons N R'=>
    dsimp only at h
    by_cases h2:z = ")"∧L.lack=false
    ·rw[if_pos h2]at h
     cases h
     intro M hM
     rcases mem_cons.mp hM with rfl | hM
     ·exact hp N _ (hs N (mem_cons_of_mem _ mem_cons_self))
     ·exact hR M (mem_cons_of_mem _ hM)
    ·rw[if_neg h2]at h
     obtain⟨L',e,rfl⟩:=Option.map_eq_some_iff.mp h;intro M hM
     rcases mem_cons.mp hM with rfl | hM
     ·exact hw L _ hL e
     ·exact hR M hM
theorem ZBs {ns:List Str} {S S':List Lv} {z:Str} (h:Zct ns S z=some S'):S'≠[]:=by
 cases S with
 | nil=>cases h
 | cons L R=>
  simp only [Zct]at h
  by_cases h1:z = "("∧L.lack=true
  ·rw[if_pos h1]at h; cases h; simp
  ·rw[if_neg h1]at h
   cases R with
   | nil=>obtain⟨L',_,rfl⟩:=Option.map_eq_some_iff.mp h; simp
   | cons N R'=>
    dsimp only at h
    by_cases h2:z = ")"∧L.lack=false
    ·rw[if_pos h2]at h; cases h; simp
    ·rw[if_neg h2]at h
     obtain⟨L',_,rfl⟩:=Option.map_eq_some_iff.mp h; simp
section
variable {X:Cx}
def Zwy:V→List V→Hp→VK→Prop:=fun x vs H Q=>∃(l:Addr) (ns:List Str) (z:Str),x=.ref l∧vs=[.str z]∧H l=some (.lst (ns.map V.str))∧Q (.int ((ns.count z:Nat):Int)) H
open PySem.Spec PyProof PyProof.Rows in
theorem Zv8:MtM X "list.count" Zwy:=by
 intro pins s σ H x vs v us Q I rx rv h;obtain⟨l,ns,z,rfl,rfl,hH,q⟩:=h
 cases rx
 obtain⟨u,rfl,ru⟩:=rv.one;obtain⟨tu,rfl⟩:=(show ∃t,u=Value.str z t from ru);obtain⟨_,its,n,r,hl,e⟩:=I.lstM hH
 have key:∀(ys:List Str) (vs:List Value),Vals (ys.map V.str) vs→vs.countP (isTx z)=ys.count z∧∀y∈vs,MeetsSeq.EqGives y (.str z tu) (isTx z y):=by
  intro ys
  induction ys with
  | nil=>
   intro vs hv
   cases hv
   exact⟨rfl,fun y hy=>by cases hy⟩
  | cons y ys ih=>
   intro vs hv
   cases hv with
   | cons h1 h2=>
    obtain⟨ty,rfl⟩:=(show ∃t,_=Value.str y t from h1);obtain⟨a,b⟩:=ih _ h2;refine⟨?_,fun v hv=>?_⟩
    ·rw[List.countP_cons,List.count_cons,a]
     rfl
    ·rcases mem_cons.mp hv with rfl | hv
     ·exact eqGives_str y z ty tu
     ·exact b v hv
 obtain⟨k1,k2⟩:=key ns its r;refine call_meets F.slot_list_count ⟨_,e,rfl⟩ F.entry_list_count (F.args_list_count_2 _ _) (MeetsSeq.list_count l its.toArray n (.str z tu) (isTx z) (fun y hy=>k2 y (by simpa using hy))) ⟨e,?_⟩;rw[show its.toArray.toList=its from rfl,k1];exact⟨.int ((ns.count z:Nat):Int),H,I.tok _,⟨_,rfl⟩,q⟩
end
theorem ZxL {H:Hp} {Q:VK} {l:Addr} {ns:List Str} {z:Str} (h:H l=some (.lst (ns.map V.str))) (q:Q (.int ((ns.count z:Nat):Int)) H):Zwy (.ref l) [.str z] H Q:=⟨l,ns,z,rfl,rfl,h,q⟩
section
variable {P:Program} {w:World} {K:W.Frag} {mg:Str→Option Value} {base:Heap} {t:Ad}
def isL (c:Nat):Bool:=decide (97≤c) && decide (c≤122)
def isM (c:Nat):Bool:=c == 40 || c == 41 || c == 44
def al (c:Nat):Bool:=isL c || isM c || c == 32
theorem ZCz:∀c,c < 128→(!(Builtin.Str.occurrences "abcdefghijklmnopqrstuvwxyz" ⟨#[c]⟩ 0 (Str.length "abcdefghijklmnopqrstuvwxyz") 1).isEmpty)=isL c:=by decide +kernel
theorem ZCA:∀c,c < 128→(!(Builtin.Str.occurrences "()," ⟨#[c]⟩ 0 (Str.length "(),") 1).isEmpty)=isM c:=by decide +kernel
theorem ZEh:∀c,c < 128→decide ((⟨#[c]⟩ : Str) = " ")=(c == 32):=by decide +kernel
theorem Zxu:∀c,c < 128→al c=true→Unicode.isSpace c=decide (c=32):=by decide +kernel
theorem ZD7 {c:Nat} (h:al c=true):c < 128:=by
 unfold al isL isM at h;simp only [Bool.or_eq_true,Bool.and_eq_true,decide_eq_true_eq,beq_iff_eq]at h;omega
def padC (x:Str) (c:Nat):Str:=Txt.replace x ⟨#[c]⟩ ⟨#[32,c,32]⟩
def pad (x:Str):Str:=padC (padC (padC x 40) 41) 44
theorem ZiH (x:Str) (c:Nat):(padC x c).length≤x.length * 3:=by
 show(padC x c).cps.size≤x.cps.size * 3;rw[←Array.length_toList,←Array.length_toList];unfold padC;rw[ZeJ];exact ZzH (Nat.le_refl 3) (by decide) _
theorem ZsO {x:Str} {c:Nat} (h:∀d∈x.cps.toList,al d=true) (hc:al c=true):∀d∈(padC x c).cps.toList,al d=true:=by
 intro d hd;unfold padC at hd;rw[ZeJ]at hd
 rcases ZDw hd with z | z
 ·exact h d z
 ·have z:d∈[32,c,32]:=z
  simp only [mem_cons,not_mem_nil,or_false]at z
  rcases z with rfl | rfl | rfl
  ·rfl
  ·exact hc
  ·rfl
theorem ZzB {x:Str} (h:∀d∈x.cps.toList,al d=true):∀d∈(pad x).cps.toList,al d=true:=ZsO (ZsO (ZsO h rfl) rfl) rfl
theorem ZAU (x:Str):(pad x).length≤x.length * 27:=by
 have a:=ZiH x 40;have b:=ZiH (padC x 40) 41;have c:=ZiH (padC (padC x 40) 41) 44;unfold pad;omega
def padL (l:List Nat):List Nat:=l.flatMap fun c=>if isM c=true then [32,c,32] else [c]
theorem ZtA (a b:List Nat):padL (a++b)=padL a++padL b:=List.flatMap_append ..
theorem ZAV (c:Nat):rp 44 [32,44,32] (rp 41 [32,41,32] (rp 40 [32,40,32] [c]))=padL [c]:=by
 by_cases h1:c=40
 ·subst h1; rfl
 by_cases h2:c=41
 ·subst h2; rfl
 by_cases h3:c=44
 ·subst h3; rfl
 have e:isM c=false:=by unfold isM; simp[h1,h2,h3]
 rw[Zlj (c:=40) (by simp; omega),Zlj (c:=41) (by simp; omega),Zlj (c:=44) (by simp; omega)];unfold padL;simp[e]
theorem Zwk:∀l:List Nat,rp 44 [32,44,32] (rp 41 [32,41,32] (rp 40 [32,40,32] l))=padL l
 | []=>rfl
 | c::l=>by
  have e:c::l=[c]++l:=rfl;rw[e,Zh4,Zh4,Zh4,ZAV,Zwk l,ZtA]
theorem ZtC (x:Str):(pad x).cps.toList=padL x.cps.toList:=by
 unfold pad padC;rw[ZeJ,ZeJ,ZeJ];exact Zwk _
theorem ZtB:∀l:List Nat,(padL l).length≤3 * l.length
 | []=>Nat.le_refl _
 | c::l=>by
  have ih:=ZtB l;have e:padL (c::l)=(if isM c=true then [32,c,32] else [c])++padL l:=rfl;rw[e,length_append,length_cons]
  by_cases h:isM c=true
  ·rw[if_pos h]; simp only [length_cons,length_nil]; omega
  ·rw[if_neg h]; simp only [length_cons,length_nil]; omega
theorem Zyd (x:Str):(pad x).length≤3 * x.length:=by
 have a:=ZtB x.cps.toList;rw[←ZtC]at a
 have e1:(pad x).cps.toList.length=(pad x).length:=by simp[Str.length]
 have e2:x.cps.toList.length=x.length:=by simp[Str.length]
 omega
theorem Zvs {σ:St} {H:Hp} {Q:VK} {c k:Nat} (e:σ[k]?=some (some (.str ⟨#[c]⟩))) (h:Q (.str ⟨#[32,c,32]⟩) H):tFs (tJc (tC (V.str " ")) (tJc (tFmt (tVar k)) (tJc (tC (V.str " ")) tJn))) σ H Q:=
 ⟨" ",rfl,ZaQ (Nat.le_of_ble_eq_true rfl),_,e,⟨#[c]⟩,rfl,ZaQ (Nat.le_of_ble_eq_true rfl),⟨#[c]⟩,rfl,ZaQ (Nat.le_of_ble_eq_true rfl)," ",rfl,ZaQ (Nat.le_of_ble_eq_true rfl),ZaQ (Nat.le_of_ble_eq_true rfl),h⟩
theorem Zw7 (x:Str):(Txt.words x).length≤x.length+1:=by
 have:=StrLaws.words_weight x;omega
def okW (z:Str):Bool:=z.cps.toList.all al
def ZBq:Sp:=fun vs H Q _=>∃z:Str,vs=[.str z]∧Asc z∧z.length≤16000∧(okW z=false→Q .non H)∧(okW z=true→∀H' p,Same H H'→H p=none→H' p=some (.lst ((Txt.words (pad z)).map V.str))→Q (.ref p) H')
theorem Zya (T:Txt K mg t):FnS P w K mg base 1 "words" ["text"] (ZBq):=by
 refine⟨_,_,T.ZkP.ok ZmE (fun vs H Q E h=>?_) (fun cdv A outer s H vs Q E hr h=>?_),T.Zu4,T.ZkP.kp,T.Zv3⟩
 ·obtain⟨z,rfl,ha,hz,q1,q2⟩:=h
  rfl
 obtain⟨z,rfl,ha,hz,q1,q2⟩:=h
 refine⟨_,(Zac (ZcI PassesOwn.never rfl (Zfz (pv 0)) (sg 1 ZmE.nd)
   (Zae (ZaP (PW.pt (ZgI (Zal Zfw (pv 1) (Zop rfl T.g_LETTERS) (by with_unfolding_all rfl)) (ZgI (Zal Zfw (pv 1) (Zop rfl T.g_MARKS) (by with_unfolding_all rfl)) (Zgg (Zal (ZkB hr.units) (pv 1) (Zop rfl T.g_BLANK) (Zat _))))))
   (Zae (Zas ZzE))
   Zap)))
   (ZDm (ssp 2 ZmE.nd (pv 0))
   (Zwv (ZA9 (i:=2) (j:=3) PassesOwn.never rfl ZmE.nd (Zop rfl T.g_MARKS) (ZuD (ZpQ Zai (ZpQ (Zwn (pv 3)) (ZpQ Zai ZA3)))))
   (Zae (Zas (ZzC F.plainAttrs_str F.slot_str_split F.type_str_split Zx3 (pv 2))))))),?_⟩
 walk_at "rd0";refine seqX (fun i σ H'=>H'=H∧(∀j c,j < i→z.cps[j]?=some c→al c=true)∧∃v,σ=[some (.str z),v,none,none]) ⟨rfl,fun j c hj=>absurd hj (Nat.not_lt_zero _),_,rfl⟩ ?_ ?_
 ·rintro i c σ H' hx ⟨rfl,hj,v,rfl⟩
  have hmem:c∈z.cps.toList:=mem_of_getElem? (by rw[Array.getElem?_toList]; exact hx);have c128:=ha c hmem
  have nx:al c=true→∀j d,j < i+1→z.cps[j]?=some d→al d=true:=fun h j d hj' hd=>by
   by_cases e:j=i
   ·subst e; rw[hx]at hd; cases hd; exact h
   ·exact hj j d (by omega) hd
  walk_at "";refine .inl ⟨_,_,rfl,rfl,?_⟩;rw[ZCz c c128]
  dsimp only
  walk_at ""
  cases h1:isL c with
  | true=>
   refine Za7 rfl ?_;refine Za7 rfl ?_;walk_at "";exact⟨rfl,nx (by unfold al; rw[h1]; rfl),_,rfl⟩
  | false=>
   refine Zbn rfl ?_;walk_at "";refine .inl ⟨_,_,rfl,rfl,?_⟩;rw[ZCA c c128]
   dsimp only
   walk_at ""
   cases h2:isM c with
   | true=>
    refine Za7 rfl ?_;refine Za7 rfl ?_;walk_at "";exact⟨rfl,nx (by unfold al; rw[h2,Bool.or_true]; rfl),_,rfl⟩
   | false=>
    refine Zbn rfl ?_;walk_at "";rw[ZEh c c128]
    cases h3:c == 32 with
    | true=>
     refine Za7 rfl ?_;walk_at "";exact⟨rfl,nx (by unfold al; rw[h3,Bool.or_true]),_,rfl⟩
    | false=>
     refine Zbn rfl ?_;walk_at "";refine q1 ?_;unfold okW;rw[List.all_eq_false];refine⟨c,hmem,?_⟩;unfold al;rw[h1,h2,h3];exact Bool.false_ne_true
 ·rintro σ H' ⟨rfl,hj,v,rfl⟩
  have hall:∀d∈z.cps.toList,al d=true:=fun c hc=>by
   obtain⟨j,hj',e⟩:=List.mem_iff_getElem.mp hc
   have hj2:j < z.cps.size:=by simpa using hj'
   exact hj j c hj2 (by rw[←Array.getElem?_toList,List.getElem?_eq_getElem hj',e])
  have hok:okW z=true:=all_eq_true.mpr hall;have n1:=ZiH z 40;have n2:=ZiH (padC z 40) 41;have n3:=ZiH (padC (padC z 40) 41) 44;walk_at "";refine⟨_,rfl,by decide +kernel,?_⟩;show tRep 2 3 _ [40,41,44] _ _ _;refine ZvF z rfl (Zvs rfl ⟨_,rfl,rfl,?_,?_⟩)
  ·show z.length+(z.length+1) * 3≤_; omega
  refine ZvF (padC z 40) rfl (Zvs rfl ⟨_,rfl,rfl,?_,?_⟩)
  ·show(padC z 40).length+((padC z 40).length+1) * 3≤_; omega
  refine ZvF (padC (padC z 40) 41) rfl (Zvs rfl ⟨_,rfl,rfl,?_,?_⟩)
  ·show(padC (padC z 40) 41).length+((padC (padC z 40) 41).length+1) * 3≤_; omega
  refine ZCu ?_;walk_at "";have n4:=Zw7 (pad z);have n5:=ZAU z;have pl3:=Zyd z;refine⟨tyS,pad z,rfl,by omega,.inl ⟨rfl,ZaD (by rw[length_map]; omega) fun p H1 s1 n1 e1=>?_⟩⟩;exact q2 hok H1 p s1 n1 e1
end
def FmE (t:Ad) (H:Hp) (p:Addr) (f:Fm):Prop:=∃n,FmAt t H n p f
def FmsE (t:Ad) (H:Hp) (l:Addr) (fs:List Fm):Prop:=∃ps,H l=some (.lst (ps.map V.ref))∧Paired (FmE t H) ps fs
def ExtL (t:Ad) (H H':Hp):Prop:=∀x u,H x=some u→(∀xs,u≠.lst xs)→(∀dx fs,u≠.ins t.ZaB dx fs)→H' x=some u
section
variable {K:W.Frag} {σ:St} {H:Hp}
theorem Zm8 {p C dx:Addr} {fs:List (Str×V)} {f:Str} {y:V} {R:Hp→Prop} (h:H p=some (.ins C dx fs)) (c:Cls K C) (n:ZbO K C f) (z:fs.length < 1000) (k:∀H',But p H H'→H' p=some (.ins C dx (putF f y fs))→R H') :
  ∃a C dx fs,(V.ref p)=.ref a∧H a=some (.ins C dx fs)∧Cls K C∧ZbO K C f∧fs.length < 1000∧R (upd H a (.ins C dx (putF f y fs))):=⟨p,C,dx,fs,rfl,h,c,n,z,k _ ZmV ZaH⟩
end
def Off2 (p l:Addr) (H H':Hp):Prop:=∀b u,b≠p→b≠l→H b=some u→H' b=some u
section
variable {P:Program} {w:World} {K:W.Frag} {mg:Str→Option Value} {base:Heap} {t:Ad} {H H' H'':Hp}
theorem ExtL.trans (a:ExtL t H H') (b:ExtL t H' H''):ExtL t H H'':=fun x u e h1 h2=>b x u (a x u e h1 h2) h1 h2
theorem ExtL.of (s:Same H H'):ExtL t H H':=fun x u e _ _=>s x u e
theorem ExtL.lst {l:Addr} {xs:List V} (b:But l H H') (e:H l=some (.lst xs)):ExtL t H H':=fun x u z h1 _=>b x u (fun y=>by rw[y,e]at z; cases z; exact h1 _ rfl) z
theorem ExtL.lev {p dx:Addr} {fs:List (Str×V)} (b:But p H H') (e:H p=some (.ins t.ZaB dx fs)):ExtL t H H':=fun x u z _ h2=>b x u (fun y=>by rw[y,e]at z; cases z; exact h2 _ _ rfl) z
theorem ZBU (T:Txt K mg t) (v:W3):cw t v≠t.ZaB:=by
 cases v
 ·exact T.ZnP
 ·exact T.Zjf
 ·exact T.Zo1
theorem FmAt.extL (T:Txt K mg t) (s:ExtL t H H'):∀{n:Nat} {p:Addr} {f:Fm},FmAt t H n p f→FmAt t H' n p f
 | 0,_,_,h=>h
 | n+1,p,f,h=>by
  cases f with
  | lamp k=>obtain⟨dx,e⟩:=h; exact⟨dx,s _ _ e (fun _ z=>nomatch z) fun _ _ z=>T.Zmc (HO.ins.inj z).1⟩
  | sure b=>obtain⟨dx,e⟩:=h; exact⟨dx,s _ _ e (fun _ z=>nomatch z) fun _ _ z=>T.Zmd (HO.ins.inj z).1⟩
  | neg g=>obtain⟨dx,q,e,h⟩:=h; exact⟨dx,q,s _ _ e (fun _ z=>nomatch z) (fun _ _ z=>T.ZnS (HO.ins.inj z).1),FmAt.extL T s h⟩
  | join w gs=>obtain⟨dx,tp,ps,e,e2,h⟩:=h; exact⟨dx,tp,ps,s _ _ e (fun _ z=>nomatch z) (fun _ _ z=>ZBU T w (HO.ins.inj z).1),s _ _ e2 (fun _ z=>nomatch z) (fun _ _ z=>nomatch z),Zan (fun a b h=>FmAt.extL T s h) h⟩
theorem FmE.extL (T:Txt K mg t) (s:ExtL t H H') {p:Addr} {f:Fm} (h:FmE t H p f):FmE t H' p f:=let ⟨n,h⟩:=h; ⟨n,h.extL T s⟩
theorem FmE.same (s:Same H H') {p:Addr} {f:Fm} (h:FmE t H p f):FmE t H' p f:=let ⟨n,h⟩:=h; ⟨n,h.mono (Ext.of s)⟩
theorem FmE.neg {q p dx:Addr} {f:Fm} (e:H q=some (.ins t.C_Not dx [(("part" : Str),.ref p)])) (h:FmE t H p f):FmE t H q (.neg f):=let ⟨n,h⟩:=h; ⟨n+1,dx,p,e,h⟩
theorem ZB2:∀{ps:List Addr} {fs:List Fm},Paired (FmE t H) ps fs→∃n,Paired (FmAt t H n) ps fs
 | _,_,.nil=>⟨0,.nil⟩
 | _,_,.cons h r=>by
  obtain⟨n,h⟩:=h;obtain⟨m,r⟩:=ZB2 r;exact⟨max n m,.cons (h.le (Nat.le_max_left _ _)) (Zan (fun _ _ z=>z.le (Nat.le_max_right _ _)) r)⟩
theorem FmE.join {x dx tp:Addr} {ps:List Addr} {fs:List Fm} {v:W3} (e:H x=some (.ins (cw t v) dx [(("parts" : Str),.ref tp)])) (e2:H tp=some (.tup (ps.map V.ref))) (h:Paired (FmE t H) ps fs):FmE t H x (.join v fs):=
 let ⟨n,h⟩:=ZB2 h; ⟨n+1,dx,tp,ps,e,e2,h⟩
theorem FmsE.snoc {l:Addr} {ps:List Addr} {fs:List Fm} {q:Addr} {f:Fm} (e:H l=some (.lst (ps.map V.ref++[.ref q]))) (h:Paired (FmE t H) ps fs) (hq:FmE t H q f):FmsE t H l (fs++[f]):=
 ⟨ps++[q],by rw[map_append]; exact e,ZaX h (.cons hq .nil)⟩
def ZdY (n:Nat) (a e o:Addr) (b:Bool):List (Str×V):=[(("nots" : Str),.int (n:Int)),(("ands" : Str),.ref a),(("eithers" : Str),.ref e),(("ors" : Str),.ref o),(("lacking" : Str),.bl b)]
structure LvAt (t:Ad) (H:Hp) (p dx a e o:Addr) (L:Lv):Prop where
 ob:H p=some (.ins t.ZaB dx (ZdY L.nots a e o L.lack))
 la:FmsE t H a L.ands
 le:FmsE t H e L.eithers
 lo:FmsE t H o L.ors
 ae:a≠e
 ao:a≠o
 eo:e≠o
theorem FmsE.keep (T:Txt K mg t) (s:ExtL t H H') {l:Addr} {fs:List Fm} (h:FmsE t H l fs) (k:∀xs,H l=some (.lst xs)→H' l=some (.lst xs)):FmsE t H' l fs:=by
 obtain⟨ps,e,p⟩:=h;exact⟨ps,k _ e,Zan (fun _ _ z=>FmE.extL T s z) p⟩
theorem LvAt.keep (T:Txt K mg t) {p dx a e o:Addr} {L:Lv} (V:LvAt t H p dx a e o L) (s:ExtL t H H') (k:∀x u,x=p∨x=a∨x=e∨x=o→H x=some u→H' x=some u):LvAt t H' p dx a e o L:=
 ⟨k _ _ (.inl rfl) V.ob,V.la.keep T s fun _ z=>k _ _ (.inr (.inl rfl)) z,V.le.keep T s fun _ z=>k _ _ (.inr (.inr (.inl rfl))) z,V.lo.keep T s fun _ z=>k _ _ (.inr (.inr (.inr rfl))) z,V.ae,V.ao,V.eo⟩
theorem LvAt.same (T:Txt K mg t) {p dx a e o:Addr} {L:Lv} (V:LvAt t H p dx a e o L) (s:Same H H'):LvAt t H' p dx a e o L:=V.keep T (ExtL.of s) fun x u _ z=>s x u z
def ZmF (t:Ad) (v:W3):Sp:=fun vs H Q _=>∃(l:Addr) (fs:List Fm),vs=[.ref l]∧FmsE t H l fs∧∀q H',Same H H'→FmE t H' q (Zb3 v fs)→Q (.ref q) H'
theorem Zwd (T:Txt K mg t):FnS P w K mg base 3 "and_of" ["parts"] ((ZmF t .a)):=by
 refine⟨_,_,T.Ziu.ok ZwH (fun vs H Q E h=>?_) (fun cdv A outer s H vs Q E hr h=>?_),T.Zs9,T.Ziu.kp,T.Ztv⟩
 ·obtain⟨l,fs,rfl,hF,q⟩:=h
  rfl
 obtain⟨l,fs,rfl,hF,q⟩:=h;obtain⟨ps,hl,hp⟩:=hF;have M_And:=ZCU (P:=P) (w:=w) (base:=base) T;have hz:=Zau hp;refine⟨_,(Zae (Zas (ZkD (Zal (ZaF hr.units) (Zaw ZaE rfl T.B.len ZbV (Zaa (pv 0) Zab)) Zad (Zat _)) (Za1 ZaA (pv 0) Zad (fun _ _=>rfl)) (ZpP M_And hr (Zaa (pv 0) Zab))))),?_⟩;walk_at "rd0";rw[length_map,hz];refine ZbN (fun h=>?_) (fun h=>?_)
 ·match ps,fs,hp,hz with
  | [p0],[f0],.cons h0 .nil,_=>
   walk_at "";refine ZaO (j:=0) (v:=.ref p0) hl rfl ?_;exact q p0 H (Same.refl _) h0
  | [],[],_,_=>exact absurd h (by decide)
  | _::_::_,_::_::_,_,_=>simp only [length_cons]at h; omega
 ·walk_at ""
  refine Zsq hl fun x dx tp H1 s1 n1 e1 e2=>?_;refine q x H1 s1 ?_;rw[Zkf (by omega)];exact FmE.join (v:=.a) e1 e2 (Zan (fun _ _ z=>FmE.same s1 z) hp)
theorem Zrh (T:Txt K mg t):FnS P w K mg base 3 "either_of" ["parts"] ((ZmF t .e)):=by
 refine⟨_,_,T.Zd8.ok Zrv (fun vs H Q E h=>?_) (fun cdv A outer s H vs Q E hr h=>?_),T.ZmS,T.Zd8.kp,T.Znq⟩
 ·obtain⟨l,fs,rfl,hF,q⟩:=h
  rfl
 obtain⟨l,fs,rfl,hF,q⟩:=h;obtain⟨ps,hl,hp⟩:=hF;have Zxk:=Zwc (P:=P) (w:=w) (base:=base) T;have hz:=Zau hp;refine⟨_,(Zae (Zas (ZkD (Zal (ZaF hr.units) (Zaw ZaE rfl T.B.len ZbV (Zaa (pv 0) Zab)) Zad (Zat _)) (Za1 ZaA (pv 0) Zad (fun _ _=>rfl)) (ZpP Zxk hr (Zaa (pv 0) Zab))))),?_⟩;walk_at "rd0";rw[length_map,hz];refine ZbN (fun h=>?_) (fun h=>?_)
 ·match ps,fs,hp,hz with
  | [p0],[f0],.cons h0 .nil,_=>
   walk_at "";refine ZaO (j:=0) (v:=.ref p0) hl rfl ?_;exact q p0 H (Same.refl _) h0
  | [],[],_,_=>exact absurd h (by decide)
  | _::_::_,_::_::_,_,_=>simp only [length_cons]at h; omega
 ·walk_at ""
  refine Zsq hl fun x dx tp H1 s1 n1 e1 e2=>?_;refine q x H1 s1 ?_;rw[Zkf (by omega)];exact FmE.join (v:=.e) e1 e2 (Zan (fun _ _ z=>FmE.same s1 z) hp)
theorem Zx8 (T:Txt K mg t):FnS P w K mg base 3 "or_of" ["parts"] ((ZmF t .o)):=by
 refine⟨_,_,T.ZkO.ok Zyu (fun vs H Q E h=>?_) (fun cdv A outer s H vs Q E hr h=>?_),T.Zu3,T.ZkO.kp,T.Zv2⟩
 ·obtain⟨l,fs,rfl,hF,q⟩:=h
  rfl
 obtain⟨l,fs,rfl,hF,q⟩:=h;obtain⟨ps,hl,hp⟩:=hF;have M_Or:=ZEp (P:=P) (w:=w) (base:=base) T;have hz:=Zau hp;refine⟨_,(Zae (Zas (ZkD (Zal (ZaF hr.units) (Zaw ZaE rfl T.B.len ZbV (Zaa (pv 0) Zab)) Zad (Zat _)) (Za1 ZaA (pv 0) Zad (fun _ _=>rfl)) (ZpP M_Or hr (Zaa (pv 0) Zab))))),?_⟩;walk_at "rd0";rw[length_map,hz];refine ZbN (fun h=>?_) (fun h=>?_)
 ·match ps,fs,hp,hz with
  | [p0],[f0],.cons h0 .nil,_=>
   walk_at "";refine ZaO (j:=0) (v:=.ref p0) hl rfl ?_;exact q p0 H (Same.refl _) h0
  | [],[],_,_=>exact absurd h (by decide)
  | _::_::_,_::_::_,_,_=>simp only [length_cons]at h; omega
 ·walk_at ""
  refine Zsq hl fun x dx tp H1 s1 n1 e1 e2=>?_;refine q x H1 s1 ?_;rw[Zkf (by omega)];exact FmE.join (v:=.o) e1 e2 (Zan (fun _ _ z=>FmE.same s1 z) hp)
theorem ZCm {p:Addr} {x:Str} {ns:List Str} {Q:VK} (h:SqT K H p (ns.map V.str)) (k:Q (.bl (decide (x∈ns))) H):rInG K (.str x) (.ref p) H Q:=by
 refine .inr ⟨p,ns.map V.str,rfl,.inr h,rfl,?_,?_⟩
 ·rw[all_eq_true]
  intro v hv;obtain⟨z,_,rfl⟩:=mem_map.mp hv;rfl
 ·rw[Zkc]
  exact k
def ZeE (z:Str):Prop:=(reprText z).length≤900000
def ZyC (t:Ad):Sp:=fun vs H Q E=>∃(z:Str) (nl:Addr) (ns:List Str),vs=[.str z,.ref nl]∧H nl=some (.lst (ns.map V.str))∧ns.length≤1000∧ZeE z∧(∀f,Zdn ns z=some f→∀q H',Same H H'→FmE t H' q f→Q (.ref q) H')∧(Zdn ns z=none→∀H',Same H H'→E (.ref t.Zag) none H')
theorem Zwf (T:Txt K mg t):FnS1 P w K mg base 3 "single" ["word","names"] ((ZyC t)):=by
 refine⟨_,_,T.Ziv.ok1 ZwI (fun vs H Q E h=>?_) (fun cdv A outer s H vs Q E hr h=>?_),T.Zta,T.Ziv.kp,T.Ztw⟩
 ·obtain⟨z,nl,ns,rfl,hn,h1000,hpl,q1,q2⟩:=h
  rfl
 obtain⟨z,nl,ns,rfl,hn,h1000,hpl,q1,q2⟩:=h;have ZyP:=ZAP (P:=P) (w:=w) (base:=base) T;have ZBF:=ZAN (P:=P) (w:=w) (base:=base) T;unfold Zdn at q1 q2
 refine⟨_,(Zac (PS.nox (ZaP (Zal (ZaF hr.units) (pv 0) Zai (Zat _))
   (Zae (Zas (ZpP ZyP hr (Zaa Zli Zab))))
   Zap))
   (Zac (PS.nox (ZaP (Zal (ZaF hr.units) (pv 0) Zai (Zat _))
   (Zae (Zas (ZpP ZyP hr (Zaa Zli Zab))))
   Zap))
   (Zac (PS.nox (ZaP (Zal Zl7 (pv 0) (pv 1) (by with_unfolding_all rfl))
   (Zae (Zas (ZpP ZBF hr (Zaa (ZcX F.plainAttrs_list F.slot_list_index F.type_list_index Zkx (pv 1) (Zaa (pv 0) Zab)) Zab))))
   Zap))
   (Zae (ZcY rfl Zle T.Zem.own rfl T.Zft (PA.nox (Zaa (Zfy (Zdk (Zny (pv 0)) (Zdk Zai Znz))) Zab))))))),?_⟩
 walk_at "rd0";refine ZbN (fun h1=>?_) (fun h1=>?_)
 ·rw[if_pos h1]at q1
  walk_at "";refine Zpo fun x dx H1 s1 n1 e1=>?_;exact q1 _ rfl x H1 s1 ⟨1,dx,e1⟩
 rw[if_neg h1]at q1 q2;walk_at "";refine ZbN (fun h2=>?_) (fun h2=>?_)
 ·rw[if_pos h2]at q1
  walk_at "";refine Zpo fun x dx H1 s1 n1 e1=>?_;exact q1 _ rfl x H1 s1 ⟨1,dx,e1⟩
 rw[if_neg h2]at q1 q2;walk_at "";refine ZvB (.inl hn) ?_;walk_at ""
 cases hi:idxS z ns with
 | some j=>
  rw[hi]at q1;obtain⟨hj,hno⟩:=Zkb hi;have hjl:=(List.getElem?_eq_some_iff.mp hj).1;refine Zbn (decide_eq_true (mem_of_getElem? hj)) ?_;walk_at "";refine⟨tyL hn,?_⟩;walk_at "";refine Zm2 hn hj hno (by omega) ?_;walk_at "";refine Zpo fun x dx H1 s1 n1 e1=>?_;exact q1 _ rfl x H1 s1 ⟨1,dx,e1⟩
 | none=>
  rw[hi]at q2;refine Za7 (decide_eq_false (Zm6 hi)) ?_;walk_at ""
  (try dsimp only)
  refine Zcr ?_;walk_at "";have hpl':(reprText z).length≤900000:=hpl;have e0:Str.empty.length=0:=rfl;have e:=Zak Str.empty (reprText z);have e1:=Zak (Str.empty++reprText z) " has no place there";have e2:Str.length " has no place there" = 19:=rfl;refine⟨_,rfl,ZaQ (by omega),_,rfl,ZaQ (by omega),?_⟩;walk_at "";refine⟨_,rfl,ZaQ (by omega),ZaQ (by omega),?_⟩;walk_at "";exact⟨Nat.le_of_ble_eq_true rfl,q2 rfl H (Same.refl _)⟩
def ZwM (t:Ad):Sp:=fun vs H Q _=>∃(p dx:Addr),vs=[.ref p]∧H p=some (.ins t.ZaB dx [])∧∀a e o H',But p H H'→H a=none→H e=none→H o=none→LvAt t H' p dx a e o Lv.new→Q .non H'
theorem Zx6 (T:Txt K mg t):MkS P w K mg base 2 "Level" t.ZaB ["self"] (ZwM t):=by
 refine⟨T.Zv1,_,_,T.ZvO,T.ZeC.ok ZpX (fun vs H Q E h=>?_) (fun cdv A outer s H vs Q E hr h=>?_),T.ZlK⟩
 ·obtain⟨p,dx,rfl,_⟩:=h
  rfl
 obtain⟨p,dx,rfl,hp0,q⟩:=h
 refine⟨_,(Zac (Zc7 (pv 0) Zad rfl)
   (Zac (Zc7 (pv 0) (Zaq Zab) rfl)
   (Zac (Zc7 (pv 0) (Zaq Zab) rfl)
   (Zac (Zc7 (pv 0) (Zaq Zab) rfl)
   (Zae (Zc7 (pv 0) Zli rfl)))))),?_⟩
 walk_at "rd0";refine Zm8 hp0 T.Za6 T.Zb4 (by decide) fun H1 b1 e1=>?_;walk_at "";refine ZaD (by simp) fun a H2 s2 n2 e2=>?_;walk_at "";refine Zm8 (s2 _ _ e1) T.Za6 T.ZcE (Nat.le_of_ble_eq_true rfl) fun H3 b3 e3=>?_;walk_at "";refine ZaD (by simp) fun e H4 s4 n4 e4=>?_;walk_at "";refine Zm8 (s4 _ _ e3) T.Za6 T.ZbJ (Nat.le_of_ble_eq_true rfl) fun H5 b5 e5=>?_;walk_at "";refine ZaD (by simp) fun o H6 s6 n6 e6=>?_;walk_at "";refine Zm8 (s6 _ _ e5) T.Za6 T.Zel (Nat.le_of_ble_eq_true rfl) fun H7 b7 e7=>?_;walk_at "";refine Zm8 e7 T.Za6 T.ZaM (Nat.le_of_ble_eq_true rfl) fun H8 b8 e8=>?_;have pa:a≠p:=(Zaf e1 n2).symm;have pe:e≠p:=(Zaf e3 n4).symm;have po:o≠p:=(Zaf e5 n6).symm;have a3:=b3 _ _ pa e2;have a5:=b5 _ _ pa (s4 _ _ a3);have ee5:=b5 _ _ pe e4;have k13:∀x u,x≠p→H x=some u→H3 x=some u:=fun x u hx z=>b3 _ _ hx (s2 _ _ (b1 _ _ hx z));have k15:∀x u,x≠p→H x=some u→H5 x=some u:=fun x u hx z=>b5 _ _ hx (s4 _ _ (k13 _ _ hx z));refine q a e o H8 (fun x u hx z=>b8 _ _ hx (b7 _ _ hx (s6 _ _ (k15 _ _ hx z)))) ?_ ?_ ?_ ⟨e8,⟨[],b8 _ _ pa (b7 _ _ pa (s6 _ _ a5)),.nil⟩,⟨[],b8 _ _ pe (b7 _ _ pe (s6 _ _ ee5)),.nil⟩,⟨[],b8 _ _ po (b7 _ _ po e6),.nil⟩,Zaf a3 n4,Zaf a5 n6,Zaf ee5 n6⟩
 ·cases z:H a with
  | none=>rfl
  | some u=>rw[b1 _ _ pa z]at n2; cases n2
 ·cases z:H e with
  | none=>rfl
  | some u=>rw[k13 _ _ pe z]at n4; cases n4
 ·cases z:H o with
  | none=>rfl
  | some u=>rw[k15 _ _ po z]at n6; cases n6
theorem ZvD {Q:VK} (h:∀(p dx a e o:Addr) (H':Hp),Same H H'→H p=none→H a=none→H e=none→H o=none→LvAt t H' p dx a e o Lv.new→Q (.ref p) H'):MkG t.ZaB (ZwM t) [] H Q:=by
 intro x dx hx hdx ne;have s2:=Zii hx hdx (.ins t.ZaB dx []) (.own x);refine⟨x,dx,rfl,ZaH,fun a e o H' b ha he ho V=>⟨rfl,?_⟩⟩;exact h x dx a e o H' (fun y u z=>b y u (Zaf z hx) (s2 y u z)) hx (s2.free ha) (s2.free he) (s2.free ho) V
theorem ZtF (n m:Nat) (a e o:Addr) (b:Bool):putF "nots" (.int (m:Int)) (ZdY n a e o b)=ZdY m a e o b:=rfl
theorem Zyp (n:Nat) (a a' e o:Addr) (b:Bool):putF "ands" (.ref a') (ZdY n a e o b)=ZdY n a' e o b:=rfl
theorem ZsU (n:Nat) (a e e' o:Addr) (b:Bool):putF "eithers" (.ref e') (ZdY n a e o b)=ZdY n a e' o b:=rfl
theorem ZnA (n:Nat) (a e o:Addr) (b b':Bool):putF "lacking" (.bl b') (ZdY n a e o b)=ZdY n a e o b':=rfl
theorem Zts (n:Nat) (a e o:Addr) (b:Bool):(ZdY n a e o b).lookup ("nots" : Str)=some (.int (n:Int)):=rfl
theorem Ztr (n:Nat) (a e o:Addr) (b:Bool):(ZdY n a e o b).lookup ("ands" : Str)=some (.ref a):=rfl
theorem Znh (n:Nat) (a e o:Addr) (b:Bool):(ZdY n a e o b).lookup ("eithers" : Str)=some (.ref e):=rfl
theorem ZvX (n:Nat) (a e o:Addr) (b:Bool):(ZdY n a e o b).lookup ("ors" : Str)=some (.ref o):=rfl
theorem Zek (n:Nat) (a e o:Addr) (b:Bool):(ZdY n a e o b).lookup ("lacking" : Str)=some (.bl b):=rfl
theorem Zkl (n:Nat) (a e o:Addr) (b:Bool):(ZdY n a e o b).lookup ("take_part" : Str)=none:=rfl
theorem Zkk (n:Nat) (a e o:Addr) (b:Bool):(ZdY n a e o b).lookup ("take_join" : Str)=none:=rfl
theorem ZpA (n:Nat) (a e o:Addr) (b:Bool):(ZdY n a e o b).lookup ("take_word" : Str)=none:=rfl
theorem Zq6 (n:Nat) (a e o:Addr) (b:Bool):(ZdY n a e o b).lookup ("whole" : Str)=none:=rfl
def isLv (t:Ad) (C:Addr):Prop:=C=t.ZaB
def ZDP (t:Ad):Sp:=fun vs H Q _=>∃(p dx a e o q:Addr) (L:Lv) (f:Fm),vs=[.ref p,.ref q]∧LvAt t H p dx a e o L∧FmE t H q f∧L.size < 900000∧∀H',Off2 p a H H'→LvAt t H' p dx a e o (L.part f)→Q .non H'
theorem ZiZ (T:Txt K mg t):∀C,isLv t C→MeS P w K mg base 3 C "take_part" ["self","part"] (spAt (ZDP t) C):=by
 rintro C rfl;refine⟨T.Za6,_,_,T.ZbE.ok ZdU (fun vs H Q E h=>?_) (fun cdv A outer s H vs Q E hr h=>?_),T.Zgu,T.ZgB⟩
 ·obtain⟨⟨p,dx,a,e,o,q,L,f,rfl,_⟩,_⟩:=h
  rfl
 obtain⟨⟨p,dx,a,e,o,q,L,f,rfl,Y,hf,hz,k⟩,_⟩:=h;have M_Not:=ZCV (P:=P) (w:=w) (base:=base) T
 have hz':L.nots < 900000∧L.ands.length < 900000:=by unfold Lv.size at hz; omega
 refine⟨_,(Zac (ZcI PassesOwn.never rfl (ZeI rfl T.B.range (Zaa (Zcy (pv 0) rfl) Zab)) (sg 2 ZdU.nd)
   (Zae (ss 1 ZdU.nd (ZpP M_Not hr (Zaa (pv 1) Zab)))))
   (Zac (Zc7 (pv 0) Zad rfl)
   (Zac (Za2 (ZcX F.plainAttrs_list F.slot_list_append F.type_list_append ZaU (Zcy (pv 0) rfl) (Zaa (pv 1) Zab)))
   (Zae (Zc7 (pv 0) Zli rfl))))),?_⟩
 walk_at "rd0";refine⟨p,_,_,_,_,rfl,Y.ob,T.Za6,T.Zb4,Zts _ _ _ _ _,?_⟩;walk_at "";refine⟨_,rfl,by omega,by omega,?_⟩;rw[Int.toNat_natCast];refine Zni (n:=L.nots) (fun i σ H'=>Same H H'∧∃q' v2,FmE t H' q' (negs i f)∧σ=[some (.ref p),some (.ref q'),v2]) ⟨Same.refl _,q,_,hf,rfl⟩ ?_ ?_
 ·rintro i σ H1 hi ⟨s1,q',v2,hq,rfl⟩
  walk_at "";refine Zpo fun x dx' H2 s2 n2 e2=>?_;walk_at "";exact⟨s1.trans s2,x,_,FmE.neg e2 (hq.same s2),rfl⟩
 rintro σ H1 ⟨s1,q',v2,hq,rfl⟩;have V1:=Y.same T s1;obtain⟨ps,ea,pa⟩:=V1.la;have npa:a≠p:=ZdI ea V1.ob (by intro z; cases z);have zl:=Zau pa;walk_at "";refine Zm8 V1.ob T.Za6 T.Zb4 (Nat.le_of_ble_eq_true rfl) fun H2 b2 e2=>?_;rw[show V.int 0=V.int ((0:Nat):Int) from rfl,ZtF]at e2
 (try dsimp only)
 have ea2:=b2 _ _ npa ea;walk_at "";refine⟨p,_,_,_,_,rfl,e2,T.Za6,T.ZcE,Ztr _ _ _ _ _,?_⟩;walk_at "";refine⟨tyL ea2,?_⟩;walk_at "";refine ZaZ ea2 (by rw[length_map]; omega) fun H3 b3 e3=>?_;have e23:=b3 _ _ npa.symm e2;walk_at "";refine Zm8 e23 T.Za6 T.ZaM (Nat.le_of_ble_eq_true rfl) fun H4 b4 e4=>?_;rw[ZnA]at e4;have x4:ExtL t H1 H4:=(ExtL.lev b2 V1.ob).trans ((ExtL.lst b3 ea2).trans (ExtL.lev b4 e23));have kp:∀x u,x≠p→x≠a→H1 x=some u→H4 x=some u:=fun x u h1 h2 z=>b4 _ _ h1 (b3 _ _ h2 (b2 _ _ h1 z));refine k H4 (fun x u h1 h2 z=>kp _ _ h1 h2 (s1 _ _ z)) ⟨e4,FmsE.snoc (b4 _ _ npa e3) (Zan (fun _ _ z=>FmE.extL T x4 z) pa) (hq.extL T x4),V1.le.keep T x4 fun xs z=>kp _ _ (ZdI z V1.ob (by intro y; cases y)) Y.ae.symm z,V1.lo.keep T x4 fun xs z=>kp _ _ (ZdI z V1.ob (by intro y; cases y)) Y.ao.symm z,Y.ae,Y.ao,Y.eo⟩
def Off4 (p a e o:Addr) (H H':Hp):Prop:=∀b u,b≠p→b≠a→b≠e→b≠o→H b=some u→H' b=some u
theorem ExtL.off4 {p dx a e o:Addr} {L:Lv} (Y:LvAt t H p dx a e o L) (k:Off4 p a e o H H'):ExtL t H H':=fun x u z h1 h2=>by
 obtain⟨pa,ea,_⟩:=Y.la;obtain⟨pe,ee,_⟩:=Y.le;obtain⟨po,eo,_⟩:=Y.lo;exact k x u (fun y=>by rw[y,Y.ob]at z; cases z; exact h2 _ _ rfl) (fun y=>by rw[y,ea]at z; cases z; exact h1 _ rfl) (fun y=>by rw[y,ee]at z; cases z; exact h1 _ rfl) (fun y=>by rw[y,eo]at z; cases z; exact h1 _ rfl) z
def ZBn (t:Ad):Sp:=fun vs H Q _=>∃(p dx a e o:Addr) (L:Lv) (v:W3),vs=[.ref p,.str (kw3 v)]∧LvAt t H p dx a e o L∧L.size < 900000∧∀a' e' H',(a'=a∨H a'=none)→(e'=e∨H e'=none)→Off4 p a e o H H'→LvAt t H' p dx a' e' o (L.join v)→Q .non H'
theorem ZvI (T:Txt K mg t) {p dx a e o:Addr} {M:Lv} {R:Hp→Prop} (Y:LvAt t H p dx a e o M) (kk:∀H'',But p H H''→LvAt t H'' p dx a e o ⟨M.nots,M.ands,M.eithers,M.ors,true⟩ →R H''):∃a C dx fs,(V.ref p)=.ref a∧H a=some (.ins C dx fs)∧Cls K C∧ZbO K C "lacking"∧fs.length < 1000∧R (upd H a (.ins C dx (putF "lacking" (.bl true) fs))):=by
 refine Zm8 Y.ob T.Za6 T.ZaM (Nat.le_of_ble_eq_true rfl) fun H'' b e1=>?_;rw[ZnA]at e1;have x:=ExtL.lev b Y.ob;exact kk H'' b ⟨e1,Y.la.keep T x fun _ z=>b _ _ (ZdI z Y.ob (by intro y; cases y)) z,Y.le.keep T x fun _ z=>b _ _ (ZdI z Y.ob (by intro y; cases y)) z,Y.lo.keep T x fun _ z=>b _ _ (ZdI z Y.ob (by intro y; cases y)) z,Y.ae,Y.ao,Y.eo⟩
theorem ZiY (T:Txt K mg t):∀C,isLv t C→MeS P w K mg base 5 C "take_join" ["self","word"] (spAt (ZBn t) C):=by
 rintro C rfl;refine⟨T.Za6,_,_,T.ZbD.ok ZkG (fun vs H Q E h=>?_) (fun cdv A outer s H vs Q E hr h=>?_),T.Zgt,T.ZgA⟩
 ·obtain⟨⟨p,dx,a,e,o,L,v,rfl,_⟩,_⟩:=h
  rfl
 obtain⟨⟨p,dx,a,e,o,L,v,rfl,Y,hz,k⟩,_⟩:=h;have Zxi:=Zwd (P:=P) (w:=w) (base:=base) T;have ZrS:=Zrh (P:=P) (w:=w) (base:=base) T
 have hz':L.ands.length < 900000∧L.eithers.length < 900000∧L.ors.length < 900000:=by unfold Lv.size at hz; omega
 refine⟨_,(Zac (ZaP (Zal (ZkB hr.units) (pv 1) Zai (Zat _))
   (Zac (Za2 (ZcX F.plainAttrs_list F.slot_list_append F.type_list_append ZaU (Zcy (pv 0) rfl) (Zaa (Za8 Zxi hr (Zaa (Zcy (pv 0) rfl) Zab)) Zab)))
   (Zae (Zc7 (pv 0) (Zaq Zab) rfl)))
   Zap)
   (Zac (ZaP (Zal (ZaF hr.units) (pv 1) Zai (Zat _))
   (Zac (Za2 (ZcX F.plainAttrs_list F.slot_list_append F.type_list_append ZaU (Zcy (pv 0) rfl) (Zaa (Za8 ZrS hr (Zaa (Zcy (pv 0) rfl) Zab)) Zab)))
   (Zae (Zc7 (pv 0) (Zaq Zab) rfl)))
   Zap)
   (Zae (Zc7 (pv 0) Zli rfl)))),?_⟩
 walk_at "rs";refine Zhx (fun σ H'=>(v=.a→H=H')∧(v≠.a→∃a',H a'=none∧Off2 p e H H'∧LvAt t H' p dx a' e o ⟨L.nots,[],L.eithers++[Zb3 .a L.ands],L.ors,L.lack⟩)∧σ=[some (.ref p),some (.str (kw3 v))]) ?_ ?_
 rotate_left
 ·intro Kn hK
  have eithers:(v≠.a)→tSeq (ZBv (tBM K "list" ZpR (tFld K (tVar 0) "eithers") (Zow (tFn (ZmF t .a) (Zow (tFld K (tVar 0) "ands") tNil)) tNil))) (sFld K (tVar 0) (tLst tNil) "ands") { nx:=Kn,rt:=Q } [some (.ref p),some (.str (kw3 v))] H:=fun hv=>by
   obtain⟨pe,ee,qe⟩:=id Y.le;have ze:=Zau qe;have npe:e≠p:=ZdI ee Y.ob (by intro z; cases z);walk_at "";refine⟨p,_,_,_,_,rfl,Y.ob,T.Za6,T.ZbJ,Znh _ _ _ _ _,?_⟩;walk_at "";refine⟨tyL ee,?_⟩;walk_at "";refine⟨p,_,_,_,_,rfl,Y.ob,T.Za6,T.ZcE,Ztr _ _ _ _ _,?_⟩;walk_at "";refine⟨a,_,rfl,Y.la,fun q H1 s1 hq=>?_⟩;have Y1:=Y.same T s1;have ee1:=s1 _ _ ee;walk_at "";refine ZaZ ee1 (by rw[length_map]; omega) fun H2 b2 e2=>?_;have ob2:=b2 _ _ npe.symm Y1.ob;walk_at "";refine ZaD (by simp) fun a' H3 s3 n3 e3=>?_;walk_at "";refine Zm8 (s3 _ _ ob2) T.Za6 T.ZcE (Nat.le_of_ble_eq_true rfl) fun H4 b4 e4=>?_;rw[Zyp]at e4;have x24:ExtL t H2 H4:=(ExtL.of s3).trans (ExtL.lev b4 (s3 _ _ ob2));have x14:ExtL t H1 H4:=(ExtL.lst b2 ee1).trans x24;have nap:a'≠p:=(Zaf ob2 n3).symm;have kp:∀x u,x≠p→x≠e→H x=some u→H4 x=some u:=fun x u h1 h2 z=>b4 _ _ h1 (s3 _ _ (b2 _ _ h2 (s1 _ _ z)));obtain⟨po,eo,qo⟩:=id Y.lo;have nop:o≠p:=ZdI eo Y.ob (by intro z; cases z)
   have na:H a'=none:=by
    cases z:H a' with
    | none=>rfl
    | some u=>
     by_cases y:a'=e
     ·subst y; rw[e2]at n3; cases n3
     ·rw[b2 _ _ y (s1 _ _ z)]at n3; cases n3
   refine hK _ _ ⟨fun z=>absurd z hv,fun _=>⟨a',na,fun x u h1 h3 z=>kp x u h1 h3 z,⟨e4,⟨[],b4 _ _ nap e3,.nil⟩,FmsE.snoc (b4 _ _ npe (s3 _ _ e2)) (Zan (fun _ _ z=>FmE.extL T x14 (FmE.same s1 z)) qe) (hq.extL T x14),Y.lo.keep T ((ExtL.of s1).trans x14) fun xs z=>kp _ _ nop Y.eo.symm z,?_,?_,Y.eo⟩⟩,rfl⟩
   ·exact fun y=>by subst y; rw[e2]at n3; cases n3
   ·exact fun y=>by subst y; rw[b2 _ _ Y.eo.symm (s1 _ _ eo)]at n3; cases n3
  walk_at "rs"
  cases v with
  | a=>
   refine Za7 rfl ?_;walk_at "rs";exact hK _ _ ⟨fun _=>rfl,fun z=>absurd rfl z,rfl⟩
  | e=>exact Zbn (by decide) (eithers (by decide))
  | o=>exact Zbn (by decide) (eithers (by decide))
 rintro σ H1 ⟨ha,hn,rfl⟩;walk_at "rs"
 cases v with
 | a=>
  obtain rfl:=ha rfl;refine ZqM ?_;walk_at "rs";refine Za7 rfl ?_;walk_at "rs";refine ZvI T Y fun H2 b2 Y2=>?_;exact k a e H2 (.inl rfl) (.inl rfl) (fun x u h1 _ _ _ z=>b2 _ _ h1 z) Y2
 | e=>
  obtain⟨a',na,o1,Y1⟩:=hn (by decide);refine ZqM ?_;walk_at "rs";refine Za7 rfl ?_;walk_at "rs";refine ZvI T Y1 fun H2 b2 Y2=>?_;exact k a' e H2 (.inr na) (.inl rfl) (fun x u h1 h2 h3 h4 z=>b2 _ _ h1 (o1 _ _ h1 h3 z)) Y2
 | o=>
  obtain⟨a',na,o1,Y1⟩:=hn (by decide);refine ZqM ?_;walk_at "rs";refine Zbn rfl ?_;obtain⟨po,eo,qo⟩:=id Y1.lo;have zo:=Zau qo;have nop:o≠p:=ZdI eo Y1.ob (by intro z; cases z);obtain⟨pa1,ea1,_⟩:=id Y1.la;obtain⟨pe1,ee1,_⟩:=id Y1.le;walk_at "";refine⟨p,_,_,_,_,rfl,Y1.ob,T.Za6,T.Zel,ZvX _ _ _ _ _,?_⟩;walk_at "";refine⟨tyL eo,?_⟩;walk_at "";refine⟨p,_,_,_,_,rfl,Y1.ob,T.Za6,T.ZbJ,Znh _ _ _ _ _,?_⟩;walk_at "";refine⟨e,_,rfl,Y1.le,fun q H2 s2 hq=>?_⟩;have Y2:=Y1.same T s2;have eo2:=s2 _ _ eo;walk_at "";refine ZaZ eo2 (by rw[length_map]; dsimp only at zo; omega) fun H3 b3 e3=>?_;have ob3:=b3 _ _ nop.symm Y2.ob;walk_at "";refine ZaD (by simp) fun e' H4 s4 n4 e4=>?_;walk_at "rs";refine Zm8 (s4 _ _ ob3) T.Za6 T.ZbJ (Nat.le_of_ble_eq_true rfl) fun H5 b5 e5=>?_;rw[ZsU]at e5;have x35:ExtL t H3 H5:=(ExtL.of s4).trans (ExtL.lev b5 (s4 _ _ ob3));have x25:ExtL t H2 H5:=(ExtL.lst b3 eo2).trans x35;have nep:e'≠p:=(Zaf ob3 n4).symm;have kp:∀x u,x≠p→x≠o→H1 x=some u→H5 x=some u:=fun x u h1 h2 z=>b5 _ _ h1 (s4 _ _ (b3 _ _ h2 (s2 _ _ z)));have nap:a'≠p:=ZdI ea1 Y1.ob (by intro z; cases z)
  have nf:∀x u,x≠o→H1 x=some u→e'≠x:=fun x u h2 z y=>by subst y; rw[b3 _ _ h2 (s2 _ _ z)]at n4; cases n4
  have neo:e'≠o:=fun y=>by subst y; rw[e3]at n4; cases n4
  have ne1:H1 e'=none:=by
   cases z:H1 e' with
   | none=>rfl
   | some u=>exact absurd rfl (nf e' u neo z)
  have ne0:H e'=none:=by
   cases z:H e' with
   | none=>rfl
   | some u=>rw[o1 e' u nep (fun y=>by rw[y,ee1]at ne1; cases ne1) z]at ne1; cases ne1
  have Y5:LvAt t H5 p dx a' e' o ⟨L.nots,[],[],L.ors++[Zb3 .e (L.eithers++[Zb3 .a L.ands])],L.lack⟩:=⟨e5,Y1.la.keep T ((ExtL.of s2).trans x25) fun xs z=>kp _ _ nap Y1.ao z,⟨[],b5 _ _ nep e4,.nil⟩,FmsE.snoc (b5 _ _ nop (s4 _ _ e3)) (Zan (fun _ _ z=>FmE.extL T x25 (FmE.same s2 z)) qo) (hq.extL T x25),(nf a' _ Y1.ao ea1).symm,Y1.ao,neo⟩;walk_at "rs";refine ZvI T Y5 fun H6 b6 Y6=>?_;exact k a' e' H6 (.inr na) (.inr ne0) (fun x u h1 h2 h3 h4 z=>b6 _ _ h1 (kp _ _ h1 h4 (o1 _ _ h1 h3 z))) Y6
def ZyD (t:Ad):Sp:=fun vs H Q _=>∃(p dx a e o:Addr) (L:Lv),vs=[.ref p]∧LvAt t H p dx a e o L∧L.size < 900000∧∀q H',Off4 p a e o H H'→FmE t H' q L.whole→Q (.ref q) H'
theorem ZtU (T:Txt K mg t):∀C,isLv t C→MeS P w K mg base 6 C "whole" ["self"] (spAt (ZyD t) C):=by
 rintro C rfl;refine⟨T.Za6,_,_,T.ZcK.ok Zou (fun vs H Q E h=>?_) (fun cdv A outer s H vs Q E hr h=>?_),T.ZjW,T.Zj9⟩
 ·obtain⟨⟨p,dx,a,e,o,L,rfl,_⟩,_⟩:=h
  rfl
 obtain⟨⟨p,dx,a,e,o,L,rfl,Y,hz,k⟩,_⟩:=h;have ZzR:=Zx8 (P:=P) (w:=w) (base:=base) T;have D_take_join:=ZiY (P:=P) (w:=w) (base:=base) T
 refine⟨_,(Zac (Za2 (Zoo D_take_join hr (pv 0) (Zaa Zai Zab)))
   (Zae (Zas (Za8 ZzR hr (Zaa (Zcy (pv 0) rfl) Zab))))),?_⟩
 walk_at "rd0";refine⟨p,_,_,_,rfl,Y.ob,rfl,Zkk _ _ _ _ _,?_⟩;walk_at "";refine⟨Y.ob,p,dx,a,e,o,L,.o,rfl,Y,hz,fun a' e' H1 ha he o1 Y1=>?_⟩;walk_at "";refine⟨p,_,_,_,_,rfl,Y1.ob,T.Za6,T.Zel,ZvX _ _ _ _ _,?_⟩;walk_at "";refine⟨o,_,rfl,Y1.lo,fun q H2 s2 hq=>?_⟩;exact k q H2 (fun x u h1 h2 h3 h4 z=>s2 _ _ (o1 _ _ h1 h2 h3 h4 z)) hq
def ZwU (t:Ad):Sp:=fun vs H Q E=>∃(p dx a e o nl:Addr) (L:Lv) (z:Str) (ns:List Str),vs=[.ref p,.str z,.ref nl]∧LvAt t H p dx a e o L∧L.size < 900000∧H nl=some (.lst (ns.map V.str))∧ns.length≤1000∧ZeE z∧
 (L.word ns z=none→∀H',Same H H'→E (.ref t.Zag) none H')∧
 (∀L',L.word ns z=some L'→∀a' e' H',(a'=a∨H a'=none)→(e'=e∨H e'=none)→Off4 p a e o H H'→LvAt t H' p dx a' e' o L'→Q .non H')
theorem ZnY (T:Txt K mg t):∀C,isLv t C→MeS1 P w K mg base 7 C "take_word" ["self","word","names"] (spAt (ZwU t) C):=by
 rintro C rfl;refine⟨T.Za6,_,_,T.ZbF.ok1 ZkH (fun vs H Q E h=>?_) (fun cdv A outer s H vs Q E hr h=>?_),T.Zgv,T.ZgC⟩
 ·obtain⟨⟨p,dx,a,e,o,nl,L,z,ns,rfl,_⟩,_⟩:=h
  rfl
 obtain⟨⟨p,dx,a,e,o,nl,L,z,ns,rfl,Y,hz,hn,h1000,hpl,k1,k2⟩,_⟩:=h;have Zxj:=Zwf (P:=P) (w:=w) (base:=base) T;have D_take_part:=ZiZ (P:=P) (w:=w) (base:=base) T;have D_take_join:=ZiY (P:=P) (w:=w) (base:=base) T;unfold Lv.word at k1 k2
 refine⟨_,(Zae (ZaP (PT.nox (PW.pt (ZgI (ZdR (Zcy (pv 0) rfl) (fun _=>rfl)) (Zgg (Zal (ZaF hr.units) (pv 1) Zai (Zat _))))))
   (PSs.nox (Zae (Zc7 (pv 0) (Zah Zam (Zcy (pv 0) rfl) Zad) rfl)))
   (Zae (ZaP (PT.nox (ZdR (Zcy (pv 0) rfl) (fun _=>rfl)))
   (Zae (Za2 (Zoo D_take_part hr (pv 0) (Zaa (Zfx ZiQ Zxj hr (Zaa (pv 1) (Zaa (pv 2) Zab))) Zab))))
   (Zae (ZaP (PT.nox (Zal Zl7 (pv 1) (Zop rfl T.g_JOINS) (by with_unfolding_all rfl)))
   (PSs.nox (Zae (Za2 (Zoo D_take_join hr (pv 0) (Zaa (pv 1) Zab)))))
   (Zae (ZcY rfl Zle T.Zem.own rfl T.Zft (PA.nox (Zaa (Zfy (Zdk (Zny (pv 1)) (Zdk Zai Znz))) Zab)))))))))),?_⟩
 walk_at "rd0";refine⟨p,_,_,_,_,rfl,Y.ob,T.Za6,T.ZaM,Zek _ _ _ _ _,?_⟩;walk_at ""
 cases hl:L.lack with
 | true=>
  rw[hl,if_pos rfl]at k1 k2;refine Zbn rfl ?_;walk_at "";refine ZbN (fun h1=>?_) (fun h1=>?_)
  ·rw[if_pos h1]at k2
   walk_at "";refine⟨p,_,_,_,_,rfl,Y.ob,T.Za6,T.Zb4,Zts _ _ _ _ _,?_⟩;walk_at "";refine Zm8 Y.ob T.Za6 T.Zb4 (Nat.le_of_ble_eq_true rfl) fun H1 b1 e1=>?_;rw[show(L.nots:Int)+1=((L.nots+1:Nat):Int) by omega,ZtF]at e1;have x:=ExtL.lev b1 Y.ob;rw[hl]at e1;exact k2 _ rfl a e H1 (.inl rfl) (.inl rfl) (fun y u h1 _ _ _ z=>b1 _ _ h1 z) ⟨e1,Y.la.keep T x fun _ z=>b1 _ _ (ZdI z Y.ob (by intro y; cases y)) z,Y.le.keep T x fun _ z=>b1 _ _ (ZdI z Y.ob (by intro y; cases y)) z,Y.lo.keep T x fun _ z=>b1 _ _ (ZdI z Y.ob (by intro y; cases y)) z,Y.ae,Y.ao,Y.eo⟩
  ·rw[if_neg h1]at k1 k2
   walk_at "";refine⟨p,_,_,_,_,rfl,Y.ob,T.Za6,T.ZaM,Zek _ _ _ _ _,?_⟩;walk_at "";rw[hl];refine Zbn rfl ?_;walk_at "";refine⟨p,_,_,_,rfl,Y.ob,rfl,Zkl _ _ _ _ _,?_⟩;walk_at "";refine⟨z,nl,ns,rfl,hn,h1000,hpl,fun f hf q H1 s1 hq=>?_,fun hf H1 s1=>k1 (by rw[hf]; rfl) H1 s1⟩;have Y1:=Y.same T s1;walk_at "";refine⟨Y1.ob,p,dx,a,e,o,q,L,f,rfl,Y1,hq,hz,fun H2 o2 Y2=>?_⟩;walk_at "";exact k2 _ (by rw[hf]; rfl) a e H2 (.inl rfl) (.inl rfl) (fun y u h1 h2 _ _ z=>o2 _ _ h1 h2 (s1 _ _ z)) Y2
 | false=>
  rw[hl,if_neg (by decide)]at k1 k2;refine Za7 rfl ?_;refine Za7 rfl ?_;walk_at "";refine⟨p,_,_,_,_,rfl,Y.ob,T.Za6,T.ZaM,Zek _ _ _ _ _,?_⟩;walk_at "";rw[hl];refine Za7 rfl ?_;walk_at "";refine ZCm (T.q_JOINS H) ?_;walk_at ""
  cases hj:Zmn z with
  | some v=>
   have ez:=ZxP hj;subst ez;refine Zbn (by cases v <;> decide) ?_;walk_at "";refine⟨p,_,_,_,rfl,Y.ob,rfl,Zkk _ _ _ _ _,?_⟩;walk_at "";refine⟨Y.ob,p,dx,a,e,o,L,v,rfl,Y,hz,fun a' e' H1 ha he o1 Y1=>?_⟩;walk_at "";exact k2 _ (by rw[hj]; rfl) a' e' H1 ha he o1 Y1
  | none=>
   have nz:z∉(["and","either","or"]:List Str):=fun hm=>by
    unfold Zmn at hj;simp only [mem_cons,not_mem_nil,or_false]at hm
    rcases hm with rfl | rfl | rfl
    ·rw[if_pos rfl]at hj; cases hj
    ·exact absurd hj (by decide)
    ·exact absurd hj (by decide)
   refine Za7 (decide_eq_false nz) ?_
   (try dsimp only)
   refine Zcr ?_;walk_at "";have hpl':(reprText z).length≤900000:=hpl;have e0:Str.empty.length=0:=rfl;have e:=Zak Str.empty (reprText z);have e1:=Zak (Str.empty++reprText z) " stands behind a part";have e2:Str.length " stands behind a part" = 21:=rfl;refine⟨_,rfl,ZaQ (by omega),_,rfl,ZaQ (by omega),?_⟩;walk_at "";refine⟨_,rfl,ZaQ (by omega),ZaQ (by omega),?_⟩;walk_at "";exact⟨Nat.le_of_ble_eq_true rfl,k1 (by rw[hj]; rfl) H (Same.refl _)⟩
end
end LW
open PySem L2
namespace LW
open PySem L2 EM
open List (all_eq_true any_cons append_assoc append_nil cons_append count_append count_cons_self count_eq_zero drop_zero filterMap_append getD_eq_getElem?_getD getElem?_append_left getElem?_drop getElem?_map getLast?_cons_of_ne_nil length_append length_cons length_drop length_eq_zero_iff length_map length_nil length_set length_singleton length_take map_append map_congr_left map_cons map_drop map_map map_nil map_set map_take mem_append mem_cons mem_cons_of_mem mem_cons_self mem_map mem_of_getElem? mem_of_mem_take mem_singleton nil_append nodup_append nodup_cons nodup_nil not_mem_nil set_cons_succ set_cons_zero sum_cons take_length take_nil take_zero)
abbrev A5:=Addr×Addr×Addr×Addr×Addr
def cells:List A5→List Addr
 | []=>[]
 | x::r=>x.1::x.2.2.1::x.2.2.2.1::x.2.2.2.2::cells r
def refs (ads:List A5):List V:=(ads.map (·.1)).reverse.map V.ref
theorem ZkE (x:A5) (r:List A5):refs (x::r)=refs r++[.ref x.1]:=by unfold refs; simp
theorem ZpT (r:List A5):(refs r).length=r.length:=by unfold refs; simp
theorem Zu2 {α:Type} (xs:List α) (y:α):atI (xs++[y]) (-1)=some y:=by
 unfold atI ixN;rw[if_neg (by decide),length_append,length_singleton,if_pos (by omega)]
 have e:((-1:Int)+((xs.length+1:Nat):Int)).toNat=xs.length:=by omega
 show(xs++[y])[((-1:Int)+((xs.length+1:Nat):Int)).toNat]?=some y;rw[e,List.getElem?_append_right (Nat.le_refl _),Nat.sub_self];rfl
def Zmg (t:Ad) (H:Hp):List A5→List Lv→Prop
 | [],[]=>True
 | x::r,L::S=>LvAt t H x.1 x.2.1 x.2.2.1 x.2.2.2.1 x.2.2.2.2 L∧Zmg t H r S
 | _,_=>False
section
variable {P:Program} {w:World} {K:W.Frag} {mg:Str→Option Value} {base:Heap} {t:Ad} {H H' H'' H0:Hp}
theorem Zmg.keep (T:Txt K mg t) (s:ExtL t H H'):∀{ads:List A5} {S:List Lv},Zmg t H ads S→(∀x u,x∈cells ads→H x=some u→H' x=some u)→Zmg t H' ads S
 | [],[],_,_=>trivial
 | x::r,L::S,h,k=>by
  refine⟨h.1.keep T s fun y u hy z=>k y u ?_ z,h.2.keep T s fun y u hy z=>k y u ?_ z⟩
  ·unfold cells
   rcases hy with rfl | rfl | rfl | rfl <;> simp
  ·unfold cells
   simp[hy]
 | [],_::_,h,_=>h.elim
 | _::_,[],h,_=>h.elim
theorem Zmg.len:∀{ads:List A5} {S:List Lv},Zmg t H ads S→ads.length=S.length
 | [],[],_=>rfl
 | _::_,_::_,h=>congrArg (· + 1) h.2.len
 | [],_::_,h=>h.elim
 | _::_,[],h=>h.elim
theorem Zmg.there:∀{ads:List A5} {S:List Lv},Zmg t H ads S→∀x∈cells ads,∃u,H x=some u
 | [],[],_,x,hx=>by cases hx
 | y::r,L::S,h,x,hx=>by
  obtain⟨pa,ea,_⟩:=h.1.la;obtain⟨pe,ee,_⟩:=h.1.le;obtain⟨po,eo,_⟩:=h.1.lo;unfold cells at hx;simp only [mem_cons]at hx
  rcases hx with rfl | rfl | rfl | rfl | hx
  ·exact⟨_,h.1.ob⟩
  ·exact⟨_,ea⟩
  ·exact⟨_,ee⟩
  ·exact⟨_,eo⟩
  ·exact h.2.there x hx
 | [],_::_,h,_,_=>h.elim
 | _::_,[],h,_,_=>h.elim
theorem Zmg.bottom:∀{ads:List A5} {S:List Lv},Zmg t H ads S→ads≠[]→∃(b:A5) (L0:Lv),(refs ads)[0]?=some (.ref b.1)∧S.getLast?=some L0∧LvAt t H b.1 b.2.1 b.2.2.1 b.2.2.2.1 b.2.2.2.2 L0∧∀x∈[b.1,b.2.2.1,b.2.2.2.1,b.2.2.2.2],x∈cells ads
 | [],_,_,n=>absurd rfl n
 | [y],[L],h,_=>⟨y,L,rfl,rfl,h.1,fun x hx=>by simpa [cells] using hx⟩
 | y::z::r,L::M::S,h,_=>by
  obtain⟨b,L0,h1,h2,h3,h4⟩:=Zmg.bottom h.2 (by simp);refine⟨b,L0,?_,?_,h3,fun x hx=>?_⟩
  ·rw[ZkE,getElem?_append_left (by rw[ZpT]; simp)]
   exact h1
  ·rw[List.getLast?_cons_cons]
   exact h2
  ·have:=h4 x hx
   unfold cells;simp[this]
 | [_],[],h,_=>h.elim
 | [_],_::_::_,h,_=>h.2.elim
 | _::_::_,[],h,_=>h.elim
 | _::_::_,[_],h,_=>h.2.elim
structure SK (t:Ad) (H0 H:Hp) (lv:Addr) (ads:List A5) (S:List Lv):Prop where
 ls:H lv=some (.lst (refs ads))
 st:Zmg t H ads S
 nd:(lv::cells ads).Nodup
 fr:∀x∈lv::cells ads,H0 x=none
 sm:Same H0 H
theorem SK.kp {lv:Addr} {ads:List A5} {S:List Lv} (Z:SK t H0 H lv ads S) {x:Addr} (hx:x∈lv::cells ads) {y:Addr} {u:HO} (e:H0 y=some u):y≠x:=Zaf e (Z.fr x hx)
theorem SK.top (T:Txt K mg t) {lv p dx a e o a' e':Addr} {r:List A5} {L L':Lv} {S:List Lv} (Z:SK t H0 H lv ((p,dx,a,e,o)::r) (L::S)) (ha:a'=a∨H a'=none) (he:e'=e∨H e'=none) (k:Off4 p a e o H H') (Y:LvAt t H' p dx a' e' o L'):SK t H0 H' lv ((p,dx,a',e',o)::r) (L'::S):=by
 have hY:LvAt t H p dx a e o L:=Z.st.1;have nd:=Z.nd;have fr:=Z.fr;unfold cells at nd fr;simp only [nodup_cons,mem_cons,not_or]at nd;obtain⟨⟨n1,n2,n3,n4,n5⟩,⟨m1,m2,m3,m4⟩,⟨l1,l2,l3⟩,⟨k1,k2⟩,j1,jr⟩:=nd;have hr:∀x u,x∈cells r→H x=some u→H' x=some u:=fun x u hx z=>k x u (fun y=>m4 (y ▸ hx)) (fun y=>l3 (y ▸ hx)) (fun y=>k2 (y ▸ hx)) (fun y=>j1 (y ▸ hx)) z;have thr:=Z.st.there
 have nw:∀x,(x=a∨H x=none)∨(x=e∨H x=none)→x≠lv∧x∉cells r:=fun x hx=>by
  have free:H x=none→x≠lv∧x∉cells r:=fun z=>⟨(Zaf Z.ls z).symm,fun hm=>by
   obtain⟨u,hu⟩:=thr x (by unfold cells; simp[hm]);rw[z]at hu
   cases hu⟩
  rcases hx with(rfl | z) | (rfl | z)
  ·exact⟨fun y=>n2 y.symm,l3⟩
  ·exact free z
  ·exact⟨fun y=>n3 y.symm,k2⟩
  ·exact free z
 obtain⟨pa,ea,_⟩:=Y.la;obtain⟨pe,ee,_⟩:=Y.le;obtain⟨po,eo,_⟩:=Y.lo;have qa:=nw a' (.inl ha);have qe:=nw e' (.inr he);have npa:p≠a':=ZdI Y.ob ea (by intro z; cases z);have npe:p≠e':=ZdI Y.ob ee (by intro z; cases z);refine⟨k _ _ n1 n2 n3 n4 Z.ls,⟨Y,Z.st.2.keep T (ExtL.off4 hY k) hr⟩,?_,fun x hx=>?_,fun x u z=>?_⟩
 ·unfold cells
  simp only [nodup_cons,mem_cons,not_or];exact⟨⟨n1,qa.1.symm,qe.1.symm,n4,n5⟩,⟨npa,npe,m3,m4⟩,⟨Y.ae,Y.ao,qa.2⟩,⟨Y.eo,qe.2⟩,j1,jr⟩
 ·have old:∀y,y∈lv::cells ((p,dx,a,e,o)::r)→H0 y=none:=Z.fr
  have mem:∀y,(y=p∨y=a∨y=e∨y=o)→y∈lv::cells ((p,dx,a,e,o)::r):=fun y hy=>by unfold cells; simp; exact .inr (by rcases hy with h | h | h | h <;> simp[h])
  unfold cells at hx;simp only [mem_cons]at hx
  rcases hx with rfl | rfl | rfl | rfl | rfl | hx
  ·exact old _ mem_cons_self
  ·exact old _ (mem _ (.inl rfl))
  ·rcases ha with rfl | z
   ·exact old _ (mem _ (.inr (.inl rfl)))
   ·exact Z.sm.free z
  ·rcases he with rfl | z
   ·exact old _ (mem _ (.inr (.inr (.inl rfl))))
   ·exact Z.sm.free z
  ·exact old _ (mem _ (.inr (.inr (.inr rfl))))
  ·exact old _ (by unfold cells; simp[hx])
 ·have mem:∀y,(y=p∨y=a∨y=e∨y=o)→y∈lv::cells ((p,dx,a,e,o)::r):=fun y hy=>by unfold cells; simp; exact .inr (by rcases hy with h | h | h | h <;> simp[h])
  exact k x u (Z.kp (mem _ (.inl rfl)) z) (Z.kp (mem _ (.inr (.inl rfl))) z) (Z.kp (mem _ (.inr (.inr (.inl rfl)))) z) (Z.kp (mem _ (.inr (.inr (.inr rfl)))) z) (Z.sm x u z)
theorem SK.push (T:Txt K mg t) {lv p dx a e o:Addr} {ads:List A5} {S:List Lv} (Z:SK t H0 H lv ads S) (s:Same H H') (np:H p=none) (na:H a=none) (ne:H e=none) (no:H o=none) (Y:LvAt t H' p dx a e o Lv.new) (b:But lv H' H'') (el:H'' lv=some (.lst (refs ads++[.ref p]))):SK t H0 H'' lv ((p,dx,a,e,o)::ads) (Lv.new::S):=by
 have hl':=s _ _ Z.ls;have thr:=Z.st.there
 have fre:∀x,H x=none→x≠lv∧x∉cells ads:=fun x z=>⟨(Zaf Z.ls z).symm,fun hm=>by
  obtain⟨u,hu⟩:=thr x hm;rw[z]at hu
  cases hu⟩
 have nlv:∀x,x∈cells ads→x≠lv:=fun x hx y=>by
  have:=(nodup_cons.mp Z.nd).1;rw[y]at hx;exact this hx
 have ex:ExtL t H H'':=(ExtL.of s).trans (ExtL.lst b hl');obtain⟨pa,ea,_⟩:=id Y.la;obtain⟨pe,ee,_⟩:=id Y.le;obtain⟨po,eo,_⟩:=id Y.lo
 have Y2:LvAt t H'' p dx a e o Lv.new:=Y.keep T (ExtL.lst b hl') fun x u hx z=>b x u (by
  rcases hx with rfl | rfl | rfl | rfl
  ·exact(fre _ np).1
  ·exact(fre _ na).1
  ·exact(fre _ ne).1
  ·exact(fre _ no).1) z
 refine⟨by rw[ZkE]; exact el,⟨Y2,Z.st.keep T ex fun x u hx z=>b x u (nlv x hx) (s _ _ z)⟩,?_,fun x hx=>?_,fun x u z=>b x u (Z.kp mem_cons_self z) (s _ _ (Z.sm x u z))⟩
 ·have nd:=nodup_cons.mp Z.nd
  unfold cells;simp only [nodup_cons,mem_cons,not_or];exact⟨⟨(fre _ np).1.symm,(fre _ na).1.symm,(fre _ ne).1.symm,(fre _ no).1.symm,nd.1⟩,⟨ZdI Y.ob ea (by intro z; cases z),ZdI Y.ob ee (by intro z; cases z),ZdI Y.ob eo (by intro z; cases z),(fre _ np).2⟩,⟨Y.ae,Y.ao,(fre _ na).2⟩,⟨Y.eo,(fre _ ne).2⟩,(fre _ no).2,nd.2⟩
 ·unfold cells at hx
  simp only [mem_cons]at hx
  rcases hx with rfl | rfl | rfl | rfl | rfl | hx
  ·exact Z.fr _ mem_cons_self
  ·exact Z.sm.free np
  ·exact Z.sm.free na
  ·exact Z.sm.free ne
  ·exact Z.sm.free no
  ·exact Z.fr _ (mem_cons_of_mem _ hx)
theorem SK.pop (T:Txt K mg t) {lv p dx a e o:Addr} {r:List A5} {L:Lv} {S:List Lv} (Z:SK t H0 H lv ((p,dx,a,e,o)::r) (L::S)) (b:But lv H H') (el:H' lv=some (.lst (refs r))):SK t H0 H' lv r S∧LvAt t H' p dx a e o L:=by
 have ex:ExtL t H H':=ExtL.lst b Z.ls;have nd:=nodup_cons.mp Z.nd;have nlv:∀x,x∈cells ((p,dx,a,e,o)::r)→x≠lv:=fun x hx y=>nd.1 (y ▸ hx)
 have sub:∀x,x∈cells r→x∈cells ((p,dx,a,e,o)::r):=fun x hx=>by unfold cells; simp[hx]
 have nd2:=nd.2;unfold cells at nd2;simp only [nodup_cons]at nd2;refine⟨⟨el,Z.st.2.keep T ex fun x u hx z=>b x u (nlv x (sub x hx)) z,nodup_cons.mpr ⟨fun z=>nd.1 (sub _ z),nd2.2.2.2.2⟩,fun x hx=>?_,fun x u z=>b x u (Z.kp mem_cons_self z) (Z.sm x u z)⟩,?_⟩
 ·rcases mem_cons.mp hx with rfl | hx
  ·exact Z.fr _ mem_cons_self
  ·exact Z.fr _ (mem_cons_of_mem _ (sub x hx))
 ·exact(show LvAt t H p dx a e o L from Z.st.1).keep T ex fun x u hx z=>b x u (nlv x (by unfold cells; rcases hx with rfl | rfl | rfl | rfl <;> simp)) z
theorem SK.off (T:Txt K mg t) {lv p dx a e o:Addr} {r:List A5} {L:Lv} {S:List Lv} (Z:SK t H0 H lv r S) (Y:LvAt t H p dx a e o L) (hx:∀x∈[p,a,e,o],x∉lv::cells r∧H0 x=none) (k:Off4 p a e o H H'):SK t H0 H' lv r S:=by
 have st:∀x u,x∈lv::cells r→H x=some u→H' x=some u:=fun x u hm z=>k x u (fun y=>(hx p (by simp)).1 (y ▸ hm)) (fun y=>(hx a (by simp)).1 (y ▸ hm)) (fun y=>(hx e (by simp)).1 (y ▸ hm)) (fun y=>(hx o (by simp)).1 (y ▸ hm)) z;exact⟨st _ _ mem_cons_self Z.ls,Z.st.keep T (ExtL.off4 Y k) fun x u hm z=>st x u (mem_cons_of_mem _ hm) z,Z.nd,Z.fr,fun x u z=>k x u (Zaf z (hx p (by simp)).2) (Zaf z (hx a (by simp)).2) (Zaf z (hx e (by simp)).2) (Zaf z (hx o (by simp)).2) (Z.sm x u z)⟩
theorem SK.out {lv p dx a e o:Addr} {r:List A5} {L:Lv} {S:List Lv} (Z:SK t H0 H lv ((p,dx,a,e,o)::r) (L::S)):∀x∈[p,a,e,o],x∉lv::cells r∧H0 x=none:=fun x hx=>by
 have nd:=Z.nd;unfold cells at nd;simp only [nodup_cons,mem_cons,not_or]at nd;obtain⟨⟨n1,n2,n3,n4,n5⟩,⟨m1,m2,m3,m4⟩,⟨l1,l2,l3⟩,⟨k1,k2⟩,j1,jr⟩:=nd;have f:∀y,y∈[p,a,e,o]→H0 y=none:=fun y hy=>Z.fr y (by unfold cells; simp only [mem_cons,not_mem_nil,or_false]at hy; simp; exact .inr (by rcases hy with h | h | h | h <;> simp[h]));refine⟨?_,f x hx⟩;simp only [mem_cons,not_mem_nil,or_false]at hx;simp only [mem_cons,not_or]
 rcases hx with rfl | rfl | rfl | rfl
 ·exact⟨fun y=>n1 y.symm,m4⟩
 ·exact⟨fun y=>n2 y.symm,l3⟩
 ·exact⟨fun y=>n3 y.symm,k2⟩
 ·exact⟨fun y=>n4 y.symm,j1⟩
theorem ZuK {ns:List Str} {L:Lv} {R:List Lv} {z:Str} (h1 : ¬(z = "("∧L.lack=true)) (h2 : ¬(z = ")"∧L.lack=false∧R≠[])):Zct ns (L::R) z=(L.word ns z).map (· :: R):=by
 cases R with
 | nil=>simp only [Zct]; rw[if_neg h1]
 | cons M R'=>
  simp only [Zct];rw[if_neg h1,if_neg fun y=>h2 ⟨y.1,y.2,by simp⟩]
def ZDK (t:Ad):Sp:=fun vs H Q E=>∃(fo nl:Addr) (ws ns:List Str),vs=[.ref fo,.ref nl]∧H fo=some (.lst (ws.map V.str))∧H nl=some (.lst (ns.map V.str))∧ns.length≤1000∧ws.length≤800000∧(∀z∈ws,ZeE z)∧
 (Ze7 ns ws=none→∀H',Same H H'→E (.ref t.Zag) none H')∧(∀f,Ze7 ns ws=some f→∀q H',Same H H'→FmE t H' q f→Q (.ref q) H')
theorem Zkz (T:Txt K mg t):FnS1 P w K mg base 8 "formula_in" ["found","names"] ((ZDK t)):=by
 refine⟨_,_,T.Zdx.ok1 Zfb (fun vs H Q E h=>?_) (fun cdv A outer s H vs Q E hr h=>?_),T.ZlS,T.Zdx.kp,T.Zl3⟩
 ·obtain⟨fo,nl,ws,ns,rfl,hf,hn,h1000,hz,hpl,k1,k2⟩:=h
  rfl
 obtain⟨fo,nl,ws,ns,rfl,hf,hn,h1000,hz,hpl,k1,k2⟩:=h;have ZuS:=Zx6 (P:=P) (w:=w) (base:=base) T;have D_take_part:=ZiZ (P:=P) (w:=w) (base:=base) T;have D_take_word:=ZnY (P:=P) (w:=w) (base:=base) T;have D_whole:=ZtU (P:=P) (w:=w) (base:=base) T
 refine⟨_,(Zac (PS.nox (ss 2 Zfb.nd (Zaq (Zaa (ZzD ZuS hr) Zab))))
   (Zac (ZcI PassesOwn.leaving rfl (Zfz (pv 0)) (sg 3 Zfb.nd)
   (Zac (PS.nox (ss 4 Zfb.nd (Za1 ZaA (pv 2) (ZuC ZoY Zad) (fun _ _=>rfl))))
   (Zae (ZaP (PT.nox (PW.pt (ZgI (Zal (ZaF hr.units) (pv 3) Zai (Zat _)) (Zgg (ZdR (Zcy (pv 4) rfl) (fun _=>rfl))))))
   (PSs.nox (Zae (Za2 (ZcX F.plainAttrs_list F.slot_list_append F.type_list_append ZaU (pv 2) (Zaa (ZzD ZuS hr) Zab)))))
   (Zae (ZaP (PT.nox (PW.pt (ZgI (Zal (ZaF hr.units) (pv 3) Zai (Zat _)) (ZgI (Zww (ZdR (Zcy (pv 4) rfl) (fun _=>rfl))) (Zgg (Zal Zrk (Zaw ZaE rfl T.B.len ZbV (Zaa (pv 2) Zab)) Zad (Zat _)))))))
   (PSs.nox (Zac (Za2 (ZzC F.plainAttrs_list F.slot_list_pop F.type_list_pop ZCN (pv 2)))
   (Zae (Za2 (Zoo D_take_part hr (Za1 ZaA (pv 2) (ZuC ZoY Zad) (fun _ _=>rfl)) (Zaa (Zrp D_whole hr (pv 4)) Zab))))))
   (Zae (Za2 (ZC7 ZiQ D_take_word hr (pv 4) (Zaa (pv 3) (Zaa (pv 1) Zab)))))))))))
   (Zac (ZaP (PT.nox (ZdR (Zcy (Za1 ZaA (pv 2) Zad (fun _ _=>rfl)) rfl) (fun _=>rfl)))
   (Zae (ZcY rfl Zle T.Zem.own rfl T.Zft (PA.nox (Zaa Zai Zab))))
   (PSs.nox Zap))
   (PSs.nox (Zae (Zas (Zrp D_whole hr (Za1 ZaA (pv 2) Zad (fun _ _=>rfl))))))))),?_⟩
 walk_at "rd0";refine ZvD fun p dx a e o H1 s1 np na ne no Y1=>?_;walk_at "";refine ZaD (Nat.le_of_ble_eq_true rfl) fun lv H2 s2 n2 e2=>?_
 have Z0:SK t H H2 lv [(p,dx,a,e,o)] [Lv.new]:=by
  obtain⟨pa,ea,_⟩:=id Y1.la;obtain⟨pe,ee,_⟩:=id Y1.le;obtain⟨po,eo,_⟩:=id Y1.lo;refine⟨e2,⟨Y1.same T s2,trivial⟩,?_,fun x hx=>?_,s1.trans s2⟩
  ·simp only [cells,nodup_cons,mem_cons,not_mem_nil,or_false,not_or,not_false_eq_true,nodup_nil,and_true]
   exact⟨⟨(Zaf Y1.ob n2).symm,(Zaf ea n2).symm,(Zaf ee n2).symm,(Zaf eo n2).symm⟩,⟨ZdI Y1.ob ea (by intro z; cases z),ZdI Y1.ob ee (by intro z; cases z),ZdI Y1.ob eo (by intro z; cases z)⟩,⟨Y1.ae,Y1.ao⟩,Y1.eo⟩
  ·simp only [cells,mem_cons,not_mem_nil,or_false]at hx
   rcases hx with rfl | rfl | rfl | rfl | rfl
   ·exact s1.free n2
   ·exact np
   ·exact na
   ·exact ne
   ·exact no
 clear Y1 s1 s2 n2 e2 np na ne no;walk_at "";refine seqL (xs:=ws.map V.str) (fun i σ H'=>∃ads S v3 v4,SK t H H' lv ads S∧runW ns [Lv.new] (ws.take i)=some S∧(∀L∈S,L.size≤i)∧S≠[]∧ads.length≤i+1∧σ=[some (.ref fo),some (.ref nl),some (.ref lv),v3,v4]) ⟨_,_,_,_,Z0,rfl,(fun L hL=>by rw[mem_singleton.mp hL]; exact Nat.le_refl 0),by simp,Nat.le_refl _,rfl⟩ (fun i σ H' _ hp=>by obtain⟨ads,S,v3,v4,Z,_⟩:=hp; exact SqL.of (Z.sm _ _ hf)) ?_ ?_
 ·rintro i x σ H3 hx ⟨ads,S,v3,v4,Z,hrun,hsz,hne,hal,rfl⟩
  rw[getElem?_map]at hx;obtain⟨z,hzi,rfl⟩:=Option.map_eq_some_iff.mp hx;have hil:=(List.getElem?_eq_some_iff.mp hzi).1
  have rn:runW ns [Lv.new] (ws.take (i+1))=(Zct ns S z):=by
   rw[Zbh hzi,ZfA,hrun];show runW ns S [z]=_;unfold runW
   cases Zct ns S z <;> rfl
  have rno:Zct ns S z=none→Ze7 ns ws=none:=fun h=>by
   unfold Ze7
   have:runW ns [Lv.new] ws=none:=by
    rw[←List.take_append_drop (i+1) ws,ZfA,rn,h];rfl
   rw[this];rfl
  have zpl:=hpl z (mem_of_getElem? hzi)
  match ads,S,Z,hne with
  | [],[],_,hne=>exact absurd rfl hne
  | [],_::_,Z,_=>exact Z.st.elim
  | _::_,[],Z,_=>exact Z.st.elim
  | (p,dx,a,e,o)::r,L::R,Z,_=>
   have Y:LvAt t H3 p dx a e o L:=Z.st.1;have hls:=Z.ls;rw[ZkE]at hls;have rl:=Z.st.2.len;have hL:=hsz L mem_cons_self;have fin:∀(H':Hp) (v3 v4:Option V) (ads':List A5) (S':List Lv),SK t H H' lv ads' S'→Zct ns (L::R) z=some S'→ads'.length≤i+2→∃ads S w3 w4,SK t H H' lv ads S∧runW ns [Lv.new] (ws.take (i+1))=some S∧(∀L∈S,L.size≤i+1)∧S≠[]∧ads.length≤i+1+1∧[some (.ref fo),some (.ref nl),some (.ref lv),v3,v4]=[some (.ref fo),some (.ref nl),some (.ref lv),w3,w4]:=fun H' v3 v4 ads' S' Z' h hl'=>⟨ads',S',v3,v4,Z',by rw[rn,h],ZwW h hsz,ZBs h,hl',rfl⟩
   have wrd:∀(Q':VK),(∀L' a' e' H',L.word ns z=some L'→SK t H H' lv ((p,dx,a',e',o)::r) (L'::R)→Q' .non H')→(L.word ns z=none→Zct ns (L::R) z=none)→ZwU t [.ref p,.str z,.ref nl] H3 Q' E:=fun Q' h1 h2=>
    ⟨p,dx,a,e,o,nl,L,z,ns,rfl,Y,by omega,Z.sm _ _ hn,h1000,zpl,fun hw H' s'=>k1 (rno (h2 hw)) H' (Z.sm.trans s'),fun L' hw a' e' H' ha he k Y'=>h1 L' a' e' H' hw (Z.top T ha he k Y')⟩
   walk_at "";refine ZvC hls (Zu2 _ _) ?_;walk_at "";have lp:((p,dx,a,e,o)::r:List A5).length≤i+1:=hal;rw[length_cons]at lp;refine(fun(key : ¬(z = "("∧L.lack=true)→?G)=>?main) ?key
   case main=>
    refine ZbN (fun h1=>?_) (fun h1=>?_)
    ·walk_at ""
     refine⟨p,_,_,_,_,rfl,Y.ob,T.Za6,T.ZaM,Zek _ _ _ _ _,?_⟩;walk_at ""
     cases hl:L.lack with
     | true=>
      refine Zbn rfl ?_;walk_at "";refine⟨tyL Z.ls,?_⟩;walk_at "";refine ZvD fun p' dx' a' e' o' H4 s4 np na ne no Y4=>?_;walk_at "";refine ZaZ (s4 _ _ Z.ls) (by rw[ZpT]; simp only [length_cons]; omega) fun H5 b5 e5=>?_;walk_at "";exact fin H5 _ _ _ _ (Z.push T s4 np na ne no Y4 b5 e5) (by simp only [Zct]; rw[if_pos ⟨h1,hl⟩]) (by simp only [length_cons]; omega)
     | false=>
      refine Za7 rfl ?_
      exact key fun y=>by rw[hl]at y; exact absurd y.2 (by decide)
    ·refine Za7 rfl ?_
     exact key fun y=>h1 y.1
   intro hno;refine(fun(key : ¬(z = ")"∧L.lack=false∧R≠[])→?W)=>?main2) ?key2
   case main2=>
    walk_at "";refine ZbN (fun h2=>?_) (fun h2=>?_)
    ·walk_at ""
     refine⟨p,_,_,_,_,rfl,Y.ob,T.Za6,T.ZaM,Zek _ _ _ _ _,?_⟩;walk_at ""
     cases hl:L.lack with
     | true=>
      refine Za7 rfl ?_;refine Za7 rfl ?_
      exact key fun y=>by rw[hl]at y; exact absurd y.2.1 (by decide)
     | false=>
      refine Zbn rfl ?_;walk_at "";rw[length_append,ZpT,length_singleton];refine ZbN (fun h3=>?_) (fun h3=>?_)
      ·match r,R,Z,rl with
       | [],_,_,_=>exact absurd h3 (by decide)
       | _::_,[],_,rl=>cases rl
       | (p2,dx2,a2,e2,o2)::r',M::R',Z,_=>
        walk_at "";refine⟨tyL hls,?_⟩;walk_at "";refine ZEi hls fun H4 b4 e4=>?_;obtain⟨Z4,Y4⟩:=Z.pop T b4 e4;have ls4:=Z4.ls;rw[ZkE]at ls4;have Y2:LvAt t H4 p2 dx2 a2 e2 o2 M:=Z4.st.1;have hM:=hsz M (mem_cons_of_mem _ mem_cons_self);walk_at "";refine ZvC ls4 (Zu2 _ _) ?_;walk_at "";refine⟨p2,_,_,_,rfl,Y2.ob,rfl,Zkl _ _ _ _ _,?_⟩;walk_at "";refine⟨p,_,_,_,rfl,Y4.ob,rfl,Zq6 _ _ _ _ _,?_⟩;walk_at "";refine⟨Y4.ob,p,dx,a,e,o,L,rfl,Y4,by omega,fun q H5 k5 hq=>?_⟩;have Z5:=Z4.off T Y4 Z.out k5;have Y25:LvAt t H5 p2 dx2 a2 e2 o2 M:=Z5.st.1;walk_at "";refine⟨Y25.ob,p2,dx2,a2,e2,o2,q,M,L.whole,rfl,Y25,hq,by omega,fun H6 o6 Y6=>?_⟩;walk_at "";refine fin H6 _ _ _ _ (Z5.top T (.inl rfl) (.inl rfl) (fun x u h1 h2 _ _ zz=>o6 _ _ h1 h2 zz) Y6) ?_ (by simp only [length_cons]at lp ⊢; omega);simp only [Zct];rw[if_neg hno,if_pos ⟨h2,hl⟩]
      ·exact key fun y=>by
        cases r with
        | nil=>exact y.2.2 (length_eq_zero_iff.mp rl.symm)
        | cons x r'=>simp only [length_cons]at h3; omega
    ·refine Za7 rfl ?_
     exact key fun y=>h2 y.1
   intro hn2;have sw:=ZuK (ns:=ns) hno hn2;walk_at "";refine⟨p,_,_,_,rfl,Y.ob,rfl,ZpA _ _ _ _ _,?_⟩;walk_at "";refine⟨Y.ob,wrd _ (fun L' a' e' H' hw Z'=>?_) fun hw=>by rw[sw,hw]; rfl⟩;walk_at "";exact fin H' _ _ _ _ Z' (by rw[sw,hw]; rfl) (by simp only [length_cons]; omega)
 ·rintro σ H3 ⟨ads,S,v3,v4,Z,hrun,hsz,hne,hal,rfl⟩
  rw[length_map,take_length]at hrun;rw[length_map]at hsz
  have hane:ads≠[]:=fun z=>by
   have:=Z.st.len;rw[z]at this;exact hne (length_eq_zero_iff.mp this.symm)
  obtain⟨b,L0,hb,hS,Y0,hmem⟩:=Z.st.bottom hane;have hls:=Z.ls
  have rd:Ze7 ns ws=endF L0:=by
   unfold Ze7;rw[hrun];show S.getLast?.bind endF=_;rw[hS];rfl
  have hL0:=hsz L0 (List.mem_of_getLast? hS);rw[rd]at k1 k2;unfold endF at k1 k2;walk_at "";refine ZaO (j:=0) hls hb ?_;walk_at "";refine⟨b.1,_,_,_,_,rfl,Y0.ob,T.Za6,T.ZaM,Zek _ _ _ _ _,?_⟩;walk_at ""
  cases hl:L0.lack with
  | true=>
   rw[hl,if_pos rfl]at k1;refine Zbn rfl ?_
   (try dsimp only)
   refine Zcr ?_;walk_at "";exact⟨Nat.le_of_ble_eq_true rfl,k1 rfl H3 Z.sm⟩
  | false=>
   rw[hl,if_neg (by decide)]at k2;refine Za7 rfl ?_;walk_at "";refine ZaO (j:=0) hls hb ?_;walk_at "";refine⟨b.1,_,_,_,rfl,Y0.ob,rfl,Zq6 _ _ _ _ _,?_⟩;walk_at "";refine⟨Y0.ob,b.1,_,_,_,_,L0,rfl,Y0,by omega,fun q H4 k4 hq=>?_⟩;have kp:∀y,y∈[b.1,b.2.2.1,b.2.2.2.1,b.2.2.2.2]→∀{x u},H x=some u→x≠y:=fun y hy {x u} zz=>Z.kp (mem_cons_of_mem _ (hmem y hy)) zz;exact k2 _ rfl q H4 (fun x u zz=>k4 x u (kp _ (by simp) zz) (kp _ (by simp) zz) (kp _ (by simp) zz) (kp _ (by simp) zz) (Z.sm x u zz)) hq
end
def rp2 (c d:Nat) (z:List Nat):List Nat→List Nat
 | []=>[]
 | [a]=>[a]
 | a::b::r=>if a=c∧b=d then z++rp2 c d z r else a::rp2 c d z (b::r)
theorem ZsW {c d:Nat} {z:List Nat}:∀(n:Nat) (l:List Nat),n≤l.length→(∀k,k < n→¬(l[k]?=some c∧l[k+1]?=some d))→rp2 c d z l=l.take n++rp2 c d z (l.drop n)
 | 0,l,_,_=>rfl
 | n+1,[],h,_=>by simp at h
 | n+1,[a],h,hn=>by
  have:n=0:=by simp at h; omega
  subst this;rfl
 | n+1,a::b::r,h,hn=>by
  have h0 : ¬(a=c∧b=d):=fun y=>hn 0 (by omega) ⟨by simp[y.1],by simp[y.2]⟩;show(if a=c∧b=d then z++rp2 c d z r else a::rp2 c d z (b::r))=_;rw[if_neg h0,ZsW n (b::r) (by simpa using h) fun k hk y=>hn (k+1) (by omega) (by simpa using y)];rfl
theorem ZBc {c d:Nat} {z l:List Nat} (h:l[0]?=some c) (k:l[1]?=some d):rp2 c d z l=z++rp2 c d z (l.drop 2):=by
 match l,h,k with
 | a::b::r,h,k=>
  simp at h k;show(if a=c∧b=d then z++rp2 c d z r else a::rp2 c d z (b::r))=_;rw[if_pos ⟨h,k⟩];rfl
theorem at2 {x:Str} {c d k:Nat}:StrLaws.At x ⟨#[c,d]⟩ x.length k ↔ x.cps.toList[k]?=some c∧x.cps.toList[k+1]?=some d:=by
 have ln:x.length=x.cps.toList.length:=by rw[Array.length_toList]; rfl
 unfold StrLaws.At Builtin.Str.subAt
 constructor
 ·rintro⟨h1,h2⟩
  have h1':k+2≤x.length:=h1;have e:=eq_of_beq h2;have e':=congrArg Array.toList e
  have ex:(x.cps.extract k (k+2)).toList=(x.cps.toList.drop k).take 2:=by simp
  have e2:(x.cps.toList.drop k).take 2=[c,d]:=ex.symm.trans e'
  have g0:((x.cps.toList.drop k).take 2)[0]?=some c:=by rw[e2]; rfl
  have g1:((x.cps.toList.drop k).take 2)[1]?=some d:=by rw[e2]; rfl
  rw[List.getElem?_take_of_lt (by decide),getElem?_drop]at g0 g1;exact⟨by simpa using g0,g1⟩
 ·rintro⟨h1,h2⟩
  have hl:k+1 < x.cps.toList.length:=(List.getElem?_eq_some_iff.mp h2).1;refine⟨by show k+2≤_; omega,?_⟩
  have ex:(x.cps.extract k (k+2)).toList=(x.cps.toList.drop k).take 2:=by simp
  have e2:(x.cps.toList.drop k).take 2=[c,d]:=by
   rw[List.drop_eq_getElem_cons (by omega),List.drop_eq_getElem_cons hl];rw[List.getElem?_eq_getElem (by omega)]at h1;rw[List.getElem?_eq_getElem hl]at h2;rw[Option.some.inj h1,Option.some.inj h2];rfl
  have:x.cps.extract k (k+2) = #[c,d]:=Array.toList_inj.mp (ex.trans e2);exact beq_iff_eq.mpr this
def segs (l:List Nat):Nat→List Nat→List (List Nat)
 | a,[]=>[l.drop a]
 | a,c::r=>(l.drop a).take (c - a)::segs l (c+2) r
theorem ZBh (l:List Nat) (a:Nat) (cs:List Nat):segs l a cs≠[]:=by cases cs <;> simp[segs]
theorem Zm9 {z p:List Nat} {r:List (List Nat)} (h:r≠[]):jn z (p::r)=p++z++jn z r:=by
 cases r with
 | nil=>exact absurd rfl h
 | cons q r=>rfl
theorem ZtH {x:Str} {c d:Nat} {z:List Nat}:∀(cs:List Nat) (a f:Nat),StrLaws.ChainG x ⟨#[c,d]⟩ x.length a cs f→(∀k,f≤k→¬StrLaws.At x ⟨#[c,d]⟩ x.length k)→a≤x.length→rp2 c d z (x.cps.toList.drop a)=jn z (segs x.cps.toList a cs)
 | [],a,f,h,hn,ha=>by
  have e:f=a:=h;subst e;have:=ZsW (c:=c) (d:=d) (z:=z) (x.cps.toList.drop f).length (x.cps.toList.drop f) (Nat.le_refl _) fun k _ y=>hn (f+k) (by omega) (at2.mpr (by rw[getElem?_drop,getElem?_drop]at y; exact y));rw[this,take_length,List.drop_length];show _++[]=_;rw[append_nil];rfl
 | c1::r,a,f,h,hn,ha=>by
  obtain⟨h1,h2,h3,h4⟩:=h;have hle:c1+2≤x.length:=h2.1
  have ln:x.length=x.cps.toList.length:=by rw[Array.length_toList]; rfl
  have g:=ZsW (c:=c) (d:=d) (z:=z) (c1 - a) (x.cps.toList.drop a) (by rw[length_drop]; omega) fun k hk y=>h3 (a+k) (by omega) (by omega) (at2.mpr (by rw[getElem?_drop,getElem?_drop]at y; exact y))
  have e:(x.cps.toList.drop a).drop (c1 - a)=x.cps.toList.drop c1:=by rw[List.drop_drop]; congr 1; omega
  obtain⟨m1,m2⟩:=at2.mp h2;rw[g,e,ZBc (by rw[getElem?_drop]; exact m1) (by rw[getElem?_drop]; exact m2),List.drop_drop,ZtH r (c1+2) f h4 hn hle];show _=jn z ((x.cps.toList.drop a).take (c1 - a)::segs x.cps.toList (c1+2) r);rw[Zm9 (ZBh _ _ _),append_assoc]
theorem ZoT (x:Str):∀(cs:List Nat) (a:Nat),(((a::cs.map (· + 2)).zip (cs++[x.length])).map fun p=>(Builtin.Str.strSub x p.1 p.2).cps.toList)=segs x.cps.toList a cs
 | [],a=>by
  have ln:x.length=x.cps.toList.length:=by rw[Array.length_toList]; rfl
  show [(Builtin.Str.strSub x a x.length).cps.toList]=[x.cps.toList.drop a];rw[StrLaws.strSub_toList,List.take_of_length_le (by rw[length_drop]; omega)]
 | c::r,a=>by
  show(Builtin.Str.strSub x a c).cps.toList::_=(x.cps.toList.drop a).take (c - a)::segs x.cps.toList (c+2) r;rw[StrLaws.strSub_toList];exact congrArg _ (ZoT x r (c+2))
theorem Ze8 (x z:Str) (c d:Nat):(Txt.replace x ⟨#[c,d]⟩ z).cps.toList=rp2 c d z.cps.toList x.cps.toList:=by
 obtain⟨f,h1,h2⟩:=StrLaws.occ_tight x ⟨#[c,d]⟩ (by show 1≤2; decide);have key:=ZtH (z:=z.cps.toList) _ 0 f h1 h2 (Nat.zero_le _);rw[drop_zero]at key;have h10:((⟨#[c,d]⟩ : Str).length == 0)=false:=rfl;unfold Txt.replace;rw[h10,Bool.false_and,Bool.or_false]
 cases he:(Builtin.Str.occurrences x ⟨#[c,d]⟩ 0 x.length (x.length+1)).isEmpty
 ·rw[if_neg Bool.false_ne_true,StrLaws.glued_eq_join,Zfr,key]
  congr 1
  unfold Builtin.Str.partsBetween;rw[map_map];exact ZoT x _ 0
 ·rw[if_pos rfl,key,List.isEmpty_iff.mp he]
  rfl
def Wd (p:List Nat):Prop:=p=[40]∨p=[41]∨(p≠[]∧∀c∈p,97≤c∧c≤122)
def glue:List (List Nat)→List Nat
 | []=>[]
 | [p]=>p
 | p::q::r=>p++(if p=[40]∨q=[41] then [] else [32])++glue (q::r)
theorem ZkF {c d:Nat} {z:List Nat}:∀{p r:List Nat},c∉p→rp2 c d z (p++r)=p++rp2 c d z r
 | [],r,_=>rfl
 | [a],[],_=>by
  show rp2 c d z [a]=[a]++rp2 c d z [];rfl
 | [a],b::r,h=>by
  have h0 : ¬(a=c∧b=d):=fun y=>h (by rw[y.1]; simp);show(if a=c∧b=d then z++rp2 c d z r else a::rp2 c d z (b::r))=_;rw[if_neg h0];rfl
 | a::b::p,r,h=>by
  have h0 : ¬(a=c∧b=d):=fun y=>h (by rw[y.1]; simp);have ih:=ZkF (d:=d) (z:=z) (p:=b::p) (r:=r) fun y=>h (mem_cons_of_mem _ y);show(if a=c∧b=d then z++rp2 c d z (p++r) else a::rp2 c d z (b::p++r))=_;rw[if_neg h0,ih];rfl
def ZnO:W3→Str
 | .a=>" and "
 | .e=>" either "
 | .o=>" or "
def Ze6:W3→Nat
 | .a=>1
 | .e=>2
 | .o=>3
def Zj5:Fm→Nat
 | .join w _=>Ze6 w
 | _=>0
def brk (b:Bool) (z:Str):Str:=if b=true then Str.empty++"("++z++")" else z
mutual
def ZbC (ns:List Str):Fm→Str
 | .lamp k=>ns.getD k Str.empty
 | .sure b=>if b=true then "yes" else "no"
 | .neg f=>Str.empty++"not "++brk (decide (1≤(Zj5 f))) (ZbC ns f)
 | .join w fs=>Txt.join (ZnO w) (ZbW ns (Ze6 w) fs)
def ZbW (ns:List Str) (r:Nat):List Fm→List Str
 | []=>[]
 | f::fs=>brk (decide (r≤(Zj5 f))) (ZbC ns f)::ZbW ns r fs
end
def Zon (ns:List Str) (r:Nat) (f:Fm):Str:=brk (decide (r≤(Zj5 f))) (ZbC ns f)
theorem ZkK (ns:List Str) (r:Nat):∀fs:List Fm,ZbW ns r fs=fs.map (Zon ns r)
 | []=>by simp[ZbW]
 | f::fs=>by simp[ZbW,ZkK ns r fs,Zon]
theorem ZoW (ns:List Str) (w:W3) (fs:List Fm):ZbC ns (Fm.join w fs)=Txt.join (ZnO w) (fs.map (Zon ns (Ze6 w))):=by
 simp[ZbC,ZkK]
mutual
def fWt:Fm→Nat
 | .lamp _=>1
 | .sure _=>1
 | .neg f=>1+fWt f
 | .join _ fs=>1+fWtL fs
def fWtL:List Fm→Nat
 | []=>0
 | f::fs=>1+fWt f+fWtL fs
end
theorem ZD1 {fs:List Fm} {f:Fm} (h:f∈fs):fWt f < fWtL fs:=by
 induction fs with
 | nil=>cases h
 | cons g gs ih=>
  rw[fWtL]
  rcases mem_cons.mp h with rfl | h
  ·omega
  ·have:=ih h
   omega
theorem ZzQ:∀fs:List Fm,fs.length≤fWtL fs
 | []=>Nat.zero_le _
 | f::fs=>by rw[length_cons,fWtL]; have:=ZzQ fs; omega
theorem Zr8 (b:Bool) (z:Str):(brk b z).length≤z.length+2:=by
 unfold brk
 split
 ·rw[Zak,Zak,Zak]
  have:Str.length Str.empty=0:=rfl
  have:Str.length "(" = 1:=by decide +kernel
  have:Str.length ")" = 1:=by decide +kernel
  omega
 ·omega
theorem ZrI (w:W3):(ZnO w).length≤8:=by cases w <;> decide +kernel
theorem ZxD {ns:List Str} {B:Nat} (h:∀z∈ns,z.length≤B) (k:Nat):(ns.getD k Str.empty).length≤B:=by
 rw[getD_eq_getElem?_getD]
 cases e:ns[k]? with
 | none=>exact Nat.zero_le _
 | some z=>exact h z (mem_of_getElem? e)
mutual
theorem Zik {ns:List Str} (h:∀z∈ns,z.length≤20):∀f:Fm,(ZbC ns f).length≤20 * fWt f
 | .lamp k=>by simp only [ZbC,fWt]; exact ZxD h k
 | .sure b=>by cases b <;> simp only [ZbC,fWt] <;> decide +kernel
 | .neg f=>by
  have a:=Zik h f;have b:=Zr8 (decide (1≤(Zj5 f))) (ZbC ns f)
  have c:Str.length "not " = 4:=by decide +kernel
  have d:Str.length Str.empty=0:=rfl;simp only [ZbC,fWt];rw[Zak,Zak];omega
 | .join w fs=>by
  have a:=Zlq h (Ze6 w) fs;have b:=ZrI w;simp only [ZbC,fWt]
  have c:(Txt.join (ZnO w) (ZbW ns (Ze6 w) fs)).length≤((ZbW ns (Ze6 w) fs).map (·.length)).sum+(ZbW ns (Ze6 w) fs).length * (ZnO w).length:=by
   show(Builtin.Str.glued _ _).length≤_;rw[StrLaws.glued_eq_join];exact StrLaws.join_length_le _ _
  have d:(ZbW ns (Ze6 w) fs).length * (ZnO w).length≤(ZbW ns (Ze6 w) fs).length * 8:=Nat.mul_le_mul_left _ b;omega
theorem Zlq {ns:List Str} (h:∀z∈ns,z.length≤20) (r:Nat):∀fs:List Fm,((ZbW ns r fs).map (·.length)).sum+(ZbW ns r fs).length * 8≤20 * fWtL fs
 | []=>by simp[ZbW]
 | f::fs=>by
  have a:=Zik h f;have b:=Zr8 (decide (r≤(Zj5 f))) (ZbC ns f);have c:=Zlq h r fs;simp only [ZbW,fWtL,map_cons,sum_cons,length_cons];omega
end
theorem ZqR {ns:List Str} (h:∀z∈ns,z.length≤20) (w:W3) (fs:List Fm) (hw:fWtL fs≤1000):JoinOk (ZnO w) (fs.map (Zon ns (Ze6 w)))=true:=by
 rw[←ZkK];unfold JoinOk Builtin.Str.tooLong;rw[StrLaws.joinTotal];have a:=Zlq h (Ze6 w) fs;have b:=ZrI w;have d:(ZbW ns (Ze6 w) fs).length * (ZnO w).length≤(ZbW ns (Ze6 w) fs).length * 8:=Nat.mul_le_mul_left _ b;rw[decide_eq_false (Nat.not_lt.mpr (ZaQ (by omega)))];rfl
section
variable {P:Program} {w:World} {K:W.Frag} {mg:Str→Option Value} {base:Heap} {t:Ad} {n:Nat}
def ZBo (t:Ad):Sp:=fun vs H Q _=>∃(p:Addr) (f:Fm) (n:Nat),vs=[.ref p]∧FmAt t H (n+1) p f∧Q (.int (Zj5 f:Int)) H
theorem ZiX (T:Txt K mg t):∀C,isFm t C→MeS P w K mg base 1 C "looseness" ["self"] (spAt (ZBo t) C):=by
 rintro C (rfl | rfl | rfl | rfl | rfl | rfl)
 ·refine⟨T.ZoC,_,_,T.ZaG.ok Zc1 (fun vs H Q E h=>?_) (fun cdv A outer s H vs Q E hr h=>?_),T.Zb8,T.Zhv⟩
  ·obtain⟨⟨p,f,n,rfl,_⟩,_⟩:=h
   rfl
  ·obtain⟨⟨p,f,n,rfl,hf,q⟩,a,dx,fs,r,e,ea⟩:=h
   cases e
   obtain⟨k,rfl,rfl⟩:=hf.lamp T ea;refine⟨_,(Zae (Zas Zad)),?_⟩;walk_at "rd0";exact q
 ·refine⟨T.ZoD,_,_,T.ZaG.ok Zc1 (fun vs H Q E h=>?_) (fun cdv A outer s H vs Q E hr h=>?_),T.Zb8,T.Zhw⟩
  ·obtain⟨⟨p,f,n,rfl,_⟩,_⟩:=h
   rfl
  ·obtain⟨⟨p,f,n,rfl,hf,q⟩,a,dx,fs,r,e,ea⟩:=h
   cases e
   obtain⟨b,rfl,rfl⟩:=hf.sure T ea;refine⟨_,(Zae (Zas Zad)),?_⟩;walk_at "rd0";exact q
 ·refine⟨T.c_Not,_,_,T.ZaG.ok Zc1 (fun vs H Q E h=>?_) (fun cdv A outer s H vs Q E hr h=>?_),T.Zb8,T.ZhU⟩
  ·obtain⟨⟨p,f,n,rfl,_⟩,_⟩:=h
   rfl
  ·obtain⟨⟨p,f,n,rfl,hf,q⟩,a,dx,fs,r,e,ea⟩:=h
   cases e
   obtain⟨g,p2,rfl,rfl,hg⟩:=hf.neg T ea;refine⟨_,(Zae (Zas Zad)),?_⟩;walk_at "rd0";exact q
 ·refine⟨T.c_And,_,_,T.ZbZ.ok Zmr (fun vs H Q E h=>?_) (fun cdv A outer s H vs Q E hr h=>?_),T.ZhO,T.ZhS⟩
  ·obtain⟨⟨p,f,n,rfl,_⟩,_⟩:=h
   rfl
  ·obtain⟨⟨p,f,n,rfl,hf,q⟩,a,dx,fs,r,e,ea⟩:=h
   cases e
   obtain⟨gs,tp,ps,rfl,rfl,htp,hg⟩:=hf.join (w:=.a) T ea;refine⟨_,(Zae (Zas Zad)),?_⟩;walk_at "rd0";exact q
 ·refine⟨T.Zix,_,_,T.Zbr.ok ZjF (fun vs H Q E h=>?_) (fun cdv A outer s H vs Q E hr h=>?_),T.ZfN,T.Zf2⟩
  ·obtain⟨⟨p,f,n,rfl,_⟩,_⟩:=h
   rfl
  ·obtain⟨⟨p,f,n,rfl,hf,q⟩,a,dx,fs,r,e,ea⟩:=h
   cases e
   obtain⟨gs,tp,ps,rfl,rfl,htp,hg⟩:=hf.join (w:=.e) T ea;refine⟨_,(Zae (Zas Zad)),?_⟩;walk_at "rd0";exact q
 ·refine⟨T.c_Or,_,_,T.Zci.ok ZnG (fun vs H Q E h=>?_) (fun cdv A outer s H vs Q E hr h=>?_),T.Zi2,T.Zi7⟩
  ·obtain⟨⟨p,f,n,rfl,_⟩,_⟩:=h
   rfl
  ·obtain⟨⟨p,f,n,rfl,hf,q⟩,a,dx,fs,r,e,ea⟩:=h
   cases e
   obtain⟨gs,tp,ps,rfl,rfl,htp,hg⟩:=hf.join (w:=.o) T ea;refine⟨_,(Zae (Zas Zad)),?_⟩;walk_at "rd0";exact q
def isJn (t:Ad) (C:Addr):Prop:=∃w,C=cw t w
def ZwL (t:Ad):Sp:=fun vs H Q _=>∃(p dx:Addr) (fs:List (Str×V)) (w:W3),vs=[.ref p]∧H p=some (.ins (cw t w) dx fs)∧Q (.str (ZnO w)) H
theorem Zqe (T:Txt K mg t):∀C,isJn t C→MeS P w K mg base 1 C "between" ["self"] (spAt (ZwL t) C):=by
 rintro C ⟨v,rfl⟩
 cases v
 ·refine⟨T.c_And,_,_,T.ZcJ.ok Zos (fun vs H Q E h=>?_) (fun cdv A outer s H vs Q E hr h=>?_),T.ZjV,T.Zj8⟩
  ·obtain⟨⟨p,dx,fs,w,rfl,_⟩,_⟩:=h
   rfl
  ·obtain⟨⟨p,dx,fs,w,rfl,hp,q⟩,a,dx',fs',r,e,ea⟩:=h
   cases e
   rw[ea]at hp;have e1:cw t .a=cw t w:=(HO.ins.inj (Option.some.inj hp)).1;obtain rfl:=Zte T e1;refine⟨_,(Zae (Zas Zai)),?_⟩;walk_at "rd0";exact q
 ·refine⟨T.Zix,_,_,T.ZbQ.ok Zlo (fun vs H Q E h=>?_) (fun cdv A outer s H vs Q E hr h=>?_),T.Zhr,T.Zhu⟩
  ·obtain⟨⟨p,dx,fs,w,rfl,_⟩,_⟩:=h
   rfl
  ·obtain⟨⟨p,dx,fs,w,rfl,hp,q⟩,a,dx',fs',r,e,ea⟩:=h
   cases e
   rw[ea]at hp;have e1:cw t .e=cw t w:=(HO.ins.inj (Option.some.inj hp)).1;obtain rfl:=Zte T e1;refine⟨_,(Zae (Zas Zai)),?_⟩;walk_at "rd0";exact q
 ·refine⟨T.c_Or,_,_,T.Zdp.ok ZpY (fun vs H Q E h=>?_) (fun cdv A outer s H vs Q E hr h=>?_),T.ZlL,T.ZlV⟩
  ·obtain⟨⟨p,dx,fs,w,rfl,_⟩,_⟩:=h
   rfl
  ·obtain⟨⟨p,dx,fs,w,rfl,hp,q⟩,a,dx',fs',r,e,ea⟩:=h
   cases e
   rw[ea]at hp;have e1:cw t .o=cw t w:=(HO.ins.inj (Option.some.inj hp)).1;obtain rfl:=Zte T e1;refine⟨_,(Zae (Zas Zai)),?_⟩;walk_at "rd0";exact q
def ZEw (t:Ad):Sp:=fun vs H Q _=>∃(p:Addr) (f:Fm) (n r:Nat) (z:Str),vs=[.ref p,.str z,.int (r:Int)]∧FmAt t H (n+1) p f∧z.length≤900000∧Q (.str (brk (decide (r≤Zj5 f)) z)) H
theorem Zl5 (T:Txt K mg t):FnS P w K mg base 2 "bracketed" ["part","text","bound"] ((ZEw t)):=by
 refine⟨_,_,T.Zd7.ok Zru (fun vs H Q E h=>?_) (fun cdv A outer s H vs Q E hr h=>?_),T.ZmR,T.Zd7.kp,T.Znp⟩
 ·obtain⟨p,f,n,r,z,rfl,hf,hz,q⟩:=h
  rfl
 obtain⟨p,f,n,r,z,rfl,hf,hz,q⟩:=h;have D_looseness:=ZiX (P:=P) (w:=w) (base:=base) T;obtain⟨C,dx',fs',e',hC,hl⟩:=hf.ins "looseness" (by decide +kernel) (by decide +kernel) (by decide +kernel) (by decide +kernel);have l0:Str.length Str.empty=0:=rfl
 have l1:Str.length "(" = 1:=by decide +kernel
 have l2:Str.length ")" = 1:=by decide +kernel
 refine⟨_,(Zae (Zas (ZkD (Zal ZEr (Zrp D_looseness hr (pv 0)) (pv 2) (Zat _)) (Zfy (Zdk Zai (Zdk (Zwn (pv 1)) (Zdk Zai Znz)))) (pv 1)))),?_⟩;walk_at "rd0";refine⟨p,C,dx',fs',rfl,e',hC,hl,?_⟩;walk_at "";refine⟨e',p,f,n,rfl,hf,?_⟩;walk_at "";refine ZbN (fun h=>?_) (fun h=>?_)
 ·rw[decide_eq_true (by omega)]at q
  walk_at "";refine⟨_,rfl,ZaQ (by rw[Zak]; omega),?_⟩;walk_at "";refine⟨_,rfl,ZaQ (by omega),_,rfl,ZaQ (by rw[Zak,Zak]; omega),?_⟩;walk_at "";refine⟨_,rfl,ZaQ (by rw[Zak,Zak,Zak]; omega),?_⟩;refine i_jn (by rw[Zak,Zak,Zak]; omega) ?_;exact q
 ·rw[decide_eq_false (by omega)]at q
  walk_at "";exact q
def Zil (t:Ad) (n:Nat):Sp:=fun vs H Q _=>∃(p nl:Addr) (f:Fm) (ns:List Str),vs=[.ref p,.ref nl]∧FmAt t H n p f∧H nl=some (.lst (ns.map V.str))∧(∀z∈ns,z.length≤20)∧f.low ns.length=true∧fWt f≤1000∧∀H',Same H H'→Q (.str (ZbC ns f)) H'
theorem ZpH (T:Txt K mg t):MeS P w K mg base (n+3) t.Zbx "shown" ["self","names"] (spAt (Zil t (n+1)) t.Zbx):=by
 refine⟨T.ZoC,_,_,T.Zdo.ok ZpW (fun vs H Q E h=>?_) (fun cdv A outer s H vs Q E hr h=>?_),T.ZhP,T.ZhT⟩
 ·obtain⟨⟨p,nl,f,ns,rfl,_⟩,_⟩:=h
  rfl
 ·obtain⟨⟨p,nl,f,ns,rfl,hf,hn,h20,hlow,hwt,q⟩,a,dx,fs,r,e,ea⟩:=h
  cases e
  obtain⟨k,rfl,rfl⟩:=hf.lamp T ea;simp only [Fm.low,decide_eq_true_iff]at hlow;refine⟨_,(Zae (Zas (Za1 ZaA (pv 1) (Zcy (pv 0) rfl) (fun _ _=>rfl)))),?_⟩;walk_at "rd0";refine⟨p,_,_,_,_,rfl,ea,T.ZoC,T.Zh2,lk1 _ _,?_⟩;walk_at "";refine ZaO (v:=.str (ns.getD k Str.empty)) hn (by rw[getElem?_map,getD_eq_getElem?_getD,List.getElem?_eq_getElem hlow]; rfl) ?_;have:=q H (Same.refl _)
  simpa only [ZbC] using this
theorem ZpI (T:Txt K mg t):MeS P w K mg base (n+3) t.Zby "shown" ["self","names"] (spAt (Zil t (n+1)) t.Zby):=by
 refine⟨T.ZoD,_,_,T.Zdq.ok ZpZ (fun vs H Q E h=>?_) (fun cdv A outer s H vs Q E hr h=>?_),T.ZhQ,T.ZhV⟩
 ·obtain⟨⟨p,nl,f,ns,rfl,_⟩,_⟩:=h
  rfl
 ·obtain⟨⟨p,nl,f,ns,rfl,hf,hn,h20,hlow,hwt,q⟩,a,dx,fs,r,e,ea⟩:=h
  cases e
  obtain⟨b,rfl,rfl⟩:=hf.sure T ea;have q':=q H (Same.refl _);simp only [ZbC]at q';refine⟨_,(Zae (Zas (ZkD (ZdR (Zcy (pv 0) rfl) (fun _=>rfl)) Zai Zai))),?_⟩;walk_at "rd0";refine⟨p,_,_,_,_,rfl,ea,T.ZoD,T.ZeH,lk1 _ _,?_⟩;walk_at "";refine ZEd (fun h=>?_) (fun h=>?_)
  ·rw[if_pos h]at q'
   walk_at "";exact q'
  ·rw[if_neg (by rw[h]; decide)]at q'
   walk_at "";exact q'
theorem Zrf (T:Txt K mg t) (D_shown:∀C,isFm t C→MeS P w K mg base (n+2) C "shown" ["self","names"] (spAt (Zil t n) C)):MeS P w K mg base (n+3) t.C_Not "shown" ["self","names"] (spAt (Zil t (n+1)) t.C_Not):=by
 refine⟨T.c_Not,_,_,T.Zd1.ok Zma (fun vs H Q E h=>?_) (fun cdv A outer s H vs Q E hr h=>?_),T.Zjj,T.Zjn⟩
 ·obtain⟨⟨p,nl,f,ns,rfl,_⟩,_⟩:=h
  rfl
 ·obtain⟨⟨p,nl,f,ns,rfl,hf,hn,h20,hlow,hwt,q⟩,a,dx,fs,r,e,ea⟩:=h
  cases e
  obtain⟨g,p',rfl,rfl,hg⟩:=hf.neg T ea;simp only [Fm.low]at hlow;simp only [fWt]at hwt;have Zjh:=Zl5 (P:=P) (w:=w) (base:=base) T;obtain⟨C,dx',fs',e',hC,hl⟩:=hg.ins "shown" (by decide +kernel) (by decide +kernel) (by decide +kernel) (by decide +kernel);have hsl:=Zik h20 g;have hbl:=Zr8 (decide (1≤Zj5 g)) (ZbC ns g);have l0:Str.length Str.empty=0:=rfl
  have l1:Str.length "not " = 4:=by decide +kernel
  refine⟨_,(Zac (ss 2 Zma.nd (Za8 Zjh hr (Zaa (Zcy (pv 0) rfl) (Zaa (Zoo D_shown hr (Zcy (pv 0) rfl) (Zaa (pv 1) Zab)) (Zaa Zad Zab)))))
   (Zae (Zas (Zfy (Zdk Zai (Zdk (Zwn (pv 2)) Znz)))))),?_⟩
  walk_at "rd0";refine⟨p,_,_,_,_,rfl,ea,T.c_Not,T.Zfj,lk1 _ _,?_⟩;walk_at "";refine⟨p,_,_,_,_,rfl,ea,T.c_Not,T.Zfj,lk1 _ _,?_⟩;walk_at "";refine⟨p',C,dx',fs',rfl,e',hC,hl,?_⟩;walk_at "";refine⟨e',p',nl,g,ns,rfl,hg,hn,h20,hlow,by omega,fun H1 s1=>?_⟩;walk_at ""
  cases n with
  | zero=>exact hg.elim
  | succ n=>
   refine⟨p',g,n,1,_,rfl,FmAt.mono (Ext.of s1) hg,by omega,?_⟩;walk_at "";refine⟨_,rfl,ZaQ (by rw[Zak]; omega),?_⟩;walk_at "";refine⟨_,rfl,ZaQ (by omega),_,rfl,ZaQ (by rw[Zak,Zak]; omega),?_⟩;refine i_jn (by rw[Zak,Zak]; omega) ?_;have:=q H1 s1
   simpa only [ZbC] using this
theorem Zfv {v:W3} (T:Txt K mg t) (cl:Cls K (cw t v)) (na:ZbO K (cw t v) "parts") (me:Meth K (cw t v) "shown" t.ZaV) (D_shown:∀C,isFm t C→MeS P w K mg base (n+2) C "shown" ["self","names"] (spAt (Zil t n) C)):MeS P w K mg base (n+3) (cw t v) "shown" ["self","names"] (spAt (Zil t (n+1)) (cw t v)):=by
 refine⟨cl,_,_,T.ZbB.ok ZfD (fun vs H Q E h=>?_) (fun cdv A outer s H vs Q E hr h=>?_),T.Zc3,me⟩
 ·obtain⟨⟨p,nl,f,ns,rfl,_⟩,_⟩:=h
  rfl
 ·obtain⟨⟨p,nl,f,ns,rfl,hf,hn,h20,hlow,hwt,q⟩,a,dx,fs,r,e,ea⟩:=h
  cases e
  obtain⟨gs,tp,ps,rfl,rfl,htp,hg⟩:=hf.join T ea;rw[ZpB,all_eq_true]at hlow;simp only [fWt]at hwt;have Zjh:=Zl5 (P:=P) (w:=w) (base:=base) T;have D_looseness:=ZiX (P:=P) (w:=w) (base:=base) T;have D_between:=Zqe (P:=P) (w:=w) (base:=base) T;obtain⟨C0,dx0,fs0,e0,hC0,hl0⟩:=hf.ins "looseness" (by decide +kernel) (by decide +kernel) (by decide +kernel) (by decide +kernel)
  refine⟨_,(Zac (ss 2 ZfD.nd (Zaq Zab))
   (Zac (ZcI PassesOwn.never rfl (Zfz (Zcy (pv 0) rfl)) (sg 3 ZfD.nd)
   (Zae (Za2 (ZcX F.plainAttrs_list F.slot_list_append F.type_list_append ZaU (pv 2) (Zaa (Za8 Zjh hr (Zaa (pv 3) (Zaa (Zoo D_shown hr (pv 3) (Zaa (pv 1) Zab)) (Zaa (Zrp D_looseness hr (pv 0)) Zab)))) Zab)))))
   (Zae (Zas (ZcX F.plainAttrs_str F.slot_str_join F.type_str_join ZpD (Zrp D_between hr (pv 0)) (Zaa (pv 2) Zab)))))),?_⟩
  walk_at "rd0";refine ZaD (by simp) fun tl H1 s1 n1 e1=>?_;walk_at "";refine⟨p,_,_,_,_,rfl,s1 _ _ ea,cl,na,lk1 _ _,?_⟩;refine seqT (xs:=ps.map V.ref) (fun i σ H'=>Same H H'∧H' tl=some (.lst (((gs.take i).map (Zon ns (Ze6 v))).map V.str))∧∃v3,σ=[some (.ref p),some (.ref nl),some (.ref tl),v3]) ⟨s1,e1,_,rfl⟩ (fun i σ H' _ hp=>by obtain⟨s2,_⟩:=hp; exact SqT.of (s2 _ _ htp)) ?_ ?_
  ·rintro i x σ H2 hx ⟨s2,e2,v3,rfl⟩
   obtain⟨p',rfl,hx'⟩:=Zgc hx;obtain⟨g,hgi,hf'⟩:=ZoQ hg hx';have hgm:=mem_of_getElem? hgi;have hgw:=ZD1 hgm;have hsl:=Zik h20 g;have hf2:=FmAt.mono (Ext.of s2) hf';obtain⟨C,dx',fs',e',hC,hl⟩:=hf2.ins "shown" (by decide +kernel) (by decide +kernel) (by decide +kernel) (by decide +kernel);walk_at "";refine⟨tyL e2,?_⟩;walk_at "";refine⟨p',C,dx',fs',rfl,e',hC,hl,?_⟩;walk_at "";refine⟨e',p',nl,g,ns,rfl,hf2,s2 _ _ hn,h20,hlow g hgm,by omega,fun H3 s3=>?_⟩;walk_at "";refine⟨p,C0,dx0,fs0,rfl,s3 _ _ (s2 _ _ e0),hC0,hl0,?_⟩;walk_at "";have hfj:=FmAt.mono (Ext.of (s2.trans s3)) hf;refine⟨s3 _ _ (s2 _ _ e0),p,_,n,rfl,hfj,?_⟩;walk_at ""
   cases n with
   | zero=>exact hf'.elim
   | succ n=>
    refine⟨p',g,n,Ze6 v,_,rfl,FmAt.mono (Ext.of s3) hf2,by omega,?_⟩;walk_at "";refine ZaZ (s3 _ _ e2) (by rw[length_map,length_map,length_take]; have:=ZzQ gs; omega) fun H4 b4 e4=>?_;walk_at "";refine⟨b4.same n1 (s2.trans s3),?_,_,rfl⟩;rw[Zbh hgi,map_append,map_append];exact e4
  ·rintro σ H2 ⟨s2,e2,v3,rfl⟩
   rw[length_map,Zau hg,take_length]at e2;walk_at "";refine⟨p,_,dx,_,rfl,s2 _ _ ea,⟨v,rfl⟩,lk0 _ (by decide +kernel),?_⟩;walk_at "";refine⟨s2 _ _ ea,p,dx,_,v,rfl,s2 _ _ ea,?_⟩;walk_at "";refine⟨tyS,?_⟩;walk_at "";refine⟨_,tl,_,rfl,rfl,SqL.of e2,ZqR h20 v gs (by omega),?_⟩;have:=q H2 s2;rw[ZoW]at this;exact this
theorem ZiG {k:Nat} {C f:Addr} {fd:FuncData} {m:Str} {ps:List Str} {sp:Sp} (no:∀vs H Q E,¬sp vs H Q E) (c:Cls K C) (b:ZaL K fd ps []) (h:Meth K C m f):MeS P w K mg base k C m ps sp:=
 ⟨c,f,fd,⟨fun vs H Q E h=>absurd h (no vs H Q E),fun A outer s H args us vs Q E _ _ _ _ h=>absurd h (no vs H Q E)⟩,b,h⟩
theorem ZkN (T:Txt K mg t):∀n:Nat,∀C,isFm t C→MeS P w K mg base (n+2) C "shown" ["self","names"] (spAt (Zil t n) C)
 | 0=>by
  have no:∀C vs H Q E,¬spAt (Zil t 0) C vs H Q E:=fun C vs H Q E h=>by
   obtain⟨⟨p,nl,f,ns,_,h,_⟩,_⟩:=h;exact h
  rintro C (rfl | rfl | rfl | rfl | rfl | rfl)
  ·exact ZiG (no _) T.ZoC T.ZhP T.ZhT
  ·exact ZiG (no _) T.ZoD T.ZhQ T.ZhV
  ·exact ZiG (no _) T.c_Not T.Zjj T.Zjn
  ·exact ZiG (no _) T.c_And T.Zc3 T.Zjm
  ·exact ZiG (no _) T.Zix T.Zc3 T.Zgd
  ·exact ZiG (no _) T.c_Or T.Zc3 T.Zk0
 | n+1=>by
  have ih:=ZkN T n;rintro C (rfl | rfl | rfl | rfl | rfl | rfl)
  ·exact ZpH T
  ·exact ZpI T
  ·exact Zrf T ih
  ·exact Zfv (v:=.a) T T.c_And T.Zfu T.Zjm ih
  ·exact Zfv (v:=.e) T T.Zix T.Zc4 T.Zgd ih
  ·exact Zfv (v:=.o) T T.c_Or T.ZgH T.Zk0 ih
end
inductive Tr where
 | lamp (k:Nat)
 | sure (b:Bool)
 | neg (t:Tr)
 | wrap (t:Tr)
 | join (w:W3) (ts:List Tr)
mutual
def fmT (π:Nat→Nat):Tr→Fm
 | .lamp k=>.lamp (π k)
 | .sure b=>.sure b
 | .neg t=>.neg (fmT π t)
 | .wrap t=>fmT π t
 | .join w ts=>.join w (fmTL π ts)
def fmTL (π:Nat→Nat):List Tr→List Fm
 | []=>[]
 | t::ts=>fmT π t::fmTL π ts
end
def rkG (b:Bool):Tr→Nat
 | .wrap t=>if b=true then 0 else rkG b t
 | .join w _=>Ze6 w
 | _=>0
def brW (b:Bool) (ws:List Str):List Str:=if b=true then "("::(ws++([")"]:List Str)) else ws
def jnW (k:Str):List (List Str)→List Str
 | []=>[]
 | [p]=>p
 | p::q::r=>p++k::jnW k (q::r)
mutual
def wdG (b:Bool) (ns:List Str):Tr→List Str
 | .lamp k=>[ns.getD k Str.empty]
 | .sure c=>[if c=true then "yes" else "no"]
 | .neg t=>"not"::brW (decide (1≤rkG b t)) (wdG b ns t)
 | .wrap t=>brW b (wdG b ns t)
 | .join w ts=>jnW (kw3 w) (wdGL b ns (Ze6 w) ts)
def wdGL (b:Bool) (ns:List Str) (r:Nat):List Tr→List (List Str)
 | []=>[]
 | t::ts=>brW (decide (r≤rkG b t)) (wdG b ns t)::wdGL b ns r ts
end
mutual
def okT (m:Nat):Tr→Bool
 | .lamp k=>decide (k < m)
 | .sure _=>true
 | .neg t=>okT m t
 | .wrap t=>okT m t
 | .join _ ts=>decide (2≤ts.length) && okTL m ts
def okTL (m:Nat):List Tr→Bool
 | []=>true
 | t::ts=>okT m t && okTL m ts
end
theorem Ztg (π:Nat→Nat):∀ts:List Tr,(fmTL π ts).length=ts.length
 | []=>rfl
 | _::ts=>congrArg (· + 1) (Ztg π ts)
def ZBR (v:W3) (L:Lv):Prop:=L.nots=0∧L.lack=true∧(v≠.a→L.ands=[])∧(v=.o→L.eithers=[])
def cl0:W3→Lv→List Fm
 | .a,L=>L.ands
 | .e,L=>L.eithers
 | .o,L=>L.ors
def cl:W3→Lv→List Fm
 | .a,L=>L.ands
 | .e,L=>L.eithers++[Zb3 .a L.ands]
 | .o,L=>L.ors++[Zb3 .e (L.eithers++[Zb3 .a L.ands])]
def up3 (v:W3) (L L':Lv):Prop:=(v=.a→L'.eithers=L.eithers)∧(v≠.o→L'.ors=L.ors)
def D0 (ns:List Str) (ws:List Str) (f:Fm):Prop:=∀(L:Lv) (R:List Lv),L.lack=true→runW ns (L::R) ws=some (L.part f::R)
def Pw (ns:List Str) (v:W3) (ws:List Str) (fs:List Fm):Prop:=∀(L:Lv) (R:List Lv),ZBR v L→∃L',runW ns (L::R) ws=some (L'::R)∧L'.lack=false∧L'.nots=0∧cl v L'=cl0 v L++fs∧up3 v L L'
def Ww (ns:List Str) (ws:List Str) (f:Fm):Prop:=∀R:List Lv,∃L',runW ns (Lv.new::R) ws=some (L'::R)∧L'.lack=false∧L'.whole=f
theorem D0.a {ns ws:List Str} {f:Fm} (h:D0 ns ws f):Pw ns .a ws [f]:=fun L R c=>⟨L.part f,h L R c.2.1,rfl,rfl,by show L.ands++[negs L.nots f]=_; rw[c.1]; rfl,fun _=>rfl,fun _=>rfl⟩
theorem Pw.ae {ns ws:List Str} {fs:List Fm} {f:Fm} (h:Pw ns .a ws fs) (e:Zb3 .a fs=f):Pw ns .e ws [f]:=fun L R c=>by
 obtain⟨L',h1,h2,h3,h4,h5⟩:=h L R ⟨c.1,c.2.1,fun z=>absurd rfl z,fun z=>nomatch z⟩
 have ha:L'.ands=fs:=by
  have:L'.ands=L.ands++fs:=h4;rw[this,c.2.2.1 (by decide)];rfl
 refine⟨L',h1,h2,h3,?_,(fun z=>nomatch z),fun z=>h5.2 (by decide)⟩;show L'.eithers++[Zb3 .a L'.ands]=L.eithers++[f];rw[h5.1 rfl,ha,e]
theorem Pw.eo {ns ws:List Str} {fs:List Fm} {f:Fm} (h:Pw ns .e ws fs) (e:Zb3 .e fs=f):Pw ns .o ws [f]:=fun L R c=>by
 obtain⟨L',h1,h2,h3,h4,h5⟩:=h L R ⟨c.1,c.2.1,fun _=>c.2.2.1 (by decide),fun z=>nomatch z⟩
 have he:L'.eithers++[Zb3 .a L'.ands]=fs:=by
  have:L'.eithers++[Zb3 .a L'.ands]=L.eithers++fs:=h4;rw[this,c.2.2.2 rfl];rfl
 refine⟨L',h1,h2,h3,?_,(fun z=>nomatch z),fun z=>absurd rfl z⟩;show L'.ors++[Zb3 .e (L'.eithers++[Zb3 .a L'.ands])]=L.ors++[f];rw[h5.2 (by decide),he,e]
theorem Pw.w {ns ws:List Str} {fs:List Fm} {f:Fm} (h:Pw ns .o ws fs) (e:Zb3 .o fs=f):Ww ns ws f:=fun R=>by
 obtain⟨L',h1,h2,h3,h4,h5⟩:=h Lv.new R ⟨rfl,rfl,fun _=>rfl,fun _=>rfl⟩;refine⟨L',h1,h2,?_⟩;have:L'.ors++[Zb3 .e (L'.eithers++[Zb3 .a L'.ands])]=fs:=h4;show Zb3 .o (L'.ors++[Zb3 .e (L'.eithers++[Zb3 .a L'.ands])])=f;rw[this,e]
theorem ZAA (v:W3):Zmn (kw3 v)=some v:=by cases v <;> decide
theorem ZCJ (v:W3):kw3 v≠"("∧kw3 v≠")":=by cases v <;> decide
theorem ZwV {ns:List Str} {L:Lv} {R:List Lv} (v:W3) (h:L.lack=false):Zct ns (L::R) (kw3 v)=some (L.join v::R):=by
 have hw:L.word ns (kw3 v)=some (L.join v):=by
  unfold Lv.word;rw[if_neg (by rw[h]; decide),ZAA];rfl
 have h1 : ¬(kw3 v = "("∧L.lack=true):=fun y=>(ZCJ v).1 y.1
 cases R with
 | nil=>simp only [Zct]; rw[if_neg h1,hw]; rfl
 | cons M R=>simp only [Zct]; rw[if_neg h1,if_neg fun y=>(ZCJ v).2 y.1,hw]; rfl
theorem Zh5 {ns:List Str} {S S':List Lv} {z:Str} {r:List Str} (h:Zct ns S z=some S'):runW ns S (z::r)=runW ns S' r:=by
 show(Zct ns S z).bind _=_;rw[h];rfl
theorem Pw.join {ns:List Str} {v:W3}:∀{txs:List (List Str)} {fs:List Fm},txs≠[]→Paired (fun tx f=>Pw ns v tx [f]) txs fs→Pw ns v (jnW (kw3 v) txs) fs
 | [],_,n,_=>absurd rfl n
 | [tx],_,_,.cons h .nil=>h
 | tx::ty::r,f::fs,_,.cons h t=>fun L R c=>by
  obtain⟨L1,a1,a2,a3,a4,a5⟩:=h L R c;have ih:=Pw.join (txs:=ty::r) (by simp) t
  have c1:ZBR v (L1.join v):=by
   refine⟨?_,?_,fun hv=>?_,fun hv=>?_⟩
   ·cases v <;> exact a3
   ·cases v <;> rfl
   ·cases v
    ·exact absurd rfl hv
    ·rfl
    ·rfl
   ·subst hv; rfl
  have e0:cl0 v (L1.join v)=cl v L1:=by cases v <;> rfl
  obtain⟨L2,b1,b2,b3,b4,b5⟩:=ih (L1.join v) R c1;refine⟨L2,?_,b2,b3,?_,?_,?_⟩
  ·show runW ns (L::R) (tx++kw3 v::jnW (kw3 v) (ty::r))=_
   rw[ZfA,a1];show runW ns (L1::R) (kw3 v::jnW (kw3 v) (ty::r))=_;rw[Zh5 (ZwV v a2)];exact b1
  ·rw[b4,e0,a4,append_assoc]
   rfl
  ·intro hv
   subst hv;exact(b5.1 rfl).trans (a5.1 rfl)
  ·intro hv
   refine(b5.2 hv).trans ?_
   have:(L1.join v).ors=L1.ors:=by
    cases v
    ·rfl
    ·rfl
    ·exact absurd rfl hv
   rw[this];exact a5.2 hv
theorem D0.br {ns ws:List Str} {f:Fm} (h:Ww ns ws f):D0 ns ("("::(ws++([")"]:List Str))) f:=fun L R hl=>by
 obtain⟨L',h1,h2,h3⟩:=h (L::R)
 have s1:Zct ns (L::R) "(" = some (Lv.new::L::R):=by simp only [Zct]; rw[if_pos ⟨trivial,hl⟩]
 rw[Zh5 s1,ZfA,h1];show runW ns (L'::L::R) [")"]=_
 have s2:Zct ns (L'::L::R) ")" = some (L.part L'.whole::R):=by
  simp only [Zct];rw[if_neg (by rintro⟨y,_⟩; exact absurd y (by decide)),if_pos ⟨trivial,h2⟩]
 rw[Zh5 s2,h3];rfl
theorem D0.one {ns:List Str} {z:Str} {f:Fm} (h:Zdn ns z=some f) (h1:z≠"(") (h2:z≠")") (h3:z≠"not"):D0 ns [z] f:=fun L R hl=>by
 have hw:L.word ns z=some (L.part f):=by
  unfold Lv.word;rw[if_pos hl,if_neg h3,h];rfl
 have s1:Zct ns (L::R) z=some (L.part f::R):=by
  cases R with
  | nil=>simp only [Zct]; rw[if_neg fun y=>h1 y.1,hw]; rfl
  | cons M R=>simp only [Zct]; rw[if_neg fun y=>h1 y.1,if_neg fun y=>h2 y.1,hw]; rfl
 rw[Zh5 s1];rfl
theorem Zv9 (n:Nat) (f:Fm):negs n (.neg f)=negs (n+1) f:=by
 induction n with
 | zero=>rfl
 | succ n ih=>show Fm.neg (negs n (.neg f))=_; rw[ih]; rfl
theorem D0.not {ns ws:List Str} {f:Fm} (h:D0 ns ws f):D0 ns ("not"::ws) (.neg f):=fun L R hl=>by
 have hw:L.word ns "not" = some ⟨L.nots+1,L.ands,L.eithers,L.ors,L.lack⟩:=by
  unfold Lv.word;rw[if_pos hl,if_pos rfl]
 have s1:Zct ns (L::R) "not" = some (⟨L.nots+1,L.ands,L.eithers,L.ors,L.lack⟩::R):=by
  cases R with
  | nil=>simp only [Zct]; rw[if_neg (by rintro⟨y,_⟩; exact absurd y (by decide)),hw]; rfl
  | cons M R=>simp only [Zct]; rw[if_neg (by rintro⟨y,_⟩; exact absurd y (by decide)),if_neg (by rintro⟨y,_⟩; exact absurd y (by decide)),hw]; rfl
 rw[Zh5 s1,h ⟨L.nots+1,L.ands,L.eithers,L.ors,L.lack⟩ R hl];unfold Lv.part;rw[Zv9]
structure GoodT (ns' ns:List Str) (π:Nat→Nat) (t:Tr):Prop where
 z:rkG true t=0→D0 ns' (wdG true ns t) (fmT π t)
 e:rkG true t≤1→Pw ns' .e (wdG true ns t) [fmT π t]
 o:rkG true t≤2→Pw ns' .o (wdG true ns t) [fmT π t]
 w:Ww ns' (wdG true ns t) (fmT π t)
theorem GoodT.of0 {ns' ns:List Str} {π:Nat→Nat} {t:Tr} (h:D0 ns' (wdG true ns t) (fmT π t)):GoodT ns' ns π t:=⟨fun _=>h,fun _=>h.a.ae rfl,fun _=>(h.a.ae rfl).eo rfl,((h.a.ae rfl).eo rfl).w rfl⟩
theorem GoodT.br0 {ns' ns:List Str} {π:Nat→Nat} {t:Tr} (g:GoodT ns' ns π t) {r:Nat} (h:r≤1):D0 ns' (brW (decide (r≤rkG true t)) (wdG true ns t)) (fmT π t):=by
 by_cases e:r≤rkG true t
 ·rw[decide_eq_true e]; exact D0.br g.w
 ·rw[decide_eq_false e]; exact g.z (by omega)
theorem GoodT.br1 {ns' ns:List Str} {π:Nat→Nat} {t:Tr} (g:GoodT ns' ns π t):Pw ns' .e (brW (decide (2≤rkG true t)) (wdG true ns t)) [fmT π t]:=by
 by_cases e:2≤rkG true t
 ·rw[decide_eq_true e]; exact(D0.br g.w).a.ae rfl
 ·rw[decide_eq_false e]; exact g.e (by omega)
theorem GoodT.br2 {ns' ns:List Str} {π:Nat→Nat} {t:Tr} (g:GoodT ns' ns π t):Pw ns' .o (brW (decide (3≤rkG true t)) (wdG true ns t)) [fmT π t]:=by
 by_cases e:3≤rkG true t
 ·rw[decide_eq_true e]; exact((D0.br g.w).a.ae rfl).eo rfl
 ·rw[decide_eq_false e]; exact g.o (by omega)
structure NmsOk (ns' ns:List Str) (π:Nat→Nat) (m:Nat):Prop where
 at':∀k,k < m→idxS (ns.getD k Str.empty) ns'=some (π k)
 no:∀k,k < m→ns.getD k Str.empty∉(["yes","no","not","(",")"]:List Str)
mutual
theorem Zmz {ns' ns:List Str} {π:Nat→Nat} {m:Nat} (N:NmsOk ns' ns π m):∀t:Tr,okT m t=true→GoodT ns' ns π t
 | .lamp k,h=>by
  have hk:k < m:=by simpa [okT] using h
  have no:=N.no k hk;simp only [mem_cons,not_mem_nil,or_false,not_or]at no;refine .of0 ?_;show D0 ns' [ns.getD k Str.empty] (.lamp (π k));refine D0.one ?_ no.2.2.2.1 no.2.2.2.2 no.2.2.1;unfold Zdn;rw[if_neg no.1,if_neg no.2.1,N.at' k hk];rfl
 | .sure b,_=>by
  refine .of0 ?_
  cases b
  ·exact D0.one (z:="no") (by unfold Zdn; rw[if_neg (by decide),if_pos rfl]; rfl) (by decide) (by decide) (by decide)
  ·exact D0.one (z:="yes") (by unfold Zdn; rw[if_pos rfl]; rfl) (by decide) (by decide) (by decide)
 | .neg t,h=>.of0 (D0.not ((Zmz N t (by simpa [okT] using h)).br0 (Nat.le_refl 1)))
 | .wrap t,h=>.of0 (D0.br (Zmz N t (by simpa [okT] using h)).w)
 | .join v ts,h=>by
  simp only [okT,Bool.and_eq_true,decide_eq_true_iff]at h;have gl:=ZqG N ts h.2
  have ne:∀r,wdGL true ns r ts≠[]:=fun r=>by
   cases ts with
   | nil=>simp at h
   | cons _ _=>simp[wdGL]
  have jl:∀v,Zb3 v (fmTL π ts)=.join v (fmTL π ts):=fun v=>Zkf (by rw[Ztg]; omega)
  cases v with
  | a=>
   have p:=Pw.join (v:=.a) (ne 1) (gl.1);exact⟨(fun z:(1:Nat)=0=>nomatch z),fun _=>p.ae (jl .a),fun _=>(p.ae (jl .a)).eo rfl,((p.ae (jl .a)).eo rfl).w rfl⟩
  | e=>
   have p:=Pw.join (v:=.e) (ne 2) (gl.2.1);exact⟨(fun z:(2:Nat)=0=>nomatch z),(fun z:(2:Nat)≤1=>absurd z (by decide)),fun _=>p.eo (jl .e),(p.eo (jl .e)).w rfl⟩
  | o=>
   have p:=Pw.join (v:=.o) (ne 3) (gl.2.2);exact⟨(fun z:(3:Nat)=0=>nomatch z),(fun z:(3:Nat)≤1=>absurd z (by decide)),(fun z:(3:Nat)≤2=>absurd z (by decide)),p.w (jl .o)⟩
theorem ZqG {ns' ns:List Str} {π:Nat→Nat} {m:Nat} (N:NmsOk ns' ns π m):∀ts:List Tr,okTL m ts=true→Paired (fun tx f=>Pw ns' .a tx [f]) (wdGL true ns 1 ts) (fmTL π ts)∧Paired (fun tx f=>Pw ns' .e tx [f]) (wdGL true ns 2 ts) (fmTL π ts)∧Paired (fun tx f=>Pw ns' .o tx [f]) (wdGL true ns 3 ts) (fmTL π ts)
 | [],_=>⟨.nil,.nil,.nil⟩
 | t::ts,h=>by
  simp only [okTL,Bool.and_eq_true]at h;have g:=Zmz N t h.1;have r:=ZqG N ts h.2;exact⟨.cons (g.br0 (Nat.le_refl 1)).a r.1,.cons g.br1 r.2.1,.cons g.br2 r.2.2⟩
end
theorem ZwC {ns' ns:List Str} {π:Nat→Nat} {m:Nat} (N:NmsOk ns' ns π m) {t:Tr} (h:okT m t=true):Ze7 ns' (wdG true ns t)=some (fmT π t):=by
 obtain⟨L',h1,h2,h3⟩:=(Zmz N t h).w [];unfold Ze7;rw[h1];show(some L').bind endF=_;show endF L'=_;unfold endF;rw[if_neg (by rw[h2]; decide),h3]
mutual
def nT:Tr→Nat
 | .lamp _=>1
 | .sure _=>1
 | .neg t=>1+nT t
 | .wrap t=>1+nT t
 | .join _ ts=>1+nTL ts
def nTL:List Tr→Nat
 | []=>0
 | t::ts=>nT t+nTL ts
end
theorem ZBk {α:Type} {l:List α} (h:l≠[]):∃a x,l=a++[x]:=⟨l.dropLast,l.getLast h,(List.dropLast_concat_getLast h).symm⟩
theorem Zr7 (b:Bool) (ws:List Str):(brW b ws).length≤ws.length+2:=by
 unfold brW
 by_cases h:b=true
 ·rw[if_pos h,length_cons,length_append]; exact Nat.le_refl _
 ·rw[if_neg h]; omega
theorem ZvL (k:Str):∀txs:List (List Str),(jnW k txs).length≤(txs.map (·.length)).sum+(txs.length - 1)
 | []=>Nat.le_refl _
 | [p]=>by simp[jnW]
 | p::q::r=>by
  have:=ZvL k (q::r);show(p++k::jnW k (q::r)).length≤_;simp only [length_append,length_cons,map_cons,sum_cons]at *;omega
mutual
theorem ZtT (b:Bool) (ns:List Str):∀t:Tr,(wdG b ns t).length+3≤4 * nT t
 | .lamp k=>Nat.le_refl _
 | .sure c=>Nat.le_refl _
 | .neg t=>by
  have:=ZtT b ns t;have h2:=Zr7 (decide (1≤rkG b t)) (wdG b ns t);show(brW _ _).length+1+3≤4 * (1+nT t);omega
 | .wrap t=>by
  have:=ZtT b ns t;have h2:=Zr7 b (wdG b ns t);show(brW _ _).length+3≤4 * (1+nT t);omega
 | .join v ts=>by
  have h1:=ZvL (kw3 v) (wdGL b ns (Ze6 v) ts);have h2:=Zw5 b ns (Ze6 v) ts;show(jnW _ _).length+3≤4 * (1+nTL ts);omega
theorem Zw5 (b:Bool) (ns:List Str) (r:Nat):∀ts:List Tr,((wdGL b ns r ts).map (·.length)).sum+((wdGL b ns r ts).length - 1)≤4 * nTL ts∧((wdGL b ns r ts).map (·.length)).sum+(wdGL b ns r ts).length≤4 * nTL ts
 | []=>⟨Nat.zero_le _,Nat.zero_le _⟩
 | t::ts=>by
  have h0:=ZtT b ns t;have h1:=(Zw5 b ns r ts).2;have h2:=Zr7 (decide (r≤rkG b t)) (wdG b ns t)
  have e:((wdGL b ns r (t::ts)).map (·.length)).sum=(brW (decide (r≤rkG b t)) (wdG b ns t)).length+((wdGL b ns r ts).map (·.length)).sum:=by simp[wdGL]
  have e2:(wdGL b ns r (t::ts)).length=(wdGL b ns r ts).length+1:=by simp[wdGL]
  have e3:nTL (t::ts)=nT t+nTL ts:=by simp[nTL]
  rw[e,e2,e3];omega
end
def cl1 (z:Str):List Nat:=z.cps.toList
def Nc (ws:List (List Nat)):Prop:=ws≠[]∧ws.head?≠some [41]∧ws.getLast?≠some [40]
theorem ZiE:∀{a b:List (List Nat)},a≠[]→b≠[]→glue (a++b)=glue a++(if a.getLast?=some [40]∨b.head?=some [41] then [] else [32])++glue b
 | [],b,ha,_=>absurd rfl ha
 | [p],[],_,hb=>absurd rfl hb
 | [p],q::r,_,_=>by
  show p++(if p=[40]∨q=[41] then [] else [32])++glue (q::r)=p++_++glue (q::r);simp
 | p::q::r,b,_,hb=>by
  have ih:=ZiE (a:=q::r) (b:=b) (by simp) hb
  have e:(p::q::r).getLast?=(q::r).getLast?:=by simp[List.getLast?_cons]
  show p++(if p=[40]∨q=[41] then [] else [32])++glue (q::r++b)=(p++(if p=[40]∨q=[41] then [] else [32])++glue (q::r))++_++glue b;rw[ih,e];simp only [append_assoc]
theorem ZAa {ws:List (List Nat)} (h:Nc ws):glue ([40]::(ws++[[41]]))=[40]++glue ws++[41]:=by
 have a:glue (ws++[[41]])=glue ws++[41]:=by
  rw[ZiE h.1 (by simp),if_pos (.inr rfl),append_nil];rfl
 have b:=ZiE (a:=[[40]]) (b:=ws++[[41]]) (by simp) (by simp);rw[if_pos (.inl rfl),append_nil,a]at b;exact b.trans (append_assoc ..).symm
theorem ZxF {a b:List (List Nat)} {k:List Nat} (ha:Nc a) (hb:Nc b) (k1:k≠[40]) (k2:k≠[41]):glue (a++k::b)=glue a++([32]++k++[32])++glue b:=by
 have e2:=ZiE (a:=[k]) (b:=b) (by simp) hb.1;rw[if_neg (by rintro(h | h); exact k1 (by simpa using h); exact hb.2.1 h)]at e2;rw[ZiE ha.1 (by simp),if_neg (by rintro(h | h); exact ha.2.2 h; exact k2 (by simpa using h))];have:glue (k::b)=k++[32]++glue b:=e2;rw[this];simp only [append_assoc]
theorem ZxG {b:List (List Nat)} {k:List Nat} (hb:Nc b) (k1:k≠[40]):glue (k::b)=k++[32]++glue b:=by
 have e2:=ZiE (a:=[k]) (b:=b) (by simp) hb.1;rw[if_neg (by rintro(h | h); exact k1 (by simpa using h); exact hb.2.1 h)]at e2;exact e2
theorem ZxI:∀{a b:List (List Nat)},a≠[]→(a++b).head?=a.head?
 | [],_,h=>absurd rfl h
 | _::_,_,_=>rfl
theorem Zpz:∀{a b:List (List Nat)},b≠[]→(a++b).getLast?=b.getLast?
 | [],_,_=>rfl
 | x::a,b,h=>by
  have:=Zpz (a:=a) h;rw[cons_append,getLast?_cons_of_ne_nil (by simp[h]),this]
theorem Nc.mid {a b:List (List Nat)} {k:List Nat} (ha:Nc a) (hb:Nc b):Nc (a++k::b):=by
 refine⟨by simp,?_,?_⟩
 ·rw[ZxI ha.1]; exact ha.2.1
 ·rw[Zpz (by simp),getLast?_cons_of_ne_nil hb.1]; exact hb.2.2
theorem Nc.pre {b:List (List Nat)} {k:List Nat} (hb:Nc b) (k2:k≠[41]):Nc (k::b):=by
 refine⟨by simp,?_,?_⟩
 ·simpa using k2
 ·rw[getLast?_cons_of_ne_nil hb.1]; exact hb.2.2
theorem Nc.one {k:List Nat} (k1:k≠[40]) (k2:k≠[41]):Nc [k]:=⟨by simp,by simpa using k2,by simpa using k1⟩
theorem Nc.br (ws:List (List Nat)):Nc ([40]::(ws++[[41]])):=by
 refine⟨by simp,by simp,?_⟩;rw[getLast?_cons_of_ne_nil (by simp),Zpz (by simp)];simp
theorem ZtG (π:Nat→Nat):∀t:Tr,Zj5 (fmT π t)=rkG false t
 | .lamp _=>rfl
 | .sure _=>rfl
 | .neg _=>rfl
 | .wrap t=>ZtG π t
 | .join _ _=>rfl
theorem Zxv (b:Bool) (ws:List Str):(brW b ws).map cl1=if b=true then [40]::(ws.map cl1++[[41]]) else ws.map cl1:=by
 unfold brW
 by_cases h:b=true
 ·rw[if_pos h,if_pos h,map_cons,map_append]; rfl
 ·rw[if_neg h,if_neg h]
theorem Zxw (b:Bool) (z:Str):cl1 (brk b z)=if b=true then [40]++cl1 z++[41] else cl1 z:=by
 unfold brk
 by_cases h:b=true
 ·rw[if_pos h,if_pos h]
  show((Str.empty++"(")++z++")" : Str).cps.toList=_;rw[list_append,list_append,list_append];rfl
 ·rw[if_neg h,if_neg h]
theorem Ztm (v:W3):∀txs:List (List Str),txs≠[]→(∀p∈txs,Nc (p.map cl1))→Nc ((jnW (kw3 v) txs).map cl1)∧glue ((jnW (kw3 v) txs).map cl1)=jn (cl1 (ZnO v)) (txs.map fun p=>glue (p.map cl1))
 | [],h,_=>absurd rfl h
 | [p],_,h=>⟨h p mem_cons_self,rfl⟩
 | p::q::r,_,h=>by
  obtain⟨n1,e1⟩:=Ztm v (q::r) (by simp) fun x hx=>h x (mem_cons_of_mem _ hx);have n0:=h p mem_cons_self
  have em:(jnW (kw3 v) (p::q::r)).map cl1=p.map cl1++cl1 (kw3 v)::(jnW (kw3 v) (q::r)).map cl1:=by
   show(p++kw3 v::jnW (kw3 v) (q::r)).map cl1=_;rw[map_append,map_cons]
  rw[em];refine⟨n0.mid n1,?_⟩;rw[ZxF n0 n1 (by cases v <;> decide) (by cases v <;> decide),e1]
  have ew:cl1 (ZnO v)=[32]++cl1 (kw3 v)++[32]:=by cases v <;> decide
  rw[←ew];rfl
def NmL (z:Str):Prop:=z.cps.toList≠[]∧∀c∈z.cps.toList,97≤c∧c≤122
theorem NmL.no {z:Str} (h:NmL z):cl1 z≠[40]∧cl1 z≠[41]:=⟨fun e=>by have:=h.2 40 (by show 40∈cl1 z; rw[e]; simp); omega,fun e=>by have:=h.2 41 (by show 41∈cl1 z; rw[e]; simp); omega⟩
theorem Zu5 {ns' ns:List Str} {π:Nat→Nat} {t:Tr} (r:Nat) (g:Nc ((wdG false ns t).map cl1)∧cl1 (ZbC ns' (fmT π t))=glue ((wdG false ns t).map cl1)):Nc ((brW (decide (r≤rkG false t)) (wdG false ns t)).map cl1)∧cl1 (Zon ns' r (fmT π t))=glue ((brW (decide (r≤rkG false t)) (wdG false ns t)).map cl1):=by
 unfold Zon;rw[Zxv,Zxw,ZtG]
 by_cases h:decide (r≤rkG false t)=true
 ·rw[if_pos h,if_pos h,g.2]
  exact⟨Nc.br _,(ZAa g.1).symm⟩
 ·rw[if_neg h,if_neg h]
  exact g
mutual
theorem ZiN {ns' ns:List Str} {π:Nat→Nat} {m:Nat} (hπ:∀k,k < m→ns'.getD (π k) Str.empty=ns.getD k Str.empty) (hN:∀k,k < m→NmL (ns.getD k Str.empty)):∀t:Tr,okT m t=true→Nc ((wdG false ns t).map cl1)∧cl1 (ZbC ns' (fmT π t))=glue ((wdG false ns t).map cl1)
 | .lamp k,h=>by
  have hk:k < m:=by simpa [okT] using h
  refine⟨Nc.one (hN k hk).no.1 (hN k hk).no.2,?_⟩;show cl1 (ns'.getD (π k) Str.empty)=cl1 (ns.getD k Str.empty);rw[hπ k hk]
 | .sure c,_=>by
  refine⟨?_,rfl⟩
  cases c
  ·exact Nc.one (by decide) (by decide)
  ·exact Nc.one (by decide) (by decide)
 | .neg t,h=>by
  have g:=Zu5 1 (ZiN hπ hN t (by simpa [okT] using h));have e:(wdG false ns (.neg t)).map cl1=cl1 "not"::(brW (decide (1≤rkG false t)) (wdG false ns t)).map cl1:=rfl;rw[e];refine⟨g.1.pre (by decide),?_⟩;rw[ZxG g.1 (by decide),←g.2];show((Str.empty++"not "++Zon ns' 1 (fmT π t)):Str).cps.toList=_;rw[list_append,list_append];rfl
 | .wrap t,h=>by
  have g:=ZiN hπ hN t (by simpa [okT] using h);exact g
 | .join v ts,h=>by
  simp only [okT,Bool.and_eq_true,decide_eq_true_iff]at h;obtain⟨a,b⟩:=ZnI hπ hN (Ze6 v) ts h.2
  have ne:wdGL false ns (Ze6 v) ts≠[]:=by
   cases ts with
   | nil=>exact absurd h.1 (by decide)
   | cons x r=>simp[wdGL]
  obtain⟨n,e⟩:=Ztm v (wdGL false ns (Ze6 v) ts) ne a;refine⟨n,?_⟩;show cl1 (ZbC ns' (.join v (fmTL π ts)))=glue ((jnW (kw3 v) (wdGL false ns (Ze6 v) ts)).map cl1);rw[e,ZoW,←ZkK];show(Builtin.Str.glued _ _).cps.toList=_;rw[StrLaws.glued_eq_join,Zfr];exact congrArg _ b
theorem ZnI {ns' ns:List Str} {π:Nat→Nat} {m:Nat} (hπ:∀k,k < m→ns'.getD (π k) Str.empty=ns.getD k Str.empty) (hN:∀k,k < m→NmL (ns.getD k Str.empty)) (r:Nat):∀ts:List Tr,okTL m ts=true→(∀p∈wdGL false ns r ts,Nc (p.map cl1))∧(ZbW ns' r (fmTL π ts)).map (fun p=>p.cps.toList)=(wdGL false ns r ts).map fun p=>glue (p.map cl1)
 | [],_=>⟨fun p hp=>(by simp[wdGL]at hp),by simp[ZbW,fmTL,wdGL]⟩
 | t::ts,h=>by
  simp only [okTL,Bool.and_eq_true]at h;have g:=Zu5 r (ZiN hπ hN t h.1);obtain⟨a,b⟩:=ZnI hπ hN r ts h.2
  have e:wdGL false ns r (t::ts)=brW (decide (r≤rkG false t)) (wdG false ns t)::wdGL false ns r ts:=by simp[wdGL]
  have e2:ZbW ns' r (fmTL π (t::ts))=Zon ns' r (fmT π t)::ZbW ns' r (fmTL π ts):=by simp[ZbW,fmTL,Zon]
  rw[e,e2];refine⟨fun p hp=>?_,?_⟩
  ·rcases mem_cons.mp hp with rfl | hp
   ·exact g.1
   ·exact a p hp
  ·rw[map_cons,map_cons,b,←g.2]
   rfl
end
theorem ZnK {x y:Str} (h:cl1 x=cl1 y):x=y:=by
 cases x; cases y
 exact congrArg Str.mk (Array.toList_inj.mp h)
def kwsX:List Str:=["yes","no","not","(",")","and","either","or"]
theorem Zr6 {Pz:Str→Prop} (hk:∀z∈kwsX,Pz z) {b:Bool} {ws:List Str} (h:∀z∈ws,Pz z):∀z∈brW b ws,Pz z:=by
 intro z hz;unfold brW at hz
 by_cases e:b=true
 ·rw[if_pos e]at hz
  rcases mem_cons.mp hz with rfl | hz
  ·exact hk _ (by decide)
  ·rcases mem_append.mp hz with hz | hz
   ·exact h z hz
   ·rw[mem_singleton.mp hz]; exact hk _ (by decide)
 ·rw[if_neg e]at hz; exact h z hz
theorem ZvK {Pz:Str→Prop} {k:Str} (hk:Pz k):∀{txs:List (List Str)},(∀p∈txs,∀z∈p,Pz z)→∀z∈jnW k txs,Pz z
 | [],_,z,hz=>absurd hz (by simp[jnW])
 | [p],h,z,hz=>h p mem_cons_self z hz
 | p::q::r,h,z,hz=>by
  have hz:z∈p++k::jnW k (q::r):=hz
  rcases mem_append.mp hz with hz | hz
  ·exact h p mem_cons_self z hz
  ·rcases mem_cons.mp hz with rfl | hz
   ·exact hk
   ·exact ZvK hk (txs:=q::r) (fun x hx=>h x (mem_cons_of_mem _ hx)) z hz
mutual
theorem Zo0 {Pz:Str→Prop} (hk:∀z∈kwsX,Pz z) {b:Bool} {ns:List Str} {m:Nat} (hn:∀k,k < m→Pz (ns.getD k Str.empty)):∀t:Tr,okT m t=true→∀z∈wdG b ns t,Pz z
 | .lamp k,h,z,hz=>by
  have hz:z∈[ns.getD k Str.empty]:=hz;rw[mem_singleton.mp hz];exact hn k (by simpa [okT] using h)
 | .sure c,h,z,hz=>by
  have hz:z∈[(if c=true then "yes" else "no" : Str)]:=hz;rw[mem_singleton.mp hz]
  cases c
  ·exact hk "no" (by decide)
  ·exact hk "yes" (by decide)
 | .neg t,h,z,hz=>by
  have hz:z∈("not" : Str)::brW (decide (1≤rkG b t)) (wdG b ns t):=hz
  rcases mem_cons.mp hz with rfl | hz
  ·exact hk _ (by decide)
  ·exact Zr6 hk (Zo0 hk hn t (by simpa [okT] using h)) z hz
 | .wrap t,h,z,hz=>Zr6 hk (Zo0 hk hn t (by simpa [okT] using h)) z hz
 | .join v ts,h,z,hz=>by
  simp only [okT,Bool.and_eq_true,decide_eq_true_iff]at h;exact ZvK (hk _ (by cases v <;> decide)) (Zw4 hk hn (Ze6 v) ts h.2) z hz
theorem Zw4 {Pz:Str→Prop} (hk:∀z∈kwsX,Pz z) {b:Bool} {ns:List Str} {m:Nat} (hn:∀k,k < m→Pz (ns.getD k Str.empty)) (r:Nat):∀ts:List Tr,okTL m ts=true→∀p∈wdGL b ns r ts,∀z∈p,Pz z
 | [],_,p,hp=>absurd hp (by simp[wdGL])
 | t::ts,h,p,hp=>by
  simp only [okTL,Bool.and_eq_true]at h
  have e:wdGL b ns r (t::ts)=brW (decide (r≤rkG b t)) (wdG b ns t)::wdGL b ns r ts:=by simp[wdGL]
  rw[e]at hp
  rcases mem_cons.mp hp with rfl | hp
  ·exact Zr6 hk (Zo0 hk hn t h.1)
  ·exact Zw4 hk hn r ts h.2 p hp
end
def WdS (z:Str):Prop:=Wd (cl1 z)∧z.length≤8
theorem Wd.let {z:Str} (h:NmL z):Wd (cl1 z):=.inr (.inr h)
theorem ZvT:∀z∈kwsX,WdS z:=by
 intro z hz;unfold kwsX at hz;simp only [mem_cons,not_mem_nil,or_false]at hz
 rcases hz with rfl | rfl | rfl | rfl | rfl | rfl | rfl | rfl
 ·exact⟨.inr (.inr ⟨by decide,by decide⟩),by decide⟩
 ·exact⟨.inr (.inr ⟨by decide,by decide⟩),by decide⟩
 ·exact⟨.inr (.inr ⟨by decide,by decide⟩),by decide⟩
 ·exact⟨.inl rfl,by decide⟩
 ·exact⟨.inr (.inl rfl),by decide⟩
 ·exact⟨.inr (.inr ⟨by decide,by decide⟩),by decide⟩
 ·exact⟨.inr (.inr ⟨by decide,by decide⟩),by decide⟩
 ·exact⟨.inr (.inr ⟨by decide,by decide⟩),by decide⟩
theorem ZsX {c d:Nat} {z:List Nat} (hz:z.length≤2):∀l:List Nat,(rp2 c d z l).length≤l.length
 | []=>Nat.le_refl _
 | [a]=>Nat.le_refl _
 | a::b::r=>by
  have i1:=ZsX (c:=c) (d:=d) hz r;have i2:=ZsX (c:=c) (d:=d) hz (b::r);show(if a=c∧b=d then z++rp2 c d z r else a::rp2 c d z (b::r)).length≤_
  by_cases h:a=c∧b=d
  ·rw[if_pos h,length_append]; simp only [length_cons]; omega
  ·rw[if_neg h]; simp only [length_cons]at *; omega
theorem ZzK {B:Nat}:∀{zs:List Str},(∀z∈zs,z.length≤B)→(zs.map (·.length)).sum≤B * zs.length
 | [],_=>Nat.zero_le _
 | z::zs,h=>by
  have a:=h z mem_cons_self;have b:=ZzK (zs:=zs) fun x hx=>h x (mem_cons_of_mem _ hx);rw[map_cons,sum_cons,length_cons,Nat.mul_succ];omega
def Ww1 (l:List Nat):List (List Nat):=wl (padL l) []
theorem ZyO {x:Str} (h:∀d∈x.cps.toList,al d=true):(Txt.words (pad x)).map cl1=Ww1 x.cps.toList:=by
 have:=Zs5 (pad x) fun c hc=>Zxu c (ZD7 (ZzB h c hc)) (ZzB h c hc);rw[ZtC]at this;exact this
theorem Zxn (r:List Nat):Ww1 (32::r)=Ww1 r:=rfl
theorem ZmG:∀(g:Nat) (r:List Nat),Ww1 (List.replicate g 32++r)=Ww1 r
 | 0,r=>rfl
 | g+1,r=>by
  rw[List.replicate_succ,cons_append,Zxn];exact ZmG g r
theorem ZrT {c:Nat} (h:isM c=true) (r:List Nat):Ww1 (c::r)=[c]::Ww1 r:=by
 have hc:c≠32:=fun e=>by subst e; exact absurd h (by decide)
 unfold Ww1
 have e:padL (c::r)=32::c::32::padL r:=by
  show(if isM c=true then [32,c,32] else [c])++padL r=_;rw[if_pos h]; rfl
 rw[e];show(if c=32 then _ else wl (32::padL r) ([]++[c]))=_;rw[if_neg hc];rfl
theorem Zw6:∀(p rest cur:List Nat),32∉p→wl (p++rest) cur=wl rest (cur++p)
 | [],rest,cur,_=>by rw[append_nil]; rfl
 | d::p,rest,cur,h=>by
  have h1 : ¬d=32:=fun e=>h (by rw[e]; exact mem_cons_self);have h2:32∉p:=fun e=>h (mem_cons_of_mem _ e);show(if d=32 then _ else wl (p++rest) (cur++[d]))=_;rw[if_neg h1,Zw6 p rest _ h2,append_assoc];rfl
def opn (r:List Nat):Prop:=r=[]∨∃c r',r=c::r'∧(c=32∨isM c=true)
theorem Zrn:∀{p:List Nat},(∀c∈p,97≤c∧c≤122)→padL p=p
 | [],_=>rfl
 | c::p,h=>by
  have hc:=h c mem_cons_self
  have e:isM c=false:=by
   unfold isM;simp only [Bool.or_eq_false_iff,beq_eq_false_iff_ne];omega
  show(if isM c=true then [32,c,32] else [c])++padL p=c::p;rw[if_neg (by rw[e]; decide),Zrn fun d hd=>h d (mem_cons_of_mem _ hd)];rfl
theorem ZzV {p:List Nat} (hp:p≠[]) (h:∀c∈p,97≤c∧c≤122) {r:List Nat} (hr:opn r):Ww1 (p++r)=p::Ww1 r:=by
 unfold Ww1;rw[ZtA,Zrn h,Zw6 _ _ _ (fun e=>by have:=h 32 e; omega),nil_append]
 have k:∀rest,wl (32::rest) p=p::wl rest []:=fun rest=>by
  show(if (32:Nat)=32 then(if p=[] then _ else p::wl rest []) else _)=_;rw[if_pos rfl,if_neg hp]
 rcases hr with rfl | ⟨c,r',rfl,hc⟩
 ·show(if p=[] then [] else [p])=_
  rw[if_neg hp];rfl
 ·by_cases hm:isM c=true
  ·have e:padL (c::r')=32::c::32::padL r':=by
    show(if isM c=true then [32,c,32] else [c])++padL r'=_;rw[if_pos hm]; rfl
   rw[e,k];rfl
  ·have e2:c=32:=hc.resolve_right hm
   subst e2;have e:padL (32::r')=32::padL r':=rfl;rw[e,k];rfl
theorem But.trans {l:Addr} {H H' H'':Hp} (a:But l H H') (b:But l H' H''):But l H H'':=fun c o h e=>b c o h (a c o h e)
section
variable {P:Program} {w:World} {K:W.Frag} {mg:Str→Option Value} {base:Heap} {t:Ad} {n:Nat}
def Zuu (g tp:Addr):List (Str×V):=putF "changes" (.ref tp) (putF "guard" (.ref g) [])
theorem Zup (g tp:Addr):(Zuu g tp).lookup ("changes" : Str)=some (.ref tp):=by
 unfold Zuu;rw[ZaT,if_pos rfl]
theorem ZxY (g tp:Addr):(Zuu g tp).lookup ("guard" : Str)=some (.ref g):=by
 unfold Zuu;rw[ZaT,if_neg (by decide),ZaT,if_pos rfl]
def ZwN (C:Addr):Sp:=fun vs H Q _=>∃(p dx g l:Addr) (ys:List V),vs=[.ref p,.ref g,.ref l]∧H p=some (.ins C dx [])∧H l=some (.lst ys)∧∀tp H',(∀b o,b≠p→H b=some o→H' b=some o)→H' tp=some (.tup ys)→H' p=some (.ins C dx (Zuu g tp))→Q .non H'
theorem Zkj (f:Str) (v:V):∀fs:List (Str×V),(putF f v fs).length≤fs.length+1
 | []=>Nat.le_refl _
 | (g,x)::r=>by
  unfold putF
  by_cases h:g=f
  ·rw[if_pos h]; exact Nat.le_succ _
  ·rw[if_neg h]; exact Nat.succ_le_succ (Zkj f v r)
theorem ZAO (T:Txt K mg t):MkS P w K mg base 2 "Move" t.Zcu ["self","guard","changes"] (ZwN t.Zcu):=by
 refine⟨T.Zzw,_,_,T.Zzr,T.Zfm.ok Zrs (fun vs H Q E h=>?_) (fun cdv A outer s H vs Q E hr h=>?_),T.ZmK⟩
 ·obtain⟨p,dx,g,l,ys,rfl,_⟩:=h
  rfl
 obtain⟨p,dx,g,l,ys,rfl,hp,hl,q⟩:=h;have z1:=Zkj "guard" (.ref g) [];rw[length_nil]at z1
 have hlp:l≠p:=fun e=>by rw[e,hp]at hl; cases hl
 refine⟨_,(Zac (Zc7 (pv 0) (pv 1) rfl)
   (Zae (Zc7 (pv 0) (ZcH Zea rfl T.B.tuple Ziw (Zaa (pv 2) Zab)) rfl))),?_⟩
 walk_at "rd0";refine⟨p,_,_,_,rfl,hp,T.Zqy,T.ZeG,by decide,?_⟩;walk_at "";refine ZoH (ys:=ys) (by rw[ZaW hlp]; exact hl) fun tp htp=>?_
 have hpt:tp≠p:=fun e=>by rw[e,ZaH]at htp; cases htp
 walk_at "";refine⟨p,_,_,_,rfl,by rw[ZaW (Ne.symm hpt)]; exact ZaH,T.Zqy,T.Zc6,by omega,?_⟩;refine q tp _ (fun b o hb e=>?_) (by rw[ZaW hpt]; exact ZaH) ZaH
 have hb':b≠tp:=fun z=>by rw[←z,ZaW hb,e]at htp; cases htp
 rw[ZaW hb,ZaW hb',ZaW hb];exact e
def macF (n s b v:Addr):List (Str×V):=putF "moves" (.ref v) (putF "bads" (.ref b) (putF "starts" (.ref s) (putF "names" (.ref n) [])))
theorem ZxZ (n s b v:Addr):(macF n s b v).lookup ("moves" : Str)=some (.ref v):=by
 unfold macF;rw[ZaT,if_pos rfl]
theorem ZAF (n s b v:Addr):(macF n s b v).lookup ("bads" : Str)=some (.ref b):=by
 unfold macF;rw[ZaT,if_neg (by decide),ZaT,if_pos rfl]
theorem ZvY (n s b v:Addr):(macF n s b v).lookup ("starts" : Str)=some (.ref s):=by
 unfold macF;rw[ZaT,if_neg (by decide),ZaT,if_neg (by decide),ZaT,if_pos rfl]
theorem Zx0 (n s b v:Addr):(macF n s b v).lookup ("names" : Str)=some (.ref n):=by
 unfold macF;rw[ZaT,if_neg (by decide),ZaT,if_neg (by decide),ZaT,if_neg (by decide),ZaT,if_pos rfl]
def Zry (C:Addr):Sp:=fun vs H Q _=>∃(p dx ln ls lb lv:Addr) (xn xs xb xv:List V),vs=[.ref p,.ref ln,.ref ls,.ref lb,.ref lv]∧H p=some (.ins C dx [])∧H ln=some (.lst xn)∧H ls=some (.lst xs)∧H lb=some (.lst xb)∧H lv=some (.lst xv)∧
 ∀n s b v H',But p H H'→H' n=some (.tup xn)→H' s=some (.tup xs)→H' b=some (.tup xb)→H' v=some (.tup xv)→H' p=some (.ins C dx (macF n s b v))→Q .non H'
theorem ZmD {H:Hp} {p tp:Addr} {o o':HO} {ys:List V} (h:H p=some o) (n:H tp=none):But p H (upd (upd H tp (.tup ys)) p o')∧(upd (upd H tp (.tup ys)) p o') p=some o'∧(upd (upd H tp (.tup ys)) p o') tp=some (.tup ys):=by
 have ne:tp≠p:=fun e=>by rw[e,h]at n; cases n
 exact⟨fun b u hb e=>by rw[ZaW hb,ZaW (Zaf e n)]; exact e,ZaH,by rw[ZaW ne]; exact ZaH⟩
theorem Zuw (T:Txt K mg t):MkS P w K mg base 2 "Machine" t.Zav ["self","names","starts","bads","moves"] (Zry t.Zav):=by
 refine⟨T.Zq7,_,_,T.ZqS,T.Zc2.ok ZnF (fun vs H Q E h=>?_) (fun cdv A outer s H vs Q E hr h=>?_),T.Zi1⟩
 ·obtain⟨p,dx,ln,ls,lb,lv,xn,xs,xb,xv,rfl,_⟩:=h
  rfl
 obtain⟨p,dx,ln,ls,lb,lv,xn,xs,xb,xv,rfl,hp,hn,hs,hb,hv,q⟩:=h;have z1:=fun v:V=>Zkj "names" v [];have z2:=fun(v:V) fs=>Zkj "starts" v fs;have z3:=fun(v:V) fs=>Zkj "bads" v fs
 have nn:ln≠p:=fun e=>by rw[e,hp]at hn; cases hn
 have ns:ls≠p:=fun e=>by rw[e,hp]at hs; cases hs
 have nb:lb≠p:=fun e=>by rw[e,hp]at hb; cases hb
 have nv:lv≠p:=fun e=>by rw[e,hp]at hv; cases hv
 refine⟨_,(Zac (Zc7 (pv 0) (ZcH Zea rfl T.B.tuple Ziw (Zaa (pv 1) Zab)) rfl)
   (Zac (Zc7 (pv 0) (ZcH Zea rfl T.B.tuple Ziw (Zaa (pv 2) Zab)) rfl)
   (Zac (Zc7 (pv 0) (ZcH Zea rfl T.B.tuple Ziw (Zaa (pv 3) Zab)) rfl)
   (Zae (Zc7 (pv 0) (ZcH Zea rfl T.B.tuple Ziw (Zaa (pv 4) Zab)) rfl))))),?_⟩
 walk_at "rd0";refine ZoH hn fun t1 n1=>?_;walk_at "";refine⟨p,_,_,_,rfl,by rw[ZaW (Zaf hp n1)]; exact hp,T.ZdL,T.ZcG,by decide,?_⟩;obtain⟨b1,p1,e1⟩:=ZmD (o':=.ins t.Zav dx (putF "names" (.ref t1) [])) (ys:=xn) hp n1;generalize upd (upd H t1 (.tup xn)) p (.ins t.Zav dx (putF "names" (.ref t1) []))=H1 at b1 p1 e1 ⊢;walk_at "";refine ZoH (b1 _ _ ns hs) fun t2 n2=>?_;walk_at "";refine⟨p,_,_,_,rfl,by rw[ZaW (Zaf p1 n2)]; exact p1,T.ZdL,T.Zch,by have:=z1 (.ref t1); rw[length_nil]at this; omega,?_⟩;obtain⟨b2,p2,e2⟩:=ZmD (o':=.ins t.Zav dx (putF "starts" (.ref t2) (putF "names" (.ref t1) []))) (ys:=xs) p1 n2;generalize upd (upd H1 t2 (.tup xs)) p (.ins t.Zav dx (putF "starts" (.ref t2) (putF "names" (.ref t1) [])))=H2 at b2 p2 e2 ⊢;walk_at "";refine ZoH (b2 _ _ nb (b1 _ _ nb hb)) fun t3 n3=>?_;walk_at "";refine⟨p,_,_,_,rfl,by rw[ZaW (Zaf p2 n3)]; exact p2,T.ZdL,T.Zc5,by have:=z1 (.ref t1); have:=z2 (.ref t2) (putF "names" (.ref t1) []); rw[length_nil]at *; omega,?_⟩;obtain⟨b3,p3,e3⟩:=ZmD (o':=.ins t.Zav dx (putF "bads" (.ref t3) (putF "starts" (.ref t2) (putF "names" (.ref t1) [])))) (ys:=xb) p2 n3;generalize upd (upd H2 t3 (.tup xb)) p (.ins t.Zav dx (putF "bads" (.ref t3) (putF "starts" (.ref t2) (putF "names" (.ref t1) []))))=H3 at b3 p3 e3 ⊢;walk_at "";refine ZoH (b3 _ _ nv (b2 _ _ nv (b1 _ _ nv hv))) fun t4 n4=>?_;walk_at "";refine⟨p,_,_,_,rfl,by rw[ZaW (Zaf p3 n4)]; exact p3,T.ZdL,T.ZcF,by have:=z1 (.ref t1); have:=z2 (.ref t2) (putF "names" (.ref t1) []); have:=z3 (.ref t3) (putF "starts" (.ref t2) (putF "names" (.ref t1) [])); rw[length_nil]at *; omega,?_⟩;obtain⟨b4,p4,e4⟩:=ZmD (o':=.ins t.Zav dx (macF t1 t2 t3 t4)) (ys:=xv) p3 n4;have n1p:t1≠p:=ZdI e1 p1 (fun z=>nomatch z);have n2p:t2≠p:=ZdI e2 p2 (fun z=>nomatch z);have n3p:t3≠p:=ZdI e3 p3 (fun z=>nomatch z);exact q t1 t2 t3 t4 _ (But.trans (But.trans (But.trans b1 b2) b3) b4) (b4 _ _ n1p (b3 _ _ n1p (b2 _ _ n1p e1))) (b4 _ _ n2p (b3 _ _ n2p e2)) (b4 _ _ n3p e3) e4 p4
def ChW (t:Ad) (H:Hp) (p:Addr) (c:Nat×Fm):Prop:=∃b,H p=some (.tup [.int (c.1:Int),.ref b])∧FmE t H b c.2
def MvW (t:Ad) (H:Hp) (x:Addr) (v:Fm×List (Nat×Fm)):Prop:=∃dx g tp hs,H x=some (.ins t.Zcu dx (Zuu g tp))∧H tp=some (.tup (hs.map V.ref))∧FmE t H g v.1∧Paired (ChW t H) hs v.2
def MacW (t:Ad) (H:Hp) (x:Addr) (ns:List Str) (ss bs:List Fm) (vs:List (Fm×List (Nat×Fm))):Prop:=
 ∃dx n s b v ps pb pv,H x=some (.ins t.Zav dx (macF n s b v))∧H n=some (.tup (ns.map V.str))∧H s=some (.tup (ps.map V.ref))∧H b=some (.tup (pb.map V.ref))∧H v=some (.tup (pv.map V.ref))∧Paired (FmE t H) ps ss∧Paired (FmE t H) pb bs∧Paired (MvW t H) pv vs
theorem FmE.ext {H H':Hp} (s:Ext H H') {p:Addr} {f:Fm} (h:FmE t H p f):FmE t H' p f:=let ⟨n,h⟩:=h; ⟨n,h.mono s⟩
theorem ChW.ext {H H':Hp} (s:Ext H H') {p:Addr} {c:Nat×Fm} (h:ChW t H p c):ChW t H' p c:=by
 obtain⟨b,e,f⟩:=h;exact⟨b,s _ _ e (fun _ z=>nomatch z),f.ext s⟩
theorem MvW.ext {H H':Hp} (s:Ext H H') {x:Addr} {v:Fm×List (Nat×Fm)} (h:MvW t H x v):MvW t H' x v:=by
 obtain⟨dx,g,tp,hs,e1,e2,f,p⟩:=h;exact⟨dx,g,tp,hs,s _ _ e1 (fun _ z=>nomatch z),s _ _ e2 (fun _ z=>nomatch z),f.ext s,Zan (fun _ _ q=>q.ext s) p⟩
theorem ZAn {l g:Addr} {hs:List Addr} {v:Fm×List (Nat×Fm)} {H:Hp} {Q:VK} (hl:H l=some (.lst (hs.map V.ref))) (hf:FmE t H g v.1) (hc:Paired (ChW t H) hs v.2) (h:∀(x:Addr) (H':Hp),Same H H'→H x=none→MvW t H' x v→Q (.ref x) H') :
  MkG t.Zcu (ZwN t.Zcu) [.ref g,.ref l] H Q:=by
 intro x dx hx hdx ne;have s2:=Zii hx hdx (.ins t.Zcu dx []) (.own x);refine⟨x,dx,g,l,_,rfl,ZaH,s2 _ _ hl,fun tp H' s3 h1 h2=>⟨rfl,?_⟩⟩;have s4:Same H H':=fun b o e=>s3 b o (Zaf e hx) (s2 b o e);exact h x H' s4 hx ⟨dx,g,tp,hs,h2,h1,hf.ext (Ext.of s4),Zan (fun _ _ q=>q.ext (Ext.of s4)) hc⟩
theorem Zuf {ln ls lb lv:Addr} {ns:List Str} {ss bs:List Fm} {ps pb pv:List Addr} {vs:List (Fm×List (Nat×Fm))} {H:Hp} {Q:VK} (hn:H ln=some (.lst (ns.map V.str))) (hs:H ls=some (.lst (ps.map V.ref))) (hb:H lb=some (.lst (pb.map V.ref))) (hv:H lv=some (.lst (pv.map V.ref)))
  (fs:Paired (FmE t H) ps ss) (fb:Paired (FmE t H) pb bs) (fv:Paired (MvW t H) pv vs)
  (h:∀(x:Addr) (H':Hp),Same H H'→H x=none→MacW t H' x ns ss bs vs→Q (.ref x) H') :
  MkG t.Zav (Zry t.Zav) [.ref ln,.ref ls,.ref lb,.ref lv] H Q:=by
 intro x dx hx hdx ne;have s2:=Zii hx hdx (.ins t.Zav dx []) (.own x);refine⟨x,dx,ln,ls,lb,lv,_,_,_,_,rfl,ZaH,s2 _ _ hn,s2 _ _ hs,s2 _ _ hb,s2 _ _ hv,fun n s b v H' s3 h1 h2 h3 h4 h5=>⟨rfl,?_⟩⟩;have s4:Same H H':=fun b o e=>s3 b o (Zaf e hx) (s2 b o e);exact h x H' s4 hx ⟨dx,n,s,b,v,ps,pb,pv,h5,h1,h2,h3,h4,Zan (fun _ _ q=>q.ext (Ext.of s4)) fs,Zan (fun _ _ q=>q.ext (Ext.of s4)) fb,Zan (fun _ _ q=>q.ext (Ext.of s4)) fv⟩
end
def ZdW (pcs:List (List Str)) (z:Str):List (List Str):=if z = "," then pcs++[[]] else pcs.dropLast++[(pcs.getLast?.getD [])++[z]]
def Zb2 (ws:List Str):List (List Str):=ws.foldl ZdW [[]]
theorem ZtN (pcs:List (List Str)) (z:Str):ZdW pcs z≠[]:=by
 unfold ZdW
 split <;> simp
theorem ZkC (ws:List Str):Zb2 ws≠[]:=by
 unfold Zb2
 have:∀(ws:List Str) (pcs:List (List Str)),pcs≠[]→ws.foldl ZdW pcs≠[]:=by
  intro ws
  induction ws with
  | nil=>intro pcs h; exact h
  | cons z r ih=>intro pcs _; exact ih _ (ZtN pcs z)
 exact this ws [[]] (by simp)
theorem ZuB (ws:List Str) (z:Str):Zb2 (ws++[z])=ZdW (Zb2 ws) z:=by
 unfold Zb2;rw[List.foldl_append];rfl
theorem Zm0:∀(p:List Str) (pcs:List (List Str)) (cur:List Str),("," : Str)∉p→p.foldl ZdW (pcs++[cur])=pcs++[cur++p]
 | [],pcs,cur,_=>by simp
 | z::p,pcs,cur,h=>by
  have hz : ¬z = ",":=fun e=>h (by rw[e]; simp);have hp:("," : Str)∉p:=fun e=>h (mem_cons_of_mem _ e);show p.foldl ZdW (ZdW (pcs++[cur]) z)=_
  have e:ZdW (pcs++[cur]) z=pcs++[cur++[z]]:=by
   unfold ZdW;rw[if_neg hz];simp
  rw[e,Zm0 p pcs (cur++[z]) hp];simp
theorem ZoF:∀(ps:List (List Str)) (pcs:List (List Str)),ps≠[]→(∀p∈ps,("," : Str)∉p)→(jnW "," ps).foldl ZdW (pcs++[[]])=pcs++ps
 | [],_,h,_=>absurd rfl h
 | [p],pcs,_,h=>by
  have:=Zm0 p pcs [] (h p mem_cons_self)
  simpa [jnW] using this
 | p::q::r,pcs,_,h=>by
  have e:jnW "," (p::q::r)=p++("," : Str)::jnW "," (q::r):=rfl;rw[e,List.foldl_append,Zm0 p pcs [] (h p mem_cons_self)];show(jnW "," (q::r)).foldl ZdW (ZdW (pcs++[[]++p]) ",")=_
  have e2:ZdW (pcs++[[]++p]) "," = (pcs++[p])++[[]]:=by unfold ZdW; rw[if_pos rfl]; simp
  rw[e2,ZoF (q::r) (pcs++[p]) (by simp) fun x hx=>h x (mem_cons_of_mem _ hx)];simp
theorem ZoS {ps:List (List Str)} (hn:ps≠[]) (h:∀p∈ps,("," : Str)∉p):Zb2 (jnW "," ps)=ps:=by
 have:=ZoF ps [] hn h
 simpa [Zb2] using this
theorem ZyH {pcs:List (List Str)} {z:Str} {B:Nat} (h:∀pc∈pcs,pc.length≤B):∀pc∈ZdW pcs z,pc.length≤B+1:=by
 intro pc hp;unfold ZdW at hp
 split at hp
 ·rcases mem_append.mp hp with hp | hp
  ·exact Nat.le_succ_of_le (h pc hp)
  ·rw[mem_singleton.mp hp]; exact Nat.zero_le _
 ·rcases mem_append.mp hp with hp | hp
  ·exact Nat.le_succ_of_le (h pc ((List.dropLast_sublist _).subset hp))
  ·rw[mem_singleton.mp hp,length_append,length_singleton]
   cases e:pcs.getLast? with
   | none=>simp
   | some q=>exact Nat.succ_le_succ (h q (List.mem_of_getLast? e))
theorem Zwl (ws:List Str):(Zb2 ws).length≤ws.length+1:=by
 have:∀(ws:List Str) (pcs:List (List Str)),pcs≠[]→(ws.foldl ZdW pcs).length≤pcs.length+ws.length:=by
  intro ws
  induction ws with
  | nil=>intro pcs _; exact Nat.le_refl _
  | cons z r ih=>
   intro pcs hp;have h1:=ih (ZdW pcs z) (ZtN pcs z)
   have h2:(ZdW pcs z).length≤pcs.length+1:=by
    unfold ZdW
    split
    ·simp
    ·rw[length_append,List.length_dropLast,length_singleton]; omega
   rw[length_cons];exact Nat.le_trans h1 (by omega)
 have:=this ws [[]] (by simp);simp only [length_singleton]at this;unfold Zb2;omega
theorem ZtD (ws:List Str):∀pc∈Zb2 ws,pc.length≤ws.length:=by
 have:∀(ws:List Str) (pcs:List (List Str)) (B:Nat),(∀pc∈pcs,pc.length≤B)→∀pc∈ws.foldl ZdW pcs,pc.length≤B+ws.length:=by
  intro ws
  induction ws with
  | nil=>intro pcs B h; exact h
  | cons z r ih=>
   intro pcs B h pc hp;have:=ih (ZdW pcs z) (B+1) (ZyH h) pc hp;rw[length_cons];omega
 intro pc hp;have:=this ws [[]] 0 (fun pc h=>by rw[mem_singleton.mp h]; exact Nat.le_refl _) pc hp;omega
seal PE PA PS PSs
section
variable {P:Program} {w:World} {K:W.Frag} {mg:Str→Option Value} {base:Heap} {t:Ad} {n:Nat}
inductive Bd
 | line
 | name
 | form
def clB (t:Ad):Bd→Value
 | .line=>.ref t.Zao
 | .name=>.ref t.Zar
 | .form=>.ref t.Zag
def NoWs (z:Str):Prop:=Asc z∧z.length≤16000∧(okW z=false∨Txt.words (pad z)=[])
def LnW (z:Str) (ws:List Str):Prop:=Asc z∧z.length≤16000∧okW z=true∧Txt.words (pad z)=ws∧ws≠[]
def ZEx (t:Ad):Sp:=fun vs H Q E=>∃z:Str,vs=[.str z]∧((NoWs z∧∀H',Same H H'→E (.ref t.Zao) none H')∨∃ws,LnW z ws∧∀p H',Same H H'→H p=none→H' p=some (.lst (ws.map V.str))→Q (.ref p) H')
theorem ZhA (T:Txt K mg t):FnS1 P w K mg base 3 "words_of_line" ["line"] ((ZEx t)):=by
 refine⟨_,_,T.Zb0.ok1 ZhB (fun vs H Q E h=>?_) (fun cdv A outer s H vs Q E hr h=>?_),T.ZhR,T.Zb0.kp,T.Zh0⟩
 ·obtain⟨z,rfl,hq⟩:=h
  rfl
 obtain⟨z,rfl,hq⟩:=h;have ZzS:=Zya (P:=P) (w:=w) (base:=base) T
 have ha:Asc z∧z.length≤16000:=by
  rcases hq with⟨h,_⟩ | ⟨ws,h,_⟩
  ·exact⟨h.1,h.2.1⟩
  ·exact⟨h.1,h.2.1⟩
 refine⟨_,(Zac (PS.nox (ss 1 ZhB.nd (Za8 ZzS hr (Zaa (pv 0) Zab))))
   (Zac (ZaP (PT.nox (PW.pt (Zoq (Zal ZCZ (pv 1) ZzE (Zat _)) (Zjd (Zal (ZaF hr.units) (Zaw ZaE rfl T.B.len ZbV (Zaa (pv 1) Zab)) Zad (Zat _))))))
   (Zae (ZcY rfl Zle T.ZeA.own rfl T.Ze4 (PA.nox (Zaa Zai Zab))))
   (PSs.nox Zap))
   (PSs.nox (Zae (Zas (pv 1)))))),?_⟩
 walk_at "rd0";refine⟨z,rfl,ha.1,ha.2,fun hok=>?_,fun hok H1 p s1 n1 e1=>?_⟩
 ·have k0:∀H',Same H H'→E (.ref t.Zao) none H':=by
   rcases hq with⟨_,k⟩ | ⟨ws,h,_⟩
   ·exact k
   ·exact absurd h.2.2.1 (by rw[hok]; decide)
  walk_at "";refine⟨rfl,?_⟩;walk_at "";refine Zbn rfl ?_
  (try refine Zbn rfl ?_)
  (try dsimp only)
  refine Zcr ?_;walk_at "";exact⟨Nat.le_of_ble_eq_true rfl,k0 H (Same.refl _)⟩
 ·walk_at ""
  refine⟨rfl,?_⟩;walk_at "";refine Za7 (by simp) ?_;walk_at "";rw[length_map]
  rcases hq with⟨⟨_,_,h⟩,k⟩ | ⟨ws,⟨_,_,_,hw,hne⟩,q⟩
  ·have h:Txt.words (pad z)=[]:=h.resolve_left (by rw[hok]; decide)
   refine Zbn (decide_eq_true (by rw[h]; rfl)) ?_
   (try refine Zbn rfl ?_)
   (try dsimp only)
   refine Zcr ?_;walk_at "";exact⟨Nat.le_of_ble_eq_true rfl,k H1 s1⟩
  ·rw[hw]at e1 ⊢
   refine Za7 (decide_eq_false fun e=>hne (length_eq_zero_iff.mp (by omega))) ?_;walk_at "";exact q p H1 s1 n1 e1
theorem Zj6 {ps:List Str} {i:Nat} {x:V} (h:(ps.map V.str)[i]?=some x):∃p,x=V.str p∧ps[i]?=some p:=by
 rw[getElem?_map]at h
 cases e:ps[i]? with
 | none=>rw[e]at h; cases h
 | some p=>rw[e]at h; cases h; exact⟨p,rfl,rfl⟩
theorem Zdj {α β:Type} {R S:α→β→Prop}:∀{as:List α} {bs:List β},Paired R as bs→(∀a b,a∈as→R a b→S a b)→Paired S as bs
 | _,_,.nil,_=>.nil
 | _,_,.cons h r,f=>.cons (f _ _ mem_cons_self h) (Zdj r fun a b ha z=>f a b (mem_cons_of_mem _ ha) z)
def Zxm (H0 H:Hp) (ps:List Addr) (pcs:List (List Str)):Prop:=Paired (fun p pc=>H0 p=none∧H p=some (.lst (pc.map V.str))) ps pcs
def ZyA:Sp:=fun vs H Q _=>∃(l:Addr) (ws:List Str),vs=[.ref l]∧H l=some (.lst (ws.map V.str))∧ws.length≤100000∧∀o ps H',Same H H'→H o=none→H' o=some (.lst (ps.map V.ref))→Zxm H H' ps (Zb2 ws)→Q (.ref o) H'
theorem ZiJ {α β:Type} {R:α→β→Prop}:∀{as:List α} {bs:List β},Paired R as bs→∀a∈as,∃b,R a b
 | _,_,.nil,a,h=>by cases h
 | _,_,.cons h r,a,ha=>by
  rcases mem_cons.mp ha with rfl | ha
  ·exact⟨_,h⟩
  ·exact ZiJ r a ha
theorem Zbj {α β:Type} {R:α→β→Prop}:∀{as:List α} {bs:List β},Paired R as bs→∀{i:Nat} {a:α},as[i]?=some a→∃b,bs[i]?=some b∧R a b
 | _,_,.nil,i,a,h=>by cases h
 | _,_,.cons h r,0,a,ha=>by cases ha; exact⟨_,rfl,h⟩
 | _,_,.cons h r,i+1,a,ha=>Zbj r (i:=i) (by simpa using ha)
theorem ZiI {α β:Type} {R:α→β→Prop}:∀{as:List α} {bs:List β},Paired R as bs→∀{i:Nat} {b:β},bs[i]?=some b→∃a,as[i]?=some a∧R a b
 | _,_,.nil,i,a,h=>by cases h
 | _,_,.cons h r,0,a,ha=>by cases ha; exact⟨_,rfl,h⟩
 | _,_,.cons h r,i+1,a,ha=>ZiI r (i:=i) (by simpa using ha)
theorem ZoR {α β γ:Type} {R:α→β→Prop} {S:α→γ→Prop} {f:β→γ} (h:∀a b,R a b→S a (f b)):∀{as:List α} {bs:List β},Paired R as bs→Paired S as (bs.map f)
 | _,_,.nil=>.nil
 | _,_,.cons h1 r=>.cons (h _ _ h1) (ZoR h r)
theorem ZwK {α β:Type} {R:α→β→Prop} {as:List α} {bs:List β} (h:Paired R as bs) (hb:bs≠[]):∃as' a,as=as'++[a]∧Paired R as' bs.dropLast∧R a (bs.getLast hb):=by
 induction h with
 | nil=>exact absurd rfl hb
 | cons h1 h2 ih=>
  rename_i a b as bs
  cases h2 with
  | nil=>exact⟨[],a,rfl,.nil,h1⟩
  | cons h3 h4=>
   obtain⟨as',a',e,h5,h6⟩:=ih (by simp);refine⟨a::as',a',by rw[e]; rfl,?_,?_⟩
   ·rw[List.dropLast_cons_cons]
    exact .cons h1 h5
   ·rw[List.getLast_cons_cons]
    exact h6
theorem Zjr (T:Txt K mg t):FnS P w K mg base 1 "parted_by_commas" ["found"] (ZyA):=by
 refine⟨_,_,T.Zbt.ok Zdm (fun vs H Q E h=>?_) (fun cdv A outer s H vs Q E hr h=>?_),T.ZfP,T.Zbt.kp,T.Zf4⟩
 ·obtain⟨l,ws,rfl,hl,hz,q⟩:=h
  rfl
 obtain⟨l,ws,rfl,hl,hz,q⟩:=h
 refine⟨_,(Zac (ss 1 Zdm.nd (Zaq (Zaa (Zaq Zab) Zab)))
   (Zac (ZcI PassesOwn.never rfl (Zfz (pv 0)) (sg 2 Zdm.nd)
   (Zae (ZaP (Zal (ZaF hr.units) (pv 2) Zai (Zat _))
   (Zae (Za2 (ZcX F.plainAttrs_list F.slot_list_append F.type_list_append ZaU (pv 1) (Zaa (Zaq Zab) Zab))))
   (Zae (Za2 (ZcX F.plainAttrs_list F.slot_list_append F.type_list_append ZaU (Za1 ZaA (pv 1) (ZuC ZoY Zad) (fun _ _=>rfl)) (Zaa (pv 2) Zab)))))))
   (Zae (Zas (pv 1))))),?_⟩
 walk_at "rd0";refine ZaD (by simp) fun p0 H0 s0 n0 e0=>?_;walk_at "";refine ZaD (by simp) fun o H1 s1 n1 e1=>?_;walk_at "";have no:H o=none:=s0.free n1
 have nd0:(o::[p0]).Nodup:=by
  rw[nodup_cons];refine⟨fun hm=>?_,by simp⟩;rw[mem_singleton.mp hm,e0]at n1
  cases n1
 refine seqL (xs:=ws.map V.str) (fun i σ H'=>∃ps v2,σ=[some (.ref l),some (.ref o),v2]∧Same H H'∧H' o=some (.lst (ps.map V.ref))∧Zxm H H' ps (Zb2 (ws.take i))∧(o::ps).Nodup∧(Zb2 (ws.take i)).length≤i+1)
  ⟨[p0],_,rfl,s0.trans s1,e1,.cons ⟨n0,s1 _ _ e0⟩ .nil,nd0,Nat.le_refl _⟩ (fun i σ H' _ hp=>by obtain⟨ps,v2,_,s,_⟩:=hp; exact SqL.of (s _ _ hl)) ?_ ?_
 ·rintro i x σ H2 hx ⟨ps,v2,rfl,s2,e2,pp,nd,hln⟩
  obtain⟨z,rfl,hz'⟩:=Zj6 hx;have hil:i < ws.length:=(List.getElem?_eq_some_iff.mp hz').1;rw[nodup_cons]at nd;have hpl:=Zau pp
  have ets:Zb2 (ws.take (i+1))=ZdW (Zb2 (ws.take i)) z:=by rw[Zbh hz',ZuB]
  walk_at "";refine ZbN (fun h=>?_) (fun h=>?_)
  ·walk_at ""
   refine⟨tyL e2,?_⟩;walk_at "";refine ZaD (by simp) fun p3 H3 s3 n3 e3=>?_;have e23:=s3 _ _ e2;walk_at "";refine ZaZ e23 (by rw[length_map]; omega) fun H4 b4 e4=>?_;walk_at "";have n3':H p3=none:=s2.free n3
   have np:p3∉ps:=fun hm=>by
    obtain⟨pc,_,e⟩:=ZiJ pp p3 hm;rw[n3]at e; cases e
   have neo:o≠p3:=fun e=>by rw[←e]at n3; rw[n3]at e2; cases e2
   refine⟨ps++[p3],_,rfl,b4.same no (s2.trans s3),by rw[e4,map_append]; rfl,?_,?_,?_⟩
   ·rw[ets]
    unfold ZdW;rw[if_pos h];refine ZaX (Zdj pp fun p pc hp z=>⟨z.1,b4 _ _ (fun e=>nd.1 (by rw[←e]; exact hp)) (s3 _ _ z.2)⟩) (.cons ⟨n3',b4 _ _ (fun e=>neo e.symm) e3⟩ .nil)
   ·rw[nodup_cons]
    refine⟨?_,?_⟩
    ·simp only [mem_append,mem_singleton,not_or]
     exact⟨nd.1,neo⟩
    ·rw[nodup_append]
     exact⟨nd.2,by simp,fun a ha b hb e=>np (by rw[←mem_singleton.mp hb,←e]; exact ha)⟩
   ·rw[ets]
    unfold ZdW;rw[if_pos h,length_append,length_singleton];omega
  ·walk_at ""
   obtain⟨ps',p,rfl,pp',hp⟩:=ZwK pp (ZkC _);obtain⟨np,ep⟩:=hp
   have hlast:ZdW (Zb2 (ws.take i)) z=(Zb2 (ws.take i)).dropLast++[(Zb2 (ws.take i)).getLast (ZkC _)++[z]]:=by
    unfold ZdW;rw[if_neg h,List.getLast?_eq_some_getLast (ZkC _)];rfl
   have e2':H2 o=some (.lst (ps'.map V.ref++[V.ref p])):=by rw[e2,map_append]; rfl
   refine ZvC e2' (Zu2 _ _) ?_;walk_at "";refine⟨tyL ep,?_⟩;have hpl':=Zau pp'
   have hlz:((Zb2 (ws.take i)).getLast (ZkC _)).length≤100000:=by
    have:=ZtD (ws.take i) _ (List.getLast_mem (ZkC _));rw[length_take]at this;omega
   walk_at "";refine ZaZ ep (by rw[length_map]; omega) fun H4 b4 e4=>?_;walk_at "";have nd':=nd;rw[nodup_append]at nd';have nop:o≠p:=fun e=>nd.1 (by rw[e]; simp);refine⟨ps'++[p],_,rfl,b4.same np s2,b4 _ _ nop e2,?_,?_,?_⟩
   ·rw[ets,hlast]
    refine ZaX (Zdj pp' fun a pc ha z=>⟨z.1,b4 _ _ (fun e=>nd'.2.2.2 a ha p (mem_singleton.mpr rfl) e) z.2⟩) (.cons ⟨np,by rw[e4,map_append]; rfl⟩ .nil)
   ·rw[nodup_cons]; exact nd
   ·rw[ets,hlast,length_append,List.length_dropLast,length_singleton]; omega
 ·rintro σ H2 ⟨ps,v2,rfl,s2,e2,pp,nd,hln⟩
  walk_at "";rw[length_map,take_length]at pp;exact q o ps H2 s2 no e2 pp
theorem Zjo {z:Str}:∀{ns:List Str} {k:Nat},ns.Nodup→ns[k]?=some z→idxS z ns=some k
 | [],k,_,h=>by simp at h
 | y::r,k,nd,h=>by
  unfold idxS;rw[nodup_cons]at nd
  cases k with
  | zero=>
   have:y=z:=by simpa using h
   rw[if_pos this]
  | succ k=>
   have h:r[k]?=some z:=by simpa using h
   have : ¬y=z:=fun e=>nd.1 (by rw[e]; exact mem_of_getElem? h);rw[if_neg this,Zjo nd.2 h];rfl
theorem ZCq {p:Addr} {x:Str} {ns:List Str} {H:Hp} {Q:VK} (h:H p=some (.lst (ns.map V.str))∨H p=some (.tup (ns.map V.str))) (k:Q (.bl (!decide (x∈ns))) H):ZpS K (.str x) (.ref p) H Q:=by
 refine .inr ⟨p,ns.map V.str,rfl,h.imp SqL.of SqT.of,rfl,?_,?_⟩
 ·rw[all_eq_true]
  intro v hv;obtain⟨z,_,rfl⟩:=mem_map.mp hv;rfl
 ·rw[Zkc]
  exact k
theorem Ztj {p:Addr} {x:Str} {ns:List Str} {H:Hp} {Q:VK} (h:SqT K H p (ns.map V.str)) (k:Q (.bl (!decide (x∈ns))) H):ZpS K (.str x) (.ref p) H Q:=by
 refine .inr ⟨p,ns.map V.str,rfl,.inr h,rfl,?_,?_⟩
 ·rw[all_eq_true]
  intro v hv;obtain⟨z,_,rfl⟩:=mem_map.mp hv;rfl
 ·rw[Zkc]
  exact k
def Zjq (ks:List Nat):List V:=ks.map fun k:Nat=>V.int (k:Int)
theorem Ztx {α:Type}:∀{l:List α} {i j:Nat} {x:α},l.Nodup→l[i]?=some x→l[j]?=some x→i=j
 | [],i,j,x,_,h,_=>by simp at h
 | y::l,0,0,x,_,_,_=>rfl
 | y::l,0,j+1,x,nd,h1,h2=>by
  rw[nodup_cons]at nd
  have h1:y=x:=by simpa using h1
  have h2:l[j]?=some x:=by simpa using h2
  exact absurd (mem_of_getElem? h2) (by rw[←h1]; exact nd.1)
 | y::l,i+1,0,x,nd,h1,h2=>by
  rw[nodup_cons]at nd
  have h2:y=x:=by simpa using h2
  have h1:l[i]?=some x:=by simpa using h1
  exact absurd (mem_of_getElem? h1) (by rw[←h2]; exact nd.1)
 | y::l,i+1,j+1,x,nd,h1,h2=>by
  rw[nodup_cons]at nd;exact congrArg (· + 1) (Ztx nd.2 (by simpa using h1) (by simpa using h2))
theorem Zpq (x:Nat):∀ns:List Nat,inV (.int (x:Int)) (Zjq ns)=decide (x∈ns)
 | []=>by simp[inV,Zjq]
 | y::ns=>by
  have ih:=Zpq x ns;unfold inV Zjq at ih ⊢;rw[map_cons,any_cons,ih]
  have e:eqV (.int (y:Int)) (.int (x:Int))=decide (y=x):=by
   show decide ((y:Int)=(x:Int))=_;exact decide_eq_decide.mpr (by omega)
  rw[e]
  by_cases h:y=x
  ·simp[h]
  ·have h' : ¬x=y:=fun z=>h z.symm
   simp[h,h']
theorem ZAl {p:Addr} {x:Nat} {ns:List Nat} {H:Hp} {Q:VK} (h:H p=some (.lst (Zjq ns))) (k:Q (.bl (decide (x∈ns))) H):rInG K (.int (x:Int)) (.ref p) H Q:=by
 refine .inr ⟨p,Zjq ns,rfl,.inl (SqL.of h),rfl,?_,?_⟩
 ·rw[all_eq_true]
  intro v hv;obtain⟨z,_,rfl⟩:=mem_map.mp hv;rfl
 ·rw[Zpq]
  exact k
theorem Zvc {ws:List Str} {k:Nat} (h:k≤ws.length):cutV (ws.map V.str) none (some (k:Int))=(ws.take k).map V.str:=by
 rw[ZyU (by rw[length_map]; exact h),map_take]
theorem ZmA {a b:List Str} (h:("then" : Str)∉a):(a++("then" : Str)::b)[a.length]?=some "then"∧∀m,m < a.length→(a++("then" : Str)::b)[m]?≠some "then":=by
 refine⟨by simp,fun m hm e=>?_⟩;rw[getElem?_append_left hm]at e;exact h (mem_of_getElem? e)
def ZyB:Sp:=fun vs H Q _=>∃(l:Addr) (a b:List Str),vs=[.ref l]∧H l=some (.lst ((a++("then" : Str)::b).map V.str))∧("then" : Str)∉a∧a.length+b.length≤90000∧∀o ps H',Same H H'→H o=none→H' o=some (.lst (ps.map V.ref))→Zxm H H' ps (Zb2 b)→Q (.ref o) H'
theorem Zl6 (T:Txt K mg t):FnS P w K mg base 3 "pieces_in" ["found"] (ZyB):=by
 refine⟨_,_,T.Zd9.ok Zrw (fun vs H Q E h=>?_) (fun cdv A outer s H vs Q E hr h=>?_),T.ZmT,T.Zd9.kp,T.Znr⟩
 ·obtain⟨l,a,b,rfl,hl,ha,hz,q⟩:=h
  rfl
 obtain⟨l,a,b,rfl,hl,ha,hz,q⟩:=h;have ZjS:=Zjr (P:=P) (w:=w) (base:=base) T;refine⟨_,(Zae (Zas (Za8 ZjS hr (Zaa (Zbp Zc8 (pv 0) (ZbK (Zah Zam (ZcX F.plainAttrs_list F.slot_list_index F.type_list_index Zkx (pv 0) (Zaa Zai Zab)) Zad)) Zce) Zab)))),?_⟩;walk_at "rd0";refine⟨tyL hl,?_⟩;walk_at "";refine Zm2 hl (ZmA ha).1 (ZmA ha).2 (by omega) ?_;walk_at ""
 have ec:cutV ((a++("then" : Str)::b).map V.str) (some ((a.length:Int)+1)) none=b.map V.str:=by
  have:=Zc9 (xs:=(a++("then" : Str)::b).map V.str) (k:=a.length+1) (by simp)
  have e:(a++("then" : Str)::b).drop (a.length+1)=b:=by
   rw[show a++("then" : Str)::b=(a++[("then" : Str)])++b by simp,List.drop_left' (by simp)]
  rw[←map_drop,e]at this;exact this
 refine ZgD (SqL.of hl) ec fun l2 H1 s1 n1 e1=>?_;walk_at "";refine⟨l2,b,rfl,e1,by omega,fun o ps H2 s2 n2 e2 pp=>?_⟩;exact q o ps H2 (s1.trans s2) (s1.free n2) e2 (Zan (fun _ _ z=>⟨s1.free z.1,z.2⟩) pp)
def ZDI (t:Ad):Sp:=fun vs H Q E=>∃(l:Addr) (ws:List Str),vs=[.ref l]∧H l=some (.lst (ws.map V.str))∧(2≤ws.length→ws.length≤7→Q .non H)∧(¬(2≤ws.length∧ws.length≤7)→E (.ref t.Zao) none H)
theorem Zol (T:Txt K mg t):FnS1 P w K mg base 1 "check_lamps" ["found"] ((ZDI t)):=by
 refine⟨_,_,T.ZcO.ok1 Zov (fun vs H Q E h=>?_) (fun cdv A outer s H vs Q E hr h=>?_),T.Zj0,T.ZcO.kp,T.Zkv⟩
 ·obtain⟨l,ws,rfl,hl,q,k⟩:=h
  rfl
 obtain⟨l,ws,rfl,hl,q,k⟩:=h
 refine⟨_,(Zae (ZaP (PT.nox (PW.pt (Zoq (Zal Zyc (Zaw ZaE rfl T.B.len ZbV (Zaa (pv 0) Zab)) Zad (Zat _)) (Zjd (Zal Zrk (Zaw ZaE rfl T.B.len ZbV (Zaa (pv 0) Zab)) (Zah Zam (Zop rfl T.g_MOST_LAMPS) Zad) (Zat _))))))
   (Zae (ZcY rfl Zle T.ZeA.own rfl T.Ze4 (PA.nox (Zaa Zai Zab))))
   (PSs.nox Zap))),?_⟩
 walk_at "rd0";rw[length_map]
 by_cases h:ws.length < 2
 ·refine Zbn (decide_eq_true (by omega)) ?_
  (try refine Zbn rfl ?_)
  (try dsimp only)
  refine Zcr ?_;walk_at "";exact⟨Nat.le_of_ble_eq_true rfl,k (by omega)⟩
 refine Za7 (decide_eq_false (by omega)) ?_;walk_at "";rw[length_map]
 by_cases h7:7 < ws.length
 ·refine Zbn (decide_eq_true (by omega)) ?_
  (try refine Zbn rfl ?_)
  (try dsimp only)
  refine Zcr ?_;walk_at "";exact⟨Nat.le_of_ble_eq_true rfl,k (by omega)⟩
 refine Za7 (decide_eq_false (by omega)) ?_;walk_at "";exact q (by omega) (by omega)
structure MvWs (a b:List Str):Prop where
 na:("then" : Str)∉a
 nb:("then" : Str)∉b
 ln:a.length+b.length≤90000
 pc:∀p∈Zb2 b,2≤p.length∧p[1]?=some ("is" : Str)
def MvOk (ws:List Str):Prop:=∃a b,ws=a++("then" : Str)::b∧MvWs a b
theorem Zt3 {ws:List Str} (h:ws.count ("then" : Str)=1):∃a b,ws=a++("then" : Str)::b∧("then" : Str)∉a∧("then" : Str)∉b:=by
 have hm:("then" : Str)∈ws:=List.count_pos_iff.mp (by omega);obtain⟨a,b,rfl⟩:=List.append_of_mem hm;rw[count_append,count_cons_self]at h;exact⟨a,b,rfl,count_eq_zero.mp (by omega),count_eq_zero.mp (by omega)⟩
theorem ZzN {a b a' b':List Str} (h:a++("then" : Str)::b=a'++("then" : Str)::b') (ha:("then" : Str)∉a) (ha':("then" : Str)∉a'):a=a'∧b=b':=by
 induction a generalizing a' with
 | nil=>
  cases a' with
  | nil=>exact⟨rfl,(List.cons.inj h).2⟩
  | cons x r=>exact absurd (List.cons.inj h).1 (fun e=>ha' (by rw[e]; exact mem_cons_self))
 | cons y r ih=>
  cases a' with
  | nil=>exact absurd (List.cons.inj h).1.symm (fun e=>ha (by rw[←e]; exact mem_cons_self))
  | cons x s=>
   obtain⟨e1,e2⟩:=List.cons.inj h;obtain⟨e3,e4⟩:=ih e2 (fun z=>ha (mem_cons_of_mem _ z)) (fun z=>ha' (mem_cons_of_mem _ z));exact⟨by rw[e1,e3],e4⟩
def ZDJ (t:Ad):Sp:=fun vs H Q E=>∃(l:Addr) (ws:List Str),vs=[.ref l]∧H l=some (.lst (ws.map V.str))∧ws.length≤90001∧(MvOk ws→∀H',Same H H'→Q .non H')∧(¬MvOk ws→∀H',Same H H'→E (.ref t.Zao) none H')
theorem ZpJ (T:Txt K mg t):FnS1 P w K mg base 5 "check_move" ["found"] ((ZDJ t)):=by
 refine⟨_,_,T.Zdw.ok1 ZkJ (fun vs H Q E h=>?_) (fun cdv A outer s H vs Q E hr h=>?_),T.ZlR,T.Zdw.kp,T.Zl2⟩
 ·obtain⟨l,ws,rfl,hl,hz,q,k⟩:=h
  rfl
 obtain⟨l,ws,rfl,hl,hz,q,k⟩:=h;have Zji:=Zl6 (P:=P) (w:=w) (base:=base) T
 refine⟨_,(Zac (ZaP (PT.nox (Zal (ZkB hr.units) (ZcX F.plainAttrs_list F.slot_list_count F.type_list_count Zv8 (pv 0) (Zaa Zai Zab)) Zad (Zat _)))
   (Zae (ZcY rfl Zle T.ZeA.own rfl T.Ze4 (PA.nox (Zaa Zai Zab))))
   (PSs.nox Zap))
   (Zae (ZcI PassesOwn.leaving rfl (Zfz (Za8 Zji hr (Zaa (pv 0) Zab))) (sg 1 ZkJ.nd)
   (Zae (ZaP (PT.nox (PW.pt (Zoq (Zal Zyc (Zaw ZaE rfl T.B.len ZbV (Zaa (pv 1) Zab)) Zad (Zat _)) (Zjd (Zal (ZkB hr.units) (Za1 ZaA (pv 1) Zad (fun _ _=>rfl)) Zai (Zat _))))))
   (Zae (ZcY rfl Zle T.ZeA.own rfl T.Ze4 (PA.nox (Zaa Zai Zab))))
   (PSs.nox Zap)))))),?_⟩
 walk_at "rd0";refine⟨tyL hl,?_⟩;walk_at "";refine ZxL hl ?_
 by_cases hc:ws.count ("then" : Str)=1
 ·rw[hc]
  obtain⟨a,b,rfl,na,nb⟩:=Zt3 hc;walk_at "";refine Za7 (by decide) ?_;walk_at "";rw[length_append,length_cons]at hz;refine⟨l,a,b,rfl,hl,na,by omega,fun o ps H1 s1 n1 e1 pp=>?_⟩;refine seqL (xs:=ps.map V.ref) (fun i σ H'=>H'=H1∧(∀p∈(Zb2 b).take i,2≤p.length∧p[1]?=some ("is" : Str))∧∃v1,σ=[some (.ref l),v1]) ⟨rfl,(fun p hp=>by cases hp),_,rfl⟩ (fun i σ H' _ hp=>by obtain⟨rfl,_⟩:=hp; exact SqL.of e1) ?_ ?_
  ·rintro i x σ H' hx ⟨rfl,hpre,v1,rfl⟩
   obtain⟨p,rfl,hp⟩:=Zgc hx;obtain⟨pc,hpc,np,ep⟩:=Zbj pp hp
   have bad : ¬(2≤pc.length∧pc[1]?=some ("is" : Str))→¬MvOk (a++("then" : Str)::b):=fun h ⟨a',b',e,M⟩=>by
    obtain⟨_,rfl⟩:=ZzN e na M.na;exact h (M.pc pc (mem_of_getElem? hpc))
   walk_at "";rw[length_map]
   by_cases h2:pc.length < 2
   ·refine Zbn (decide_eq_true (by omega)) ?_
    (try refine Zbn rfl ?_)
    (try dsimp only)
    refine Zcr ?_;walk_at "";exact⟨Nat.le_of_ble_eq_true rfl,k (bad (by omega)) _ s1⟩
   refine Za7 (decide_eq_false (by omega)) ?_
   have h1:1 < pc.length:=by omega
   walk_at "";refine ZaO (j:=1) ep (v:=.str pc[1]) (by rw[getElem?_map,List.getElem?_eq_getElem h1]; rfl) ?_;walk_at ""
   by_cases hi:pc[1]=("is" : Str)
   ·rw[hi]
    refine Za7 (by decide) ?_;walk_at "";refine⟨rfl,fun p hp=>?_,_,rfl⟩;rw[Zbh hpc]at hp
    rcases mem_append.mp hp with hp | hp
    ·exact hpre p hp
    ·rw[mem_singleton.mp hp]
     exact⟨by omega,by rw[List.getElem?_eq_getElem h1,hi]⟩
   ·refine Zbn (by simp only [Bool.not_eq_true',decide_eq_false_iff_not,decide_eq_true_eq]; exact hi) ?_
    (try refine Zbn rfl ?_)
    (try dsimp only)
    refine Zcr ?_;walk_at "";exact⟨Nat.le_of_ble_eq_true rfl,k (bad fun h=>hi (Option.some.inj ((List.getElem?_eq_getElem h1).symm.trans h.2))) _ s1⟩
  ·rintro σ H' ⟨rfl,hpre,v1,rfl⟩
   rw[length_map,Zau pp,take_length]at hpre;walk_at "";exact q ⟨a,b,rfl,na,nb,by omega,hpre⟩ _ s1
 ·walk_at ""
  refine Zbn (by simp only [Bool.not_eq_true',decide_eq_false_iff_not,decide_eq_true_eq]; omega) ?_
  (try refine Zbn rfl ?_)
  (try dsimp only)
  refine Zcr ?_;walk_at "";exact⟨Nat.le_of_ble_eq_true rfl,k (fun⟨a,b,e,M⟩=>hc (by rw[e,count_append,count_cons_self,count_eq_zero.mpr M.na,count_eq_zero.mpr M.nb])) _ (Same.refl _)⟩
def FmOk (x:Str) (ws:List Str):Prop:=(x = "lamps"→1≤ws.length∧ws.length≤6)∧(x = "move"→MvOk (x::ws))
def ZDH (t:Ad):Sp:=fun vs H Q E=>∃(l:Addr) (x:Str) (ws:List Str),vs=[.ref l]∧H l=some (.lst ((x::ws).map V.str))∧ws.length≤90000∧(FmOk x ws→∀H',Same H H'→Q .non H')∧(¬FmOk x ws→∀H',Same H H'→E (.ref t.Zao) none H')
theorem Zky (T:Txt K mg t):FnS1 P w K mg base 7 "check_form" ["found"] ((ZDH t)):=by
 refine⟨_,_,T.Zdv.ok1 Zp0 (fun vs H Q E h=>?_) (fun cdv A outer s H vs Q E hr h=>?_),T.ZlQ,T.Zdv.kp,T.Zl1⟩
 ·obtain⟨l,x,ws,rfl,hl,hz,q,k⟩:=h
  rfl
 obtain⟨l,x,ws,rfl,hl,hz,q,k⟩:=h;have Zo2:=Zol (P:=P) (w:=w) (base:=base) T;have Zqi:=ZpJ (P:=P) (w:=w) (base:=base) T
 refine⟨_,(Zac (ZaP (PT.nox (Zal (ZaF hr.units) (Za1 ZaA (pv 0) Zad (fun _ _=>rfl)) Zai (Zat _)))
   (Zae (Za2 (Zfx ZiQ Zo2 hr (Zaa (pv 0) Zab))))
   (PSs.nox Zap))
   (Zae (ZaP (PT.nox (Zal (ZaF hr.units) (Za1 ZaA (pv 0) Zad (fun _ _=>rfl)) Zai (Zat _)))
   (Zae (Za2 (Zfx ZiQ Zqi hr (Zaa (pv 0) Zab))))
   (PSs.nox Zap)))),?_⟩
 walk_at "rd0";refine ZaO (j:=0) hl (v:=.str x) rfl ?_;walk_at "";refine ZbN (fun h=>?_) (fun h=>?_)
 ·subst h
  walk_at "";refine⟨l,_,rfl,hl,fun a1 a6=>?_,fun h=>k (fun z=>h (by have:=z.1 rfl; rw[length_cons]; omega)) H (Same.refl _)⟩;rw[length_cons]at a1 a6;walk_at "";refine ZaO (j:=0) hl (v:=.str "lamps") rfl ?_;walk_at "";refine Za7 (by decide) ?_;walk_at "";exact q ⟨fun _=>by omega,fun h=>absurd h (by decide)⟩ _ (Same.refl _)
 ·walk_at ""
  refine ZaO (j:=0) hl (v:=.str x) rfl ?_;walk_at "";refine ZbN (fun h'=>?_) (fun h'=>?_)
  ·subst h'
   walk_at "";refine⟨l,_,rfl,hl,by rw[length_cons]; omega,fun M H1 s1=>?_,fun M H1 s1=>k (fun z=>M (z.2 rfl)) H1 s1⟩;walk_at "";exact q ⟨fun e=>absurd e (by decide),fun _=>M⟩ _ s1
  ·walk_at ""
   exact q ⟨fun e=>absurd e h,fun e=>absurd e h'⟩ _ (Same.refl _)
def noNm:List Str:=["and","or","not","either","yes","no","then","is","(",")",","]
def NmOk (ns:List Str):Prop:=(∀z∈ns,z∉noNm∧z.length≤8)∧ns.Nodup
def ZDN (t:Ad):Sp:=fun vs H Q E=>∃(l:Addr) (x:Str) (ns:List Str),vs=[.ref l]∧H l=some (.lst ((x::ns).map V.str))∧ns.length≤100∧(∀z∈ns,ZeE z∧z.length≤100000)∧(NmOk ns→∀p H',Same H H'→H p=none→H' p=some (.lst (ns.map V.str))→Q (.ref p) H')∧(¬NmOk ns→∀H',Same H H'→E (.ref t.Zar) none H')
theorem ZsL (T:Txt K mg t):FnS1 P w K mg base 1 "names_in" ["found"] ((ZDN t)):=by
 refine⟨_,_,T.Zfe.ok1 Zhn (fun vs H Q E h=>?_) (fun cdv A outer s H vs Q E hr h=>?_),T.ZoA,T.Zfe.kp,T.ZoM⟩
 ·obtain⟨l,x,ns,rfl,hl,h6,hpn,q,k⟩:=h
  rfl
 obtain⟨l,x,ns,rfl,hl,h6,hpn,q,k⟩:=h
 refine⟨_,(Zac (PS.nox (ss 1 Zhn.nd (Zbp Zc8 (pv 0) (ZbK Zad) Zce)))
   (Zac (ZcI PassesOwn.leaving rfl (ZA2 rfl T.B.enumerate (pv 1)) (Zwq rfl (ZiK (sg 2 Zhn.nd) (ZiK (sg 3 Zhn.nd) ZsS)))
   (Zac (ZaP (PT.nox (PW.pt (Zoq (Zal Zl7 (pv 3) (Zop rfl T.g_NO_NAMES) (by with_unfolding_all rfl)) (Zjd (Zal Zrk (Zaw ZaE rfl T.B.len ZbV (Zaa (pv 3) Zab)) (Zop rfl T.g_LONGEST_NAME) (Zat _))))))
   (Zae (ZcY rfl Zle T.ZiL.own rfl T.Zkp (PA.nox (Zaa (Zfy (Zdk (Zny (pv 3)) (Zdk Zai Znz))) Zab))))
   (PSs.nox Zap))
   (Zae (ZaP (PT.nox (Zal Zl7 (pv 3) (Zbp Zc8 (pv 1) Zce (ZbK (pv 2))) (by with_unfolding_all rfl)))
   (Zae (ZcY rfl Zle T.ZiL.own rfl T.Zkp (PA.nox (Zaa (Zfy (Zdk (Zny (pv 3)) (Zdk Zai Znz))) Zab))))
   (PSs.nox Zap)))))
   (PSs.nox (Zae (Zas (pv 1)))))),?_⟩
 walk_at "rd0";refine ZgD (SqL.of hl) (Zc9 (k:=1) (by simp)) fun nl H1 s1 n1 e1=>?_;have e1:H1 nl=some (.lst (ns.map V.str)):=e1;walk_at "";refine ZEv (xs:=ns.map V.str) (fun i σ H'=>Same H1 H'∧NmOk (ns.take i)∧∃v v',σ=[some (.ref l),some (.ref nl),v,v']) ⟨Same.refl _,⟨(fun z hz=>by cases hz),nodup_nil⟩,_,_,rfl⟩ (fun i σ H' _ hp=>SqL.of (hp.1 _ _ e1)) ?_ ?_
 ·rintro i x T' σ H0 H' hx ⟨s2,hpre,v,v',rfl⟩ s3 n3 eT
  obtain⟨z,rfl,hz⟩:=Zj6 hx;have hzm:=mem_of_getElem? hz;obtain⟨zp,zl⟩:=hpn z hzm;have hil:=(List.getElem?_eq_some_iff.mp hz).1;have w3:=s2.trans s3;refine ZAk eT ?_;walk_at "";refine ZCm (T.q_NO_NAMES H') ?_;walk_at ""
  by_cases z1:z∈noNm
  ·refine Zbn (decide_eq_true z1) ?_
   (try refine Zbn rfl ?_)
   (try dsimp only)
   refine Zcr ?_;walk_at "";have hpl':(reprText z).length≤900000:=zp;have e0:Str.empty.length=0:=rfl;have ea:=Zak Str.empty (reprText z);have eb:=Zak (Str.empty++reprText z) " cannot be a name";have ec:Str.length " cannot be a name" = 17:=rfl;refine⟨_,rfl,ZaQ (by omega),_,rfl,ZaQ (by omega),?_⟩;walk_at "";refine⟨_,rfl,ZaQ (by omega),ZaQ (by omega),?_⟩;walk_at "";exact⟨Nat.le_of_ble_eq_true rfl,k (fun h=>(h.1 z hzm).1 z1) H' (s1.trans w3)⟩
  refine Za7 (decide_eq_false z1) ?_;walk_at "";refine ZCn (ZaQ (by omega)) ?_;walk_at ""
  by_cases z2:8 < z.length
  ·refine Zbn (decide_eq_true (by omega)) ?_
   (try refine Zbn rfl ?_)
   (try dsimp only)
   refine Zcr ?_;walk_at "";have hpl':(reprText z).length≤900000:=zp;have e0:Str.empty.length=0:=rfl;have ea:=Zak Str.empty (reprText z);have eb:=Zak (Str.empty++reprText z) " cannot be a name";have ec:Str.length " cannot be a name" = 17:=rfl;refine⟨_,rfl,ZaQ (by omega),_,rfl,ZaQ (by omega),?_⟩;walk_at "";refine⟨_,rfl,ZaQ (by omega),ZaQ (by omega),?_⟩;walk_at "";exact⟨Nat.le_of_ble_eq_true rfl,k (fun h=>absurd (h.1 z hzm).2 (by omega)) H' (s1.trans w3)⟩
  refine Za7 (decide_eq_false (by omega)) ?_;walk_at "";refine ZgD (SqL.of (w3 _ _ e1)) (Zvc (by omega)) fun l2 H4 s4 n4 e4=>?_;walk_at "";refine ZvB (.inl e4) ?_;walk_at ""
  by_cases z3:z∈ns.take i
  ·refine Zbn (decide_eq_true z3) ?_
   have dup : ¬NmOk ns:=fun h=>by
    obtain⟨j,hj,ej⟩:=List.getElem_of_mem z3;rw[length_take]at hj;rw[List.getElem_take]at ej;have x1:=Zjo h.2 hz;have x2:=Zjo h.2 (k:=j) (z:=z) (by rw[List.getElem?_eq_getElem (by omega),ej]);rw[x1]at x2;have:=Option.some.inj x2;omega
   (try refine Zbn rfl ?_)
   (try dsimp only)
   refine Zcr ?_;walk_at "";have hpl':(reprText z).length≤900000:=zp;have e0:Str.empty.length=0:=rfl;have ea:=Zak Str.empty (reprText z);have eb:=Zak (Str.empty++reprText z) " stands there twice";have ec:Str.length " stands there twice" = 19:=rfl;refine⟨_,rfl,ZaQ (by omega),_,rfl,ZaQ (by omega),?_⟩;walk_at "";refine⟨_,rfl,ZaQ (by omega),ZaQ (by omega),?_⟩;walk_at "";exact⟨Nat.le_of_ble_eq_true rfl,k dup H4 (s1.trans (w3.trans s4))⟩
  refine Za7 (decide_eq_false z3) ?_;walk_at "";refine⟨w3.trans s4,?_,_,_,rfl⟩;rw[Zbh hz];refine⟨fun y hy=>?_,?_⟩
  ·rcases mem_append.mp hy with hy | hy
   ·exact hpre.1 y hy
   ·rw[mem_singleton.mp hy]; exact⟨z1,by omega⟩
  ·rw[nodup_append]
   exact⟨hpre.2,by simp,fun a ha b hb e=>z3 (by rw[←mem_singleton.mp hb,←e]; exact ha)⟩
 ·rintro σ H' ⟨s2,hpre,v,v',rfl⟩
  rw[length_map,take_length]at hpre;walk_at "";exact q hpre nl H' (s1.trans s2) n1 (s2 _ _ e1)
def LmOk (ns:List Str) (pcs:List (List Str)) (ls:List Nat):Prop:=Paired (fun pc k=>∃z r,pc=z::r∧idxS z ns=some k) pcs ls∧ls.Nodup
theorem ZpN {α β:Type} {R:α→β→Prop} (hu:∀a b b',R a b→R a b'→b=b'):∀{as:List α} {bs bs':List β},Paired R as bs→Paired R as bs'→bs=bs'
 | _,_,_,.nil,.nil=>rfl
 | _,_,_,.cons h r,.cons h' r'=>by rw[hu _ _ _ h h',ZpN hu r r']
theorem Zro {α β:Type} {R:α→β→Prop}:∀{as:List α} {bs:List β} (i:Nat),Paired R as bs→Paired R (as.take i) (bs.take i)
 | _,_,0,_=>by rw[take_zero,take_zero]; exact .nil
 | _,_,_+1,.nil=>.nil
 | _,_,i+1,.cons h r=>.cons h (Zro i r)
theorem lm_u {ns:List Str} {a:List Str} {b b':Nat} (h:∃z r,a=z::r∧idxS z ns=some b) (h':∃z r,a=z::r∧idxS z ns=some b'):b=b':=by
 obtain⟨z,r,rfl,e⟩:=h;obtain⟨z',r',e1,e'⟩:=h';obtain⟨rfl,_⟩:=List.cons.inj e1;exact Option.some.inj (e.symm.trans e')
theorem few6 {ls:List Nat} (h:∀k∈ls,k < 6) (nd:ls.Nodup):ls.length≤6:=by
 have:=Zws (fun i=>ls.getD i 0) ls.length (List.range 6) (fun i hi=>by
  rw[List.mem_range];apply h;rw[getD_eq_getElem?_getD,List.getElem?_eq_getElem hi]
  exact List.getElem_mem hi) (fun i j hij hj e=>by
  rw[getD_eq_getElem?_getD,getD_eq_getElem?_getD,List.getElem?_eq_getElem (by omega),List.getElem?_eq_getElem hj]at e;have:=Ztx nd (List.getElem?_eq_getElem (l:=ls) (i:=i) (by omega)) (by rw[List.getElem?_eq_getElem hj]; exact congrArg some e.symm)
  omega)
 simpa using this
theorem ZEj {ns:List Str} {pcs:List (List Str)} {ls:List Nat} (h:Paired (fun pc k=>∃z r,pc=z::r∧idxS z ns=some k) pcs ls):∀k∈ls,k < ns.length:=fun k hm=>by
 obtain⟨i,hi,e⟩:=List.getElem_of_mem hm;obtain⟨pc,_,z,r,_,hx⟩:=ZiI h (i:=i) (b:=k) (by rw[List.getElem?_eq_getElem hi,e]);exact(List.getElem?_eq_some_iff.mp (Zkb hx).1).1
def ZwO (t:Ad):Sp:=fun vs H Q E=>∃(o nl:Addr) (ps:List Addr) (pcs:List (List Str)) (ns:List Str),vs=[.ref o,.ref nl]∧H o=some (.lst (ps.map V.ref))∧Paired (fun p pc=>H p=some (.lst (pc.map V.str))) ps pcs∧H nl=some (.lst (ns.map V.str))∧ns.length≤6∧(∀pc∈pcs,∃z r,pc=z::r∧ZeE z)∧(∀ls,LmOk ns pcs ls→∀p H',Same H H'→H p=none→H' p=some (.lst (Zjq ls))→Q (.ref p) H')∧((∀ls,¬LmOk ns pcs ls)→∀H',Same H H'→E (.ref t.Zar) none H')
theorem ZsK (T:Txt K mg t):FnS1 P w K mg base 1 "lamps_in" ["pieces","names"] ((ZwO t)):=by
 refine⟨_,_,T.Zfd.ok1 Zhm (fun vs H Q E h=>?_) (fun cdv A outer s H vs Q E hr h=>?_),T.Zoz,T.Zfd.kp,T.ZoL⟩
 ·obtain⟨o,nl,ps,pcs,ns,rfl,ho,hp,hn,h6,hh,q,kk⟩:=h
  rfl
 obtain⟨o,nl,ps,pcs,ns,rfl,ho,hp,hn,h6,hh,q,kk⟩:=h;have hpl:=Zau hp
 refine⟨_,(Zac (PS.nox (ss 2 Zhm.nd (Zaq Zab)))
   (Zac (ZcI PassesOwn.leaving rfl (Zfz (pv 0)) (sg 3 Zhm.nd)
   (Zac (PS.nox (ss 4 Zhm.nd (Za1 ZaA (pv 3) Zad (fun _ _=>rfl))))
   (Zac (ZaP (PT.nox (PW.pt (Zoq (Zal Zfw (pv 4) (pv 1) (by with_unfolding_all rfl)) (Zjd (Zal Zl7 (ZcX F.plainAttrs_list F.slot_list_index F.type_list_index Zkx (pv 1) (Zaa (pv 4) Zab)) (pv 2) (by with_unfolding_all rfl))))))
   (Zae (ZcY rfl Zle T.ZiL.own rfl T.Zkp (PA.nox (Zaa (Zfy (Zdk (Zny (pv 4)) (Zdk Zai Znz))) Zab))))
   (PSs.nox Zap))
   (PSs.nox (Zae (Za2 (ZcX F.plainAttrs_list F.slot_list_append F.type_list_append ZaU (pv 2) (Zaa (ZcX F.plainAttrs_list F.slot_list_index F.type_list_index Zkx (pv 1) (Zaa (pv 4) Zab)) Zab))))))))
   (PSs.nox (Zae (Zas (pv 2)))))),?_⟩
 walk_at "rd0";refine ZaD (by simp) fun a H1 s1 n1 e1=>?_;walk_at "";refine seqL (xs:=ps.map V.ref) (fun i σ H'=>∃ls,Same H H'∧H' a=some (.lst (Zjq ls))∧LmOk ns (pcs.take i) ls∧∃v3 v4,σ=[some (.ref o),some (.ref nl),some (.ref a),v3,v4]) ⟨[],s1,e1,⟨.nil,nodup_nil⟩,_,_,rfl⟩ (fun i σ H' _ hp=>by obtain⟨_,s,_⟩:=hp; exact SqL.of (s _ _ ho)) ?_ ?_
 ·rintro i x σ H2 hx ⟨ls,s2,e2,⟨L1,L2⟩,v3,v4,rfl⟩
  obtain⟨p,rfl,hpi⟩:=Zgc hx;obtain⟨pc,hpc,ep⟩:=Zbj hp hpi;obtain⟨z,r,rfl,zp⟩:=hh pc (mem_of_getElem? hpc);have ep2:=s2 _ _ ep;have hn2:=s2 _ _ hn;have hl6:=few6 (fun k hk=>Nat.lt_of_lt_of_le (ZEj L1 k hk) h6) L2
  have pre:∀ls',LmOk ns pcs ls'→ls'.take i=ls∧∃k,ls'[i]?=some k∧idxS z ns=some k:=fun ls' ⟨a1,a2⟩=>by
   refine⟨ZpN (R:=fun pc k=>∃z r,pc=z::r∧idxS z ns=some k) (fun _ _ _ h h'=>lm_u h h') (Zro i a1) L1,?_⟩;obtain⟨k,hk,z',r',e,hx⟩:=Zbj a1 hpc;obtain⟨rfl,_⟩:=List.cons.inj e;exact⟨k,hk,hx⟩
  walk_at "";refine ZaO (j:=0) ep2 (v:=.str z) rfl ?_;walk_at "";refine ZCq (.inl hn2) ?_
  cases hix:idxS z ns with
  | none=>
   rw[decide_eq_false (Zm6 hix)];walk_at "";refine Zbn rfl ?_
   (try refine Zbn rfl ?_)
   (try dsimp only)
   refine Zcr ?_;walk_at "";have hpl':(reprText z).length≤900000:=zp;have e0:Str.empty.length=0:=rfl;have ea:=Zak Str.empty (reprText z);have eb:=Zak (Str.empty++reprText z) " is no lamp's name, or changed twice";have ec:Str.length " is no lamp's name, or changed twice" = 36:=rfl;refine⟨_,rfl,ZaQ (by omega),_,rfl,ZaQ (by omega),?_⟩;walk_at "";refine⟨_,rfl,ZaQ (by omega),ZaQ (by omega),?_⟩;walk_at "";exact⟨Nat.le_of_ble_eq_true rfl,kk (fun ls' h=>by obtain⟨_,k,_,e⟩:=pre ls' h; rw[hix]at e; cases e) H2 s2⟩
  | some k=>
   obtain⟨ix1,ix2⟩:=Zkb hix;have hk6:=(List.getElem?_eq_some_iff.mp ix1).1;rw[decide_eq_true (mem_of_getElem? ix1)];walk_at "";refine Za7 rfl ?_;walk_at "";refine⟨tyL hn2,?_⟩;walk_at "";refine Zm2 hn2 ix1 ix2 (by omega) ?_;walk_at "";refine ZAl e2 ?_;walk_at ""
   by_cases hkl:k∈ls
   ·refine Zbn (decide_eq_true hkl) ?_
    have dup:∀ls',¬LmOk ns pcs ls':=fun ls' h=>by
     obtain⟨e,k',hk',hx'⟩:=pre ls' h;rw[hix]at hx'
     cases hx'
     rw[←e]at hkl;obtain⟨j,hj,ej⟩:=List.getElem_of_mem hkl;rw[length_take]at hj;rw[List.getElem_take]at ej;have:=Ztx h.2 (i:=j) (by rw[List.getElem?_eq_getElem (by omega),ej]) hk';omega
    (try refine Zbn rfl ?_)
    (try dsimp only)
    refine Zcr ?_;walk_at "";have hpl':(reprText z).length≤900000:=zp;have e0:Str.empty.length=0:=rfl;have ea:=Zak Str.empty (reprText z);have eb:=Zak (Str.empty++reprText z) " is no lamp's name, or changed twice";have ec:Str.length " is no lamp's name, or changed twice" = 36:=rfl;refine⟨_,rfl,ZaQ (by omega),_,rfl,ZaQ (by omega),?_⟩;walk_at "";refine⟨_,rfl,ZaQ (by omega),ZaQ (by omega),?_⟩;walk_at "";exact⟨Nat.le_of_ble_eq_true rfl,kk dup H2 s2⟩
   refine Za7 (decide_eq_false hkl) ?_;walk_at "";refine⟨tyL e2,?_⟩;walk_at "";refine⟨tyL hn2,?_⟩;walk_at "";refine Zm2 hn2 ix1 ix2 (by omega) ?_;walk_at "";refine ZaZ e2 (by unfold Zjq; rw[length_map]; omega) fun H3 b3 e3=>?_;walk_at "";refine⟨ls++[k],b3.same n1 s2,?_,⟨?_,?_⟩,_,_,rfl⟩
   ·rw[e3]
    unfold Zjq;rw[map_append];rfl
   ·rw[Zbh hpc]
    exact ZaX L1 (.cons ⟨z,r,rfl,hix⟩ .nil)
   ·rw[nodup_append]
    exact⟨L2,by simp,fun a ha b hb e=>hkl (by rw[←mem_singleton.mp hb,←e]; exact ha)⟩
 ·rintro σ H2 ⟨ls,s2,e2,L,v3,v4,rfl⟩
  walk_at "";rw[length_map,hpl,take_length]at L;exact q ls L a H2 s2 n1 e2
structure MvRd (ns a b:List Str) (v:Fm×List (Nat×Fm)):Prop where
 ws:MvWs ("move"::a) b
 gd:Ze7 ns a=some v.1
 cs:Paired (fun pc (c:Nat×Fm)=>∃z r,pc=z::("is" : Str)::r∧idxS z ns=some c.1∧Ze7 ns r=some c.2) (Zb2 b) v.2
 nd:(v.2.map Prod.fst).Nodup
 pa:∀z∈a,ZeE z
 pb:∀p∈Zb2 b,∀z∈p,ZeE z
def Zyy (t:Ad):Sp:=fun vs H Q E=>∃(l nl:Addr) (a b ns:List Str),vs=[.ref l,.ref nl]∧H l=some (.lst ((("move" : Str)::(a++("then" : Str)::b)).map V.str))∧H nl=some (.lst (ns.map V.str))∧ns.length≤6∧MvWs ("move"::a) b∧(∀z∈a,ZeE z)∧(∀p∈Zb2 b,∀z∈p,ZeE z)∧((∀ls,¬LmOk ns (Zb2 b) ls)→∀H',Same H H'→E (.ref t.Zar) none H')∧(∀ls,LmOk ns (Zb2 b) ls→(∀v,¬MvRd ns a b v)→∀H',Same H H'→E (.ref t.Zag) none H')∧(∀v,MvRd ns a b v→∀x H',Same H H'→MvW t H' x v→Q (.ref x) H')
theorem ZzP {pc:List Str} (h:2≤pc.length∧pc[1]?=some ("is" : Str)):∃z r,pc=z::("is" : Str)::r:=by
 match pc,h with
 | z::y::r,h=>
  have:y = "is":=by simpa using h.2
  exact⟨z,r,by rw[this]⟩
theorem Zux (T:Txt K mg t):FnS1 P w K mg base 12 "move_in" ["found","names"] ((Zyy t)):=by
 refine⟨_,_,T.Zgr.ok1 Zer (fun vs H Q E h=>?_) (fun cdv A outer s H vs Q E hr h=>?_),T.Zqr,T.Zgr.kp,T.Zq8⟩
 ·obtain⟨l,nl,a,b,ns,rfl,hl,hn,h6,M,pa,pb,k1,k2,q⟩:=h
  rfl
 obtain⟨l,nl,a,b,ns,rfl,hl,hn,h6,M,pa,pb,k1,k2,q⟩:=h;have Zji:=Zl6 (P:=P) (w:=w) (base:=base) T;have ZtV:=ZsK (P:=P) (w:=w) (base:=base) T;have ZfM:=Zkz (P:=P) (w:=w) (base:=base) T;have ZBG:=ZAO (P:=P) (w:=w) (base:=base) T;have hln:=M.ln;have hl':H l=some (.lst (((("move" : Str)::a)++("then" : Str)::b).map V.str)):=hl
 refine⟨_,(Zac (PS.nox (ss 2 Zer.nd (Za8 Zji hr (Zaa (pv 0) Zab))))
   (Zac (ss 3 Zer.nd (Zfx ZiQ ZtV hr (Zaa (pv 2) (Zaa (pv 1) Zab))))
   (Zac (ss 4 Zer.nd (Zfx ZiQ ZfM hr (Zaa (Zbp Zc8 (pv 0) (ZbK Zad) (ZbK (ZcX F.plainAttrs_list F.slot_list_index F.type_list_index Zkx (pv 0) (Zaa Zai Zab)))) (Zaa (pv 1) Zab))))
   (Zac (PS.nox (ss 5 Zer.nd (Zaq Zab)))
   (Zac (ZcI PassesOwn.leaving rfl (ZDh rfl T.B.zip (Zaa (pv 3) (Zaa (pv 2) Zab))) (Zwq rfl (ZiK (sg 6 Zer.nd) (ZiK (sg 7 Zer.nd) ZsS)))
   (Zae (Za2 (ZcX F.plainAttrs_list F.slot_list_append F.type_list_append ZaU (pv 5) (Zaa (Zjc (Zaa (pv 6) (Zaa (Zfx ZiQ ZfM hr (Zaa (Zbp Zc8 (pv 7) (ZbK Zad) Zce) (Zaa (pv 1) Zab))) Zab))) Zab)))))
   (PSs.nox (Zae (Zas (ZpP ZBG hr (Zaa (pv 4) (Zaa (pv 5) Zab))))))))))),?_⟩
 walk_at "rd0";refine⟨l,"move"::a,b,rfl,hl',M.na,M.ln,fun o ps H1 s1 n1 e1 pp=>?_⟩;walk_at "";have hpl:=Zau pp;refine⟨o,nl,ps,Zb2 b,ns,rfl,e1,Zan (fun _ _ z=>z.2) pp,s1 _ _ hn,h6,fun pc hpc=>?_,fun ls L la H2 s2 n2 e2=>?_,fun hno H2 s2=>k1 hno H2 (s1.trans s2)⟩
 ·obtain⟨z,r,rfl⟩:=ZzP (M.pc pc hpc)
  exact⟨z,_,rfl,pb _ hpc z mem_cons_self⟩
 have hll:=Zau L.1;walk_at "";refine⟨tyL ((s1.trans s2) _ _ hl'),?_⟩;walk_at "";refine Zm2 ((s1.trans s2) _ _ hl') (ZmA M.na).1 (ZmA M.na).2 (by omega) ?_;walk_at ""
 have ec:cutV (((("move" : Str)::a)++("then" : Str)::b).map V.str) (some 1) (some (((("move" : Str)::a).length:Nat):Int))=a.map V.str:=by
  have:=Zz1 (((("move" : Str)::a)++("then" : Str)::b).map V.str) 1 (("move" : Str)::a).length;refine this.trans ?_;rw[←map_drop,←map_take]
  congr 1
  simp
 refine ZgD (SqL.of ((s1.trans s2) _ _ hl')) ec fun l3 H3 s3 n3 e3=>?_;have w3:=s1.trans (s2.trans s3);walk_at "";refine⟨l3,nl,a,ns,rfl,e3,w3 _ _ hn,by omega,by simp only [length_cons]at hln; omega,pa,fun h H4 s4=>k2 ls L (fun v M'=>by rw[M'.gd]at h; cases h) H4 (w3.trans s4),fun f hf g H4 s4 fE=>?_⟩;walk_at "";refine ZaD (by simp) fun cl H5 s5 n5 e5=>?_;walk_at "";have w5:=w3.trans (s4.trans s5);have e2':=(s3.trans (s4.trans s5)) _ _ e2;have e1':=(s2.trans (s3.trans (s4.trans s5))) _ _ e1;have n5':H cl=none:=(w3.trans s4).free n5;have nla:la≠cl:=Zaf ((s3.trans s4) _ _ e2) n5;have no:o≠cl:=Zaf ((s2.trans (s3.trans s4)) _ _ e1) n5
 have nps:∀a∈ps,a≠cl:=fun a ha=>by
  obtain⟨pc,_,e⟩:=ZiJ pp a ha;exact Zaf ((s2.trans (s3.trans s4)) _ _ e) n5
 have hpc:=Zwl b
 have hnl:(Zjq ls).length=(Zb2 b).length:=by unfold Zjq; rw[length_map,←hll]
 refine⟨la,o,_,_,rfl,SqL.of e2',SqL.of e1',?_⟩;refine ZEn (Zb2 b).length (by rw[hnl,length_map,hpl]; omega) (fun i σ H'=>Same H H'∧FmE t H' g f∧H' la=some (.lst (Zjq ls))∧H' o=some (.lst (ps.map V.ref))∧Paired (fun p pc=>H' p=some (.lst (pc.map V.str))) ps (Zb2 b)∧(∃hs cs,H' cl=some (.lst (hs.map V.ref))∧Paired (ChW t H') hs cs∧cs.length=i∧cs.map Prod.fst=ls.take i∧Paired (fun pc (c:Nat×Fm)=>∃z r,pc=z::("is" : Str)::r∧idxS z ns=some c.1∧Ze7 ns r=some c.2) ((Zb2 b).take i) cs)∧∃v6 v7,σ=[some (.ref l),some (.ref nl),some (.ref o),some (.ref la),some (.ref g),some (.ref cl),v6,v7]) ⟨w5,fE.same s5,e2',e1',Zan (fun _ _ z=>(s2.trans (s3.trans (s4.trans s5))) _ _ z.2) pp,⟨[],[],e5,.nil,rfl,rfl,.nil⟩,_,_,rfl⟩ (fun i σ H' _ hp=>⟨SqL.of hp.2.2.1,SqL.of hp.2.2.2.1⟩) ?_ ?_
 ·rintro i x y T' σ H6 H7 hx hy ⟨s6,f6,e6,o6,p6,⟨hs,cs,c6,d6,hcl,hfst,hrd⟩,v6,v7,rfl⟩ s7 n7 eT
  obtain⟨p,rfl,hpi⟩:=Zgc hy;obtain⟨pc,hpc',ep⟩:=Zbj p6 hpi;obtain⟨k,hki,z',r',epc,hix⟩:=Zbj L.1 hpc';obtain⟨z,r,rfl⟩:=ZzP (M.pc pc (mem_of_getElem? hpc'));obtain⟨rfl,_⟩:=List.cons.inj epc
  have ex:x=.int (k:Int):=by
   unfold Zjq at hx;rw[getElem?_map,hki]at hx;exact(Option.some.inj hx).symm
  subst ex;have hil:=(List.getElem?_eq_some_iff.mp hpc').1;have hmem:=mem_of_getElem? hpc';have hle:=ZtD b _ hmem;simp only [length_cons]at hle hln;refine ZAk eT ?_;walk_at "";refine⟨tyL (s7 _ _ c6),?_⟩;walk_at "";refine ZgD (SqL.of (s7 _ _ ep)) (Zc9 (k:=2) (by simp)) fun l8 H8 s8 n8 e8=>?_;walk_at "";have w8:=s7.trans s8;refine⟨l8,nl,r,ns,rfl,e8,(s6.trans w8) _ _ hn,by omega,by omega,fun z hz=>pb _ hmem z (mem_cons_of_mem _ (mem_cons_of_mem _ hz)),fun h H9 s9=>k2 ls L (fun v M'=>?_) H9 (s6.trans (w8.trans s9)),fun f' hf' g9 H9 s9 fE9=>?_⟩
  ·obtain⟨c,_,z2,r2,e2,_,hr2⟩:=Zbj M'.cs hpc'
   obtain⟨_,e3⟩:=List.cons.inj e2;obtain⟨_,rfl⟩:=List.cons.inj e3;rw[h]at hr2
   cases hr2
  walk_at "";refine Zoc (by simp) fun tp H10 s10 n10 e10=>?_;walk_at "";have w10:=w8.trans (s9.trans s10);have c10:=w10 _ _ c6;have hsl:=Zau d6;refine ZaZ c10 (by rw[length_map]; omega) fun H11 b11 e11=>?_;walk_at "";have x11:=b11.ext c10;refine⟨b11.same n5' (s6.trans w10),(f6.ext (Ext.of w10)).ext x11,b11 _ _ nla (w10 _ _ e6),b11 _ _ no (w10 _ _ o6),Zdj p6 fun a pc ha e=>b11 _ _ (nps a ha) (w10 _ _ e),⟨hs++[tp],cs++[(k,f')],by rw[e11,map_append]; rfl,ZaX (Zan (fun _ _ z=>(z.ext (Ext.of w10)).ext x11) d6) (.cons ⟨g9,x11 _ _ e10 (fun _ z=>nomatch z),(fE9.ext (Ext.of s10)).ext x11⟩ .nil),by rw[length_append,hcl]; rfl,?_,?_⟩,_,_,rfl⟩
  ·rw[map_append,hfst,Zbh hki]
   rfl
  ·rw[Zbh hpc']
   exact ZaX hrd (.cons ⟨z,r,rfl,hix,hf'⟩ .nil)
 ·rintro σ H6 ⟨s6,f6,e6,o6,p6,⟨hs,cs,c6,d6,hcl,hfst,hrd⟩,v6,v7,rfl⟩
  walk_at "";rw[take_length]at hrd;rw[hll,take_length]at hfst;refine ZAn (v:=(f,cs)) c6 f6 d6 fun x H7 s7 n7 mv=>?_;exact q (f,cs) ⟨M,hf,hrd,by show(cs.map Prod.fst).Nodup; rw[hfst]; exact L.2,pa,pb⟩ x H7 (s6.trans s7) mv
inductive Ent
 | st (f:Fm)
 | bd (f:Fm)
 | mv (v:Fm×List (Nat×Fm))
inductive EntW (ns:List Str):List Str→Ent→Prop
 | st {r:List Str} {f:Fm}:Ze7 ns r=some f→(∀z∈r,ZeE z)→r.length≤90000→EntW ns ("start"::r) (.st f)
 | bd {r:List Str} {f:Fm}:Ze7 ns r=some f→(∀z∈r,ZeE z)→r.length≤90000→EntW ns ("bad"::r) (.bd f)
 | mv {a b:List Str} {v:Fm×List (Nat×Fm)}:MvRd ns a b v→EntW ns ("move"::(a++("then" : Str)::b)) (.mv v)
def ZD5 (t:Ad) (H:Hp) (x:Addr):Ent→Prop
 | .st f=>FmE t H x f
 | .bd f=>FmE t H x f
 | .mv v=>MvW t H x v
inductive BadT (ns:List Str):List Str→Bd→Prop
 | st {r:List Str}:Ze7 ns r=none→(∀z∈r,ZeE z)→r.length≤90000→BadT ns ("start"::r) .form
 | bd {r:List Str}:Ze7 ns r=none→(∀z∈r,ZeE z)→r.length≤90000→BadT ns ("bad"::r) .form
 | nm {a b:List Str}:MvWs ("move"::a) b→(∀z∈a,ZeE z)→(∀p∈Zb2 b,∀z∈p,ZeE z)→(∀ls,¬LmOk ns (Zb2 b) ls)→BadT ns ("move"::(a++("then" : Str)::b)) .name
 | mf {a b:List Str} {ls:List Nat}:MvWs ("move"::a) b→(∀z∈a,ZeE z)→(∀p∈Zb2 b,∀z∈p,ZeE z)→LmOk ns (Zb2 b) ls→(∀v,¬MvRd ns a b v)→BadT ns ("move"::(a++("then" : Str)::b)) .form
def ZwT (t:Ad):Sp:=fun vs H Q E=>∃(l nl:Addr) (ws ns:List Str),vs=[.ref l,.ref nl]∧H l=some (.lst (ws.map V.str))∧H nl=some (.lst (ns.map V.str))∧ns.length≤6∧((∃k,BadT ns ws k∧∀H',Same H H'→E (clB t k) none H')∨∃e,EntW ns ws e∧∀x H',Same H H'→ZD5 t H' x e→Q (.ref x) H')
theorem ZCO {ns a b:List Str} {v:Fm×List (Nat×Fm)} (M:MvRd ns a b v):LmOk ns (Zb2 b) (v.2.map Prod.fst):=⟨ZoR (fun _ _ ⟨z,r,e,hx,_⟩=>⟨z,_,e,hx⟩) M.cs,M.nd⟩
theorem mv_u {ns a b:List Str} {v v':Fm×List (Nat×Fm)} (M:MvRd ns a b v) (M':MvRd ns a b v'):v=v':=by
 have e1:v.1=v'.1:=Option.some.inj (M.gd.symm.trans M'.gd)
 have e2:v.2=v'.2:=ZpN (fun pc c c' ⟨z,r,e,h1,h2⟩ ⟨z',r',e',h1',h2'⟩=>by
  obtain⟨rfl,e3⟩:=List.cons.inj (e.symm.trans e');obtain⟨_,rfl⟩:=List.cons.inj e3
  exact Prod.ext (Option.some.inj (h1.symm.trans h1')) (Option.some.inj (h2.symm.trans h2'))) M.cs M'.cs
 exact Prod.ext e1 e2
theorem ZsM (T:Txt K mg t):FnS1 P w K mg base 14 "thing_in" ["found","names"] ((ZwT t)):=by
 refine⟨_,_,T.Zff.ok1 Zs2 (fun vs H Q E h=>?_) (fun cdv A outer s H vs Q E hr h=>?_),T.ZoB,T.Zff.kp,T.ZoN⟩
 ·obtain⟨l,nl,ws,ns,rfl,hl,hn,h6,E0⟩:=h
  rfl
 obtain⟨l,nl,ws,ns,rfl,hl,hn,h6,E0⟩:=h;have ZuQ:=Zux (P:=P) (w:=w) (base:=base) T;have ZfM:=Zkz (P:=P) (w:=w) (base:=base) T
 refine⟨_,(Zac (ZaP (PT.nox (Zal (ZaF hr.units) (Za1 ZaA (pv 0) Zad (fun _ _=>rfl)) Zai (Zat _)))
   (Zae (Zas (Zfx ZiQ ZuQ hr (Zaa (pv 0) (Zaa (pv 1) Zab)))))
   (PSs.nox Zap))
   (Zae (Zas (Zfx ZiQ ZfM hr (Zaa (Zbp Zc8 (pv 0) (ZbK Zad) Zce) (Zaa (pv 1) Zab)))))),?_⟩
 walk_at "rd0"
 rcases E0 with⟨k,E0,q⟩ | ⟨e,E0,q⟩
 ·cases E0 with
  | st h1 h2 h3=>
   refine ZaO (j:=0) hl (v:=.str "start") rfl ?_;walk_at "";refine Za7 (by decide) ?_;walk_at "";refine ZgD (SqL.of hl) (Zc9 (k:=1) (by simp)) fun l2 H1 s1 n1 e1=>?_;walk_at "";exact⟨l2,nl,_,ns,rfl,e1,s1 _ _ hn,by omega,by omega,h2,fun _ H2 s2=>q H2 (s1.trans s2),fun f' hf=>absurd (h1.symm.trans hf) (fun z=>nomatch z)⟩
  | bd h1 h2 h3=>
   refine ZaO (j:=0) hl (v:=.str "bad") rfl ?_;walk_at "";refine Za7 (by decide) ?_;walk_at "";refine ZgD (SqL.of hl) (Zc9 (k:=1) (by simp)) fun l2 H1 s1 n1 e1=>?_;walk_at "";exact⟨l2,nl,_,ns,rfl,e1,s1 _ _ hn,by omega,by omega,h2,fun _ H2 s2=>q H2 (s1.trans s2),fun f' hf=>absurd (h1.symm.trans hf) (fun z=>nomatch z)⟩
  | nm h1 h2 h3 h4=>
   refine ZaO (j:=0) hl (v:=.str "move") rfl ?_;walk_at "";refine Zbn (by decide) ?_;walk_at "";exact⟨l,nl,_,_,ns,rfl,hl,hn,h6,h1,h2,h3,fun _=>q,fun ls L=>absurd L (h4 ls),fun v M=>absurd (ZCO M) (h4 _)⟩
  | mf h1 h2 h3 h4 h5=>
   refine ZaO (j:=0) hl (v:=.str "move") rfl ?_;walk_at "";refine Zbn (by decide) ?_;walk_at "";exact⟨l,nl,_,_,ns,rfl,hl,hn,h6,h1,h2,h3,fun h=>absurd h4 (h _),fun _ _ _=>q,fun v M=>absurd M (h5 _)⟩
 ·cases E0 with
  | st h1 h2 h3=>
   refine ZaO (j:=0) hl (v:=.str "start") rfl ?_;walk_at "";refine Za7 (by decide) ?_;walk_at "";refine ZgD (SqL.of hl) (Zc9 (k:=1) (by simp)) fun l2 H1 s1 n1 e1=>?_;walk_at "";refine⟨l2,nl,_,ns,rfl,e1,s1 _ _ hn,by omega,by omega,h2,fun h=>(by rw[h1]at h; cases h),fun f' hf y H2 s2 fE=>?_⟩;obtain rfl:=Option.some.inj (h1.symm.trans hf);exact q y H2 (s1.trans s2) fE
  | bd h1 h2 h3=>
   refine ZaO (j:=0) hl (v:=.str "bad") rfl ?_;walk_at "";refine Za7 (by decide) ?_;walk_at "";refine ZgD (SqL.of hl) (Zc9 (k:=1) (by simp)) fun l2 H1 s1 n1 e1=>?_;walk_at "";refine⟨l2,nl,_,ns,rfl,e1,s1 _ _ hn,by omega,by omega,h2,fun h=>(by rw[h1]at h; cases h),fun f' hf y H2 s2 fE=>?_⟩;obtain rfl:=Option.some.inj (h1.symm.trans hf);exact q y H2 (s1.trans s2) fE
  | mv M=>
   refine ZaO (j:=0) hl (v:=.str "move") rfl ?_;walk_at "";refine Zbn (by decide) ?_;walk_at "";exact⟨l,nl,_,_,ns,rfl,hl,hn,h6,M.ws,M.pa,M.pb,fun h=>absurd (ZCO M) (h _),fun _ _ h=>absurd M (h _),fun v' M' x H1 s1 mv=>q x H1 s1 (by rw[mv_u M M']; exact mv)⟩
structure LmpW (ns:List Str):Prop where
 n1:1≤ns.length
 n6:ns.length≤6
 no:∀z∈ns,z∉noNm∧z.length≤8
 nd:ns.Nodup
inductive FirstB:Str→Bd→Prop
 | ln {z:Str}:NoWs z→FirstB z .line
 | hd {z x:Str} {r:List Str}:LnW z (x::r)→x≠"lamps"→FirstB z .line
 | ct {z:Str} {r:List Str}:LnW z ("lamps"::r)→r.length≤90000→¬(1≤r.length∧r.length≤6)→FirstB z .line
 | nm {z:Str} {ns:List Str}:LnW z ("lamps"::ns)→1≤ns.length→ns.length≤6→(∀y∈ns,ZeE y∧y.length≤100000)→¬NmOk ns→FirstB z .name
def ZBl (t:Ad):Sp:=fun vs H Q E=>∃(z:Str),vs=[.str z]∧((∃k,FirstB z k∧∀H',Same H H'→E (clB t k) none H')∨∃ns,LnW z ("lamps"::ns)∧LmpW ns∧(∀y∈ns,ZeE y)∧∀p H',Same H H'→H p=none→H' p=some (.lst (ns.map V.str))→Q (.ref p) H')
theorem Zlg (T:Txt K mg t):FnS1 P w K mg base 9 "names_of_first" ["line"] ((ZBl t)):=by
 refine⟨_,_,T.ZbS.ok1 ZgJ (fun vs H Q E h=>?_) (fun cdv A outer s H vs Q E hr h=>?_),T.Zht,T.ZbS.kp,T.Zhz⟩
 ·obtain⟨z,rfl,E0⟩:=h
  rfl
 obtain⟨z,rfl,E0⟩:=h;have Zfo:=ZhA (P:=P) (w:=w) (base:=base) T;have ZhK:=Zky (P:=P) (w:=w) (base:=base) T;have ZtW:=ZsL (P:=P) (w:=w) (base:=base) T
 refine⟨_,(Zac (ss 1 ZgJ.nd (Zfx ZiQ Zfo hr (Zaa (pv 0) Zab)))
   (Zac (ZaP (PT.nox (Zal (ZkB hr.units) (Za1 ZaA (pv 1) Zad (fun _ _=>rfl)) Zai (Zat _)))
   (Zae (ZcY rfl Zle T.ZeA.own rfl T.Ze4 (PA.nox (Zaa Zai Zab))))
   (PSs.nox Zap))
   (Zac (Za2 (Zfx ZiQ ZhK hr (Zaa (pv 1) Zab)))
   (Zae (Zas (Zfx ZiQ ZtW hr (Zaa (pv 1) Zab))))))),?_⟩
 walk_at "rd0"
 rcases E0 with⟨k,E0,q⟩ | ⟨ns,h,L,hp,q⟩
 ·cases E0 with
  | ln h=>exact⟨z,rfl,.inl ⟨h,q⟩⟩
  | hd h hx=>
   rename_i x r
   refine⟨z,rfl,.inr ⟨_,h,fun p H1 s1 n1 e1=>?_⟩⟩;walk_at "";refine ZaO (j:=0) e1 (v:=.str x) rfl ?_;walk_at "";refine Zbn (by simp only [Bool.not_eq_true',decide_eq_false_iff_not,decide_eq_true_eq]; exact hx) ?_
   (try refine Zbn rfl ?_)
   (try dsimp only)
   refine Zcr ?_;walk_at "";exact⟨Nat.le_of_ble_eq_true rfl,q H1 s1⟩
  | ct h hl hc=>
   refine⟨z,rfl,.inr ⟨_,h,fun p H1 s1 n1 e1=>?_⟩⟩;walk_at "";refine ZaO (j:=0) e1 (v:=.str "lamps") rfl ?_;walk_at "";refine Za7 (by decide) ?_;walk_at "";exact⟨p,"lamps",_,rfl,e1,hl,fun f=>absurd (f.1 rfl) hc,fun _ H2 s2=>q H2 (s1.trans s2)⟩
  | nm h h1 h6 hpn hno=>
   rename_i ns
   refine⟨z,rfl,.inr ⟨_,h,fun p H1 s1 n1 e1=>?_⟩⟩;walk_at "";refine ZaO (j:=0) e1 (v:=.str "lamps") rfl ?_;walk_at "";refine Za7 (by decide) ?_;walk_at "";refine⟨p,"lamps",ns,rfl,e1,by omega,fun _ H2 s2=>?_,fun f=>absurd (⟨fun _=>⟨h1,h6⟩,fun e=>absurd e (by decide)⟩ : FmOk "lamps" ns) f⟩;walk_at "";exact⟨p,"lamps",ns,rfl,s2 _ _ e1,by omega,hpn,fun f=>absurd f hno,fun _ H3 s3=>q H3 (s1.trans (s2.trans s3))⟩
 ·refine⟨z,rfl,.inr ⟨_,h,fun p H1 s1 n1 e1=>?_⟩⟩
  walk_at "";refine ZaO (j:=0) e1 (v:=.str "lamps") rfl ?_;walk_at "";refine Za7 (by decide) ?_;walk_at "";have n6:=L.n6;refine⟨p,"lamps",ns,rfl,e1,by omega,fun _ H2 s2=>?_,fun f=>absurd (⟨fun _=>⟨L.n1,L.n6⟩,fun e=>absurd e (by decide)⟩ : FmOk "lamps" ns) f⟩;walk_at "";exact⟨p,"lamps",ns,rfl,s2 _ _ e1,by omega,fun y hy=>⟨hp y hy,by have:=(L.no y hy).2; omega⟩,fun _ p3 H3 s3 n3 e3=>q p3 H3 (s1.trans (s2.trans s3)) ((s1.trans s2).free n3) e3,fun f=>absurd ⟨L.no,L.nd⟩ f⟩
def stE (es:List Ent):List Fm:=es.filterMap fun | .st f=>some f | _=>none
def bdE (es:List Ent):List Fm:=es.filterMap fun | .bd f=>some f | _=>none
def mvE (es:List Ent):List (Fm×List (Nat×Fm)):=es.filterMap fun | .mv v=>some v | _=>none
inductive BadL (ns:List Str):Str→Bd→Prop
 | ln {z:Str}:NoWs z→BadL ns z .line
 | hd {z x:Str} {r:List Str}:LnW z (x::r)→x∉(["start","bad","move"]:List Str)→BadL ns z .line
 | mv {z:Str} {r:List Str}:LnW z ("move"::r)→r.length≤90000→¬MvOk ("move"::r)→BadL ns z .line
 | th {z:Str} {ws:List Str} {k:Bd}:LnW z ws→BadT ns ws k→BadL ns z k
def ZwQ (t:Ad):Sp:=fun vs H Q E=>∃(l:Addr) (zs:List Str),vs=[.ref l]∧H l=some (.lst (zs.map V.str))∧zs.length≤1000∧
 ((zs=[]∧E (.ref t.Zao) none H)∨(∃z r k,zs=z::r∧FirstB z k∧∀H',Same H H'→E (clB t k) none H')∨
 ∃z0 ns gs es rest,zs=z0::(gs++rest)∧LnW z0 ("lamps"::ns)∧LmpW ns∧(∀y∈ns,ZeE y)∧Paired (fun z e=>∃ws,LnW z ws∧EntW ns ws e) gs es∧(rest=[]→∀x H',Same H H'→MacW t H' x ns (stE es) (bdE es) (mvE es)→Q (.ref x) H')∧(rest≠[]→∃z r k,rest=z::r∧BadL ns z k∧∀H',Same H H'→E (clB t k) none H'))
def Zyv:List Str:=["start","bad","move"]
def thK (as:List Addr):List (Key×V):=List.zipWith (fun s a=>((Sum.inr s:Key),V.ref a)) Zyv as
structure MI (t:Ad) (H H':Hp) (d s b m:Addr) (ps pb pv:List Addr) (es:List Ent):Prop where
 sm:Same H H'
 ed:H' d=some (.dK (thK [s,b,m]))
 e1:H' s=some (.lst (ps.map V.ref))
 e2:H' b=some (.lst (pb.map V.ref))
 e3:H' m=some (.lst (pv.map V.ref))
 f1:H s=none
 f2:H b=none
 f3:H m=none
 d1:s≠b
 d2:s≠m
 d3:b≠m
 p1:Paired (FmE t H') ps (stE es)
 p2:Paired (FmE t H') pb (bdE es)
 p3:Paired (MvW t H') pv (mvE es)
theorem MI.same {H H' H'':Hp} {d s b m:Addr} {ps pb pv:List Addr} {es:List Ent} (I:MI t H H' d s b m ps pb pv es) (x:Same H' H''):MI t H H'' d s b m ps pb pv es:=
 ⟨I.sm.trans x,x _ _ I.ed,x _ _ I.e1,x _ _ I.e2,x _ _ I.e3,I.f1,I.f2,I.f3,I.d1,I.d2,I.d3,Zan (fun _ _ z=>z.ext (Ext.of x)) I.p1,Zan (fun _ _ z=>z.ext (Ext.of x)) I.p2,Zan (fun _ _ z=>z.ext (Ext.of x)) I.p3⟩
theorem Zp4 (es:List Ent) (e:Ent):stE (es++[e])=stE es++stE [e]:=filterMap_append ..
theorem Zo9 (es:List Ent) (e:Ent):bdE (es++[e])=bdE es++bdE [e]:=filterMap_append ..
theorem ZpE (es:List Ent) (e:Ent):mvE (es++[e])=mvE es++mvE [e]:=filterMap_append ..
theorem MI.ne {H H':Hp} {d s b m:Addr} {ps pb pv:List Addr} {es:List Ent} (I:MI t H H' d s b m ps pb pv es):d≠s∧d≠b∧d≠m:=⟨ZdI I.ed I.e1 (fun z=>nomatch z),ZdI I.ed I.e2 (fun z=>nomatch z),ZdI I.ed I.e3 (fun z=>nomatch z)⟩
theorem MI.st {H H' H'':Hp} {d s b m y:Addr} {ps pb pv:List Addr} {es:List Ent} {f:Fm} (I:MI t H H' d s b m ps pb pv es) (h:FmE t H' y f) (c:But s H' H'') (e:H'' s=some (.lst (ps.map V.ref++[V.ref y]))):MI t H H'' d s b m (ps++[y]) pb pv (es++[.st f]):=by
 have x:=c.ext I.e1;refine⟨c.same I.f1 I.sm,c _ _ I.ne.1 I.ed,by rw[e,map_append]; rfl,c _ _ I.d1.symm I.e2,c _ _ I.d2.symm I.e3,I.f1,I.f2,I.f3,I.d1,I.d2,I.d3,?_,?_,?_⟩
 ·rw[Zp4]; exact ZaX (Zan (fun _ _ z=>z.ext x) I.p1) (.cons (h.ext x) .nil)
 ·rw[Zo9]; exact(append_nil (bdE es)).symm ▸ Zan (fun _ _ z=>z.ext x) I.p2
 ·rw[ZpE]; exact(append_nil (mvE es)).symm ▸ Zan (fun _ _ z=>z.ext x) I.p3
theorem MI.bd {H H' H'':Hp} {d s b m y:Addr} {ps pb pv:List Addr} {es:List Ent} {f:Fm} (I:MI t H H' d s b m ps pb pv es) (h:FmE t H' y f) (c:But b H' H'') (e:H'' b=some (.lst (pb.map V.ref++[V.ref y]))):MI t H H'' d s b m ps (pb++[y]) pv (es++[.bd f]):=by
 have x:=c.ext I.e2;refine⟨c.same I.f2 I.sm,c _ _ I.ne.2.1 I.ed,c _ _ I.d1 I.e1,by rw[e,map_append]; rfl,c _ _ I.d3.symm I.e3,I.f1,I.f2,I.f3,I.d1,I.d2,I.d3,?_,?_,?_⟩
 ·rw[Zp4]; exact(append_nil (stE es)).symm ▸ Zan (fun _ _ z=>z.ext x) I.p1
 ·rw[Zo9]; exact ZaX (Zan (fun _ _ z=>z.ext x) I.p2) (.cons (h.ext x) .nil)
 ·rw[ZpE]; exact(append_nil (mvE es)).symm ▸ Zan (fun _ _ z=>z.ext x) I.p3
theorem MI.mv {H H' H'':Hp} {d s b m y:Addr} {ps pb pv:List Addr} {es:List Ent} {v:Fm×List (Nat×Fm)} (I:MI t H H' d s b m ps pb pv es) (h:MvW t H' y v) (c:But m H' H'') (e:H'' m=some (.lst (pv.map V.ref++[V.ref y]))):MI t H H'' d s b m ps pb (pv++[y]) (es++[.mv v]):=by
 have x:=c.ext I.e3;refine⟨c.same I.f3 I.sm,c _ _ I.ne.2.2 I.ed,c _ _ I.d2 I.e1,c _ _ I.d3 I.e2,by rw[e,map_append]; rfl,I.f1,I.f2,I.f3,I.d1,I.d2,I.d3,?_,?_,?_⟩
 ·rw[Zp4]; exact(append_nil (stE es)).symm ▸ Zan (fun _ _ z=>z.ext x) I.p1
 ·rw[Zo9]; exact(append_nil (bdE es)).symm ▸ Zan (fun _ _ z=>z.ext x) I.p2
 ·rw[ZpE]; exact ZaX (Zan (fun _ _ z=>z.ext x) I.p3) (.cons (h.ext x) .nil)
theorem EntW.hd {ns ws:List Str} {e:Ent} (h:EntW ns ws e):∃x r,ws=x::r∧x∈Zyv∧r.length≤90000∧FmOk x r:=by
 cases h with
 | st _ _ h=>exact⟨_,_,rfl,by decide,h,fun h=>absurd h (by decide),fun h=>absurd h (by decide)⟩
 | bd _ _ h=>exact⟨_,_,rfl,by decide,h,fun h=>absurd h (by decide),fun h=>absurd h (by decide)⟩
 | mv M=>exact⟨_,_,rfl,by decide,by have:=M.ws.ln; simp only [length_cons,length_append]at this ⊢; omega,fun h=>absurd h (by decide),fun _=>⟨_,_,rfl,M.ws⟩⟩
theorem Zx4 {a b:List Str} (M:MvWs ("move"::a) b):(a++("then" : Str)::b).length≤90000∧FmOk "move" (a++("then" : Str)::b):=⟨by have:=M.ln; simp only [length_cons,length_append]at this ⊢; omega,fun h=>absurd h (by decide),fun _=>⟨_,_,rfl,M⟩⟩
theorem BadT.hd {ns ws:List Str} {k:Bd} (h:BadT ns ws k):∃x r,ws=x::r∧x∈Zyv∧r.length≤90000∧FmOk x r:=by
 cases h with
 | st _ _ h=>exact⟨_,_,rfl,by decide,h,fun h=>absurd h (by decide),fun h=>absurd h (by decide)⟩
 | bd _ _ h=>exact⟨_,_,rfl,by decide,h,fun h=>absurd h (by decide),fun h=>absurd h (by decide)⟩
 | nm M _ _ _=>exact⟨_,_,rfl,by decide,(Zx4 M).1,(Zx4 M).2⟩
 | mf M _ _ _ _=>exact⟨_,_,rfl,by decide,(Zx4 M).1,(Zx4 M).2⟩
theorem ZAu {σ:St} {H:Hp} {Q:VK} (k:∀d H',Same H H'→H d=none→H' d=some (.dK [])→Q (.ref d) H'):ZzL σ H Q:=fun d hd=>k d _ (Ze9 hd _) hd ZaH
theorem ZCf {σ:St} {H:Hp} {td ty tv:TE} {D:Ends} (h:tv σ H fun v H1=>td σ H1 fun x H2=>ty σ H2 fun y H3=>∃a H4,x=.ref a∧DPut H3 a y v H4∧D.nx σ H4):ZDy td ty tv D σ H:=h
theorem ZDR (es:List Ent):(stE es).length≤es.length∧(bdE es).length≤es.length∧(mvE es).length≤es.length:=⟨List.length_filterMap_le ..,List.length_filterMap_le ..,List.length_filterMap_le ..⟩
theorem ZkA (T:Txt K mg t):FnS1 P w K mg base 16 "machine_of" ["lines"] ((ZwQ t)):=by
 refine⟨_,_,T.Zdy.ok1 ZcZ (fun vs H Q E h=>?_) (fun cdv A outer s H vs Q E hr h=>?_),T.ZlT,T.Zdy.kp,T.Zl4⟩
 ·obtain⟨l,zs,rfl,hl,hz,C⟩:=h
  rfl
 obtain⟨l,zs,rfl,hl,hz,C⟩:=h;have Zmf:=Zlg (P:=P) (w:=w) (base:=base) T;have Zfo:=ZhA (P:=P) (w:=w) (base:=base) T;have ZhK:=Zky (P:=P) (w:=w) (base:=base) T;have ZtX:=ZsM (P:=P) (w:=w) (base:=base) T;have ZuT:=Zuw (P:=P) (w:=w) (base:=base) T
 refine⟨_,(Zac (ZaP (PT.nox (Zal (ZaF hr.units) (Zaw ZaE rfl T.B.len ZbV (Zaa (pv 0) Zab)) Zad (Zat _)))
   (Zae (ZcY rfl Zle T.ZeA.own rfl T.Ze4 (PA.nox (Zaa Zai Zab))))
   (PSs.nox Zap))
   (Zac (ss 1 ZcZ.nd (Zfx ZiQ Zmf hr (Zaa (Za1 ZaA (pv 0) Zad (fun _ _=>rfl)) Zab)))
   (Zac (PS.nox (ss 2 ZcZ.nd Zye))
   (Zac (PS.nox (ZcI PassesOwn.never rfl (Zfz (Zop rfl T.g_SORTS)) (sg 3 ZcZ.nd)
   (Zae (ZA8 (Nat.lt_of_le_of_lt (Nat.add_le_add_left (by decide) _) hr.units) (pv 2) (pv 3) (Zaq Zab) rfl))))
   (Zac (ZcI PassesOwn.leaving rfl (Zfz (Zbp Zc8 (pv 0) (ZbK Zad) Zce)) (sg 4 ZcZ.nd)
   (Zac (ss 5 ZcZ.nd (Zfx ZiQ Zfo hr (Zaa (pv 4) Zab)))
   (Zac (ZaP (PT.nox (Zal Zfw (Za1 ZaA (pv 5) Zad (fun _ _=>rfl)) (Zop rfl T.g_SORTS) (by with_unfolding_all rfl)))
   (Zae (ZcY rfl Zle T.ZeA.own rfl T.Ze4 (PA.nox (Zaa Zai Zab))))
   (PSs.nox Zap))
   (Zac (Za2 (Zfx ZiQ ZhK hr (Zaa (pv 5) Zab)))
   (Zae (Za2 (ZcX F.plainAttrs_list F.slot_list_append F.type_list_append ZaU (ZpO (Nat.lt_of_le_of_lt (Nat.add_le_add_left (by decide) _) hr.units) (pv 2) (Za1 ZaA (pv 5) Zad (fun _ _=>rfl)) (fun _ _=>rfl)) (Zaa (Zfx ZiQ ZtX hr (Zaa (pv 5) (Zaa (pv 1) Zab))) Zab))))))))
   (PSs.nox (Zae (Zas (ZpP ZuT hr (Zaa (pv 1) (Zaa (ZpO (Nat.lt_of_le_of_lt (Nat.add_le_add_left (by decide) _) hr.units) (pv 2) Zai (fun _ _=>rfl)) (Zaa (ZpO (Nat.lt_of_le_of_lt (Nat.add_le_add_left (by decide) _) hr.units) (pv 2) Zai (fun _ _=>rfl)) (Zaa (ZpO (Nat.lt_of_le_of_lt (Nat.add_le_add_left (by decide) _) hr.units) (pv 2) Zai (fun _ _=>rfl)) Zab))))))))))))),?_⟩
 walk_at "rd0";rw[length_map]
 rcases C with⟨rfl,k⟩ | ⟨z,r,kk,rfl,F,k⟩ | ⟨z0,ns,gs,es,rest,rfl,L0,L,hpn,pe,q,kb⟩
 ·refine Zbn (by decide) ?_
  (try refine Zbn rfl ?_)
  (try dsimp only)
  refine Zcr ?_;walk_at "";exact⟨Nat.le_of_ble_eq_true rfl,k⟩
 ·refine Za7 (decide_eq_false (by rw[length_cons]; omega)) ?_
  walk_at "";refine ZaO (j:=0) hl (v:=.str z) rfl ?_;walk_at "";exact⟨z,rfl,.inl ⟨kk,F,k⟩⟩
 refine Za7 (decide_eq_false (by rw[length_cons]; omega)) ?_;walk_at "";refine ZaO (j:=0) hl (v:=.str z0) rfl ?_;walk_at "";refine⟨z0,rfl,.inr ⟨ns,L0,L,hpn,fun nl H1 s1 n1 e1=>?_⟩⟩;walk_at "";refine ZAu fun d H2 s2 n2 e2=>?_;walk_at "";have nd:H d=none:=s1.free n2;have w2:=s1.trans s2;refine seqT (xs:=Zyv.map V.str) (fun i σ H'=>∃as:List Addr,as.length=i∧Same H1 H'∧H' d=some (.dK (thK as))∧(∀a∈as,H1 a=none∧H' a=some (.lst []))∧as.Nodup∧∃v3,σ=[some (.ref l),some (.ref nl),some (.ref d),v3,none,none]) ⟨[],rfl,s2,e2,(fun a ha=>by cases ha),nodup_nil,_,rfl⟩ (fun i σ H' _ _=>T.q_SORTS H') ?_ ?_
 ·rintro i x σ H3 hx ⟨as,hal,s3,e3,ha,hnd,v3,rfl⟩
  obtain⟨z,rfl,hz'⟩:=Zj6 hx;walk_at "";refine ZCf ?_;walk_at "";refine ZaD (by simp) fun a H4 s4 n4 e4=>?_;walk_at "";have hi3:i < 3:=(List.getElem?_eq_some_iff.mp hz').1
  have kv:valV (thK as) (Sum.inr z:Key)=none∧putK (thK as) (Sum.inr z:Key) (V.ref a)=thK (as++[a])∧(thK as).length≤3:=by
   match as,i,hal,hz' with
   | [],0,_,hz'=>cases hz'; exact⟨rfl,rfl,by decide⟩
   | [a1],1,_,hz'=>cases hz'; exact⟨rfl,rfl,by show 1≤3; decide⟩
   | [a1,a2],2,_,hz'=>cases hz'; exact⟨rfl,rfl,by show 2≤3; decide⟩
   | _::_::_::_,i,hal,_=>simp only [length_cons]at hal; omega
  have na:H1 a=none:=s3.free n4
  have nad:a≠d:=fun e=>by rw[e]at n4; rw[n4]at e3; cases e3
  refine⟨d,_,rfl,DPut.k (k:=Sum.inr z) (s4 _ _ e3) (ZaQ (by omega)),?_⟩;rw[kv.2.1];have b5:But d H4 (upd H4 d (.dK (thK (as++[a])))):=ZmV;refine⟨as++[a],by rw[length_append,hal]; rfl,b5.same n2 (s3.trans s4),ZaH,fun y hy=>?_,?_,_,rfl⟩
  ·rcases mem_append.mp hy with hy | hy
   ·obtain⟨h1,h2⟩:=ha y hy
    exact⟨h1,b5 _ _ (ZdI h2 e3 (fun z=>nomatch z)) (s4 _ _ h2)⟩
   ·rw[mem_singleton.mp hy]
    exact⟨na,b5 _ _ nad e4⟩
  ·rw[nodup_append]
   refine⟨hnd,by simp,fun y hy y' hy' e=>?_⟩;rw[mem_singleton.mp hy']at e;rw[e]at hy;rw[(ha a hy).2]at n4
   cases n4
 rintro σ H3 ⟨as,hal,s3,e3,ha,hnd,v3,rfl⟩
 obtain⟨s,b,m,rfl⟩ : ∃s b m,as=[s,b,m]:=by
  match as,hal with
  | [s,b,m],_=>exact⟨s,b,m,rfl⟩
 simp only [nodup_cons,mem_cons,not_mem_nil,or_false,not_or,nodup_nil,not_false_eq_true,and_true]at hnd;have w3:=s1.trans s3;have I0:MI t H H3 d s b m [] [] [] []:=⟨w3,e3,(ha s (by simp)).2,(ha b (by simp)).2,(ha m (by simp)).2,s1.free (ha s (by simp)).1,s1.free (ha b (by simp)).1,s1.free (ha m (by simp)).1,hnd.1.1,hnd.1.2,hnd.2,.nil,.nil,.nil⟩;have nlm:nl≠s∧nl≠b∧nl≠m:=⟨Zaf e1 (ha s (by simp)).1,Zaf e1 (ha b (by simp)).1,Zaf e1 (ha m (by simp)).1⟩;have el3:=s3 _ _ e1;clear ha e3 e2 hnd;walk_at "";refine ZgD (SqL.of (w3 _ _ hl)) (Zc9 (k:=1) (by simp)) fun tl H4 s4 n4 e4=>?_;have e4:H4 tl=some (.lst ((gs++rest).map V.str)):=e4;walk_at "";have hes:=Zau pe;have ntl:tl≠s∧tl≠b∧tl≠m:=⟨(Zaf I0.e1 n4).symm,(Zaf I0.e2 n4).symm,(Zaf I0.e3 n4).symm⟩;refine seqL (xs:=(gs++rest).map V.str) (fun i σ H'=>∃ps pb pv v4 v5,i≤gs.length∧MI t H H' d s b m ps pb pv (es.take i)∧H' nl=some (.lst (ns.map V.str))∧H' tl=some (.lst ((gs++rest).map V.str))∧σ=[some (.ref l),some (.ref nl),some (.ref d),v3,v4,v5]) ⟨[],[],[],_,_,Nat.zero_le _,I0.same s4,s4 _ _ el3,e4,rfl⟩ (fun i σ H' _ hp=>by obtain⟨_,_,_,_,_,_,_,_,h,_⟩:=hp; exact SqL.of h) ?_ ?_
 ·rintro i x σ H5 hx ⟨ps,pb,pv,v4,v5,hig,I,en5,et5,rfl⟩
  obtain⟨z,rfl,hz'⟩:=Zj6 hx;rw[length_cons,length_append]at hz
  by_cases hlt:i < gs.length
  rotate_left
  ·obtain rfl:i=gs.length:=by omega
   rw[List.getElem?_append_right (Nat.le_refl _),Nat.sub_self]at hz';obtain⟨z',r,k,rfl,B,kE⟩:=kb (fun e=>by rw[e]at hz'; cases hz')
   have hz':z'=z:=by simpa using hz'
   subst hz'
   cases B with
   | ln h=>
    walk_at "";exact⟨z',rfl,.inl ⟨h,fun H6 s6=>kE H6 (I.sm.trans s6)⟩⟩
   | hd h hx=>
    rename_i x r'
    walk_at "";refine⟨z',rfl,.inr ⟨_,h,fun p H6 s6 n6 e6=>?_⟩⟩;walk_at "";refine ZaO (j:=0) e6 (v:=.str x) rfl ?_;walk_at "";refine Ztj (T.q_SORTS H6) ?_;rw[decide_eq_false (show ¬x∈([Str.ofString "start",Str.ofString "bad",Str.ofString "move"]:List Str) from hx)];walk_at "";refine Zbn rfl ?_
    (try refine Zbn rfl ?_)
    (try dsimp only)
    refine Zcr ?_;walk_at "";exact⟨Nat.le_of_ble_eq_true rfl,kE H6 (I.sm.trans s6)⟩
   | mv h hl' hm=>
    rename_i r'
    walk_at "";refine⟨z',rfl,.inr ⟨_,h,fun p H6 s6 n6 e6=>?_⟩⟩;walk_at "";refine ZaO (j:=0) e6 (v:=.str "move") rfl ?_;walk_at "";refine Ztj (T.q_SORTS H6) ?_;rw[decide_eq_true (show("move" : Str)∈([Str.ofString "start",Str.ofString "bad",Str.ofString "move"]:List Str) by decide)];walk_at "";refine Za7 rfl ?_;walk_at "";exact⟨p,"move",r',rfl,e6,hl',fun f=>absurd (f.2 rfl) hm,fun _ H7 s7=>kE H7 (I.sm.trans (s6.trans s7))⟩
   | th h B=>
    obtain⟨x,r',rfl,hx1,hx2,hx3⟩:=B.hd;walk_at "";refine⟨z',rfl,.inr ⟨_,h,fun p H6 s6 n6 e6=>?_⟩⟩;walk_at "";refine ZaO (j:=0) e6 (v:=.str x) rfl ?_;walk_at "";refine Ztj (T.q_SORTS H6) ?_;have hx1':x∈([Str.ofString "start",Str.ofString "bad",Str.ofString "move"]:List Str):=hx1;rw[decide_eq_true hx1'];walk_at "";refine Za7 rfl ?_;walk_at "";refine⟨p,x,r',rfl,e6,hx2,fun _ H7 s7=>?_,fun f=>absurd hx3 f⟩;walk_at "";have I7:=I.same (s6.trans s7);have e7:=s7 _ _ e6;have en7:=(s6.trans s7) _ _ en5;refine ZaO (j:=0) e7 (v:=.str x) rfl ?_;walk_at "";have go:∀(Q':VK),ZwT t [.ref p,.ref nl] H7 Q' E:=fun Q'=>⟨p,nl,_,ns,rfl,e7,en7,L.n6,.inl ⟨_,B,fun H8 s8=>kE H8 (I7.sm.trans s8)⟩⟩;have hx1:x∈(["start","bad","move"]:List Str):=hx1;simp only [mem_cons,not_mem_nil,or_false]at hx1
    rcases hx1 with rfl | rfl | rfl
    ·refine⟨d,.ref s,rfl,DGet.k (k:=Sum.inr "start") I7.ed,?_⟩
     walk_at "";refine⟨tyL I7.e1,?_⟩;walk_at "";exact go _
    ·refine⟨d,.ref b,rfl,DGet.k (k:=Sum.inr "bad") I7.ed,?_⟩
     walk_at "";refine⟨tyL I7.e2,?_⟩;walk_at "";exact go _
    ·refine⟨d,.ref m,rfl,DGet.k (k:=Sum.inr "move") I7.ed,?_⟩
     walk_at "";refine⟨tyL I7.e3,?_⟩;walk_at "";exact go _
  rw[getElem?_append_left hlt]at hz';obtain⟨e,hei,ws,hLW,E1⟩:=Zbj pe hz';obtain⟨x,r,rfl,hx1,hx2,hx3⟩:=E1.hd;walk_at "";refine⟨z,rfl,.inr ⟨_,hLW,fun p H6 s6 n6 e6=>?_⟩⟩;walk_at "";refine ZaO (j:=0) e6 (v:=.str x) rfl ?_;walk_at "";refine Ztj (T.q_SORTS H6) ?_;have hx1':x∈([Str.ofString "start",Str.ofString "bad",Str.ofString "move"]:List Str):=hx1;rw[decide_eq_true hx1'];walk_at "";refine Za7 rfl ?_;walk_at "";refine⟨p,x,r,rfl,e6,hx2,fun _ H7 s7=>?_,fun f=>absurd hx3 f⟩;walk_at "";have I7:=I.same (s6.trans s7);have e7:=s7 _ _ e6;have en7:=(s6.trans s7) _ _ en5;have et7:=(s6.trans s7) _ _ et5;have hil:=(List.getElem?_eq_some_iff.mp hei).1;have hst:=ZDR (es.take i);rw[length_take]at hst
  cases E1 with
  | st h1 h2 h3=>
   refine ZaO (j:=0) e7 (v:=.str "start") rfl ?_;walk_at "";refine⟨d,.ref s,rfl,DGet.k (k:=Sum.inr "start") I7.ed,?_⟩;walk_at "";refine⟨tyL I7.e1,?_⟩;walk_at "";refine⟨p,nl,_,ns,rfl,e7,en7,L.n6,.inr ⟨_,.st h1 h2 h3,fun y H8 s8 hy=>?_⟩⟩;walk_at "";have I8:=I7.same s8;have hln:=Zau I8.p1;refine ZaZ I8.e1 (by rw[length_map]; omega) fun H9 b9 e9=>?_;walk_at "";refine⟨ps++[y],pb,pv,_,_,hlt,?_,b9 _ _ nlm.1 (s8 _ _ en7),b9 _ _ ntl.1 (s8 _ _ et7),rfl⟩;rw[Zbh hei];exact I8.st hy b9 e9
  | bd h1 h2 h3=>
   refine ZaO (j:=0) e7 (v:=.str "bad") rfl ?_;walk_at "";refine⟨d,.ref b,rfl,DGet.k (k:=Sum.inr "bad") I7.ed,?_⟩;walk_at "";refine⟨tyL I7.e2,?_⟩;walk_at "";refine⟨p,nl,_,ns,rfl,e7,en7,L.n6,.inr ⟨_,.bd h1 h2 h3,fun y H8 s8 hy=>?_⟩⟩;walk_at "";have I8:=I7.same s8;have hln:=Zau I8.p2;refine ZaZ I8.e2 (by rw[length_map]; omega) fun H9 b9 e9=>?_;walk_at "";refine⟨ps,pb++[y],pv,_,_,hlt,?_,b9 _ _ nlm.2.1 (s8 _ _ en7),b9 _ _ ntl.2.1 (s8 _ _ et7),rfl⟩;rw[Zbh hei];exact I8.bd hy b9 e9
  | mv M=>
   refine ZaO (j:=0) e7 (v:=.str "move") rfl ?_;walk_at "";refine⟨d,.ref m,rfl,DGet.k (k:=Sum.inr "move") I7.ed,?_⟩;walk_at "";refine⟨tyL I7.e3,?_⟩;walk_at "";refine⟨p,nl,_,ns,rfl,e7,en7,L.n6,.inr ⟨_,.mv M,fun y H8 s8 hy=>?_⟩⟩;walk_at "";have I8:=I7.same s8;have hln:=Zau I8.p3;refine ZaZ I8.e3 (by rw[length_map]; omega) fun H9 b9 e9=>?_;walk_at "";refine⟨ps,pb,pv++[y],_,_,hlt,?_,b9 _ _ nlm.2.2 (s8 _ _ en7),b9 _ _ ntl.2.2 (s8 _ _ et7),rfl⟩;rw[Zbh hei];exact I8.mv hy b9 e9
 ·rintro σ H5 ⟨ps,pb,pv,v4,v5,hig,I,en5,et5,rfl⟩
  rw[length_map,length_append]at hig I;obtain rfl:rest=[]:=length_eq_zero_iff.mp (by omega);rw[length_nil,Nat.add_zero,hes,take_length]at I;walk_at "";refine⟨d,.ref s,rfl,DGet.k (k:=Sum.inr "start") I.ed,?_⟩;walk_at "";refine⟨d,.ref b,rfl,DGet.k (k:=Sum.inr "bad") I.ed,?_⟩;walk_at "";refine⟨d,.ref m,rfl,DGet.k (k:=Sum.inr "move") I.ed,?_⟩;walk_at "";exact Zuf en5 I.e1 I.e2 I.e3 I.p1 I.p2 I.p3 fun x H6 s6 _ M=>q rfl x H6 (I.sm.trans s6) M
end
unseal PE PA PS PSs
def okS (t:Ad) (ns:List Str) (f:Fm):Prop:=(∀H p,FmE t H p f→FmAt t H 61 p f)∧f.low ns.length=true∧fWt f≤100
def Zl8 (ns:List Str) (c:Nat×Fm):Str:=ns.getD c.1 Str.empty++" is "++ZbC ns c.2
def shM (ns:List Str) (v:Fm×List (Nat×Fm)):Str:=("move " : Str)++ZbC ns v.1++" then "++Txt.join ", " (v.2.map (Zl8 ns))
structure okM (t:Ad) (ns:List Str) (v:Fm×List (Nat×Fm)):Prop where
 gd:okS t ns v.1
 cs:∀c∈v.2,okS t ns c.2∧c.1 < ns.length
 ln:v.2.length≤6
def Ztq (ns:List Str) (ss bs:List Fm) (vs:List (Fm×List (Nat×Fm))):List Str:=[("lamps " : Str)++Txt.join " " ns]++ss.map (fun f=>("start " : Str)++ZbC ns f)++bs.map (fun f=>("bad " : Str)++ZbC ns f)++vs.map (shM ns)
theorem ZxQ (z:Str) (ts:List Str):(Txt.join z ts).length≤(ts.map (·.length)).sum+ts.length * z.length:=by
 show(Builtin.Str.glued _ _).length≤_;rw[StrLaws.glued_eq_join];exact StrLaws.join_length_le _ _
theorem ZwY {B:Nat}:∀{zs:List Str},(∀z∈zs,z.length≤B)→(zs.map (·.length)).sum≤B * zs.length
 | [],_=>Nat.zero_le _
 | z::zs,h=>by
  have a:=h z mem_cons_self;have b:=ZwY (zs:=zs) fun x hx=>h x (mem_cons_of_mem _ hx);rw[map_cons,sum_cons,length_cons,Nat.mul_succ];omega
theorem ZvM {B:Nat} {z:Str} {ts:List Str} (h:∀y∈ts,y.length≤B) (hb:B≤3000) (hz:z.length≤10) (hn:ts.length≤10):JoinOk z ts=true∧(Txt.join z ts).length≤B * 10+100:=by
 have a:=ZwY h;have c:B * ts.length≤B * 10:=Nat.mul_le_mul_left _ hn;have d:ts.length * z.length≤10 * 10:=Nat.mul_le_mul hn hz;refine⟨?_,?_⟩
 ·unfold JoinOk Builtin.Str.tooLong
  rw[StrLaws.joinTotal];rw[decide_eq_false (Nat.not_lt.mpr (ZaQ (by omega)))];rfl
 ·have:=ZxQ z ts
  omega
theorem ZgK {ns:List Str} (h:∀z∈ns,z.length≤8) (f:Fm):(ZbC ns f).length≤20 * fWt f:=Zik (fun z hz=>by have:=h z hz; omega) f
seal PE PA PS PSs
section
variable {P:Program} {w:World} {K:W.Frag} {mg:Str→Option Value} {base:Heap} {t:Ad} {n:Nat}
def ZEy (t:Ad):Sp:=fun vs H Q _=>∃(x nl:Addr) (ns:List Str) (v:Fm×List (Nat×Fm)),vs=[.ref x,.ref nl]∧MvW t H x v∧H nl=some (.lst (ns.map V.str))∧ns.length≤6∧(∀z∈ns,z.length≤8)∧okM t ns v∧∀H',Same H H'→Q (.str (shM ns v)) H'
theorem Znu (T:Txt K mg t):FnS P w K mg base 66 "written_move" ["move","names"] ((ZEy t)):=by
 refine⟨_,_,T.Zcm.ok ZdV (fun vs H Q E h=>?_) (fun cdv A outer s H vs Q E hr h=>?_),T.Zi6,T.Zcm.kp,T.Zjb⟩
 ·obtain⟨x,nl,ns,v,rfl,⟨dx,g,tp,hs,e1,e2,f1,p⟩,hn,h6,h8,ok,q⟩:=h
  rfl
 obtain⟨x,nl,ns,v,rfl,⟨dx,g,tp,hs,e1,e2,f1,p⟩,hn,h6,h8,ok,q⟩:=h;have D_shown:=ZkN (P:=P) (w:=w) (base:=base) T 61
 have h20:∀z∈ns,z.length≤20:=fun z hz=>by have:=h8 z hz; omega
 refine⟨_,(Zac (ss 2 ZdV.nd (Zaq Zab))
   (Zac (ZcI PassesOwn.never rfl (Zfz (Zcy (pv 0) rfl)) (Zwq rfl (ZiK (sg 3 ZdV.nd) (ZiK (sg 4 ZdV.nd) ZsS)))
   (Zae (Za2 (ZcX F.plainAttrs_list F.slot_list_append F.type_list_append ZaU (pv 2) (Zaa (Zah Zam (Zah Zam (Za1 ZaA (pv 1) (pv 3) (fun _ _=>rfl)) Zai) (Zoo D_shown hr (pv 4) (Zaa (pv 1) Zab))) Zab)))))
   (Zae (Zas (Zah Zam (Zah Zam (Zah Zam Zai (Zoo D_shown hr (Zcy (pv 0) rfl) (Zaa (pv 1) Zab))) Zai) (ZcX F.plainAttrs_str F.slot_str_join F.type_str_join ZpD Zai (Zaa (pv 2) Zab))))))),?_⟩
 walk_at "rd0";refine ZaD (by simp) fun pl H1 s1 n1 e3=>?_;walk_at "";refine⟨x,_,_,_,_,rfl,s1 _ _ e1,T.Zqy,T.Zc6,Zup _ _,?_⟩;have hpl:=Zau p;have hl6:=ok.ln;refine seqT (xs:=hs.map V.ref) (fun i σ H'=>Same H H'∧H' pl=some (.lst (((v.2.take i).map (Zl8 ns)).map V.str))∧∃v3 v4,σ=[some (.ref x),some (.ref nl),some (.ref pl),v3,v4]) ⟨s1,e3,_,_,rfl⟩ (fun i σ H' _ hp=>by obtain⟨s2,_⟩:=hp; exact SqT.of (s2 _ _ e2)) ?_ ?_
 ·rintro i y σ H2 hy ⟨s2,c2,v3,v4,rfl⟩
  obtain⟨h,rfl,hx'⟩:=Zgc hy;obtain⟨c,hgi,b,ht,hf⟩:=Zbj p hx';obtain⟨okc,hc6⟩:=ok.cs c (mem_of_getElem? hgi);have hsl:=ZgK h8 c.2;have hfw:=okc.2.2;have hil:=(List.getElem?_eq_some_iff.mp hgi).1;have hf2:=okc.1 H2 b (hf.ext (Ext.of s2));refine ZAk (s2 _ _ ht) ?_;walk_at "";refine⟨tyL c2,?_⟩;walk_at ""
  have hgz:ns[c.1]?=some (ns.getD c.1 Str.empty):=by rw[getD_eq_getElem?_getD,List.getElem?_eq_getElem hc6]; rfl
  refine ZaO (j:=c.1) (s2 _ _ hn) (v:=.str (ns.getD c.1 Str.empty)) (by rw[getElem?_map,hgz]; rfl) ?_;walk_at "";have l1:=h8 _ (mem_of_getElem? hgz)
  have l2:Str.length " is " = 4:=by decide +kernel
  refine ZdP (ZaQ (by omega)) ?_;walk_at "";obtain⟨C,dx',fs',e',hC,hlk⟩:=hf2.ins "shown" (by decide +kernel) (by decide +kernel) (by decide +kernel) (by decide +kernel);refine⟨b,C,dx',fs',rfl,e',hC,hlk,?_⟩;walk_at "";refine⟨e',b,nl,c.2,ns,rfl,hf2,s2 _ _ hn,h20,okc.2.1,by omega,fun H3 s3=>?_⟩;refine ZdP (ZaQ (by rw[Zak]; omega)) ?_;walk_at "";refine ZaZ (s3 _ _ c2) (by rw[length_map,length_map,length_take]; omega) fun H4 b4 e4=>?_;walk_at "";refine⟨b4.same n1 (s2.trans s3),?_,_,_,rfl⟩;rw[Zbh hgi,map_append,map_append];exact e4
 ·rintro σ H2 ⟨s2,c2,v3,v4,rfl⟩
  rw[length_map,hpl,take_length]at c2;have hsl:=ZgK h8 v.1;have hfw:=ok.gd.2.2;have hf2:=ok.gd.1 H2 g (f1.ext (Ext.of s2))
  have l1:Str.length "move " = 5:=by decide +kernel
  have l2:Str.length " then " = 6:=by decide +kernel
  obtain⟨j1,j2⟩:=ZvM (B:=2020) (z:=", ") (ts:=v.2.map (Zl8 ns)) (fun y hy=>by
   obtain⟨c,hc,rfl⟩:=mem_map.mp hy;obtain⟨okc,hc6⟩:=ok.cs c hc;have a:=ZgK h8 c.2;have b:=okc.2.2
   have hgz:ns[c.1]?=some (ns.getD c.1 Str.empty):=by rw[getD_eq_getElem?_getD,List.getElem?_eq_getElem hc6]; rfl
   have d:=h8 _ (mem_of_getElem? hgz)
   have e:Str.length " is " = 4:=by decide +kernel
   unfold Zl8;rw[Zak,Zak]
   omega) (by omega) (by decide) (by rw[length_map]; omega)
  walk_at "";refine⟨x,_,_,_,_,rfl,s2 _ _ e1,T.Zqy,T.ZeG,ZxY _ _,?_⟩;walk_at "";obtain⟨C,dx',fs',e',hC,hlk⟩:=hf2.ins "shown" (by decide +kernel) (by decide +kernel) (by decide +kernel) (by decide +kernel);refine⟨g,C,dx',fs',rfl,e',hC,hlk,?_⟩;walk_at "";refine⟨e',g,nl,v.1,ns,rfl,hf2,s2 _ _ hn,h20,ok.gd.2.1,by omega,fun H3 s3=>?_⟩;refine ZdP (ZaQ (by omega)) ?_;walk_at "";refine ZdP (ZaQ (by rw[Zak]; omega)) ?_;walk_at "";refine⟨tyS,?_⟩;walk_at "";refine⟨_,pl,_,rfl,rfl,SqL.of (s3 _ _ c2),j1,?_⟩;refine ZdP (ZaQ (by rw[Zak,Zak]; omega)) ?_;exact q H3 (s2.trans s3)
def spWr (t:Ad):Sp:=fun vs H Q _=>∃(x:Addr) (ns:List Str) (ss bs:List Fm) (us:List (Fm×List (Nat×Fm))),vs=[.ref x]∧MacW t H x ns ss bs us∧ns.length≤6∧(∀z∈ns,z.length≤8)∧(∀f∈ss,okS t ns f)∧(∀f∈bs,okS t ns f)∧(∀v∈us,okM t ns v)∧ss.length+bs.length+us.length≤1000∧∀l H',Same H H'→H l=none→H' l=some (.lst ((Ztq ns ss bs us).map V.str))→Q (.ref l) H'
theorem Zuz (T:Txt K mg t):FnS P w K mg base 68 "written" ["machine"] ((spWr t)):=by
 refine⟨_,_,T.Zgs.ok Zfk (fun vs H Q E h=>?_) (fun cdv A outer s H vs Q E hr h=>?_),T.Zqs,T.Zgs.kp,T.Zq9⟩
 ·obtain⟨x,ns,fs,bs,us,rfl,⟨dx,n0,s0,b0,v0,qs,qb,qv,h1,h2,h3,h4,h5,p1,p2,p3⟩,h6,h8,k1,k2,k3,hz,q⟩:=h
  rfl
 obtain⟨x,ns,fs,bs,us,rfl,⟨dx,n0,s0,b0,v0,qs,qb,qv,h1,h2,h3,h4,h5,p1,p2,p3⟩,h6,h8,k1,k2,k3,hz,q⟩:=h;have Zn0:=Znu (P:=P) (w:=w) (base:=base) T;have D_shown:=ZkN (P:=P) (w:=w) (base:=base) T 61
 have h20:∀z∈ns,z.length≤20:=fun z hz=>by have:=h8 z hz; omega
 have hp1:=Zau p1;have hp2:=Zau p2;have hp3:=Zau p3
 refine⟨_,(Zac (ss 1 Zfk.nd (ZcH ZkS rfl T.B.list Zpa (Zaa (Zcy (pv 0) rfl) Zab)))
   (Zac (ss 2 Zfk.nd (Zaq (Zaa (Zah Zam Zai (ZcX F.plainAttrs_str F.slot_str_join F.type_str_join ZpD Zai (Zaa (pv 1) Zab))) Zab)))
   (Zac (ZcI PassesOwn.never rfl (Zfz (Zcy (pv 0) rfl)) (sg 3 Zfk.nd)
   (Zae (Za2 (ZcX F.plainAttrs_list F.slot_list_append F.type_list_append ZaU (pv 2) (Zaa (Zah Zam Zai (Zoo D_shown hr (pv 3) (Zaa (pv 1) Zab))) Zab)))))
   (Zac (ZcI PassesOwn.never rfl (Zfz (Zcy (pv 0) rfl)) (sg 3 Zfk.nd)
   (Zae (Za2 (ZcX F.plainAttrs_list F.slot_list_append F.type_list_append ZaU (pv 2) (Zaa (Zah Zam Zai (Zoo D_shown hr (pv 3) (Zaa (pv 1) Zab))) Zab)))))
   (Zac (ZcI PassesOwn.never rfl (Zfz (Zcy (pv 0) rfl)) (sg 4 Zfk.nd)
   (Zae (Za2 (ZcX F.plainAttrs_list F.slot_list_append F.type_list_append ZaU (pv 2) (Zaa (Za8 Zn0 hr (Zaa (pv 4) (Zaa (pv 1) Zab))) Zab)))))
   (Zae (Zas (pv 2)))))))),?_⟩
 walk_at "rd0";refine⟨x,_,_,_,_,rfl,h1,T.ZdL,T.ZcG,Zx0 _ _ _ _,?_⟩;walk_at "";refine ZvJ (.inr (SqT.of h2)) fun nl H1 s1 n1 e1=>?_;walk_at "";refine⟨tyS,?_⟩;walk_at "";obtain⟨j1,j2⟩:=ZvM (B:=8) (z:=" ") (ts:=ns) h8 (by omega) (by decide) (by omega)
 have l1:Str.length "lamps " = 6:=by decide +kernel
 have l2:Str.length "start " = 6:=by decide +kernel
 have l3:Str.length "bad " = 4:=by decide +kernel
 refine⟨_,nl,_,rfl,rfl,SqL.of e1,j1,?_⟩;refine ZdP (ZaQ (by omega)) ?_;walk_at "";refine ZaD (by simp) fun ll H2 s2 n2 e2=>?_;have e2:H2 ll=some (.lst ([("lamps " : Str)++Txt.join " " ns].map V.str)):=e2;have nll:H ll=none:=s1.free n2;have nln:nl≠ll:=Zaf e1 n2;have w2:=s1.trans s2;have en2:=s2 _ _ e1;walk_at "";refine⟨x,_,_,_,_,rfl,w2 _ _ h1,T.ZdL,T.Zch,ZvY _ _ _ _,?_⟩;generalize hA:[("lamps " : Str)++Txt.join " " ns]=A0 at e2
 have hA1:A0.length=1:=by rw[←hA]; rfl
 refine seqT (xs:=qs.map V.ref) (fun i σ H'=>Same H H'∧H' nl=some (.lst (ns.map V.str))∧H' ll=some (.lst ((A0++(fs.take i).map (fun f=>("start " : Str)++ZbC ns f)).map V.str))∧∃v3,σ=[some (.ref x),some (.ref nl),some (.ref ll),v3,none]) ⟨w2,en2,by rw[e2]; simp,_,rfl⟩ (fun i σ H' _ hp=>by obtain⟨s,_⟩:=hp; exact SqT.of (s _ _ h3)) ?_ ?_
 ·rintro i y σ H3 hy ⟨s3,en3,el3,v3,rfl⟩
  obtain⟨y,rfl,hy'⟩:=Zgc hy;obtain⟨f,hfi,hf⟩:=Zbj p1 hy';have okf:=k1 f (mem_of_getElem? hfi);have hf2:=okf.1 H3 y (hf.ext (Ext.of s3));have hsl:=ZgK h8 f;have hfw:=okf.2.2;have hil:=(List.getElem?_eq_some_iff.mp hfi).1;walk_at "";refine⟨tyL el3,?_⟩;walk_at "";obtain⟨C,dx',fs',e',hC,hlk⟩:=hf2.ins "shown" (by decide +kernel) (by decide +kernel) (by decide +kernel) (by decide +kernel);refine⟨y,C,dx',fs',rfl,e',hC,hlk,?_⟩;walk_at "";refine⟨e',y,nl,f,ns,rfl,hf2,en3,h20,okf.2.1,by omega,fun H4 s4=>?_⟩;refine ZdP (ZaQ (by omega)) ?_;walk_at "";refine ZaZ (s4 _ _ el3) (by rw[length_map,length_append,length_map,length_take]; omega) fun H5 b5 e5=>?_;walk_at "";refine⟨b5.same nll (s3.trans s4),b5 _ _ nln (s4 _ _ en3),?_,_,rfl⟩;rw[e5,Zbh hfi];simp only [map_append,map_cons,map_nil,append_assoc]
 rintro σ H3 ⟨s3,en3,el3,v3,rfl⟩;rw[length_map,hp1,take_length]at el3;generalize hB:A0++fs.map (fun f=>("start " : Str)++ZbC ns f)=B0 at el3
 have hB1:B0.length=1+fs.length:=by rw[←hB,length_append,length_map,hA1]
 clear e2 en2 w2;walk_at "";refine⟨x,_,_,_,_,rfl,s3 _ _ h1,T.ZdL,T.Zc5,ZAF _ _ _ _,?_⟩;refine seqT (xs:=qb.map V.ref) (fun i σ H'=>Same H H'∧H' nl=some (.lst (ns.map V.str))∧H' ll=some (.lst ((B0++(bs.take i).map (fun f=>("bad " : Str)++ZbC ns f)).map V.str))∧∃v3,σ=[some (.ref x),some (.ref nl),some (.ref ll),v3,none]) ⟨s3,en3,by rw[el3]; simp,_,rfl⟩ (fun i σ H' _ hp=>by obtain⟨s,_⟩:=hp; exact SqT.of (s _ _ h4)) ?_ ?_
 ·clear s3 en3 el3 v3
  rintro i y σ H3 hy ⟨s3,en3,el3,v3,rfl⟩;obtain⟨y,rfl,hy'⟩:=Zgc hy;obtain⟨f,hfi,hf⟩:=Zbj p2 hy';have okf:=k2 f (mem_of_getElem? hfi);have hf2:=okf.1 H3 y (hf.ext (Ext.of s3));have hsl:=ZgK h8 f;have hfw:=okf.2.2;have hil:=(List.getElem?_eq_some_iff.mp hfi).1;walk_at "";refine⟨tyL el3,?_⟩;walk_at "";obtain⟨C,dx',fs',e',hC,hlk⟩:=hf2.ins "shown" (by decide +kernel) (by decide +kernel) (by decide +kernel) (by decide +kernel);refine⟨y,C,dx',fs',rfl,e',hC,hlk,?_⟩;walk_at "";refine⟨e',y,nl,f,ns,rfl,hf2,en3,h20,okf.2.1,by omega,fun H4 s4=>?_⟩;refine ZdP (ZaQ (by omega)) ?_;walk_at "";refine ZaZ (s4 _ _ el3) (by rw[length_map,length_append,length_map,length_take]; omega) fun H5 b5 e5=>?_;walk_at "";refine⟨b5.same nll (s3.trans s4),b5 _ _ nln (s4 _ _ en3),?_,_,rfl⟩;rw[e5,Zbh hfi];simp only [map_append,map_cons,map_nil,append_assoc]
 clear s3 en3 el3 v3;rintro σ H3 ⟨s3,en3,el3,v3,rfl⟩;rw[length_map,hp2,take_length]at el3;generalize hC0:B0++bs.map (fun f=>("bad " : Str)++ZbC ns f)=C0 at el3
 have hC1:C0.length=1+fs.length+bs.length:=by rw[←hC0,length_append,length_map,hB1]
 walk_at "";refine⟨x,_,_,_,_,rfl,s3 _ _ h1,T.ZdL,T.ZcF,ZxZ _ _ _ _,?_⟩;refine seqT (xs:=qv.map V.ref) (fun i σ H'=>Same H H'∧H' nl=some (.lst (ns.map V.str))∧H' ll=some (.lst ((C0++(us.take i).map (shM ns)).map V.str))∧∃v4,σ=[some (.ref x),some (.ref nl),some (.ref ll),v3,v4]) ⟨s3,en3,by rw[el3]; simp,_,rfl⟩ (fun i σ H' _ hp=>by obtain⟨s,_⟩:=hp; exact SqT.of (s _ _ h5)) ?_ ?_
 ·clear s3 en3 el3
  rintro i y σ H3 hy ⟨s3,en3,el3,v4,rfl⟩;obtain⟨y,rfl,hy'⟩:=Zgc hy;obtain⟨v,hfi,hf⟩:=Zbj p3 hy';have okv:=k3 v (mem_of_getElem? hfi);have hil:=(List.getElem?_eq_some_iff.mp hfi).1;walk_at "";refine⟨tyL el3,?_⟩;walk_at "";refine⟨y,nl,ns,v,rfl,hf.ext (Ext.of s3),en3,h6,h8,okv,fun H4 s4=>?_⟩;walk_at "";refine ZaZ (s4 _ _ el3) (by rw[length_map,length_append,length_map,length_take]; omega) fun H5 b5 e5=>?_;walk_at "";refine⟨b5.same nll (s3.trans s4),b5 _ _ nln (s4 _ _ en3),?_,_,rfl⟩;rw[e5,Zbh hfi];simp only [map_append,map_cons,map_nil,append_assoc]
 clear s3 en3 el3;rintro σ H3 ⟨s3,en3,el3,v4,rfl⟩;rw[length_map,hp3,take_length]at el3;walk_at "";refine q ll H3 s3 nll ?_;rw[el3,←hC0,←hB,←hA];rfl
end
unseal PE PA PS PSs
def isMk (z:Str):Bool:=decide (cl1 z=[40]) || decide (cl1 z=[41]) || decide (cl1 z=[44])
def Wd3 (p:List Nat):Prop:=p=[40]∨p=[41]∨p=[44]∨(p≠[]∧∀c∈p,97≤c∧c≤122)
def WdX (z:Str):Prop:=Wd3 (cl1 z)∧z.length≤14
theorem WdS.x {z:Str} (h:WdS z):WdX z:=⟨by rcases h.1 with e | e | e; exact .inl e; exact .inr (.inl e); exact .inr (.inr (.inr e)),by have:=h.2; omega⟩
theorem Ztl {z:Str} (h:WdX z):(!(Builtin.Str.occurrences "()," z 0 (Str.length "(),") 1).isEmpty)=isMk z:=by
 rcases h.1 with e | e | e | e
 ·have:z = "(":=ZnK e
  subst this;decide +kernel
 ·have:z = ")":=ZnK e
  subst this;decide +kernel
 ·have:z = ",":=ZnK e
  subst this;decide +kernel
 ·have hm:isMk z=false:=by
   unfold isMk;rw[Bool.or_eq_false_iff,Bool.or_eq_false_iff];refine⟨⟨decide_eq_false fun y=>?_,decide_eq_false fun y=>?_⟩,decide_eq_false fun y=>?_⟩
   ·have:=e.2 40 (by rw[y]; simp); omega
   ·have:=e.2 41 (by rw[y]; simp); omega
   ·have:=e.2 44 (by rw[y]; simp); omega
  rw[hm];refine Bool.eq_false_iff.mpr fun y=>?_;obtain⟨i,hi,hs⟩:=(StrLaws.found_iff "()," z).mp y;unfold Builtin.Str.subAt at hs;have e1:=congrArg Array.toList (eq_of_beq hs);obtain⟨c,hc⟩:=List.exists_mem_of_ne_nil _ e.1
  have hc2:c∈(Str.cps "(),").toList:=by
   have hc1:c∈z.cps.toList:=hc;rw[←e1,Array.toList_extract]at hc1;exact List.mem_of_mem_drop (mem_of_mem_take hc1)
  have hc3:c∈[40,41,44]:=hc2;have:=e.2 c hc;simp only [mem_cons,not_mem_nil,or_false]at hc3;omega
theorem ZmU:∀g:Nat,g≤2→cl1 (Txt.mul " " (g:Int))=List.replicate g 32:=by
 intro g hg
 match g,hg with
 | 0,_=>decide +kernel
 | 1,_=>decide +kernel
 | 2,_=>decide +kernel
seal PE PA PS PSs
section
variable {P:Program} {w:World} {K:W.Frag} {mg:Str→Option Value} {base:Heap} {t:Ad} {n:Nat}
def ZwS:Sp:=fun vs H Q _=>∃(l:Addr) (ws:List Str) (c:Int),vs=[.ref l,.int c]∧H l=some (.lst (ws.map V.str))∧(∀z∈ws,WdX z)∧ws.length≤900∧∀x:Str,(∀d∈x.cps.toList,al d=true)→x.length≤16000→Txt.words (pad x)=ws→Q (.str x) H
def fits (last:Str) (r:List Nat):Prop:=isMk last=true∨opn r
theorem Zzz:∀g:Nat,g≤2→MulOk " " (g:Int):=by
 intro g hg
 match g,hg with
 | 0,_=>exact⟨by decide,fun h _=>absurd (by decide) h,fun h _=>absurd (by decide) h⟩
 | 1,_=>exact⟨by decide,fun _ _=>by decide,fun _ _=>by decide +kernel⟩
 | 2,_=>exact⟨by decide,fun _ _=>by decide,fun _ _=>by decide +kernel⟩
theorem ZEz {p:List Nat} (h:Wd3 p):∀d∈p,al d=true:=by
 intro d hd
 rcases h with rfl | rfl | rfl | h
 ·rw[mem_singleton.mp hd]; decide
 ·rw[mem_singleton.mp hd]; decide
 ·rw[mem_singleton.mp hd]; decide
 ·have:=h.2 d hd
  unfold al isL;rw[decide_eq_true this.1,decide_eq_true this.2];rfl
theorem ZwX {z:Str} (zw:WdX z) {r:List Nat} (h:fits z r):Ww1 (cl1 z++r)=cl1 z::Ww1 r:=by
 rcases zw.1 with e | e | e | e
 ·rw[e]; exact ZrT (by decide) r
 ·rw[e]; exact ZrT (by decide) r
 ·rw[e]; exact ZrT (by decide) r
 ·refine ZzV e.1 e.2 (h.resolve_left fun y=>?_)
  unfold isMk at y;rw[Bool.or_eq_true,Bool.or_eq_true,decide_eq_true_iff,decide_eq_true_iff,decide_eq_true_iff]at y
  rcases y with(y | y) | y
  ·have:=e.2 40 (by rw[y]; simp); omega
  ·have:=e.2 41 (by rw[y]; simp); omega
  ·have:=e.2 44 (by rw[y]; simp); omega
theorem Zvo {z last:Str} (zw:WdX z) {g:Nat} {r:List Nat} (h:g=0→isMk z=true∨isMk last=true):fits last (List.replicate g 32++(cl1 z++r)):=by
 cases g with
 | succ g=>exact .inr (.inr ⟨32,_,rfl,.inl rfl⟩)
 | zero=>
  rcases h rfl with y | y
  ·unfold isMk at y
   rw[Bool.or_eq_true,Bool.or_eq_true,decide_eq_true_iff,decide_eq_true_iff,decide_eq_true_iff]at y
   rcases y with(y | y) | y
   ·exact .inr (.inr ⟨40,r,by rw[y]; rfl,.inr (by decide)⟩)
   ·exact .inr (.inr ⟨41,r,by rw[y]; rfl,.inr (by decide)⟩)
   ·exact .inr (.inr ⟨44,r,by rw[y]; rfl,.inr (by decide)⟩)
  ·exact .inl y
theorem Zwg (T:Txt K mg t):FnS P w K mg base 1 "_law_spaced" ["_law_some","_law_seed"] ZwS:=by
 refine⟨_,_,T.ZcN.ok Za9 (fun vs H Q E h=>?_) (fun cdv A outer s H vs Q E hr h=>?_),T.ZjZ,T.ZcN.kp,T.Zku⟩
 ·obtain⟨l,ws,c,rfl,_⟩:=h
  rfl
 obtain⟨l,ws,c,rfl,hl,hw,hwn,q⟩:=h
 refine⟨_,(Zac (ss 2 Za9.nd Zai)
   (Zac (ss 3 Za9.nd Zai)
   (Zac (ss 4 Za9.nd (Zah Zax (pv 1) Zad))
   (Zac (ZcI PassesOwn.never rfl (Zfz (pv 0)) (sg 5 Za9.nd)
   (Zac (ss 4 Za9.nd (Zah Zax (Zah Zam (Zah ZsN (pv 4) Zad) Zad) Zad))
   (Zac (ss 6 Za9.nd (Zaw (Zu8 rfl) rfl T.B.max ZBO (Zaa Zad (Zaa (Zah Zwj (Zah Zax (Zah Zay (pv 4) Zad) Zad) Zad) Zab))))
   (Zac (ZaP (PW.pt (ZgI (Zal (ZaF hr.units) (pv 6) Zad (Zat _)) (ZgI (Zal Zfw (pv 5) Zai (by with_unfolding_all rfl)) (Zgg (Zal Zfw (pv 3) Zai (by with_unfolding_all rfl))))))
   (Zae (ss 6 Za9.nd Zad))
   Zap)
   (Zac (ss 2 Za9.nd (Zah Zam (Zah Zam (pv 2) (Zah ZsN Zai (pv 6))) (pv 5)))
   (Zae (ss 3 Za9.nd (pv 5))))))))
   (Zae (Zas (Zah Zam (pv 2) (Zah ZsN Zai (Zah Zax (pv 1) Zad))))))))),?_⟩
 walk_at "rd0";refine seqL (xs:=ws.map V.str) (fun i σ H'=>H'=H∧∃(x last:Str) (st:Int) (v6 v7:Option V),0≤st∧WdX last∧(∀d∈x.cps.toList,al d=true)∧x.length≤16 * i∧(∀r,fits last r→Ww1 (cl1 x++r)=(ws.take i).map cl1++Ww1 r)∧σ=[some (.ref l),some (.int (c:Int)),some (.str x),some (.str last),some (.int st),v6,v7]) ⟨rfl,"","(",_,_,_,by omega,(ZvT _ (by decide)).x,by decide,by decide,fun r _=>rfl,rfl⟩ (fun i σ H' _ hp=>by obtain⟨rfl,_⟩:=hp; exact SqL.of hl) ?_ ?_
 ·rintro i z σ H' hx ⟨rfl,x,last,st,v6,v7,hst,hlast,hal,hxl,hW,rfl⟩
  obtain⟨z,rfl,hz⟩:=Zj6 hx;have zw:=hw z (mem_of_getElem? hz);walk_at "";refine .inl (ZlW (.inr ⟨by decide,by decide⟩) ?_);walk_at "rs"
  have hst2:0≤(st * 48271+11) % 2147483647:=by omega
  generalize (st * 48271+11) % 2147483647=st2 at hst2 ⊢;refine ZqM ?_;walk_at "rs"
  (try refine ZAm ?_)
  obtain⟨g,hg,hg2⟩ : ∃g:Nat,max 0 (st2 / 512 % 5 - 2)=(g:Int)∧g≤2:=⟨(max 0 (st2 / 512 % 5 - 2)).toNat,by omega,by omega⟩;rw[hg];walk_at "rs";refine Zhx (fun σ H1=>H1=H'∧∃g':Nat,g'≤2∧(g'=0→isMk z=true∨isMk last=true)∧σ=[some (.ref l),some (.int (c:Int)),some (.str x),some (.str last),some (.int st2),some (.str z),some (.int (g':Int))]) ?_ ?_
  rotate_left
  ·intro Kn hK
   walk_at "rs";refine ZbN (fun h0=>?_) (fun h0=>?_)
   ·walk_at "rs"
    refine .inl ⟨_,_,rfl,rfl,?_⟩;rw[Ztl zw]
    dsimp only
    walk_at "rs"
    cases hz1:isMk z with
    | true=>
     refine Za7 rfl ?_;refine Za7 rfl ?_;walk_at "rs";exact hK _ _ ⟨rfl,g,hg2,fun _=>.inl hz1,rfl⟩
    | false=>
     refine Zbn rfl ?_;walk_at "rs";refine .inl ⟨_,_,rfl,rfl,?_⟩;rw[Ztl hlast]
     dsimp only
     walk_at "rs"
     cases hz2:isMk last with
     | true=>
      refine Za7 rfl ?_;walk_at "rs";exact hK _ _ ⟨rfl,g,hg2,fun _=>.inr hz2,rfl⟩
     | false=>
      refine Zbn rfl ?_;walk_at "rs";exact hK _ _ ⟨rfl,1,by decide,fun e=>absurd e (by decide),rfl⟩
   ·walk_at "rs"
    exact hK _ _ ⟨rfl,g,hg2,fun e=>absurd (show(g:Int)=0 by omega) h0,rfl⟩
  rintro σ H1 ⟨rfl,g',hg',hgm,rfl⟩;have eb:=ZmU g' hg'
  have lb:(Txt.mul " " (g':Int)).length=g':=by
   show Array.size _=_;rw[←Array.length_toList];have:=congrArg List.length eb;rw[List.length_replicate]at this;exact this
  have hil:i < ws.length:=(List.getElem?_eq_some_iff.mp hz).1;have zl:=zw.2;walk_at "rs";refine ZqM ?_;walk_at "rs";refine .inr ⟨" ",(g':Int),rfl,rfl,Zzz g' hg',?_⟩;refine ZdP (ZaQ (by rw[lb]; omega)) ?_;walk_at "rs";refine ZdP (ZaQ (by rw[Zak,lb]; omega)) ?_;walk_at "rs"
  have e1:∀r,cl1 (x++Txt.mul " " (g':Int)++z)++r=cl1 x++(List.replicate g' 32++(cl1 z++r)):=fun r=>by
   have:cl1 (x++Txt.mul " " (g':Int)++z)=cl1 x++cl1 (Txt.mul " " (g':Int))++cl1 z:=by
    show(x++Txt.mul " " (g':Int)++z).cps.toList=_;rw[list_append,list_append];rfl
   rw[this,eb,append_assoc,append_assoc]
  refine⟨rfl,_,z,st2,_,_,hst2,zw,?_,?_,?_,rfl⟩
  ·intro d hd
   have hd':d∈cl1 (x++Txt.mul " " (g':Int)++z)++[]:=by rw[append_nil]; exact hd
   rw[e1,append_nil]at hd'
   rcases mem_append.mp hd' with hd | hd
   ·exact hal d hd
   ·rcases mem_append.mp hd with hd | hd
    ·rw[(List.mem_replicate.mp hd).2]; decide
    ·exact ZEz zw.1 d hd
  ·rw[Zak,Zak,lb]; omega
  ·intro r hr
   rw[e1,hW _ (Zvo zw hgm),ZmG,ZwX zw hr,Zbh hz,map_append,append_assoc];rfl
 ·rintro σ H' ⟨rfl,x,last,st,v6,v7,hst,hlast,hal,hxl,hW,rfl⟩
  walk_at "";obtain⟨g,hg,hg2⟩ : ∃g:Nat,(c:Int) % 3=(g:Int)∧g≤2:=⟨(c % 3).toNat,by omega,by omega⟩;rw[hg];have eb:=ZmU g hg2
  have lb:(Txt.mul " " (g:Int)).length=g:=by
   show Array.size _=_;rw[←Array.length_toList];have:=congrArg List.length eb;rw[List.length_replicate]at this;exact this
  have hxl:x.length≤16 * ws.length:=by rw[length_map]at hxl; exact hxl
  refine .inr ⟨" ",(g:Int),rfl,rfl,Zzz g hg2,?_⟩;refine ZdP (ZaQ (by rw[lb]; omega)) ?_
  have e1:cl1 (x++Txt.mul " " (g:Int))=cl1 x++(List.replicate g 32++[]):=by
   show(x++Txt.mul " " (g:Int)).cps.toList=_;rw[list_append,append_nil,←eb];rfl
  have hal2:∀d∈(x++Txt.mul " " (g:Int)).cps.toList,al d=true:=by
   intro d hd;have hd':d∈cl1 (x++Txt.mul " " (g:Int)):=hd;rw[e1,append_nil]at hd'
   rcases mem_append.mp hd' with hd | hd
   ·exact hal d hd
   ·rw[(List.mem_replicate.mp hd).2]; decide
  refine q _ hal2 (by rw[Zak,lb]; omega) ?_;refine Zq5 ?_;have hww:=ZyO hal2;refine hww.trans ?_;show Ww1 (cl1 (x++Txt.mul " " (g:Int)))=_;rw[e1,hW _ (.inr ?_),ZmG,length_map,take_length]
  ·exact append_nil _
  ·cases g with
   | zero=>exact .inl rfl
   | succ g=>exact .inr ⟨32,_,rfl,.inl rfl⟩
end
unseal PE PA PS PSs
def Nm8 (z:Str):Prop:=Lt z∧1≤z.length∧z.length≤8
section
variable {P:Program} {w:World} {K:W.Frag} {mg:Str→Option Value} {base:Heap} {t:Ad} {n:Nat}
def ZwP:Sp:=fun vs H Q _=>∃(sd:Int) (sz:Nat),vs=[.int sd,.int (sz:Int)]∧sz≤14∧∀z,Lt z→z.length=sz→Q (.str z) H
theorem ZoP (T:Txt K mg t):FnS P w K mg base 1 "_law_letters" ["_law_seed","_law_size"] (ZwP):=by
 refine⟨_,_,T.Zck.ok ZbL (fun vs H Q E h=>?_) (fun cdv A outer s H vs Q E hr h=>?_),T.Zi4,T.Zck.kp,T.Zi9⟩
 ·obtain⟨sd,sz,rfl,hsz,q⟩:=h
  rfl
 obtain⟨sd,sz,rfl,hsz,q⟩:=h
 refine⟨_,(Zac (ss 2 ZbL.nd Zai)
   (Zac (ss 3 ZbL.nd Zai)
   (Zac (ss 4 ZbL.nd (Zah Zax (pv 0) Zad))
   (Zac (ZcI PassesOwn.never rfl (ZeI rfl T.B.range (Zaa (pv 1) Zab)) (sg 5 ZbL.nd)
   (Zac (ss 4 ZbL.nd (Zah Zax (Zah Zam (Zah Zh3 (pv 4) Zad) Zad) Zad))
   (Zae (ss 3 ZbL.nd (Zah Zam (pv 3) (Za1 ZaA (pv 2) (Zah Zax (Zah Zay (pv 4) Zad) Zad) (fun _ _=>rfl)))))))
   (Zae (Zas (pv 3))))))),?_⟩
 walk_at "rd0";refine⟨_,rfl,by omega,by omega,?_⟩;rw[show((sz:Int)).toNat=sz by omega];refine Zni (n:=sz) (fun i σ H'=>H'=H∧∃(z:Str) (st:Int) (v:Option V),Lt z∧z.length=i∧σ=[some (.int sd),some (.int (sz:Int)),some (.str "abcdefghijklmnopqrstuvwxyz"),some (.str z),some (.int st),v]) ⟨rfl,"",_,_,(fun c hc=>by cases hc),rfl,rfl⟩ ?_ ?_
 ·rintro i σ H' hi ⟨rfl,z,st,v,hz,hl,rfl⟩
  walk_at "";refine ZlW (.inr ⟨by decide,by decide⟩) ?_;walk_at "";obtain⟨k,hk,hk26⟩ : ∃k:Nat,(st * 48271+7919) % 2147483647 / 64 % 26=(k:Int)∧k < 26:=⟨((st * 48271+7919) % 2147483647 / 64 % 26).toNat,by omega,by omega⟩;rw[hk];refine Zss (by decide) (ZhN (ZvW k hk26)) ?_;refine ZdP (ZaQ (by show _+1≤_; omega)) ?_;walk_at "";exact⟨rfl,_,_,_,ZeF hz (Ztt hk26),by rw[Zak,hl]; rfl,rfl⟩
 ·rintro σ H' ⟨rfl,z,st,v,hz,hl,rfl⟩
  walk_at "";exact q z hz hl
def Zfs:List Str:=["and","or","not","either","yes","no","then","is"]
def ZAD:List Str:=["lamps","start","bad","move","drop","show","judge","fence","always","reach"]
def okN (z:Str):Bool:=z.cps.toList.all (fun c=>decide (97≤c) && decide (c≤122)) && decide (1≤z.length) && decide (z.length≤7)
theorem ZzA {z:Str} (h:okN z=true):Lt z∧1≤z.length∧z.length≤7:=by
 unfold okN at h;rw[Bool.and_eq_true,Bool.and_eq_true,all_eq_true]at h;refine⟨fun c hc=>?_,of_decide_eq_true h.1.2,of_decide_eq_true h.2⟩;have:=h.1.1 c hc;rw[Bool.and_eq_true]at this;exact⟨of_decide_eq_true this.1,of_decide_eq_true this.2⟩
theorem ZAz:∀k,k < 8→∃z,Zfs[k]?=some z∧okN z=true:=by
 have h:∀k,k < 8→(Zfs[k]?).any okN=true:=by decide +kernel
 intro k hk;have:=h k hk
 cases e:Zfs[k]? with
 | none=>rw[e]at this; exact absurd this (by decide)
 | some z=>rw[e]at this; exact⟨z,rfl,this⟩
theorem ZAE:∀k,k < 10→∃z,ZAD[k]?=some z∧okN z=true:=by
 have h:∀k,k < 10→(ZAD[k]?).any okN=true:=by decide +kernel
 intro k hk;have:=h k hk
 cases e:ZAD[k]? with
 | none=>rw[e]at this; exact absurd this (by decide)
 | some z=>rw[e]at this; exact⟨z,rfl,this⟩
theorem Zzy {ns:List Str} {k:Nat} {z:Str} (h:ns[k]?=some z):(ns.map V.str)[k]?=some (.str z):=by rw[getElem?_map,h]; rfl
seal PE PA PS PSs
def ZDM:Sp:=fun vs H Q _=>∃(k:Nat) (c:Int),vs=[.int (k:Int),.int c]∧k < 6∧∀z H',Same H H'→Nm8 z→Q (.str z) H'
theorem ZAR (T:Txt K mg t):FnS P w K mg base 3 "_law_name" ["_law_k","_law_cell"] (ZDM):=by
 refine⟨_,_,T.Zd5.ok Zb6 (fun vs H Q E h=>?_) (fun cdv A outer s H vs Q E hr h=>?_),T.ZmP,T.Zd5.kp,T.Znn⟩
 ·obtain⟨k,c,rfl,hk6,q⟩:=h
  rfl
 obtain⟨k,c,rfl,hk6,q⟩:=h;have Zes:=ZoP (P:=P) (w:=w) (base:=base) T
 refine⟨_,(Zac (ss 2 Zb6.nd Zai)
   (Zac (ss 3 Zb6.nd (Zah Zax (pv 1) Zad))
   (Zac (ss 4 Zb6.nd (Zah Zam Zad (Zah Zax (Zah Zay (pv 1) Zad) Zad)))
   (Zac (ss 5 Zb6.nd (Za8 Zes hr (Zaa (pv 1) (Zaa Zad Zab))))
   (Zac (ZaP (Zal (ZaF hr.units) (pv 3) Zad (Zat _))
   (Zac (ss 6 Zb6.nd (Zah Zax (Zah Zay (pv 1) Zad) (pv 4)))
   (Zac (ss 7 Zb6.nd (Zah Zam (ZcX F.plainAttrs_str F.slot_str_find F.type_str_find Zv7 (pv 2) (Zaa (Za1 ZaA (pv 5) (pv 6) (fun _ _=>rfl)) Zab)) (Zah Zh3 (Zah Zam Zad (Zah Zh3 Zad (Zah Zax (Zah Zay (pv 1) Zad) Zad))) (pv 0))))
   (Zae (Zas (Zah Zam (Zah Zam (Zbp Zc8 (pv 5) Zce (ZbK (pv 6))) (Za1 ZaA (pv 2) (Zah Zax (pv 7) Zad) (fun _ _=>rfl))) (Zbp Zc8 (pv 5) (ZbK (Zah Zam (pv 6) Zad)) (ZbK (pv 4))))))))
   Zap)
   (Zac (ZaP (Zal (ZaF hr.units) (pv 3) Zad (Zat _))
   (Zae (Zas (Za8 Zes hr (Zaa (Zah Zam (pv 1) (Zah Zh3 Zad (pv 0))) (Zaa (Zah Zam Zad (Zah Zax (Zah Zam (pv 4) (Zah Zh3 Zad (pv 0))) Zad)) Zab)))))
   Zap)
   (Zac (ZaP (Zal (ZaF hr.units) (pv 3) Zad (Zat _))
   (Zae (Zas (Zbp Zc8 (pv 5) Zce (ZbK (Zah Zam Zad (Zah Zax (Zah Zam (pv 4) (pv 0)) Zad))))))
   Zap)
   (Zac (ZaP (Zal (ZaF hr.units) (Zah Zax (Zah Zay (pv 1) Zad) Zad) Zad (Zat _))
   (Zac (ss 2 Zb6.nd (Zaq (ZpM (ZpM (Zaa Zai (Zaa Zai Zab))))))
   (Zae (Zas (Za1 ZaA (pv 2) (Zah Zax (Zah Zam (pv 4) (pv 0)) Zad) (fun _ _=>rfl)))))
   Zap)
   (Zae (Zas (Zah Zam (Za1 ZaA (Zaq (ZpM (ZpM Zab))) (Zah Zax (Zah Zam (pv 4) (pv 0)) Zad) (fun _ _=>rfl)) (Za1 ZaA (pv 5) (pv 0) (fun _ _=>rfl))))))))))))),?_⟩
 walk_at "rd0";refine⟨c,8,rfl,by omega,fun w hw hw8=>?_⟩;walk_at "";obtain⟨sz,hsz,hs1,hs8⟩ : ∃sz:Nat,1+c / 4 % 8=(sz:Int)∧1≤sz∧sz≤8:=⟨(1+c / 4 % 8).toNat,by omega,by omega,by omega⟩;rw[hsz];refine ZbN (fun h0=>?_) (fun h0=>?_)
 ·walk_at ""
  obtain⟨pl,hpl,hps⟩ : ∃pl:Nat,c / 32 % (sz:Int)=(pl:Int)∧pl < sz:=by
   have v1:=Int.emod_nonneg (c / 32) (show(sz:Int)≠0 by omega);have v2:=Int.emod_lt_of_pos (c / 32) (show(0:Int) < (sz:Int) by omega);exact⟨(c / 32 % (sz:Int)).toNat,by omega,by omega⟩
  rw[hpl];refine⟨tyS,?_⟩;walk_at "";obtain⟨d,hd⟩:=Zsj (z:=w) (k:=pl) (by omega);refine Zss (ZaQ (by omega)) (ZhN hd) ?_;walk_at "";refine⟨_,_,rfl,rfl,?_⟩;walk_at "";refine ZlW (.inl ⟨by decide,by decide⟩) ?_;walk_at "";refine ZlW (.inr ⟨by omega,by omega⟩) ?_;walk_at "";refine ZxN (by omega) ?_;walk_at ""
  have l1:(Txt.slice w none (some (pl:Int))).length=pl:=by
   rcases PyProof.Rows.slice_ns_cases' w (pl:Int) with⟨a,b⟩ | ⟨a,b,c⟩ | ⟨a,b⟩ <;> omega
  refine ZEa fun e he26=>?_;refine ZdP (ZaQ (by show _+1≤_; omega)) ?_;walk_at "";refine ZxN (by omega) ?_
  have l2:(Txt.slice w (some ((pl:Int)+1)) (some (sz:Int))).length=sz - (pl+1):=by
   show(StrLaws.sliceText w (some ((pl:Int)+1)) (some (sz:Int))).length=_
   have hl0:w.cps.toList.length=w.length:=by simp[Str.length]
   rw[StrLaws.sliceText_plain (by refine⟨?_,?_,?_⟩ <;> omega)];show((w.cps.toList.drop _).take _).toArray.size=_;rw[List.size_toArray,length_take,length_drop];omega
  have l3:Str.length ⟨#[97+e]⟩=1:=rfl;refine ZdP (ZaQ (by rw[Zak]; omega)) ?_;refine q _ _ (Same.refl _) ⟨ZeF (ZeF (ZmB hw _ _) (Ztt he26)) (ZmB hw _ _),?_,?_⟩
  ·rw[Zak,Zak]; omega
  ·rw[Zak,Zak]; omega
 walk_at "";refine ZbN (fun h1=>?_) (fun h1=>?_)
 ·walk_at ""
  refine ZlW (.inl ⟨by decide,by decide⟩) ?_;walk_at "";refine ZlW (.inl ⟨by decide,by decide⟩) ?_;walk_at "";obtain⟨e,he,he1,he8⟩ : ∃e:Nat,1+((sz:Int)+3 * (k:Int)) % 8=(e:Int)∧1≤e∧e≤8:=⟨(1+((sz:Int)+3 * (k:Int)) % 8).toNat,by omega,by omega,by omega⟩;rw[he];refine⟨_,e,rfl,by omega,fun z hz hzl=>?_⟩;exact q _ _ (Same.refl _) ⟨hz,by omega,by omega⟩
 walk_at "";refine ZbN (fun h2=>?_) (fun h2=>?_)
 ·walk_at ""
  refine ZxN (by omega) ?_;refine q _ _ (Same.refl _) ⟨ZmB hw _ _,?_,?_⟩
  ·rcases PyProof.Rows.slice_ns_cases' w (1+((sz:Int)+(k:Int)) % 8) with⟨a,b⟩ | ⟨a,b,c⟩ | ⟨a,b⟩ <;> omega
  ·have:=Txt.slice_le w none (some (1+((sz:Int)+(k:Int)) % 8))
   omega
 walk_at "";refine ZbN (fun h3=>?_) (fun h3=>?_)
 ·walk_at ""
  refine ZaD (by simp) fun l1 H1 s1 n1 e1=>?_;walk_at "";obtain⟨e,he,he10⟩ : ∃e:Nat,((sz:Int)+(k:Int)) % 10=(e:Int)∧e < 10:=⟨(((sz:Int)+(k:Int)) % 10).toNat,by omega,by omega⟩;rw[he];obtain⟨z,hz,ok⟩:=ZAE e he10;obtain⟨o1,o2,o3⟩:=ZzA ok;exact ZaO e1 (Zzy hz) (q _ _ s1 ⟨o1,o2,by omega⟩)
 ·walk_at ""
  refine ZaD (by simp) fun l1 H1 s1 n1 e1=>?_;walk_at "";obtain⟨e,he,he10⟩ : ∃e:Nat,((sz:Int)+(k:Int)) % 8=(e:Int)∧e < 8:=⟨(((sz:Int)+(k:Int)) % 8).toNat,by omega,by omega⟩;rw[he];obtain⟨z,hz,ok⟩:=ZAz e he10;obtain⟨o1,o2,o3⟩:=ZzA ok;refine ZaO e1 (Zzy hz) ?_;walk_at "";obtain⟨d,hd⟩:=Zsj (z:=w) (k:=k) (by omega);refine Zss (ZaQ (by omega)) (ZhN hd) ?_;have hd2:=hw d (mem_of_getElem? hd);have l3:Str.length ⟨#[d]⟩=1:=rfl;refine ZdP (ZaQ (by omega)) ?_;refine q _ _ s1 ⟨ZeF o1 (fun x hx=>?_),by rw[Zak]; omega,by rw[Zak]; omega⟩;have hx:x∈[d]:=hx;rw[mem_singleton.mp hx];exact hd2
unseal PE PA PS PSs
def ZBm:Sp:=fun vs H Q _=>∃(z:Str) (l:Addr) (ns:List Str),vs=[.str z,.ref l]∧H l=some (.lst (ns.map V.str))∧ns.length≤6∧(Lt z∧1≤z.length∧z.length≤9)∧∀z' H',Same H H'→Lt z'→z'.length=z.length→z'∉ns→z'∉Zfs→Q (.str z') H'
theorem ZxS:Zfs.length=8:=rfl
theorem ZpK (T:Txt K mg t):FnS P w K mg base 1 "_law_fresh" ["_law_name_here","_law_names_here"] (ZBm):=by
 refine⟨_,_,T.Zdr.ok Zhk (fun vs H Q E h=>?_) (fun cdv A outer s H vs Q E hr h=>?_),T.ZlM,T.Zdr.kp,T.ZlX⟩
 ·obtain⟨z,l,ns,rfl,hl,hn5,⟨hz,hz1,hz2⟩,q⟩:=h
  rfl
 obtain⟨z,l,ns,rfl,hl,hn5,⟨hz,hz1,hz2⟩,q⟩:=h;obtain⟨c,hc,ez⟩:=Zvd hz1 hz;generalize eu:Txt.slice z none (some (-1))=u at ez
 have hu:Lt u:=by rw[←eu]; exact ZmB hz _ _
 have hul:u.length+1=z.length:=by rw[ez]; unfold rot; rw[Zak]; rfl
 have hrl:∀j,(rot u c j).length=u.length+1:=fun j=>by unfold rot; rw[Zak]; rfl
 refine⟨_,(Zac (ss 2 Zhk.nd Zai)
   (Zac (Zyl PassesOwn.never (PW.pt (Zoq (Zal Zl7 (pv 0) (pv 1) (by with_unfolding_all rfl)) (Zjd (Zal Zl7 (pv 0) (Zjc (ZpM (ZpM Zab))) (by with_unfolding_all rfl)))))
   (Zae (ss 0 Zhk.nd (Zah Zam (Zbp Zc8 (pv 0) Zce (ZbK (ZuC ZoY Zad))) (Za1 ZaA (pv 2) (Zah Zax (Zah Zam (ZcX F.plainAttrs_str F.slot_str_find F.type_str_find Zv7 (pv 2) (Zaa (Za1 ZaA (pv 0) (ZuC ZoY Zad) (fun _ _=>rfl)) Zab)) Zad) Zad) (fun _ _=>rfl))))))
   (Zae (Zas (pv 0))))),?_⟩
 walk_at "rd0";refine⟨fun m σ H'=>∃j,m+j=15∧j≤14∧Same H H'∧(∀i,i < j→rot u c i∈ns++Zfs)∧σ=[some (.str (rot u c j)),some (.ref l),some (.str "abcdefghijklmnopqrstuvwxyz")],⟨15,0,rfl,by omega,Same.refl _,fun i hi=>absurd hi (by omega),by rw[←ez]⟩,?_⟩;rintro m σ H1 ⟨j,hm,hj,s1,hin,rfl⟩
 have go:rot u c j∈ns++Zfs→j+1≤14:=fun h=>by
  have:=Zws (rot u c) (j+1) (ns++Zfs) (fun i hi=>by
   rcases(show i=j∨i < j by omega) with rfl | h'
   ·exact h
   ·exact hin i h') (fun i i' h1 h2=>ZDu h1 (by omega))
  rw[length_append,ZxS]at this;omega
 have step:∀(H2:Hp),Same H1 H2→rot u c j∈ns++Zfs→∃N:St→Hp→Prop,(∀σ' H',N σ' H'→∃m',m' < m∧∃j,m'+j=15∧j≤14∧Same H H'∧(∀i,i < j→rot u c i∈ns++Zfs)∧σ'=[some (.str (rot u c j)),some (.ref l),some (.str "abcdefghijklmnopqrstuvwxyz")])∧∀σ' H',σ'=[some (.str (rot u c (j+1))),some (.ref l),some (.str "abcdefghijklmnopqrstuvwxyz")]→Same H H'→N σ' H':=fun H2 s2 h=>by
  have:=go h;refine⟨fun σ' H'=>Same H H'∧σ'=[some (.str (rot u c (j+1))),some (.ref l),some (.str "abcdefghijklmnopqrstuvwxyz")],fun σ' H' ⟨a,b⟩=>⟨m - 1,by omega,j+1,by omega,this,a,fun i hi=>?_,b⟩,fun σ' H' a b=>⟨b,a⟩⟩
  rcases(show i=j∨i < j by omega) with rfl | h'
  ·exact h
  ·exact hin i h'
 have nxt:Txt.slice (rot u c j) none (some (-1))++(⟨#[97+(c+j+1) % 26]⟩ : Str)=rot u c (j+1):=by rw[ZwE]; rfl
 have h1:=hrl j;walk_at ""
 have bod:∀(H2:Hp) (N:St→Hp→Prop) (rt:VK) (bk:St→Hp→Prop),Same H1 H2→(∀σ' H',σ'=[some (.str (rot u c (j+1))),some (.ref l),some (.str "abcdefghijklmnopqrstuvwxyz")]→Same H H'→N σ' H')→tAsg (tOp ZsV (tSl (rSlA K) (tVar 0) Zs3 (ZBx (tUn (rU fun i=>V.int (-i)) (tC (.int 1))))) (tOp (rIx K) (tVar 2) (tOp (rI (fun x j=>0 < j) fun i j=>V.int (i % j)) (tOp ZsV (tBM K "str" ZDn (tVar 2) (Zow (tOp (rIx K) (tVar 0) (tUn (rU fun i=>V.int (-i)) (tC (.int 1)))) tNil)) (tC (.int 1))) (tC (.int 26))))) (Zn9 0) { nx:=N,rt:=rt,bk:=bk,ct:=N } [some (.str (rot u c j)),some (.ref l),some (.str "abcdefghijklmnopqrstuvwxyz")] H2:=fun H2 N rt bk s2 n2=>by
  walk_at "";refine ZxN (by omega) ?_;walk_at "";refine⟨tyS,?_⟩;walk_at "";refine Zss (ZaQ (by omega)) (Zys u c j) ?_;walk_at "";refine⟨_,_,rfl,rfl,?_⟩;walk_at "";have e0:Txt.find "abcdefghijklmnopqrstuvwxyz" ⟨#[97+(c+j) % 26]⟩=(((c+j) % 26:Nat):Int):=ZxW _ (by omega);rw[e0]
  have e1:((((c+j) % 26:Nat):Int)+1) % 26=(((c+j+1) % 26:Nat):Int):=by omega
  rw[e1];refine Zss (by decide) (ZhN (ZvW _ (by omega))) ?_;have l3:=Txt.slice_le (rot u c j) none (some (-1));refine ZdP (ZaQ (by show _+1≤_; omega)) ?_;walk_at "";exact n2 _ _ (by rw[nxt]) (s1.trans s2)
 have memD:rot u c j∈ns++Zfs→Lt (rot u c j):=fun _=>ZeF hu (Ztt (by omega));walk_at "";refine ZvB (.inl (s1 _ _ hl)) ?_;walk_at "";refine ZbN (fun hA=>?_) (fun hA=>?_)
 ·obtain⟨N,n1,n2⟩:=step H1 (Same.refl _) (List.mem_append_left _ hA)
  refine Zbn rfl ⟨N,n1,?_⟩;exact bod H1 N _ _ (Same.refl _) n2
 ·walk_at ""
  refine Zoc (by simp) fun l1 H2 s2 n2 e2=>?_;refine ZvB (ns:=Zfs) (.inr e2) ?_;walk_at "";refine ZbN (fun hB=>?_) (fun hB=>?_)
  ·obtain⟨N,n1,n2⟩:=step H2 s2 (List.mem_append_right _ hB)
   refine⟨N,n1,?_⟩;exact bod H2 N _ _ s2 n2
  ·walk_at ""
   exact q _ _ (s1.trans s2) (ZeF hu (Ztt (by omega))) (by omega) hA hB
def ZBp:Sp:=fun vs H Q _=>∃(m:Nat) (c:Int),vs=[.int (m:Int),.int c]∧m≤6∧∀(l:Addr) (ns:List Str) (H':Hp),Same H H'→H l=none→H' l=some (.lst (ns.map V.str))→ns.length=m→(∀z∈ns,Nm8 z∧z∉Zfs)→ns.Nodup→Q (.ref l) H'
theorem Zx7 (T:Txt K mg t):FnS P w K mg base 5 "_law_names" ["_law_many","_law_cell"] (ZBp):=by
 refine⟨_,_,T.Zds.ok Zhl (fun vs H Q E h=>?_) (fun cdv A outer s H vs Q E hr h=>?_),T.ZlN,T.Zds.kp,T.ZlY⟩
 ·obtain⟨m,c,rfl,hm6,q⟩:=h
  rfl
 obtain⟨m,c,rfl,hm6,q⟩:=h;have ZrQ:=ZAR (P:=P) (w:=w) (base:=base) T;have ZeD:=ZpK (P:=P) (w:=w) (base:=base) T
 refine⟨_,(Zac (ss 2 Zhl.nd (Zaq Zab))
   (Zac (ZcI PassesOwn.never rfl (ZeI rfl T.B.range (Zaa (pv 0) Zab)) (sg 3 Zhl.nd)
   (Zae (Za2 (ZcX F.plainAttrs_list F.slot_list_append F.type_list_append ZaU (pv 2) (Zaa (Za8 ZeD hr (Zaa (Za8 ZrQ hr (Zaa (pv 3) (Zaa (pv 1) Zab))) (Zaa (pv 2) Zab))) Zab)))))
   (Zae (Zas (pv 2))))),?_⟩
 walk_at "rd0";refine ZaD (by simp) fun l H1 s1 n1 e1=>?_;walk_at "";refine⟨_,rfl,by omega,by omega,?_⟩;rw[show((m:Int)).toNat=m by omega];refine Zni (n:=m) (fun i σ H'=>∃(ns:List Str) (v:Option V),Same H H'∧H' l=some (.lst (ns.map V.str))∧ns.length=i∧(∀z∈ns,Nm8 z∧z∉Zfs)∧ns.Nodup∧σ=[some (.int (m:Int)),some (.int c),some (.ref l),v]) ⟨[],_,s1,e1,rfl,(fun z hz=>by cases hz),nodup_nil,rfl⟩ ?_ ?_
 ·rintro i σ H2 hi ⟨ns,v,s2,e2,hl2,hn2,hd2,rfl⟩
  walk_at "";refine⟨tyL e2,?_⟩;walk_at "";refine⟨i,c,rfl,by omega,fun z H3 s3 hz=>?_⟩;walk_at "";refine⟨z,l,ns,rfl,s3 _ _ e2,by omega,⟨hz.1,hz.2.1,by have:=hz.2.2; omega⟩,fun z' H4 s4 hz4a hz4b hn4 hk4=>?_⟩;have hz4:Nm8 z':=⟨hz4a,by rw[hz4b]; exact hz.2.1,by rw[hz4b]; exact hz.2.2⟩;walk_at "";refine ZaZ (s4 _ _ (s3 _ _ e2)) (by rw[length_map]; omega) fun H5 b5 e5=>?_;walk_at "";refine⟨ns++[z'],_,b5.same n1 (s2.trans (s3.trans s4)),by rw[e5,map_append]; rfl,by rw[length_append]; simp[hl2],fun y hy=>?_,?_,rfl⟩
  ·rcases mem_append.mp hy with h | h
   ·exact hn2 y h
   ·rw[mem_singleton.mp h]; exact⟨hz4,hk4⟩
  ·rw[nodup_append]
   refine⟨hd2,by simp,fun a ha b hb e=>?_⟩;rw[mem_singleton.mp hb]at e;rw[e]at ha;exact hn4 ha
 ·rintro σ H2 ⟨ns,v,s2,e2,hl2,hn2,hd2,rfl⟩
  walk_at "";exact q l ns H2 s2 n1 e2 hl2 hn2 hd2
end
theorem Zbg {ns:List Str} {k:Nat} (h:k < ns.length):ns[k]?=some (ns.getD k Str.empty):=by
 rw[getD_eq_getElem?_getD,List.getElem?_eq_getElem h];rfl
theorem ZEo {z:Str} (h:Nm8 z) (hk:z∉Zfs):z∉(["yes","no","not","(",")"]:List Str):=by
 unfold Zfs at hk;simp only [mem_cons,not_mem_nil,or_false,not_or]at hk ⊢;refine⟨hk.2.2.2.2.1,hk.2.2.2.2.2.1,hk.2.2.1,?_,?_⟩
 ·rintro rfl
  have:=h.1 40 (by decide);omega
 ·rintro rfl
  have:=h.1 41 (by decide);omega
theorem ZCP {zs:List Str} (h:∀z∈zs,Nm8 z∧z∉Zfs) (nd:zs.Nodup):NmsOk zs zs id zs.length:=
 ⟨fun k hk=>Zjo nd (Zbg hk),fun k hk=>by
  have:=h _ (mem_of_getElem? (Zbg hk))
  exact ZEo this.1 this.2⟩
theorem Zty {z:Str} (h:Nm8 z):NmL z∧z.length≤8:=⟨⟨fun e=>by
 have a:=h.2.1
 have b:z.cps.toList.length=z.length:=by simp[Str.length]
 rw[e]at b;simp at b
 omega,h.1⟩,h.2.2⟩
theorem ZAK {zs:List Str} (h:∀z∈zs,Nm8 z) {k:Nat} (hk:k < zs.length):NmL (zs.getD k Str.empty)∧(zs.getD k Str.empty).length≤8:=Zty (h _ (mem_of_getElem? (Zbg hk)))
theorem Zho {z:Str} (h:WdS z):ZeE z:=by
 unfold ZeE
 have a:=StrLaws.reprText_len z (fun c hc=>by
  rcases h.1 with e | e | e
  ·have hc:c∈cl1 z:=hc
   rw[e]at hc;rw[mem_singleton.mp hc];decide
  ·have hc:c∈cl1 z:=hc
   rw[e]at hc;rw[mem_singleton.mp hc];decide
  ·have:=e.2 c hc
   have:(128:Nat)≤16 ^ 8:=by decide
   omega)
 have:=h.2;omega
theorem Zs8 {x:Str} (h:∀d∈x.cps.toList,al d=true):Asc x:=fun c hc=>by
 have:=h c hc;unfold al isL isM at this;simp only [Bool.or_eq_true,Bool.and_eq_true,decide_eq_true_iff,beq_iff_eq]at this;omega
section
variable {P:Program} {w:World} {K:W.Frag} {mg:Str→Option Value} {base:Heap} {t:Ad} {n:Nat}
end
theorem Zkd {Pz:Str→Prop} {k:Str} (hk:Pz k):∀{ps:List (List Str)},(∀p∈ps,∀z∈p,Pz z)→∀z∈jnW k ps,Pz z
 | [],_,z,h=>by cases h
 | [p],hp,z,h=>hp p mem_cons_self z h
 | p::q::r,hp,z,h=>by
  have h:z∈p++k::jnW k (q::r):=h
  rcases mem_append.mp h with h | h
  ·exact hp p mem_cons_self z h
  ·rcases mem_cons.mp h with rfl | h
   ·exact hk
   ·exact Zkd hk (fun x hx=>hp x (mem_cons_of_mem _ hx)) z h
theorem Zke (k:Str) {B:Nat}:∀{ps:List (List Str)},(∀p∈ps,p.length≤B)→(jnW k ps).length≤(B+1) * ps.length
 | [],_=>Nat.zero_le _
 | [p],h=>by have:=h p mem_cons_self; show p.length≤_; simp only [length_singleton]; omega
 | p::q::r,h=>by
  have a:=h p mem_cons_self;have b:=Zke k (ps:=q::r) fun x hx=>h x (mem_cons_of_mem _ hx);show(p++k::jnW k (q::r)).length≤_;rw[length_append,length_cons,length_cons (a:=p),Nat.mul_succ];omega
theorem Zjs {α β γ:Type} {R:β→γ→Prop} {f:α→β} {g:α→γ}:∀{as:List α},(∀a∈as,R (f a) (g a))→Paired R (as.map f) (as.map g)
 | [],_=>.nil
 | a::as,h=>.cons (h a mem_cons_self) (Zjs fun x hx=>h x (mem_cons_of_mem _ hx))
structure NmA (ns:List Str):Prop where
 nm:∀z∈ns,Nm8 z∧z∉Zfs
 nd:ns.Nodup
 n1:1≤ns.length
 n6:ns.length≤6
theorem NmA.lm {ns:List Str} (A:NmA ns):LmpW ns:=by
 refine⟨A.n1,A.n6,fun z hz=>⟨?_,(A.nm z hz).1.2.2⟩,A.nd⟩;obtain⟨a,b⟩:=A.nm z hz
 obtain⟨x1,x2,x3⟩ : z≠"("∧z≠")"∧z≠",":=by
  refine⟨?_,?_,?_⟩
  ·rintro rfl; have:=a.1 40 (by decide); omega
  ·rintro rfl; have:=a.1 41 (by decide); omega
  ·rintro rfl; have:=a.1 44 (by decide); omega
 unfold noNm;unfold Zfs at b;simp only [mem_cons,not_mem_nil,or_false,not_or]at b ⊢;exact⟨b.1,b.2.1,b.2.2.1,b.2.2.2.1,b.2.2.2.2.1,b.2.2.2.2.2.1,b.2.2.2.2.2.2.1,b.2.2.2.2.2.2.2,x1,x2,x3⟩
theorem NmA.wd {ns:List Str} (A:NmA ns):∀z∈ns,WdS z:=fun z hz=>⟨Wd.let (Zty (A.nm z hz).1).1,(Zty (A.nm z hz).1).2⟩
theorem NmA.get {ns:List Str} (A:NmA ns) {k:Nat} (hk:k < ns.length):ns.getD k Str.empty∈ns:=mem_of_getElem? (Zbg hk)
inductive EnT
 | st (g:Tr)
 | bd (g:Tr)
 | mv (v:Tr×List (Nat×Tr))
structure OkM17 (m:Nat) (v:Tr×List (Nat×Tr)):Prop where
 gd:okT m v.1=true∧nT v.1≤51
 cs:∀c∈v.2,(okT m c.2=true∧nT c.2≤51)∧c.1 < m
 nd:(v.2.map Prod.fst).Nodup
 l1:1≤v.2.length
 l6:v.2.length≤6
def fm17 (v:Tr×List (Nat×Tr)):Fm×List (Nat×Fm):=(fmT id v.1,v.2.map fun c=>(c.1,fmT id c.2))
def pc17 (ns:List Str) (c:Nat×Tr):List Str:=ns.getD c.1 Str.empty::("is" : Str)::wdG true ns c.2
def enW (ns:List Str):EnT→List Str
 | .st g=>"start"::wdG true ns g
 | .bd g=>"bad"::wdG true ns g
 | .mv v=>"move"::(wdG true ns v.1++("then" : Str)::jnW "," (v.2.map (pc17 ns)))
theorem Ztn (k:Str):∀(ps:List (List Str)) (p:List Str),jnW k (ps++[p])=if ps=[] then p else jnW k ps++k::p
 | [],p=>rfl
 | [q],p=>rfl
 | q::r::ps,p=>by
  have ih:=Ztn k (r::ps) p;rw[if_neg (by simp)]at ih ⊢;show q++k::jnW k (r::ps++[p])=(q++k::jnW k (r::ps))++k::p;rw[ih];simp
def OkE (m:Nat):EnT→Prop
 | .st g=>okT m g=true∧nT g≤51
 | .bd g=>okT m g=true∧nT g≤51
 | .mv v=>OkM17 m v
theorem Zqa {ns:List Str} (A:NmA ns) {tr:Tr} (h:okT ns.length tr=true):∀z∈wdG true ns tr,WdX z:=fun z hz=>
 (Zo0 ZvT (m:=ns.length) (fun k hk=>A.wd _ (A.get hk)) tr h z hz).x
theorem Zdd {z:Str} (h:NmL z∧z.length≤14):WdX z:=⟨.inr (.inr (.inr h.1)),h.2⟩
def ZBH (z:Str):Prop:=WdS z∧z≠"then"∧z≠","
theorem Zs4 {ns:List Str} (A:NmA ns) {tr:Tr} (h:okT ns.length tr=true):∀z∈wdG true ns tr,ZBH z:=by
 refine Zo0 (fun z hz=>?_) (m:=ns.length) (fun k hk=>?_) tr h
 ·refine⟨ZvT z hz,?_,?_⟩
  ·rintro rfl; exact absurd hz (by decide)
  ·rintro rfl; exact absurd hz (by decide)
 ·have hm:=A.get hk
  refine⟨A.wd _ hm,fun e=>(A.nm _ hm).2 (by rw[e]; decide),fun e=>?_⟩;have:=(A.nm _ hm).1.1 44 (by rw[e]; decide);omega
theorem rd17 {ns:List Str} (A:NmA ns) {tr:Tr} (h:okT ns.length tr=true):Ze7 ns (wdG true ns tr)=some (fmT id tr):=ZwC (ZCP A.nm A.nd) h
theorem wl17 {ns:List Str} {tr:Tr} (h:nT tr≤51):(wdG true ns tr).length≤201:=by
 have:=ZtT true ns tr;omega
theorem mv17 {ns:List Str} (A:NmA ns) {v:Tr×List (Nat×Tr)} (o:OkM17 ns.length v):MvRd ns (wdG true ns v.1) (jnW "," (v.2.map (pc17 ns))) (fm17 v):=by
 have hc:v.2.map (pc17 ns)≠[]:=fun e=>by have:=o.l1; rw[List.map_eq_nil_iff]at e; rw[e]at this; simp at this
 have pw:∀p∈v.2.map (pc17 ns),∀z∈p,ZBH z∨z = "is":=fun p hp z hz=>by
  obtain⟨c,hc',rfl⟩:=mem_map.mp hp;obtain⟨oc,hk⟩:=o.cs c hc';have hm:=A.get hk;have hz:z∈ns.getD c.1 Str.empty::("is" : Str)::wdG true ns c.2:=hz
  rcases mem_cons.mp hz with rfl | hz
  ·refine .inl ⟨A.wd _ hm,fun e=>(A.nm _ hm).2 (by rw[e]; decide),fun e=>?_⟩
   have:=(A.nm _ hm).1.1 44 (by rw[e]; decide);omega
  rcases mem_cons.mp hz with rfl | hz
  ·exact .inr rfl
  ·exact .inl (Zs4 A oc.1 z hz)
 have ep:Zb2 (jnW "," (v.2.map (pc17 ns)))=v.2.map (pc17 ns):=ZoS hc fun p hp hm=>by
  rcases pw p hp _ hm with h | h
  ·exact h.2.2 rfl
  ·exact absurd h (by decide)
 have hl6:=o.l6
 have pl:∀p∈v.2.map (pc17 ns),p.length≤203:=fun p hp=>by
  obtain⟨c,hc',rfl⟩:=mem_map.mp hp;have:=wl17 (ns:=ns) (o.cs c hc').1.2;show(wdG true ns c.2).length+2≤_;omega
 have pp:∀p∈Zb2 (jnW "," (v.2.map (pc17 ns))),∀z∈p,ZeE z:=fun p hp z hz=>by
  rw[ep]at hp
  rcases pw p hp z hz with h | rfl
  ·exact Zho h.1
  ·exact Zho ⟨.inr (.inr ⟨by decide,by decide⟩),by decide⟩
 refine⟨⟨?_,?_,?_,?_⟩,rd17 A o.gd.1,?_,?_,fun z hz=>Zho (Zs4 A o.gd.1 z hz).1,pp⟩
 ·intro h
  rcases mem_cons.mp h with h | h
  ·exact absurd h (by decide)
  ·exact(Zs4 A o.gd.1 _ h).2.1 rfl
 ·intro h
  have:=Zkd (Pz:=fun z=>z≠"then") (k:=",") (by decide) (ps:=v.2.map (pc17 ns)) (fun p hp z hz=>by
   rcases pw p hp z hz with h | rfl
   ·exact h.2.1
   ·decide) _ h
  exact this rfl
 ·have a:=wl17 (ns:=ns) o.gd.2
  have b:=Zke "," pl;rw[length_map]at b;have c:(203+1) * v.2.length≤204 * 6:=Nat.mul_le_mul_left _ hl6;simp only [length_cons];omega
 ·intro p hp
  rw[ep]at hp;obtain⟨c,hc',rfl⟩:=mem_map.mp hp;exact⟨by show 2≤(wdG true ns c.2).length+2; omega,rfl⟩
 ·rw[ep]
  exact Zjs fun c hc'=>⟨_,_,rfl,Zjo A.nd (Zbg (o.cs c hc').2),rd17 A (o.cs c hc').1.1⟩
 ·show((v.2.map fun c=>(c.1,fmT id c.2)).map Prod.fst).Nodup
  rw[map_map];exact o.nd
def entF:EnT→Ent
 | .st g=>.st (fmT id g)
 | .bd g=>.bd (fmT id g)
 | .mv v=>.mv (fm17 v)
theorem ZBX {ns:List Str} (A:NmA ns) {e:EnT} (ok:OkE ns.length e):EntW ns (enW ns e) (entF e):=by
 cases e with
 | st g=>exact .st (rd17 A ok.1) (fun z hz=>Zho (Zs4 A ok.1 z hz).1) (by have:=wl17 (ns:=ns) ok.2; omega)
 | bd g=>exact .bd (rd17 A ok.1) (fun z hz=>Zho (Zs4 A ok.1 z hz).1) (by have:=wl17 (ns:=ns) ok.2; omega)
 | mv v=>exact .mv (mv17 A ok)
def fm19 (i j:Nat) (v:W3):Nat→Tr
 | 0=>.lamp i
 | 1=>.neg (.lamp i)
 | 2=>.join v [.lamp i,.lamp j]
 | 3=>.join v [.neg (.join v [.lamp i,.sure true]),.lamp j]
 | _=>.sure false
def fw19 (a b:Str) (v:W3):Nat→List Str
 | 0=>[a]
 | 1=>["not",a]
 | 2=>[a,kw3 v,b]
 | 3=>["not","(",a,kw3 v,"yes",")",kw3 v,b]
 | _=>["no"]
theorem wd19 (b:Bool) (ns:List Str) (i j:Nat) (v:W3):∀k,wdG b ns (fm19 i j v k)=fw19 (ns.getD i Str.empty) (ns.getD j Str.empty) v k
 | 0=>rfl
 | 1=>rfl
 | 2=>by cases v <;> rfl
 | 3=>by cases v <;> rfl
 | _+4=>rfl
def OkF (m:Nat) (tr:Tr):Prop:=∃i j v k,i < m∧j < m∧tr=fm19 i j v k
theorem OkF.ok {m:Nat} {tr:Tr} (h:OkF m tr):okT m tr=true∧nT tr≤6:=by
 obtain⟨i,j,v,k,hi,hj,rfl⟩:=h
 match k with
 | 0=>exact⟨decide_eq_true hi,Nat.le_of_ble_eq_true rfl⟩
 | 1=>exact⟨decide_eq_true hi,Nat.le_of_ble_eq_true rfl⟩
 | 2=>exact⟨by simp[fm19,okT,okTL,hi,hj],Nat.le_of_ble_eq_true rfl⟩
 | 3=>exact⟨by simp[fm19,okT,okTL,hi,hj],Nat.le_of_ble_eq_true rfl⟩
 | _+4=>exact⟨rfl,Nat.le_of_ble_eq_true rfl⟩
theorem Zbi {n:Nat} (z:Int) (h:0 < n):∃k:Nat,z % (n:Int)=(k:Int)∧k < n:=by
 have v1:=Int.emod_nonneg z (show(n:Int)≠0 by omega);have v2:=Int.emod_lt_of_pos z (show(0:Int) < (n:Int) by omega);exact⟨(z % (n:Int)).toNat,by omega,by omega⟩
seal PE PA PS PSs
section
variable {P:Program} {w:World} {K:W.Frag} {mg:Str→Option Value} {base:Heap} {t:Ad} {n:Nat}
def Zyx:Sp:=fun vs H Q _=>∃(c:Int) (nl:Addr) (ns:List Str),vs=[.int c,.ref nl]∧H nl=some (.lst (ns.map V.str))∧1≤ns.length∧ns.length≤6∧∀l tr H',Same H H'→H l=none→H' l=some (.lst ((wdG true ns tr).map V.str))→OkF ns.length tr→Q (.ref l) H'
theorem Znt (T:Txt K mg t):FnS P w K mg base 1 "_law_form" ["_law_cell","_law_names_here"] (Zyx):=by
 refine⟨_,_,T.Zd2.ok Zf6 (fun vs H Q E h=>?_) (fun cdv A outer s H vs Q E hr h=>?_),T.ZmM,T.Zd2.kp,T.Znk⟩
 ·obtain⟨c,nl,ns,rfl,hn,h1,h6,q⟩:=h
  rfl
 obtain⟨c,nl,ns,rfl,hn,h1,h6,q⟩:=h;have hln:(ns.map V.str).length=ns.length:=length_map _;obtain⟨i,hi,him⟩:=Zbi (n:=ns.length) (c / 5) (by omega);obtain⟨j,hj,hjm⟩:=Zbi (n:=ns.length) (c / 30) (by omega);obtain⟨y,hy,hym⟩:=Zbi (n:=3) (c / 180) (by omega)
 obtain⟨v,hv⟩ : ∃v:W3,([V.str "and",V.str "either",V.str "or"]:List V)[y]?=some (.str (kw3 v)):=by
  match y,hym with
  | 0,_=>exact⟨.a,rfl⟩
  | 1,_=>exact⟨.e,rfl⟩
  | 2,_=>exact⟨.o,rfl⟩
 have fin:∀(k:Nat) (l:Addr) (H':Hp),Same H H'→H l=none→H' l=some (.lst ((fw19 (ns.getD i Str.empty) (ns.getD j Str.empty) v k).map V.str))→Q (.ref l) H':=fun k l H' s n e=>q l (fm19 i j v k) H' s n (by rw[wd19]; exact e) ⟨i,j,v,k,him,hjm,rfl⟩
 refine⟨_,(Zac (ss 2 Zf6.nd (Za1 ZaA (pv 1) (Zah Zax (Zah Zay (pv 0) Zad) (Zaw ZaE rfl T.B.len ZbV (Zaa (pv 1) Zab))) (fun _ _=>rfl)))
   (Zac (ss 3 Zf6.nd (Za1 ZaA (pv 1) (Zah Zax (Zah Zay (pv 0) Zad) (Zaw ZaE rfl T.B.len ZbV (Zaa (pv 1) Zab))) (fun _ _=>rfl)))
   (Zac (ss 4 Zf6.nd (Za1 ZaA (Zaq (Zaa Zai (Zaa Zai (Zaa Zai Zab)))) (Zah Zax (Zah Zay (pv 0) Zad) Zad) (fun _ _=>rfl)))
   (Zac (ZaP (Zal (ZaF hr.units) (Zah Zax (pv 0) Zad) Zad (Zat _))
   (Zae (Zas (Zaq (Zaa (pv 2) Zab))))
   Zap)
   (Zac (ZaP (Zal (ZaF hr.units) (Zah Zax (pv 0) Zad) Zad (Zat _))
   (Zae (Zas (Zaq (Zaa Zai (Zaa (pv 2) Zab)))))
   Zap)
   (Zac (ZaP (Zal (ZaF hr.units) (Zah Zax (pv 0) Zad) Zad (Zat _))
   (Zae (Zas (Zaq (Zaa (pv 2) (Zaa (pv 4) (Zaa (pv 3) Zab))))))
   Zap)
   (Zac (ZaP (Zal (ZaF hr.units) (Zah Zax (pv 0) Zad) Zad (Zat _))
   (Zae (Zas (Zaq (Zaa Zai (Zaa Zai (Zaa (pv 2) (Zaa (pv 4) (Zaa Zai (Zaa Zai (Zaa (pv 4) (Zaa (pv 3) Zab)))))))))))
   Zap)
   (Zae (Zas (Zaq (Zaa Zai Zab))))))))))),?_⟩
 walk_at "rd0";rw[hln]
 (try refine i_rI (by omega) ?_)
 rw[hi];refine ZaO (j:=i) hn (v:=.str (ns.getD i Str.empty)) (by rw[getElem?_map,Zbg him]; rfl) ?_;walk_at "";rw[hln]
 (try refine i_rI (by omega) ?_)
 rw[hj];refine ZaO (j:=j) hn (v:=.str (ns.getD j Str.empty)) (by rw[getElem?_map,Zbg hjm]; rfl) ?_;walk_at "";refine ZaD (by simp) fun l0 H1 s1 n1 e1=>?_;walk_at "";have hy:c / 180 % 3=(y:Int):=hy;rw[hy];refine ZaO (j:=y) e1 (v:=.str (kw3 v)) hv ?_;walk_at "";refine ZbN (fun h0=>?_) (fun h0=>?_)
 ·walk_at ""
  exact ZaD (by simp) fun l H2 s2 n2 e2=>fin 0 l H2 (s1.trans s2) (s1.free n2) e2
 walk_at "";refine ZbN (fun h1=>?_) (fun h1=>?_)
 ·walk_at ""
  exact ZaD (by simp) fun l H2 s2 n2 e2=>fin 1 l H2 (s1.trans s2) (s1.free n2) e2
 walk_at "";refine ZbN (fun h2=>?_) (fun h2=>?_)
 ·walk_at ""
  exact ZaD (by simp) fun l H2 s2 n2 e2=>fin 2 l H2 (s1.trans s2) (s1.free n2) e2
 walk_at "";refine ZbN (fun h3=>?_) (fun h3=>?_)
 ·walk_at ""
  exact ZaD (by simp) fun l H2 s2 n2 e2=>fin 3 l H2 (s1.trans s2) (s1.free n2) e2
 walk_at "";exact ZaD (by simp) fun l H2 s2 n2 e2=>fin 4 l H2 (s1.trans s2) (s1.free n2) e2
structure PcOk (m:Nat) (cs:List (Nat×Tr)):Prop where
 ok:∀c∈cs,OkF m c.2∧c.1 < m
 nd:(cs.map Prod.fst).Nodup
 l1:1≤cs.length
 l2:cs.length≤2
def ZuJ:Sp:=fun vs H Q _=>∃(c:Int) (nl:Addr) (ns:List Str),vs=[.int c,.ref nl]∧H nl=some (.lst (ns.map V.str))∧1≤ns.length∧ns.length≤6∧∀l ps cs H',Same H H'→H l=none→H' l=some (.lst (ps.map V.ref))→Zxm H H' ps (cs.map (pc17 ns))→(l::ps).Nodup→PcOk ns.length cs→Q (.ref l) H'
theorem wd6 {m:Nat} {ns:List Str} {tr:Tr} (h:OkF m tr):(wdG true ns tr).length≤8:=by
 obtain⟨i,j,v,k,_,_,rfl⟩:=h;rw[wd19]
 match k with
 | 0=>exact Nat.le_of_ble_eq_true rfl
 | 1=>exact Nat.le_of_ble_eq_true rfl
 | 2=>exact Nat.le_of_ble_eq_true rfl
 | 3=>exact Nat.le_of_ble_eq_true rfl
 | _+4=>exact Nat.le_of_ble_eq_true rfl
theorem Zrj (T:Txt K mg t):FnS P w K mg base 2 "_law_pieces" ["_law_cell","_law_names_here"] (ZuJ):=by
 refine⟨_,_,T.ZcM.ok ZeB (fun vs H Q E h=>?_) (fun cdv A outer s H vs Q E hr h=>?_),T.ZjY,T.ZcM.kp,T.Zkt⟩
 ·obtain⟨c,nl,ns,rfl,hn,h1,h6,q⟩:=h
  rfl
 obtain⟨c,nl,ns,rfl,hn,h1,h6,q⟩:=h;have ZaS:=Znt (P:=P) (w:=w) (base:=base) T;have hln:(ns.map V.str).length=ns.length:=length_map _;obtain⟨i,hi,him⟩:=Zbi (n:=ns.length) c (by omega)
 refine⟨_,(Zac (ss 2 ZeB.nd (Zah Zax (pv 0) (Zaw ZaE rfl T.B.len ZbV (Zaa (pv 1) Zab))))
   (Zac (ss 3 ZeB.nd (Zaq (Zaa (Zah Zam (Zaq (Zaa (Za1 ZaA (pv 1) (pv 2) (fun _ _=>rfl)) (Zaa Zai Zab))) (Za8 ZaS hr (Zaa (Zah Zay (pv 0) Zad) (Zaa (pv 1) Zab)))) Zab)))
   (Zac (ZaP (PW.pt (ZgI (Zal Zrk (Zaw ZaE rfl T.B.len ZbV (Zaa (pv 1) Zab)) Zad (Zat _)) (Zgg (Zal (ZaF hr.units) (Zah Zax (Zah Zay (pv 0) Zad) Zad) Zad (Zat _)))))
   (Zac (ss 4 ZeB.nd (Zah Zax (Zah Zam (Zah Zam (pv 2) Zad) (Zah Zax (Zah Zay (pv 0) Zad) (Zah Zwj (Zaw ZaE rfl T.B.len ZbV (Zaa (pv 1) Zab)) Zad))) (Zaw ZaE rfl T.B.len ZbV (Zaa (pv 1) Zab))))
   (Zae (Za2 (ZcX F.plainAttrs_list F.slot_list_append F.type_list_append ZaU (pv 3) (Zaa (Zah Zam (Zaq (Zaa (Za1 ZaA (pv 1) (pv 4) (fun _ _=>rfl)) (Zaa Zai Zab))) (Za8 ZaS hr (Zaa (Zah Zay (pv 0) Zad) (Zaa (pv 1) Zab)))) Zab)))))
   Zap)
   (Zae (Zas (pv 3)))))),?_⟩
 walk_at "rd0";rw[hln]
 (try refine i_rI (by omega) ?_)
 rw[hi];walk_at "";refine ZaO (j:=i) hn (v:=.str (ns.getD i Str.empty)) (by rw[getElem?_map,Zbg him]; rfl) ?_;walk_at "";refine ZaD (by simp) fun l1 H1 s1 n1 e1=>?_;walk_at "";refine⟨_,nl,ns,rfl,s1 _ _ hn,h1,h6,fun l2 tr H2 s2 n2 e2 ok2=>?_⟩;have w2:=wd6 (ns:=ns) ok2;refine Zcs (s2 _ _ e1) e2 (by simp only [length_map,length_cons,length_nil]; omega) fun l3 H3 s3 n3 e3=>?_;walk_at "";refine ZaD (by simp) fun l4 H4 s4 n4 e4=>?_;have w3:=s1.trans (s2.trans s3);have w4:=w3.trans s4;have e3:H3 l3=some (.lst ((pc17 ns (i,tr)).map V.str)):=e3;have n3':H l3=none:=(s1.trans s2).free n3;have n4':H l4=none:=w3.free n4;have ne:l4≠l3:=(Zaf e3 n4).symm;have one:∀(H':Hp),Same H4 H'→Q (.ref l4) H':=fun H' s=>q l4 [l3] [(i,tr)] H' (w4.trans s) n4' (s _ _ e4) (.cons ⟨n3',s _ _ (s4 _ _ e3)⟩ .nil) (by simp[ne]) ⟨fun c hc=>by rw[mem_singleton.mp hc]; exact⟨ok2,him⟩,by simp,Nat.le_refl _,by show 1≤2; omega⟩;walk_at "rs";refine Zhx (fun σ H'=>(∃v4,σ=[some (.int c),some (.ref nl),some (.int (i:Int)),some (.ref l4),v4])∧Q (.ref l4) H') ?_ ?_
 rotate_left
 ·intro Kn hK
  have hn4:=w4 _ _ hn;walk_at "";rw[hln];refine ZbN (fun h2=>?_) (fun h2=>?_)
  ·walk_at ""
   refine ZbN (fun h3=>?_) (fun h3=>?_)
   ·obtain⟨y,hy,hym⟩:=Zbi (n:=ns.length - 1) (c / 72) (by omega)
    obtain⟨j,hj,hjm⟩:=Zbi (n:=ns.length) ((i:Int)+1+(y:Int)) (by omega)
    have hij:j≠i:=fun e=>by
     subst e;have a1:((j:Int)+1+(y:Int)) % (ns.length:Int)=(j:Int):=hj;have d:(ns.length:Int) ∣ ((j:Int)+1+(y:Int) - (j:Int)):=Int.dvd_of_emod_eq_zero (by rw[Int.sub_emod,a1,Int.emod_eq_of_lt (by omega) (by omega:(j:Int) < (ns.length:Int)),Int.sub_self,Int.zero_emod]);have:=Int.le_of_dvd (by omega) d;omega
    walk_at "";rw[hln]
    (try refine i_rI (by omega) ?_)
    rw[show(ns.length:Int) - 1=((ns.length - 1:Nat):Int) by omega,hy];walk_at "";rw[hj];refine⟨tyL e4,?_⟩;walk_at "";refine ZaO (j:=j) hn4 (v:=.str (ns.getD j Str.empty)) (by rw[getElem?_map,Zbg hjm]; rfl) ?_;walk_at "";refine ZaD (by simp) fun l5 H5 s5 n5 e5=>?_;walk_at "";refine⟨_,nl,ns,rfl,s5 _ _ hn4,h1,h6,fun l6 tr' H6 s6 n6 e6 ok6=>?_⟩;have w6:=wd6 (ns:=ns) ok6;refine Zcs (s6 _ _ e5) e6 (by simp only [length_map,length_cons,length_nil]; omega) fun l7 H7 s7 n7 e7=>?_;have e7:H7 l7=some (.lst ((pc17 ns (j,tr')).map V.str)):=e7;have w7:=s5.trans (s6.trans s7);have e47:=w7 _ _ e4;walk_at "";refine ZaZ e47 (by simp) fun H8 b8 e8=>?_;have n74:H4 l7=none:=(s5.trans s6).free n7;have n7':H l7=none:=w4.free n74;have n3l:l3≠l7:=Zaf (s4 _ _ e3) n74;have n4l:l4≠l7:=Zaf e4 n74;walk_at "";refine hK _ _ ⟨⟨_,rfl⟩,q l4 [l3,l7] [(i,tr),(j,tr')] H8 (b8.same n4' (w4.trans w7)) n4' e8 (.cons ⟨n3',b8 _ _ ne.symm (w7 _ _ (s4 _ _ e3))⟩ (.cons ⟨n7',b8 _ _ n4l.symm e7⟩ .nil)) (by simp[ne,n4l,n3l]) ⟨fun c hc=>?_,?_,by show 1≤2; omega,Nat.le_refl _⟩⟩
    ·simp only [mem_cons,not_mem_nil,or_false]at hc
     rcases hc with rfl | rfl
     ·exact⟨ok2,him⟩
     ·exact⟨ok6,hjm⟩
    ·simp[hij.symm]
   ·walk_at ""
    exact hK _ _ ⟨⟨_,rfl⟩,one _ (Same.refl _)⟩
  ·walk_at ""
   exact hK _ _ ⟨⟨_,rfl⟩,one _ (Same.refl _)⟩
 rintro σ H' ⟨⟨v4,rfl⟩,k⟩;walk_at "";exact k
def ZtM:Sp:=fun vs H Q _=>∃(gl pl:Addr) (a:List Str) (ps:List Addr) (pcs:List (List Str)),vs=[.ref gl,.ref pl]∧H gl=some (.lst (a.map V.str))∧H pl=some (.lst (ps.map V.ref))∧Paired (fun p pc=>H p=some (.lst (pc.map V.str))) ps pcs∧1≤pcs.length∧pcs.length≤3∧a.length≤20∧(∀pc∈pcs,pc.length≤20)∧∀l H',Same H H'→H l=none→H' l=some (.lst ((("move" : Str)::(a++("then" : Str)::jnW "," pcs)).map V.str))→Q (.ref l) H'
theorem Zwe (T:Txt K mg t):FnS P w K mg base 1 "_law_move" ["_law_guard","_law_pieces_here"] (ZtM):=by
 refine⟨_,_,T.Zd4.ok Zf7 (fun vs H Q E h=>?_) (fun cdv A outer s H vs Q E hr h=>?_),T.ZmO,T.Zd4.kp,T.Znm⟩
 ·obtain⟨gl,pl,a,ps,pcs,rfl,hg,hp,pp,c1,c3,ha,hpc,q⟩:=h
  rfl
 obtain⟨gl,pl,a,ps,pcs,rfl,hg,hp,pp,c1,c3,ha,hpc,q⟩:=h;have hpl:=Zau pp
 refine⟨_,(Zac (ss 2 Zf7.nd (Zah Zam (Zah Zam (Zah Zam (Zaq (Zaa Zai Zab)) (pv 0)) (Zaq (Zaa Zai Zab))) (Za1 ZaA (pv 1) Zad (fun _ _=>rfl))))
   (Zac (ZcI PassesOwn.never rfl (Zfz (Zbp Zc8 (pv 1) (ZbK Zad) Zce)) (sg 3 Zf7.nd)
   (Zae (ss 2 Zf7.nd (Zah Zam (Zah Zam (pv 2) (Zaq (Zaa Zai Zab))) (pv 3)))))
   (Zae (Zas (pv 2))))),?_⟩
 walk_at "rd0";refine ZaD (by simp) fun l1 H1 s1 n1 e1=>?_;walk_at "";refine Zcs e1 (s1 _ _ hg) (by simp only [length_map,length_cons,length_nil]; omega) fun l2 H2 s2 n2 e2=>?_;walk_at "";refine ZaD (by simp) fun l3 H3 s3 n3 e3=>?_;refine Zcs (s3 _ _ e2) e3 (by simp only [length_map,length_append,length_cons,length_nil]; omega) fun l4 H4 s4 n4 e4=>?_;have w4:=s1.trans (s2.trans (s3.trans s4))
 cases pp with
 | nil=>exact absurd c1 (by decide)
 | cons h1 hr=>
  rename_i p pc ps pcs
  have hpc1:=hpc pc mem_cons_self;walk_at "";refine ZaO (j:=0) (w4 _ _ hp) (v:=.ref p) rfl ?_;refine Zcs e4 (w4 _ _ h1) (by simp only [length_map,length_append,length_cons,length_nil]; omega) fun l5 H5 s5 n5 e5=>?_;have w5:=w4.trans s5
  have e5:H5 l5=some (.lst ((("move" : Str)::(a++("then" : Str)::jnW "," [pc])).map V.str)):=by rw[e5]; simp[jnW]
  walk_at "";refine ZgD (SqL.of (w5 _ _ hp)) (Zc9 (k:=1) (by simp)) fun l6 H6 s6 n6 e6=>?_;have e6:H6 l6=some (.lst (ps.map V.ref)):=e6;have hrl:=Zau hr;simp only [length_cons]at c3
  have jl:∀i,(jnW "," (pc::pcs.take i)).length≤63:=fun i=>by
   have:=Zke "," (B:=20) (ps:=pc::pcs.take i) (fun p hp=>by
    rcases mem_cons.mp hp with rfl | hp
    ·exact hpc1
    ·exact hpc p (mem_cons_of_mem _ (mem_of_mem_take hp)))
   rw[length_cons,length_take]at this;have b:(20+1) * (min i pcs.length+1)≤21 * 3:=Nat.mul_le_mul_left _ (by omega);omega
  refine seqL (xs:=ps.map V.ref) (fun i σ H'=>∃la v3,Same H6 H'∧H la=none∧H' la=some (.lst ((("move" : Str)::(a++("then" : Str)::jnW "," (pc::pcs.take i))).map V.str))∧σ=[some (.ref gl),some (.ref pl),some (.ref la),v3]) ⟨l5,_,Same.refl _,w4.free n5,s6 _ _ e5,rfl⟩ (fun i σ H' _ hp=>by obtain⟨_,_,s,_⟩:=hp; exact SqL.of (s _ _ e6)) ?_ ?_
  ·rintro i x σ H7 hx ⟨la,v3,s7,na,e7,rfl⟩
   obtain⟨p',rfl,hp'⟩:=Zgc hx;obtain⟨pc',hpc',ep⟩:=Zbj hr hp';have hpl':=hpc pc' (mem_cons_of_mem _ (mem_of_getElem? hpc'));have jli:=jl i;walk_at "";refine ZaD (by simp) fun l8 H8 s8 n8 e8=>?_;refine Zcs (s8 _ _ e7) e8 (by simp only [length_map,length_append,length_cons,length_nil]; omega) fun l9 H9 s9 n9 e9=>?_;have w9:=(w5.trans s6).trans (s7.trans (s8.trans s9));walk_at "";refine Zcs e9 (w9 _ _ ep) (by simp only [length_map,length_append,length_cons,length_nil]; omega) fun l10 H10 s10 n10 e10=>?_;walk_at "";refine⟨l10,_,s7.trans (s8.trans (s9.trans s10)),w9.free n10,?_,rfl⟩;rw[e10,Zbh hpc',show pc::(pcs.take i++[pc'])=(pc::pcs.take i)++[pc'] from rfl,Ztn,if_neg (by simp)];simp
  ·rintro σ H7 ⟨la,v3,s7,na,e7,rfl⟩
   rw[length_map,hrl,take_length]at e7;walk_at "";exact q la H7 (w5.trans (s6.trans s7)) na e7
end
unseal PE PA PS PSs
theorem ZsG:∀a:List Str,(∀z∈a,Asc z)→PyData.canLayAll0 (a.map .str)=true
 | [],_=>rfl
 | x::a,h=>by
  have e:PyData.strOk x=true:=by
   unfold PyData.strOk;rw[Array.all_eq_true_iff_forall_mem];intro c hc;have:=h x (by simp) c (Array.mem_toList_iff.mpr hc);exact decide_eq_true (by omega)
  simp[PyData.canLayAll0,PyData.canLay0,e,ZsG a (fun z hz=>h z (mem_cons_of_mem _ hz))]
theorem ZvE {l l':Addr} {a:List Str} {H:Hp} {Q:VK} (ha:∀z∈a,Asc z) (h:H l=some (.lst (a.map V.str))) (h':H l'=some (.lst (a.map V.str))) (q:Q (.bl false) H):rNeA (.ref l) (.ref l') H Q:=by
 refine .inr (.inl ⟨a.map .str,a.map .str,?_,?_,ZsG a ha,ZsG a ha,Ztf a,?_⟩)
 ·rw[DV]; exact⟨l,_,rfl,h,Zpg H a⟩
 ·rw[DV]; exact⟨l',_,rfl,h',Zpg H a⟩
 ·rw[ZmZ,decide_eq_true rfl]; exact q
def WL (ll:Addr) (H:Hp) (ps:List Addr) (wss:List (List Str)):Prop:=Paired (fun p ws=>p≠ll∧H p=some (.lst (ws.map V.str))) ps wss
def Zcc (fs bs:List Tr) (us:List (Tr×List (Nat×Tr))):List EnT:=fs.map .st++bs.map .bd++us.map .mv
def Zfq (ns:List Str) (es:List EnT):List (List Str):=("lamps"::ns)::es.map (enW ns)
structure GL (ns:List Str) (H0 H:Hp) (ll:Addr) (ps:List Addr) (es:List EnT):Prop where
 sm:Same H0 H
 nn:H0 ll=none
 el:H ll=some (.lst (ps.map V.ref))
 wl:WL ll H ps (Zfq ns es)
theorem GL.app {ns:List Str} {H0 H H':Hp} {ll p:Addr} {ps:List Addr} {es:List EnT} {e:EnT} (G:GL ns H0 H ll ps es) {H1:Hp} (s:Same H H1) (n:H p=none) (ep:H1 p=some (.lst ((enW ns e).map V.str))) (b:But ll H1 H') (el:H' ll=some (.lst (ps.map V.ref++[.ref p]))):GL ns H0 H' ll (ps++[p]) (es++[e]):=by
 have hne:p≠ll:=(Zaf G.el n).symm;refine⟨b.same G.nn (G.sm.trans s),G.nn,by rw[el,map_append]; rfl,?_⟩
 have e1:Zfq ns (es++[e])=Zfq ns es++[enW ns e]:=by unfold Zfq; rw[map_append]; rfl
 unfold WL;rw[e1];exact ZaX (Zan (fun _ _ z=>⟨z.1,b _ _ z.1 (s _ _ z.2)⟩) G.wl) (.cons ⟨hne,b _ _ hne ep⟩ .nil)
structure OkG (m:Nat) (fs bs:List Tr) (us:List (Tr×List (Nat×Tr))):Prop where
 f:∀g∈fs,OkF m g
 b:∀g∈bs,OkF m g
 u:∀v∈us,OkF m v.1∧PcOk m v.2
 lf:fs.length≤4
 lb:bs.length≤4
 lu:us.length≤4
theorem Zj7 {ns:List Str} {fs bs:List Tr} {us:List (Tr×List (Nat×Tr))}:(Zfq ns (Zcc fs bs us)).length=1+fs.length+bs.length+us.length:=by
 unfold Zfq Zcc;simp only [length_cons,length_map,length_append];omega
seal PE PA PS PSs
section
variable {P:Program} {w:World} {K:W.Frag} {mg:Str→Option Value} {base:Heap} {t:Ad} {n:Nat}
def ZDL (K:W.Frag):Sp:=fun vs H Q _=>∃(sc nl:Addr) (cs:List Int) (ns:List Str),vs=[.ref sc,.ref nl]∧SqL K H sc (cs.map V.int)∧H nl=some (.lst (ns.map V.str))∧1≤ns.length∧ns.length≤6∧∀l ps fs bs us H',GL ns H H' l ps (Zcc fs bs us)→OkG ns.length fs bs us→Q (.ref l) H'
theorem ZAQ (T:Txt K mg t):FnS P w K mg base 4 "_law_good" ["_law_script","_law_names_here"] ((ZDL K)):=by
 refine⟨_,_,T.Zd3.ok Zb5 (fun vs H Q E h=>?_) (fun cdv A outer s H vs Q E hr h=>?_),T.ZmN,T.Zd3.kp,T.Znl⟩
 ·obtain⟨sc,nl,cs,ns,rfl,hS,hn,h1,h6,q⟩:=h
  rfl
 obtain⟨sc,nl,cs,ns,rfl,hS,hn,h1,h6,q⟩:=h;have ZaN:=ZoO (P:=P) (w:=w) (base:=base) T;have ZaS:=Znt (P:=P) (w:=w) (base:=base) T;have ZgW:=Zrj (P:=P) (w:=w) (base:=base) T;have Zjg:=Zwe (P:=P) (w:=w) (base:=base) T
 refine⟨_,(Zac (ss 2 Zb5.nd (Zah Zay (Za8 ZaN hr (Zaa (pv 0) (Zaa Zad Zab))) Zad))
   (Zac (ss 3 Zb5.nd (Zaq (Zaa (Zah Zam (Zaq (Zaa Zai Zab)) (pv 1)) Zab)))
   (Zac (ZcI PassesOwn.never rfl (ZeI rfl T.B.range (Zaa (Zah Zax (pv 2) Zad) Zab)) (sg 4 Zb5.nd)
   (Zae (Za2 (ZcX F.plainAttrs_list F.slot_list_append F.type_list_append ZaU (pv 3) (Zaa (Zah Zam (Zaq (Zaa Zai Zab)) (Za8 ZaS hr (Zaa (Za8 ZaN hr (Zaa (pv 0) (Zaa (Zah Zam Zad (pv 4)) Zab))) (Zaa (pv 1) Zab)))) Zab)))))
   (Zac (ZcI PassesOwn.never rfl (ZeI rfl T.B.range (Zaa (Zah Zax (Zah Zay (pv 2) Zad) Zad) Zab)) (sg 4 Zb5.nd)
   (Zae (Za2 (ZcX F.plainAttrs_list F.slot_list_append F.type_list_append ZaU (pv 3) (Zaa (Zah Zam (Zaq (Zaa Zai Zab)) (Za8 ZaS hr (Zaa (Za8 ZaN hr (Zaa (pv 0) (Zaa (Zah Zam Zad (pv 4)) Zab))) (Zaa (pv 1) Zab)))) Zab)))))
   (Zac (ZcI PassesOwn.never rfl (ZeI rfl T.B.range (Zaa (Zah Zax (Zah Zay (pv 2) Zad) Zad) Zab)) (sg 4 Zb5.nd)
   (Zac (ss 5 Zb5.nd (Za8 ZaS hr (Zaa (Za8 ZaN hr (Zaa (pv 0) (Zaa (Zah Zam Zad (Zah Zh3 Zad (pv 4))) Zab))) (Zaa (pv 1) Zab))))
   (Zac (ss 6 Zb5.nd (Za8 ZgW hr (Zaa (Za8 ZaN hr (Zaa (pv 0) (Zaa (Zah Zam Zad (Zah Zh3 Zad (pv 4))) Zab))) (Zaa (pv 1) Zab))))
   (Zae (Za2 (ZcX F.plainAttrs_list F.slot_list_append F.type_list_append ZaU (pv 3) (Zaa (Za8 Zjg hr (Zaa (pv 5) (Zaa (pv 6) Zab))) Zab)))))))
   (Zae (Zas (pv 3)))))))),?_⟩
 walk_at "rd0";refine⟨sc,cs,0,rfl,hS,?_⟩;generalize cell cs 0=fi;obtain⟨c1,hc1,hc14⟩ : ∃k:Nat,fi / 6 % 5=(k:Int)∧k≤4:=⟨(fi / 6 % 5).toNat,by omega,by omega⟩;obtain⟨c2,hc2,hc24⟩ : ∃k:Nat,fi / 6 / 5 % 5=(k:Int)∧k≤4:=⟨(fi / 6 / 5 % 5).toNat,by omega,by omega⟩;obtain⟨c3,hc3,hc34⟩ : ∃k:Nat,fi / 6 / 25 % 5=(k:Int)∧k≤4:=⟨(fi / 6 / 25 % 5).toNat,by omega,by omega⟩;walk_at "";refine ZaD (by simp) fun l1 H1 s1 n1 e1=>?_;walk_at "";refine Zcs e1 (s1 _ _ hn) (by simp only [length_map,length_cons,length_nil]; omega) fun l2 H2 s2 n2 e2=>?_;have e2:H2 l2=some (.lst ((("lamps" : Str)::ns).map V.str)):=e2;walk_at "";refine ZaD (by simp) fun ll H3 s3 n3 e3=>?_;have G0:GL ns H H3 ll [l2] (Zcc [] [] []):=⟨s1.trans (s2.trans s3),(s1.trans s2).free n3,e3,.cons ⟨Zaf e2 n3,s3 _ _ e2⟩ .nil⟩;clear e1 e2 e3 n1 n2 n3 s1 s2 s3;walk_at "";rw[hc1];refine⟨_,rfl,by omega,by omega,?_⟩;rw[Int.toNat_natCast];refine Zni (n:=c1) (fun i σ H'=>∃ps fs v4 v5 v6,GL ns H H' ll ps (Zcc fs [] [])∧fs.length=i∧(∀g∈fs,OkF ns.length g)∧σ=[some (.ref sc),some (.ref nl),some (.int (fi / 6)),some (.ref ll),v4,v5,v6]) ⟨_,[],_,_,_,G0,rfl,(fun g hg=>by cases hg),rfl⟩ ?_ ?_
 ·rintro i σ H4 hi ⟨ps,fs,v4,v5,v6,G,hl,ok,rfl⟩
  have el:=G.el;have hpl:=Zau G.wl;rw[Zj7]at hpl
  (try simp only [length_nil]at hpl)
  walk_at "";refine⟨tyL el,?_⟩;walk_at "";refine ZaD (by simp) fun l5 H5 s5 n5 e5=>?_;walk_at "";refine⟨sc,cs,5+i,by rw[show(5:Int)+(i:Int)=((5+i:Nat):Int) by omega],(G.sm.trans s5).seq hS,?_⟩;walk_at "";refine⟨_,nl,ns,rfl,(G.sm.trans s5) _ _ hn,h1,h6,fun l6 tr H6 s6 n6 e6 ok6=>?_⟩;have w6:=wd6 (ns:=ns) ok6;refine Zcs (s6 _ _ e5) e6 (by simp only [length_map,length_cons,length_nil]; omega) fun l7 H7 s7 n7 e7=>?_;walk_at "";have w7:=s5.trans (s6.trans s7);have n7':=(s5.trans s6).free n7;refine ZaZ (w7 _ _ el) (by rw[length_map]; omega) fun H8 b8 e8=>?_;walk_at "";refine⟨ps++[l7],fs++[tr],_,_,_,?_,by rw[length_append,hl]; rfl,fun g hg=>?_,rfl⟩
  ·have:=G.app (e:=.st tr) w7 n7' e7 b8 e8
   rw[show Zcc (fs++[tr]) [] []=Zcc fs [] []++[.st tr] by unfold Zcc; simp];exact this
  ·rcases mem_append.mp hg with h | h
   ·exact ok g h
   ·rw[mem_singleton.mp h]; exact ok6
 rintro σ H4 ⟨ps,fs,v4,v5,v6,G0,hfs,okf,rfl⟩;walk_at "";rw[hc2];refine⟨_,rfl,by omega,by omega,?_⟩;rw[Int.toNat_natCast];refine Zni (n:=c2) (fun i σ H'=>∃ps bs v4 v5 v6,GL ns H H' ll ps (Zcc fs bs [])∧bs.length=i∧(∀g∈bs,OkF ns.length g)∧σ=[some (.ref sc),some (.ref nl),some (.int (fi / 6)),some (.ref ll),v4,v5,v6]) ⟨_,[],_,_,_,G0,rfl,(fun g hg=>by cases hg),rfl⟩ ?_ ?_
 ·rintro i σ H4 hi ⟨ps,bs,v4,v5,v6,G,hl,ok,rfl⟩
  have el:=G.el;have hpl:=Zau G.wl;rw[Zj7]at hpl
  (try simp only [length_nil]at hpl)
  walk_at "";refine⟨tyL el,?_⟩;walk_at "";refine ZaD (by simp) fun l5 H5 s5 n5 e5=>?_;walk_at "";refine⟨sc,cs,9+i,by rw[show(9:Int)+(i:Int)=((9+i:Nat):Int) by omega],(G.sm.trans s5).seq hS,?_⟩;walk_at "";refine⟨_,nl,ns,rfl,(G.sm.trans s5) _ _ hn,h1,h6,fun l6 tr H6 s6 n6 e6 ok6=>?_⟩;have w6:=wd6 (ns:=ns) ok6;refine Zcs (s6 _ _ e5) e6 (by simp only [length_map,length_cons,length_nil]; omega) fun l7 H7 s7 n7 e7=>?_;walk_at "";have w7:=s5.trans (s6.trans s7);have n7':=(s5.trans s6).free n7;refine ZaZ (w7 _ _ el) (by rw[length_map]; omega) fun H8 b8 e8=>?_;walk_at "";refine⟨ps++[l7],bs++[tr],_,_,_,?_,by rw[length_append,hl]; rfl,fun g hg=>?_,rfl⟩
  ·have:=G.app (e:=.bd tr) w7 n7' e7 b8 e8
   rw[show Zcc fs (bs++[tr]) []=Zcc fs bs []++[.bd tr] by unfold Zcc; simp];exact this
  ·rcases mem_append.mp hg with h | h
   ·exact ok g h
   ·rw[mem_singleton.mp h]; exact ok6
 rintro σ H5 ⟨ps,bs,v4,v5,v6,G0,hbs,okb,rfl⟩;walk_at "";rw[hc3];refine⟨_,rfl,by omega,by omega,?_⟩;rw[Int.toNat_natCast];refine Zni (n:=c3) (fun i σ H'=>∃ps us v4 v5 v6,GL ns H H' ll ps (Zcc fs bs us)∧us.length=i∧(∀g∈us,OkF ns.length g.1∧PcOk ns.length g.2)∧σ=[some (.ref sc),some (.ref nl),some (.int (fi / 6)),some (.ref ll),v4,v5,v6]) ⟨_,[],_,_,_,G0,rfl,(fun g hg=>by cases hg),rfl⟩ ?_ ?_
 ·rintro i σ H4 hi ⟨ps,us,v4,v5,v6,G,hl,ok,rfl⟩
  have el:=G.el;have hpl:=Zau G.wl;rw[Zj7]at hpl
  (try simp only [length_nil]at hpl)
  walk_at "";refine ZlW (.inl ⟨by decide,by decide⟩) ?_;walk_at "";refine⟨sc,cs,13+2 * i,by rw[show(13:Int)+2 * (i:Int)=((13+2 * i:Nat):Int) by omega],G.sm.seq hS,?_⟩;walk_at "";refine⟨_,nl,ns,rfl,G.sm _ _ hn,h1,h6,fun l6 tr H6 s6 n6 e6 ok6=>?_⟩;have w6:=wd6 (ns:=ns) ok6;walk_at "";refine ZlW (.inl ⟨by decide,by decide⟩) ?_;walk_at "";refine⟨sc,cs,14+2 * i,by rw[show(14:Int)+2 * (i:Int)=((14+2 * i:Nat):Int) by omega],(G.sm.trans s6).seq hS,?_⟩;walk_at "";refine⟨_,nl,ns,rfl,(G.sm.trans s6) _ _ hn,h1,h6,fun l7 qs cc H7 s7 n7 e7 p7 nd7 ok7=>?_⟩;walk_at "";refine⟨tyL ((s6.trans s7) _ _ el),?_⟩;walk_at "";refine⟨l6,l7,_,qs,cc.map (pc17 ns),rfl,s7 _ _ e6,e7,Zan (fun _ _ z=>z.2) p7,by rw[length_map]; exact ok7.l1,by rw[length_map]; have:=ok7.l2; omega,by omega,fun pc hpc=>?_,fun l8 H8 s8 n8 e8=>?_⟩
  ·obtain⟨c,hc,rfl⟩:=mem_map.mp hpc
   have:=wd6 (ns:=ns) (ok7.ok c hc).1;show(wdG true ns c.2).length+2≤20;omega
  have w8:=s6.trans (s7.trans s8);have n8':=(s6.trans s7).free n8;walk_at "";refine ZaZ (w8 _ _ el) (by rw[length_map]; omega) fun H9 b9 e9=>?_;walk_at "";refine⟨ps++[l8],us++[(tr,cc)],_,_,_,?_,by rw[length_append,hl]; rfl,fun g hg=>?_,rfl⟩
  ·have:=G.app (e:=.mv (tr,cc)) w8 n8' e8 b9 e9
   rw[show Zcc fs bs (us++[(tr,cc)])=Zcc fs bs us++[.mv (tr,cc)] by unfold Zcc; simp];exact this
  ·rcases mem_append.mp hg with h | h
   ·exact ok g h
   ·rw[mem_singleton.mp h]; exact⟨ok6,ok7⟩
 rintro σ H6 ⟨ps,us,v4,v5,v6,G,hus,oku,rfl⟩;walk_at "";exact q ll ps fs bs us H6 G ⟨okf,okb,oku,by omega,by omega,by omega⟩
def Zxl (zs:List Str) (k:Bd):Prop:=(zs=[]∧k=.line)∨(∃z r,zs=z::r∧FirstB z k)∨∃z0 ns gs es z r,zs=z0::(gs++z::r)∧LnW z0 ("lamps"::ns)∧LmpW ns∧(∀y∈ns,ZeE y)∧Paired (fun z e=>∃ws,LnW z ws∧EntW ns ws e) gs es∧BadL ns z k
theorem ZCK {l:Addr} {zs:List Str} {k:Bd} {H:Hp} {Q:VK} {E:XK} (hl:H l=some (.lst (zs.map V.str))) (hz:zs.length≤1000) (h:Zxl zs k) (kE:∀H',Same H H'→E (clB t k) none H'):ZwQ t [.ref l] H Q E:=by
 refine⟨l,zs,rfl,hl,hz,?_⟩
 rcases h with⟨h1,rfl⟩ | ⟨z,r,h1,h2⟩ | ⟨z0,ns,gs,es,z,r,h1,h2,h3,h4,h5,h6⟩
 ·exact .inl ⟨h1,kE H (Same.refl _)⟩
 ·exact .inr (.inl ⟨z,r,k,h1,h2,kE⟩)
 ·exact .inr (.inr ⟨z0,ns,gs,es,z::r,h1,h2,h3,h4,h5,fun e=>absurd e (by simp),fun _=>⟨z,r,k,rfl,h6,kE⟩⟩)
def cA (t:Ad):Bd→Addr
 | .line=>t.Zao
 | .name=>t.Zar
 | .form=>t.Zag
def ZDO (t:Ad):Addr→Addr→Sp:=fun ea C vs H Q _=>vs=[.ref ea]∧(∃k,C=cA t k)∧∀H',Same H H'→Q (.bl false) H'
theorem Zri (T:Txt K mg t):FnSH P w K mg base 1 "_law_of_others" ["_law_e"] (ZDO t):=by
 refine⟨_,_,T.ZbR.okH Zlp (fun ea C vs H Q E h=>?_) (fun cdv A outer s H vs Q ea C oe hy h=>?_),T.Zhs,T.ZbR.kp,T.Zhy⟩
 ·obtain⟨rfl,_⟩:=h
  rfl
 obtain⟨rfl,⟨k,rfl⟩,q⟩:=h
 cases k
 ·have hx:=T.ZeA
  refine⟨_,(Zac (ZaP (ZdR (Zaw (Zgx hx mem_cons_self hy.cls hy.dict hy.nk) rfl T.B.isinstance Za3 (Zaa (pv 0) (Zaa (Zjc (Zaa (Za5 (v:=.ref t.Zb7) rfl T.ZpC rfl) (Zaa (Za5 (v:=.ref t.Zba) rfl T.Zkm rfl) (Zaa (Za5 (v:=.ref t.Zbb) rfl T.Zkn rfl) (Zaa (Za5 (v:=.ref t.Zbc) rfl T.Zko rfl) Zab))))) Zab))) (fun _=>rfl))
   (Zae (Zas Zli))
   Zap)
   (Zae (Zas (Zaw (Zgx hx mem_cons_self hy.cls hy.dict hy.nk) rfl T.B.isinstance Za3 (Zaa (pv 0) (Zaa (Zjc (Zaa (Za5 (v:=.ref t.ZaJ) rfl T.Zhb rfl) (Zaa (Za5 (v:=.ref t.ZbA) rfl T.ZmC rfl) (Zaa (Za5 (v:=.ref t.Zbd) rfl T.Zkq rfl) (Zaa (Za5 (v:=.ref t.Zaz) rfl T.Ze5 rfl) (Zaa (Za5 (v:=.ref t.Zbe) rfl T.Zkr rfl) Zab)))))) Zab)))))),?_⟩
  walk_at "rd0";refine Zoc (Nat.le_of_ble_eq_true rfl) fun p1 H2 s2 n2 e2=>?_;walk_at "";refine Zk4 (cs:=[t.Zb7,t.Zba,t.Zbb,t.Zbc]) e2 (fun d hd=>?_) ?_
  ·simp only [mem_cons,not_mem_nil,or_false]at hd
   rcases hd with rfl | rfl | rfl | rfl
   all_goals first | exact T.Zis | exact T.ZgM | exact T.ZgN | exact T.ZgO
  walk_at "";refine Za7 rfl ?_;walk_at "";refine Zoc (Nat.le_of_ble_eq_true rfl) fun p2 H3 s3 n3 e3=>?_;walk_at "";refine Zk4 (cs:=[t.ZaJ,t.ZbA,t.Zbd,t.Zaz,t.Zbe]) e3 (fun d hd=>?_) ?_
  ·simp only [mem_cons,not_mem_nil,or_false]at hd
   rcases hd with rfl | rfl | rfl | rfl | rfl
   all_goals first | exact T.ZfJ | exact T.ZhE | exact T.ZgP | exact T.ZeM | exact T.ZgQ
  exact q H3 (s2.trans s3)
 ·have hx:=T.ZiL
  refine⟨_,(Zac (ZaP (ZdR (Zaw (Zgx hx mem_cons_self hy.cls hy.dict hy.nk) rfl T.B.isinstance Za3 (Zaa (pv 0) (Zaa (Zjc (Zaa (Za5 (v:=.ref t.Zb7) rfl T.ZpC rfl) (Zaa (Za5 (v:=.ref t.Zba) rfl T.Zkm rfl) (Zaa (Za5 (v:=.ref t.Zbb) rfl T.Zkn rfl) (Zaa (Za5 (v:=.ref t.Zbc) rfl T.Zko rfl) Zab))))) Zab))) (fun _=>rfl))
   (Zae (Zas Zli))
   Zap)
   (Zae (Zas (Zaw (Zgx hx mem_cons_self hy.cls hy.dict hy.nk) rfl T.B.isinstance Za3 (Zaa (pv 0) (Zaa (Zjc (Zaa (Za5 (v:=.ref t.ZaJ) rfl T.Zhb rfl) (Zaa (Za5 (v:=.ref t.ZbA) rfl T.ZmC rfl) (Zaa (Za5 (v:=.ref t.Zbd) rfl T.Zkq rfl) (Zaa (Za5 (v:=.ref t.Zaz) rfl T.Ze5 rfl) (Zaa (Za5 (v:=.ref t.Zbe) rfl T.Zkr rfl) Zab)))))) Zab)))))),?_⟩
  walk_at "rd0";refine Zoc (Nat.le_of_ble_eq_true rfl) fun p1 H2 s2 n2 e2=>?_;walk_at "";refine Zk4 (cs:=[t.Zb7,t.Zba,t.Zbb,t.Zbc]) e2 (fun d hd=>?_) ?_
  ·simp only [mem_cons,not_mem_nil,or_false]at hd
   rcases hd with rfl | rfl | rfl | rfl
   all_goals first | exact T.Zit | exact T.ZgR | exact T.ZgS | exact T.ZgT
  walk_at "";refine Za7 rfl ?_;walk_at "";refine Zoc (Nat.le_of_ble_eq_true rfl) fun p2 H3 s3 n3 e3=>?_;walk_at "";refine Zk4 (cs:=[t.ZaJ,t.ZbA,t.Zbd,t.Zaz,t.Zbe]) e3 (fun d hd=>?_) ?_
  ·simp only [mem_cons,not_mem_nil,or_false]at hd
   rcases hd with rfl | rfl | rfl | rfl | rfl
   all_goals first | exact T.ZfL | exact T.ZhH | exact T.ZgU | exact T.ZeN | exact T.ZgV
  exact q H3 (s2.trans s3)
 ·have hx:=T.Zem
  refine⟨_,(Zac (ZaP (ZdR (Zaw (Zgx hx mem_cons_self hy.cls hy.dict hy.nk) rfl T.B.isinstance Za3 (Zaa (pv 0) (Zaa (Zjc (Zaa (Za5 (v:=.ref t.Zb7) rfl T.ZpC rfl) (Zaa (Za5 (v:=.ref t.Zba) rfl T.Zkm rfl) (Zaa (Za5 (v:=.ref t.Zbb) rfl T.Zkn rfl) (Zaa (Za5 (v:=.ref t.Zbc) rfl T.Zko rfl) Zab))))) Zab))) (fun _=>rfl))
   (Zae (Zas Zli))
   Zap)
   (Zae (Zas (Zaw (Zgx hx mem_cons_self hy.cls hy.dict hy.nk) rfl T.B.isinstance Za3 (Zaa (pv 0) (Zaa (Zjc (Zaa (Za5 (v:=.ref t.ZaJ) rfl T.Zhb rfl) (Zaa (Za5 (v:=.ref t.ZbA) rfl T.ZmC rfl) (Zaa (Za5 (v:=.ref t.Zbd) rfl T.Zkq rfl) (Zaa (Za5 (v:=.ref t.Zaz) rfl T.Ze5 rfl) (Zaa (Za5 (v:=.ref t.Zbe) rfl T.Zkr rfl) Zab)))))) Zab)))))),?_⟩
  walk_at "rd0";refine Zoc (Nat.le_of_ble_eq_true rfl) fun p1 H2 s2 n2 e2=>?_;walk_at "";refine Zk4 (cs:=[t.Zb7,t.Zba,t.Zbb,t.Zbc]) e2 (fun d hd=>?_) ?_
  ·simp only [mem_cons,not_mem_nil,or_false]at hd
   rcases hd with rfl | rfl | rfl | rfl
   all_goals first | exact T.Zf9 | exact T.ZeS | exact T.ZeT | exact T.ZeU
  walk_at "";refine Za7 rfl ?_;walk_at "";refine Zoc (Nat.le_of_ble_eq_true rfl) fun p2 H3 s3 n3 e3=>?_;walk_at "";refine Zk4 (cs:=[t.ZaJ,t.ZbA,t.Zbd,t.Zaz,t.Zbe]) e3 (fun d hd=>?_) ?_
  ·simp only [mem_cons,not_mem_nil,or_false]at hd
   rcases hd with rfl | rfl | rfl | rfl | rfl
   all_goals first | exact T.Zd0 | exact T.ZfH | exact T.ZeV | exact T.ZdH | exact T.ZeW
  exact q H3 (s2.trans s3)
theorem ZC6 {X:Cx} {K:W.Frag} (hK:X.K=K) {T:String} {name:Str} {id:String} {r:V→List V→Hp→VK→Prop} {o:Expr} {to:TE} {e:Expr} {es:List Expr} {t:TA} {apos cpos:Pos} (pa:PlainAttrs T) (slot:Slot T name id) (hty:typeOf (.builtin id)=pure (.type "method_descriptor")) (hm:MtR X id r) (ho:PE X o to) (ha:PA X (e::es) t)
  (hbase:attributeBase o name X.env (eval o X.env)=eval o X.env)
  (hfew:((backTo cpos (starEach (e::es) X.env)).all (fun x=>!x.1) && (backToKw cpos (keywordEach [] X.env)).all (fun x=>x.1.isSome)
   && decide ((e::es).length+([]:List Keyword).length+(if ([]:List Keyword).isEmpty then 0 else 1) < 30))=true)
  (hline:(apos.endLine == cpos.line)=true) (hs:starEach (e::es) X.env=(false,eval e X.env)::starEach es X.env) (hplain:(backTo cpos (starEach es X.env)).any (·.1)=false) :
  PE X (.Call (.Attribute o name apos) (e::es) [] cpos) (tBM K T r to t):=by
 subst hK;exact ZcX pa slot hty hm ho ha hbase hfew hline hs hplain
def isK (a k:Bd):Bool:=match a,k with
 | .line,.line=>true
 | .name,.name=>true
 | .form,.form=>true
 | _,_=>false
def ZDQ:Sp:=fun vs H Q _=>∃(l:Addr) (zs:List Str) (k:Bd),vs=[.ref l]∧H l=some (.lst (zs.map V.str))∧(∀z∈zs,Asc z)∧zs.length≤1000∧Zxl zs k∧∀a H',Same H H'→H a=none→H' a=some (.lst [.bl (isK .line k),.bl (isK .name k),.bl (isK .form k),.bl true])→Q (.ref a) H'
theorem ZAS (T:Txt K mg t):FnS P w K mg base 20 "_law_told" ["_law_lines"] (ZDQ):=by
 refine⟨_,_,T.Zd6.ok ZeK (fun vs H Q E h=>?_) (fun cdv A outer s H vs Q E hr h=>?_),T.ZmQ,T.Zd6.kp,T.Zno⟩
 ·obtain⟨l,zs,k,rfl,hl,ha,hz,hO,q⟩:=h
  rfl
 obtain⟨l,zs,k,rfl,hl,ha,hz,hO,q⟩:=h;have ZhL:=ZkA (P:=P) (w:=w) (base:=base) T;have Zme:=Zri (P:=P) (w:=w) (base:=base) T
 refine⟨_,(Zac (ss 1 ZeK.nd (Zaq Zab))
   (Zac (ss 2 ZeK.nd (ZcH ZkS rfl T.B.list Zpa (Zaa (pv 0) Zab)))
   (Zac (ZDl (Zyn (ZDd ZhL hr (Zaa (pv 2) Zab)))
   (Zwr (i:=3) ⟨rfl,T.Znj,T.Zf8,T.ZlU,T.Zf5,by decide⟩ ZeK.nd rfl rfl (fun ea oe C pn h1 h2 h3 h4 hx=>(Zac (ss 1 ZeK.nd (Zaq (Zaa (Zaw (Zj1 hx h1 h2 h3 h4) (by rfl) T.B.isinstance Za3 (Zaa (pv 3) (Zaa (Za5 (v:=.ref t.Zao) (by rfl) T.Ze4 rfl) Zab))) (Zaa (Zaw (Zj1 hx h1 h2 h3 h4) (by rfl) T.B.isinstance Za3 (Zaa (pv 3) (Zaa (Za5 (v:=.ref t.Zar) (by rfl) T.Zkp rfl) Zab))) (Zaa (Zaw (Zj1 hx h1 h2 h3 h4) (by rfl) T.B.isinstance Za3 (Zaa (pv 3) (Zaa (Za5 (v:=.ref t.Zag) (by rfl) T.Zft rfl) Zab))) Zab)))))
   (Zae (Za2 (ZC6 (K:=K) (by rfl) F.plainAttrs_list F.slot_list_append F.type_list_append ZaU (pv 1) (Zaa (ZC5 (Zaw (Zj1 hx h1 h2 h3 h4) (by rfl) T.B.isinstance Za3 (Zaa (pv 3) (Zaa (ZsP (v:=.ty "ValueError") (by rfl) T.b_ValueError (by decide +kernel) rfl) Zab))) (ZDa (Zyg (K:=K) (by rfl) (ZC9 Zme hr h1 h2 h3 h4 (by rfl) rfl (Zaa (pv 3) Zab))))) Zab) (by rfl) (by rfl) (by rfl) (by rfl) (by rfl))))))
   ZDg))
   (Zac (ZaP (Zal (ZkB hr.units) (pv 2) (pv 0) (Zat _))
   (Zae (Zas (Zaq Zab)))
   Zap)
   (Zae (Zas (pv 1))))))),?_⟩
 walk_at "rd0";refine ZaD (by simp) fun l1 H1 s1 n1 e1=>?_;walk_at "";refine ZvJ (.inl (SqL.of (s1 _ _ hl))) fun hd H2 s2 n2 e2=>?_;walk_at "";have fin:∀(a:Addr) (H':Hp),Same H2 H'→H2 a=none→H' a=some (.lst [.bl (isK .line k),.bl (isK .name k),.bl (isK .form k),.bl true])→Q (.ref a) H':=fun a H' s n e=>q a H' (s1.trans (s2.trans s)) ((s1.trans s2).free n) e;have el2:=(s1.trans s2) _ _ hl;refine ZCw ?_;refine ZEc ?_;walk_at "";refine ZCK e2 hz hO fun H3 s3=>?_;clear hO q
 cases k
 ·refine⟨_,rfl,?_⟩
  refine Zsp T.Zcf ?_;refine ZAg T.ZeA fun ea=>?_
  (try dsimp only [set_cons_succ,set_cons_zero])
  walk_at "";refine Zha T.ZhC ?_;walk_at "";refine Zha T.ZhD ?_;walk_at "";refine Zha T.ZfI ?_;walk_at "";refine ZaD (by simp) fun l4 H4 s4 n4 e4=>?_;walk_at "";refine⟨tyL e4,?_⟩;walk_at "";refine Zsr T.ZtQ ?_;walk_at "";refine Zbn rfl ?_;walk_at "";refine ZAj ?_;walk_at "";refine⟨rfl,⟨.line,rfl⟩,fun H5 s5=>?_⟩;walk_at "";have e5:=s5 _ _ e4;refine ZaZ e5 (by simp) fun H6 b6 e6=>?_;walk_at ""
  (try dsimp only [set_cons_succ,set_cons_zero])
  walk_at "";have n4':H2 l4=none:=s3.free n4;have w6:Same H2 H6:=b6.same n4' (s3.trans (s4.trans s5));refine ZvE ha (w6 _ _ e2) (w6 _ _ el2) ?_;walk_at "";refine Za7 rfl ?_;walk_at "";exact fin l4 H6 w6 n4' e6
 ·refine⟨_,rfl,?_⟩
  refine Zsp T.Zcg ?_;refine ZAg T.ZiL fun ea=>?_
  (try dsimp only [set_cons_succ,set_cons_zero])
  walk_at "";refine Zha T.ZhF ?_;walk_at "";refine Zha T.ZhG ?_;walk_at "";refine Zha T.ZfK ?_;walk_at "";refine ZaD (by simp) fun l4 H4 s4 n4 e4=>?_;walk_at "";refine⟨tyL e4,?_⟩;walk_at "";refine Zsr T.ZtR ?_;walk_at "";refine Zbn rfl ?_;walk_at "";refine ZAj ?_;walk_at "";refine⟨rfl,⟨.name,rfl⟩,fun H5 s5=>?_⟩;walk_at "";have e5:=s5 _ _ e4;refine ZaZ e5 (by simp) fun H6 b6 e6=>?_;walk_at ""
  (try dsimp only [set_cons_succ,set_cons_zero])
  walk_at "";have n4':H2 l4=none:=s3.free n4;have w6:Same H2 H6:=b6.same n4' (s3.trans (s4.trans s5));refine ZvE ha (w6 _ _ e2) (w6 _ _ el2) ?_;walk_at "";refine Za7 rfl ?_;walk_at "";exact fin l4 H6 w6 n4' e6
 ·refine⟨_,rfl,?_⟩
  refine Zsp T.ZbM ?_;refine ZAg T.Zem fun ea=>?_
  (try dsimp only [set_cons_succ,set_cons_zero])
  walk_at "";refine Zha T.ZfF ?_;walk_at "";refine Zha T.ZfG ?_;walk_at "";refine Zha T.ZdZ ?_;walk_at "";refine ZaD (by simp) fun l4 H4 s4 n4 e4=>?_;walk_at "";refine⟨tyL e4,?_⟩;walk_at "";refine Zsr T.ZnN ?_;walk_at "";refine Zbn rfl ?_;walk_at "";refine ZAj ?_;walk_at "";refine⟨rfl,⟨.form,rfl⟩,fun H5 s5=>?_⟩;walk_at "";have e5:=s5 _ _ e4;refine ZaZ e5 (by simp) fun H6 b6 e6=>?_;walk_at ""
  (try dsimp only [set_cons_succ,set_cons_zero])
  walk_at "";have n4':H2 l4=none:=s3.free n4;have w6:Same H2 H6:=b6.same n4' (s3.trans (s4.trans s5));refine ZvE ha (w6 _ _ e2) (w6 _ _ el2) ?_;walk_at "";refine Za7 rfl ?_;walk_at "";exact fin l4 H6 w6 n4' e6
end
unseal PE PA PS PSs
def ZhI (ns:List Str) (l:Bool) (z:Str):Option Bool:=if l=true then(if z = "not" then some true else if (Zdn ns z).isSome=true then some false else none) else if (Zmn z).isSome=true then some true else none
def Zfp (ns:List Str):List Bool→Str→Option (List Bool)
 | [],_=>none
 | l::R,z=>if z = "("∧l=true then some (true::l::R) else match R with
  | []=>(ZhI ns l z).map ([·])
  | m::R'=>if z = ")"∧l=false then some (false::R') else(ZhI ns l z).map (· :: m::R')
def aRun (ns:List Str):List Bool→List Str→Option (List Bool)
 | S,[]=>some S
 | S,z::r=>(Zfp ns S z).bind fun S'=>aRun ns S' r
theorem ZyN (ns:List Str) (L:Lv) (z:Str):(L.word ns z).map Lv.lack=ZhI ns L.lack z:=by
 unfold Lv.word ZhI
 cases hl:L.lack with
 | true=>
  rw[if_pos rfl,if_pos rfl]
  by_cases h:z = "not"
  ·rw[if_pos h,if_pos h]; rfl
  ·rw[if_neg h,if_neg h]
   cases Zdn ns z with
   | none=>rfl
   | some f=>rfl
 | false=>
  rw[if_neg Bool.false_ne_true,if_neg Bool.false_ne_true]
  cases Zmn z with
  | none=>rfl
  | some w=>cases w <;> rfl
theorem ZyI (ns:List Str) (S:List Lv) (z:Str):(Zct ns S z).map (·.map Lv.lack)=Zfp ns (S.map Lv.lack) z:=by
 cases S with
 | nil=>rfl
 | cons L R=>
  have hw:=ZyN ns L z;unfold Zct
  dsimp only
  show _=(if z = "("∧L.lack=true then some (true::L.lack::R.map Lv.lack) else _)
  by_cases h:z = "("∧L.lack=true
  ·rw[if_pos h,if_pos h]; rfl
  ·rw[if_neg h,if_neg h]
   cases R with
   | nil=>
    show((L.word ns z).map ([·])).map (·.map Lv.lack)=(ZhI ns L.lack z).map ([·]);rw[←hw]
    cases L.word ns z <;> rfl
   | cons M R'=>
    show(if z = ")"∧L.lack=false then some (M.part L.whole::R') else(L.word ns z).map (· :: M::R')).map (·.map Lv.lack)=(if z = ")"∧L.lack=false then some (false::R'.map Lv.lack) else(ZhI ns L.lack z).map (· :: M.lack::R'.map Lv.lack))
    by_cases h2:z = ")"∧L.lack=false
    ·rw[if_pos h2,if_pos h2]; rfl
    ·rw[if_neg h2,if_neg h2,←hw]
     cases L.word ns z <;> rfl
theorem ZwF (ns:List Str):∀(ws:List Str) (S:List Lv),(runW ns S ws).map (·.map Lv.lack)=aRun ns (S.map Lv.lack) ws
 | [],S=>rfl
 | z::r,S=>by
  have h:=ZyI ns S z;show((Zct ns S z).bind fun S'=>runW ns S' r).map _=(Zfp ns (S.map Lv.lack) z).bind _;rw[←h]
  cases Zct ns S z with
  | none=>rfl
  | some S'=>exact ZwF ns r S'
theorem ZnB {ns ws:List Str} (h:∀A,aRun ns [true] ws=some A→A.getLast?=some true):Ze7 ns ws=none:=by
 unfold Ze7;have e:=ZwF ns ws [Lv.new]
 cases hr:runW ns [Lv.new] ws with
 | none=>rfl
 | some S=>
  rw[hr]at e;have:=h (S.map Lv.lack) e.symm;rw[List.getLast?_map]at this;show(S.getLast?.bind endF)=none
  cases hg:S.getLast? with
  | none=>rfl
  | some L=>
   rw[hg]at this
   have hL:L.lack=true:=by simpa using this
   show endF L=none;unfold endF;rw[if_pos hL]
theorem Zo3 (ns:List Str):∀(a b:List Str) (S:List Bool),aRun ns S (a++b)=(aRun ns S a).bind fun S'=>aRun ns S' b
 | [],b,S=>rfl
 | z::a,b,S=>by
  show(Zfp ns S z).bind _=((Zfp ns S z).bind _).bind _
  cases Zfp ns S z with
  | none=>rfl
  | some S'=>exact Zo3 ns a b S'
def NoW (ns:List Str) (z:Str):Prop:=z≠"("∧z≠")"∧z≠"not"∧Zdn ns z=none∧Zmn z=none
theorem NoW.step {ns:List Str} {z:Str} (h:NoW ns z) (S:List Bool):Zfp ns S z=none:=by
 obtain⟨h1,h2,h3,h4,h5⟩:=h
 have hw:∀l,ZhI ns l z=none:=fun l=>by
  unfold ZhI;rw[if_neg h3,h4,h5]
  cases l <;> rfl
 cases S with
 | nil=>rfl
 | cons l R=>
  unfold Zfp
  dsimp only
  rw[if_neg (fun e=>h1 e.1)]
  cases R with
  | nil=>show(ZhI ns l z).map _=none; rw[hw]; rfl
  | cons m R'=>show(if z = ")"∧l=false then _ else(ZhI ns l z).map _)=none; rw[if_neg (fun e=>h2 e.1),hw]; rfl
theorem Zre {ns a b:List Str} {z:Str} (h:NoW ns z):Ze7 ns (a++z::b)=none:=ZnB fun A e=>by
 rw[Zo3]at e
 cases hr:aRun ns [true] a with
 | none=>rw[hr]at e; cases e
 | some S=>
  rw[hr]at e;have e:(Zfp ns S z).bind (fun S'=>aRun ns S' b)=some A:=e;rw[h.step S]at e
  cases e
theorem ZvG {z:Str}:∀{ns:List Str},z∉ns→idxS z ns=none
 | [],_=>rfl
 | n::r,h=>by
  unfold idxS;rw[if_neg (fun e=>h (by rw[e]; exact mem_cons_self)),ZvG (fun e=>h (mem_cons_of_mem _ e))];rfl
theorem ZkL {ns:List Str} {z:Str} (h1:z≠"yes") (h2:z≠"no") (h3:z∉ns):Zdn ns z=none:=by
 unfold Zdn;rw[if_neg h1,if_neg h2,ZvG h3];rfl
theorem Zn1 {ns:List Str} (A:NmA ns) {i:Nat} (hi:i < ns.length) (R:List Bool):Zfp ns (true::R) (ns.getD i Str.empty)=some (false::R)∧Zfp ns (false::R) (ns.getD i Str.empty)=none:=by
 have hm:=A.get hi;have hx:=Zjo A.nd (Zbg hi);obtain⟨hL,hk⟩:=A.nm _ hm;generalize ns.getD i Str.empty=z at hm hx hL hk
 have n1:z≠"(":=by rintro rfl; have:=hL.1 40 (by decide); omega
 have n2:z≠")":=by rintro rfl; have:=hL.1 41 (by decide); omega
 unfold Zfs at hk;simp only [mem_cons,not_mem_nil,or_false,not_or]at hk
 have hs:Zdn ns z=some (.lamp i):=by
  unfold Zdn;rw[if_neg hk.2.2.2.2.1,if_neg hk.2.2.2.2.2.1,hx];rfl
 have hj:Zmn z=none:=by
  unfold Zmn;rw[if_neg hk.1,if_neg hk.2.2.2.1,if_neg hk.2.1]
 have w1:ZhI ns true z=some false:=by unfold ZhI; rw[if_pos rfl,if_neg hk.2.2.1,hs]; rfl
 have w2:ZhI ns false z=none:=by unfold ZhI; rw[if_neg Bool.false_ne_true,hj]; rfl
 refine⟨?_,?_⟩
 ·unfold Zfp
  dsimp only
  rw[if_neg (fun e=>n1 e.1)]
  cases R with
  | nil=>show(ZhI ns true z).map _=_; rw[w1]; rfl
  | cons m R'=>show(if z = ")"∧true=false then _ else(ZhI ns true z).map _)=_; rw[if_neg (fun e=>n2 e.1),w1]; rfl
 ·unfold Zfp
  dsimp only
  rw[if_neg (fun e=>n1 e.1)]
  cases R with
  | nil=>show(ZhI ns false z).map _=_; rw[w2]; rfl
  | cons m R'=>show(if z = ")"∧false=false then _ else(ZhI ns false z).map _)=_; rw[if_neg (fun e=>n2 e.1),w2]; rfl
theorem aKw (ns:List Str) (v:W3) (R:List Bool):Zfp ns (false::R) (kw3 v)=some (true::R):=by
 cases R <;> cases v <;> rfl
theorem aNot (ns:List Str) (R:List Bool):Zfp ns (true::R) "not" = some (true::R)∧Zfp ns (false::R) "not" = none:=by
 cases R <;> exact⟨rfl,rfl⟩
theorem aYes (ns:List Str) (R:List Bool):Zfp ns (true::R) "yes" = some (false::R):=by cases R <;> rfl
theorem aNoo (ns:List Str) (R:List Bool):Zfp ns (true::R) "no" = some (false::R)∧Zfp ns (false::R) "no" = none:=by cases R <;> exact⟨rfl,rfl⟩
theorem aOpn (ns:List Str) (R:List Bool):Zfp ns (true::R) "(" = some (true::true::R):=by cases R <;> rfl
theorem aCls (ns:List Str) (m:Bool) (R:List Bool):Zfp ns (false::m::R) ")" = some (false::R):=by cases R <;> rfl
theorem Zbq (ns:List Str) (S:List Bool) (z:Str) (r:List Str):aRun ns S (z::r)=(Zfp ns S z).bind fun S'=>aRun ns S' r:=rfl
theorem Zga {ns:List Str} {S S':List Bool} {z:Str} {r:List Str} (h:Zfp ns S z=some S'):aRun ns S (z::r)=aRun ns S' r:=by rw[Zbq,h]; rfl
theorem ZBM {ns:List Str} (A:NmA ns) {i j:Nat} (hi:i < ns.length) (hj:j < ns.length) (v:W3) (R:List Bool):∀k,aRun ns (true::R) (fw19 (ns.getD i Str.empty) (ns.getD j Str.empty) v k)=some (false::R)∧aRun ns (false::R) (fw19 (ns.getD i Str.empty) (ns.getD j Str.empty) v k)=none∧aRun ns (true::R) (fw19 (ns.getD i Str.empty) (ns.getD j Str.empty) v k).dropLast=some (true::R)
 | 0=>by
  refine⟨?_,?_,rfl⟩
  ·show aRun ns _ [_]=_; rw[Zbq,(Zn1 A hi R).1]; rfl
  ·show aRun ns _ [_]=_; rw[Zbq,(Zn1 A hi R).2]; rfl
 | 1=>by
  refine⟨?_,?_,?_⟩
  ·show aRun ns _ ["not",_]=_; rw[Zbq,(aNot ns R).1]; show aRun ns _ [_]=_; rw[Zbq,(Zn1 A hi R).1]; rfl
  ·show aRun ns _ ["not",_]=_; rw[Zbq,(aNot ns R).2]; rfl
  ·show aRun ns _ ["not"]=_; rw[Zbq,(aNot ns R).1]; rfl
 | 2=>by
  refine⟨?_,?_,?_⟩
  ·show aRun ns _ [_,kw3 v,_]=_; rw[Zbq,(Zn1 A hi R).1]; show aRun ns _ [kw3 v,_]=_; rw[Zbq,aKw]; show aRun ns _ [_]=_; rw[Zbq,(Zn1 A hj R).1]; rfl
  ·show aRun ns _ [_,kw3 v,_]=_; rw[Zbq,(Zn1 A hi R).2]; rfl
  ·show aRun ns _ [_,kw3 v]=_; rw[Zbq,(Zn1 A hi R).1]; show aRun ns _ [kw3 v]=_; rw[Zbq,aKw]; rfl
 | 3=>by
  have pre:∀r,aRun ns (true::R) ("not"::"("::ns.getD i Str.empty::kw3 v::"yes"::")"::kw3 v::r)=aRun ns (true::R) r:=fun r=>by
   rw[Zga (aNot ns R).1,Zga (aOpn ns R),Zga (Zn1 A hi _).1,Zga (aKw ns v _),Zga (aYes ns _),Zga (aCls ns _ _),Zga (aKw ns v _)]
  refine⟨?_,?_,?_⟩
  ·show aRun ns _ ["not","(",_,kw3 v,"yes",")",kw3 v,_]=_; rw[pre,Zbq,(Zn1 A hj R).1]; rfl
  ·show aRun ns _ ("not"::_)=_; rw[Zbq,(aNot ns R).2]; rfl
  ·show aRun ns _ ["not","(",_,kw3 v,"yes",")",kw3 v]=_; rw[pre]; rfl
 | _+4=>by
  refine⟨?_,?_,rfl⟩
  ·show aRun ns _ ["no"]=_; rw[Zbq,(aNoo ns R).1]; rfl
  ·show aRun ns _ ["no"]=_; rw[Zbq,(aNoo ns R).2]; rfl
def WdB (z:Str):Prop:=WdX z∧z≠"then"∧z≠","
theorem Zje {z:Str} (h:Lt z) (h1:1≤z.length) (h2:z.length≤14) (h3:z≠"then"):WdB z:=by
 refine⟨Zdd ⟨⟨fun e=>?_,h⟩,h2⟩,h3,fun e=>?_⟩
 ·have b:z.cps.toList.length=z.length:=by simp[Str.length]
  rw[e]at b;simp at b;omega
 ·have:=h 44 (by rw[e]; decide)
  omega
theorem Zfc {ns:List Str} (A:NmA ns) {tr:Tr} (h:OkF ns.length tr):∀z∈wdG true ns tr,WdB z:=fun z hz=>by
 have:=Zs4 A h.ok.1 z hz;exact⟨this.1.x,this.2.1,this.2.2⟩
theorem ZiO {ns:List Str} (A:NmA ns) {i:Nat} (hi:i < ns.length):WdB (ns.getD i Str.empty):=by
 have hm:=A.get hi;obtain⟨a,b⟩:=A.nm _ hm;exact Zje a.1 a.2.1 (by have:=a.2.2; omega) (fun e=>b (by rw[e]; decide))
theorem ZfE {z:Str} (h:WdX z):ZeE z:=by
 unfold ZeE
 have a:=StrLaws.reprText_len z (fun c hc=>by
  rcases h.1 with e | e | e | e
  ·have hc:c∈cl1 z:=hc
   rw[e]at hc;rw[mem_singleton.mp hc];decide
  ·have hc:c∈cl1 z:=hc
   rw[e]at hc;rw[mem_singleton.mp hc];decide
  ·have hc:c∈cl1 z:=hc
   rw[e]at hc;rw[mem_singleton.mp hc];decide
  ·have:=e.2 c hc
   have:(128:Nat)≤16 ^ 8:=by decide
   omega)
 have:=h.2;omega
theorem ZCQ {ns:List Str} (A:NmA ns):NoW ns "is":=⟨by decide,by decide,by decide,ZkL (by decide) (by decide) fun h=>(A.nm _ h).2 (by decide),rfl⟩
theorem Zx5 {ns:List Str} (A:NmA ns):NoW ns "then":=⟨by decide,by decide,by decide,ZkL (by decide) (by decide) fun h=>(A.nm _ h).2 (by decide),rfl⟩
theorem Zrd {ns:List Str} (A:NmA ns):NoW ns ",":=⟨by decide,by decide,by decide,ZkL (by decide) (by decide) fun h=>by have:=(A.nm _ h).1.1 44 (by decide); omega,rfl⟩
theorem Zwa {ns:List Str} {z:Str} (h:Lt z) (h1:z∉ns) (h2:z∉Zfs):NoW ns z:=by
 have n1:z≠"(":=by rintro rfl; have:=h 40 (by decide); omega
 have n2:z≠")":=by rintro rfl; have:=h 41 (by decide); omega
 unfold Zfs at h2;simp only [mem_cons,not_mem_nil,or_false,not_or]at h2;refine⟨n1,n2,h2.2.2.1,ZkL h2.2.2.2.2.1 h2.2.2.2.2.2.1 h1,?_⟩;unfold Zmn;rw[if_neg h2.1,if_neg h2.2.2.2.1,if_neg h2.2.1]
seal PE PA PS PSs
section
variable {P:Program} {w:World} {K:W.Frag} {mg:Str→Option Value} {base:Heap} {t:Ad} {n:Nat}
def Zyw:Sp:=fun vs H Q _=>∃(nl:Addr) (c:Int) (ns:List Str),vs=[.ref nl,.int c]∧H nl=some (.lst (ns.map V.str))∧NmA ns∧∀l ws H',Same H H'→H l=none→H' l=some (.lst (ws.map V.str))→Ze7 ns ws=none→(∀z∈ws,WdB z)→ws.length≤11→Q (.ref l) H'
theorem Zrg (T:Txt K mg t):FnS P w K mg base 3 "_law_broken" ["_law_names_here","_law_cell"] (Zyw):=by
 refine⟨_,_,T.ZcL.ok Zgo (fun vs H Q E h=>?_) (fun cdv A outer s H vs Q E hr h=>?_),T.ZjX,T.ZcL.kp,T.Zks⟩
 ·obtain⟨nl,c,ns,rfl,hn,A,q⟩:=h
  rfl
 obtain⟨nl,c,ns,rfl,hn,A,q⟩:=h;have ZaS:=Znt (P:=P) (w:=w) (base:=base) T;have ZeD:=ZpK (P:=P) (w:=w) (base:=base) T;have hln:(ns.map V.str).length=ns.length:=length_map _;have n1:=A.n1;have n6:=A.n6;obtain⟨x,hx,hxm⟩:=Zbi (n:=ns.length) (c / 7) (by omega)
 refine⟨_,(Zac (ss 2 Zgo.nd (Za8 ZaS hr (Zaa (Zah Zay (pv 1) Zad) (Zaa (pv 0) Zab))))
   (Zac (ss 3 Zgo.nd (Za1 ZaA (pv 0) (Zah Zax (Zah Zay (pv 1) Zad) (Zaw ZaE rfl T.B.len ZbV (Zaa (pv 0) Zab))) (fun _ _=>rfl)))
   (Zac (ZaP (Zal (ZaF hr.units) (Zah Zax (pv 1) Zad) Zad (Zat _))
   (Zae (Zas (Zaq Zab)))
   Zap)
   (Zac (ZaP (Zal (ZaF hr.units) (Zah Zax (pv 1) Zad) Zad (Zat _))
   (Zae (Zas (Zah Zam (pv 2) (Zaq (Zaa Zai Zab)))))
   Zap)
   (Zac (ZaP (Zal (ZaF hr.units) (Zah Zax (pv 1) Zad) Zad (Zat _))
   (Zae (Zas (Zah Zam (Zaq (Zaa (pv 3) Zab)) (pv 2))))
   Zap)
   (Zac (ZaP (Zal (ZaF hr.units) (Zah Zax (pv 1) Zad) Zad (Zat _))
   (Zae (Zas (Zah Zam (Zaq (Zaa Zai Zab)) (pv 2))))
   Zap)
   (Zac (ZaP (Zal (ZaF hr.units) (Zah Zax (pv 1) Zad) Zad (Zat _))
   (Zae (Zas (Zaq (Zaa (Za8 ZeD hr (Zaa (Zah Zam (pv 3) Zai) (Zaa (pv 0) Zab))) Zab))))
   Zap)
   (Zac (ZaP (Zal (ZaF hr.units) (Zah Zax (pv 1) Zad) Zad (Zat _))
   (Zae (Zas (Zbp Zc8 (pv 2) Zce (ZbK (ZuC ZoY Zad)))))
   Zap)
   (Zae (Zas (Zah Zam (pv 2) (Zaq (Zaa Zai (Zaa (pv 3) Zab)))))))))))))),?_⟩
 walk_at "rd0";refine⟨_,nl,ns,rfl,hn,A.n1,A.n6,fun fl tr H1 s1 nf e1 ok1=>?_⟩;have w1:=wd6 (ns:=ns) ok1;have wb:=Zfc A ok1
 have rn:∀R,aRun ns (true::R) (wdG true ns tr)=some (false::R)∧aRun ns (false::R) (wdG true ns tr)=none∧aRun ns (true::R) (wdG true ns tr).dropLast=some (true::R):=fun R=>by
  obtain⟨i,j,v,k,hi,hj,rfl⟩:=ok1;rw[wd19];exact ZBM A hi hj v R k
 have wne:wdG true ns tr≠[]:=fun e=>by
  have:=(rn []).1;rw[e]at this
  cases this
 generalize wdG true ns tr=fw at e1 w1 wb rn wne;have hn1:=s1 _ _ hn;walk_at "";rw[hln]
 (try refine i_rI (by omega) ?_)
 rw[hx];refine ZaO (j:=x) hn1 (v:=.str (ns.getD x Str.empty)) (by rw[getElem?_map,Zbg hxm]; rfl) ?_;have wx:=ZiO A hxm;obtain⟨ax,bx⟩:=A.nm _ (A.get hxm);have nx:=Zn1 A hxm;generalize ns.getD x Str.empty=nm at wx ax bx nx;walk_at "";refine ZbN (fun h0=>?_) (fun h0=>?_)
 ·walk_at ""
  exact ZaD (by simp) fun l H2 s2 n2 e2=>q l [] H2 (s1.trans s2) (s1.free n2) e2 rfl (fun z hz=>by cases hz) (Nat.zero_le _)
 walk_at "";refine ZbN (fun h1=>?_) (fun h1=>?_)
 ·walk_at ""
  refine ZaD (by simp) fun l2 H2 s2 n2 e2=>?_;refine Zcs (s2 _ _ e1) e2 (by simp only [length_map,length_cons,length_nil]; omega) fun l H3 s3 n3 e3=>?_;refine q l (fw++[("either" : Str)]) H3 (s1.trans (s2.trans s3)) ((s1.trans s2).free n3) (by rw[e3,map_append]; rfl) (ZnB fun B e=>?_) (fun z hz=>?_) (by rw[length_append]; simp only [length_cons,length_nil]; omega)
  ·rw[Zo3,(rn []).1]at e
   have e:aRun ns [false] [kw3 .e]=some B:=e;rw[Zga (aKw ns .e [])]at e
   cases e
   rfl
  ·rcases mem_append.mp hz with h | h
   ·exact wb z h
   ·rw[mem_singleton.mp h]; exact Zje (by unfold Lt; decide) (by decide) (by decide) (by decide)
 walk_at "";refine ZbN (fun h2=>?_) (fun h2=>?_)
 ·walk_at ""
  refine ZaD (by simp) fun l2 H2 s2 n2 e2=>?_;walk_at "";refine Zcs e2 (s2 _ _ e1) (by simp only [length_map,length_cons,length_nil]; omega) fun l H3 s3 n3 e3=>?_;refine q l (nm::fw) H3 (s1.trans (s2.trans s3)) ((s1.trans s2).free n3) e3 (ZnB fun B e=>?_) (fun z hz=>?_) (by rw[length_cons]; omega)
  ·rw[Zga (nx []).1,(rn []).2.1]at e
   cases e
  ·rcases mem_cons.mp hz with rfl | h
   ·exact wx
   ·exact wb z h
 walk_at "";refine ZbN (fun h3=>?_) (fun h3=>?_)
 ·walk_at ""
  refine ZaD (by simp) fun l2 H2 s2 n2 e2=>?_;walk_at "";refine Zcs e2 (s2 _ _ e1) (by simp only [length_map,length_cons,length_nil]; omega) fun l H3 s3 n3 e3=>?_;refine q l ("("::fw) H3 (s1.trans (s2.trans s3)) ((s1.trans s2).free n3) e3 (ZnB fun B e=>?_) (fun z hz=>?_) (by rw[length_cons]; omega)
  ·rw[Zga (aOpn ns []),(rn [true]).1]at e
   cases e
   rfl
  ·rcases mem_cons.mp hz with rfl | h
   ·exact⟨⟨.inl rfl,by decide⟩,by decide,by decide⟩
   ·exact wb z h
 walk_at "";refine ZbN (fun h4=>?_) (fun h4=>?_)
 ·walk_at ""
  refine ZdP (ZaQ (by have:=ax.2.2; show _+1≤_; omega)) ?_;walk_at "";have la:=Zak nm "k";have l1:Str.length "k" = 1:=rfl;refine⟨_,nl,ns,rfl,hn1,n6,⟨ZeF ax.1 (by unfold Lt; decide),by omega,by have:=ax.2.2; omega⟩,fun z H2 s2 hz hzl hz1 hz2=>?_⟩;walk_at "";refine ZaD (by simp) fun l H3 s3 n3 e3=>?_;refine q l [z] H3 (s1.trans (s2.trans s3)) ((s1.trans s2).free n3) e3 (Zre (a:=[]) (b:=[]) (Zwa hz hz1 hz2)) (fun y hy=>?_) (by show 1≤11; omega);rw[mem_singleton.mp hy];exact Zje hz (by omega) (by have:=ax.2.2; omega) (fun e=>hz2 (by rw[e]; decide))
 walk_at "";refine ZbN (fun h5=>?_) (fun h5=>?_)
 ·walk_at ""
  have ec:cutV (fw.map V.str) none (some (-1))=fw.dropLast.map V.str:=by
   obtain⟨r,y,e⟩:=ZBk wne;rw[e,map_append,List.dropLast_concat];exact Zxy (r.map V.str) (.str y)
  refine ZgD (SqL.of e1) ec fun l H2 s2 n2 e2=>?_;refine q l fw.dropLast H2 (s1.trans s2) (s1.free n2) e2 (ZnB fun B e=>?_) (fun z hz=>wb z ((List.dropLast_sublist _).subset hz)) (by rw[List.length_dropLast]; omega);rw[(rn []).2.2]at e
  cases e
  rfl
 walk_at "";refine ZaD (by simp) fun l2 H2 s2 n2 e2=>?_;refine Zcs (s2 _ _ e1) e2 (by simp only [length_map,length_cons,length_nil]; omega) fun l H3 s3 n3 e3=>?_;refine q l (fw++[("is" : Str),nm]) H3 (s1.trans (s2.trans s3)) ((s1.trans s2).free n3) (by rw[e3,map_append]; rfl) (Zre (ZCQ A)) (fun z hz=>?_) (by rw[length_append]; simp only [length_cons,length_nil]; omega)
 rcases mem_append.mp hz with h | h
 ·exact wb z h
 ·simp only [mem_cons,not_mem_nil,or_false]at h
  rcases h with rfl | rfl
  ·exact Zje (by unfold Lt; decide) (by decide) (by decide) (by decide)
  ·exact wx
def Zyz:Sp:=fun vs H Q _=>∃(nl:Addr) (c:Int) (ns:List Str),vs=[.ref nl,.int c]∧H nl=some (.lst (ns.map V.str))∧NmA ns∧∀z H',Same H H'→z∉ns→WdB z→Q (.str z) H'
theorem Zuy (T:Txt K mg t):FnS P w K mg base 3 "_law_no_lamp" ["_law_names_here","_law_cell"] (Zyz):=by
 refine⟨_,_,T.Zcl.ok Zij (fun vs H Q E h=>?_) (fun cdv A outer s H vs Q E hr h=>?_),T.Zi5,T.Zcl.kp,T.Zja⟩
 ·obtain⟨nl,c,ns,rfl,hn,A,q⟩:=h
  rfl
 obtain⟨nl,c,ns,rfl,hn,A,q⟩:=h;have ZeD:=ZpK (P:=P) (w:=w) (base:=base) T;have hln:(ns.map V.str).length=ns.length:=length_map _;have n1:=A.n1;have n6:=A.n6;obtain⟨x,hx,hxm⟩:=Zbi (n:=ns.length) (c / 5) (by omega);obtain⟨y,hy,hym⟩:=Zbi (n:=4) c (by omega)
 refine⟨_,(Zac (ss 2 Zij.nd (Za1 ZaA (pv 0) (Zah Zax (Zah Zay (pv 1) Zad) (Zaw ZaE rfl T.B.len ZbV (Zaa (pv 0) Zab))) (fun _ _=>rfl)))
   (Zae (Zas (Za1 ZaA (Zaq (Zaa Zai (Zaa Zai (Zaa (Za8 ZeD hr (Zaa (Zah Zam (pv 2) Zai) (Zaa (pv 0) Zab))) (Zaa Zai Zab))))) (Zah Zax (pv 1) Zad) (fun _ _=>rfl))))),?_⟩
 walk_at "rd0";rw[hln]
 (try refine i_rI (by omega) ?_)
 rw[hx];refine ZaO (j:=x) hn (v:=.str (ns.getD x Str.empty)) (by rw[getElem?_map,Zbg hxm]; rfl) ?_;obtain⟨ax,bx⟩:=A.nm _ (A.get hxm);generalize ns.getD x Str.empty=nm at ax bx;walk_at "";refine ZdP (ZaQ (by have:=ax.2.2; show _+1≤_; omega)) ?_;walk_at "";have la:=Zak nm "q";have l1:Str.length "q" = 1:=rfl;refine⟨_,nl,ns,rfl,hn,n6,⟨ZeF ax.1 (by unfold Lt; decide),by omega,by have:=ax.2.2; omega⟩,fun z H2 s2 hz hzl hz1 hz2=>?_⟩;walk_at "";refine ZaD (by simp) fun l H3 s3 n3 e3=>?_;walk_at "";have hy:c % 4=(y:Int):=hy;rw[hy];have nk:∀u:Str,u∈Zfs→u∉ns:=fun u hu h=>(A.nm u h).2 hu
 match y,hym with
 | 0,_=>exact ZaO (j:=0) e3 (v:=.str "is") rfl (q _ _ (s2.trans s3) (nk _ (by decide)) (Zje (by unfold Lt; decide) (by decide) (by decide) (by decide)))
 | 1,_=>exact ZaO (j:=1) e3 (v:=.str "(") rfl (q _ _ (s2.trans s3) (fun h=>by have:=(A.nm _ h).1.1 40 (by decide); omega) ⟨⟨.inl rfl,by decide⟩,by decide,by decide⟩)
 | 2,_=>exact ZaO (j:=2) e3 (v:=.str z) rfl (q _ _ (s2.trans s3) hz1 (Zje hz (by omega) (by have:=ax.2.2; omega) (fun e=>hz2 (by rw[e]; decide))))
 | 3,_=>exact ZaO (j:=3) e3 (v:=.str "yes") rfl (q _ _ (s2.trans s3) (nk _ (by decide)) (Zje (by unfold Lt; decide) (by decide) (by decide) (by decide)))
end
unseal PE PA PS PSs
theorem Zua {n i:Nat} {lo:Int} {x:V} (h:((List.range n).map fun i:Nat=>V.int (lo+(i:Int)))[i]?=some x):i < n∧x=.int (lo+(i:Int)):=by
 rw[getElem?_map]at h
 by_cases hi:i < n
 ·rw[List.getElem?_range hi]at h
  exact⟨hi,(Option.some.inj h).symm⟩
 ·rw[List.getElem?_eq_none (by rw[List.length_range]; omega)]at h
  cases h
theorem ZBW {ns:List Str} {p q:Nat} (hq:q < ns.length) (hpq:q≠p) : ¬(ns.take p++ns.getD q Str.empty::ns.drop (p+1)).Nodup:=fun nd=>by
 rw[nodup_append]at nd;obtain⟨_,n2,n3⟩:=nd;rw[nodup_cons]at n2
 rcases Nat.lt_or_gt_of_ne hpq with h | h
 ·exact n3 _ (mem_of_getElem? (i:=q) (by rw[List.getElem?_take_of_lt h]; exact Zbg hq)) _ mem_cons_self rfl
 ·exact n2.1 (mem_of_getElem? (i:=q - (p+1)) (by rw[getElem?_drop,show p+1+(q - (p+1))=q by omega]; exact Zbg hq))
seal PE PA PS PSs
section
variable {P:Program} {w:World} {K:W.Frag} {mg:Str→Option Value} {base:Heap} {t:Ad} {n:Nat}
def ZyE:Sp:=fun vs H Q _=>∃(nl:Addr) (wy c:Int) (ns:List Str),vs=[.ref nl,.int wy,.int c]∧H nl=some (.lst (ns.map V.str))∧NmA ns∧∀l r H',Same H H'→H l=none→H' l=some (.lst ((("lamps" : Str)::r).map V.str))→(∀z∈r,WdX z)→r.length≤9→(wy=4→¬(1≤r.length∧r.length≤6))→(wy≠4→1≤r.length∧r.length≤6∧¬NmOk r)→Q (.ref l) H'
theorem Zom (T:Txt K mg t):FnS P w K mg base 3 "_law_wrong_lamps" ["_law_names_here","_law_way","_law_cell"] (ZyE):=by
 refine⟨_,_,T.Zbs.ok ZaK (fun vs H Q E h=>?_) (fun cdv A outer s H vs Q E hr h=>?_),T.ZfO,T.Zbs.kp,T.Zf3⟩
 ·obtain⟨nl,wy,c,ns,rfl,hn,A,q⟩:=h
  rfl
 obtain⟨nl,wy,c,ns,rfl,hn,A,q⟩:=h;have Zes:=ZoP (P:=P) (w:=w) (base:=base) T;have hln:(ns.map V.str).length=ns.length:=length_map _;have n1:=A.n1;have n6:=A.n6
 refine⟨_,(Zac (ZaP (Zal (ZaF hr.units) (pv 1) Zad (Zat _))
   (Zac (ss 3 ZaK.nd (Zaq (Zaa Zai (Zaa Zai (Zaa (Za1 ZaA (pv 0) Zad (fun _ _=>rfl)) (Zaa Zai Zab))))))
   (Zac (ss 4 ZaK.nd (Za1 ZaA (Zaq (Zaa Zad (Zaa Zad (Zaa Zad (Zaa Zad Zab))))) (Zah Zax (pv 2) Zad) (fun _ _=>rfl)))
   (Zae (Zas (Zah Zam (Zaq (Zaa Zai Zab)) (ZAW (sc:=Zaj Zcz) (N:=["_law_names_here","_law_way","_law_cell","_law_some","_law_count","_law_place","_law_word","_law_step"]) (ns:=["_law_some","_law_cell"]) (ix:=[3,2]) rfl rfl (by decide +kernel) rfl (ZeI rfl T.B.range (Zaa (pv 4) Zab)) (fun _ _ _ _=>Zwx) (fun _ _ _ _=>(Za1 (ZAt (K:=K) rfl) (pv 1) (Zah Zax (Zah Zam (Zah Zay (pv 2) Zad) (pv 0)) Zad) (fun _ _=>rfl)))))))))
   Zap)
   (Zac (ss 5 ZaK.nd (Zah Zax (Zah Zay (pv 2) Zad) (Zaw ZaE rfl T.B.len ZbV (Zaa (pv 0) Zab))))
   (Zac (ss 3 ZaK.nd (Zaq (ZpM (ZpM (Zaa Zai (Zaa Zai (Zaa Zai Zab)))))))
   (Zac (ss 6 ZaK.nd (Za1 ZaA (pv 3) (Zah Zax (Zah Zay (pv 2) Zad) Zad) (fun _ _=>rfl)))
   (Zac (ZaP (Zal (ZaF hr.units) (Zah Zax (pv 2) Zad) Zad (Zat _))
   (Zae (ss 6 ZaK.nd (Za8 Zes hr (Zaa (pv 2) (Zaa (Zah Zam Zad (Zah Zax (Zah Zay (pv 2) Zad) Zad)) Zab)))))
   Zap)
   (Zac (ZaP (PW.pt (ZgI (Zal (ZaF hr.units) (Zah Zax (pv 2) Zad) Zad (Zat _)) (Zgg (Zal Zrk (Zaw ZaE rfl T.B.len ZbV (Zaa (pv 0) Zab)) Zad (Zat _)))))
   (Zac (ss 7 ZaK.nd (Zah Zam Zad (Zah Zax (Zah Zay (pv 2) Zad) (Zah Zwj (Zaw ZaE rfl T.B.len ZbV (Zaa (pv 0) Zab)) Zad))))
   (Zae (ss 6 ZaK.nd (Za1 ZaA (pv 0) (Zah Zax (Zah Zam (pv 5) (pv 7)) (Zaw ZaE rfl T.B.len ZbV (Zaa (pv 0) Zab))) (fun _ _=>rfl)))))
   Zap)
   (Zae (Zas (Zah Zam (Zah Zam (Zah Zam (Zaq (Zaa Zai Zab)) (Zbp Zc8 (pv 0) Zce (ZbK (pv 5)))) (Zaq (Zaa (pv 6) Zab))) (Zbp Zc8 (pv 0) (ZbK (Zah Zam (pv 5) Zad)) Zce)))))))))),?_⟩
 walk_at "rd0";refine ZbN (fun h0=>?_) (fun h0=>?_)
 ·have w0:=ZiO A (i:=0) (by omega)
  walk_at "";refine ZaO (j:=0) hn (v:=.str (ns.getD 0 Str.empty)) (by rw[getElem?_map,Zbg (by omega)]; rfl) ?_;walk_at "";refine ZaD (by simp) fun l1 H1 s1 m1 e1=>?_;walk_at "";refine ZaD (by simp) fun l2 H2 s2 m2 e2=>?_;walk_at "";obtain⟨y,hy,hym⟩:=Zbi (n:=4) c (by omega);have hy:c % 4=(y:Int):=hy;rw[hy]
  obtain⟨m,hm,hmv⟩ : ∃m:Nat,([V.int 0,V.int 7,V.int 8,V.int 9]:List V)[y]?=some (.int (m:Int))∧(m=0∨7≤m)∧m≤9:=by
   match y,hym with
   | 0,_=>exact⟨0,rfl,by omega,by omega⟩
   | 1,_=>exact⟨7,rfl,by omega,by omega⟩
   | 2,_=>exact⟨8,rfl,by omega,by omega⟩
   | 3,_=>exact⟨9,rfl,by omega,by omega⟩
  refine ZaO (j:=y) e2 (v:=.int (m:Int)) hm ?_;walk_at "";refine ZaD (by simp) fun l3 H3 s3 m3 e3=>?_;walk_at "";refine⟨_,rfl,by omega,by omega,?_⟩;rw[Int.toNat_natCast];refine Zvb (fun i ys=>∃zs:List Str,ys=zs.map V.str∧zs.length=i∧∀z∈zs,WdX z) (ZyM 0 m H3) (by simp; omega) ⟨[],rfl,rfl,fun z hz=>by cases hz⟩ ?_ ?_
  ·rintro i x ys acc H' hx s' ha ea ⟨zs,rfl,hzl,okz⟩ hyl R kk
   obtain⟨hi,rfl⟩:=Zua hx;simp only [subS,map_cons,map_nil];walk_at "";refine kk true H' (Same.refl _) (fun z=>by cases z) fun _ R2 k2=>?_;walk_at "";obtain⟨u,hu,hum⟩:=Zbi (n:=4) (c / 4+(0+(i:Int))) (by omega);have hu:(c / 4+(0+(i:Int))) % 4=(u:Int):=hu;rw[hu];have e1':=s' _ _ (s3 _ _ (s2 _ _ e1))
   have go:∀z:Str,WdX z→([V.str "not",V.str "(",V.str (ns.getD 0 Str.empty),V.str "bulb"]:List V)[u]?=some (.str z)→rIx K (.ref l1) (.int (u:Int)) H' R2:=fun z hz hg=>ZaO (j:=u) e1' (v:=.str z) hg (k2 _ H' (Same.refl _) ⟨zs++[z],by rw[map_append]; rfl,by rw[length_append,hzl]; rfl,fun y hy=>by
    rcases mem_append.mp hy with h | h
    ·exact okz y h
    ·rw[mem_singleton.mp h]; exact hz⟩)
   match u,hum with
   | 0,_=>exact go "not" (Zdd ⟨⟨by decide,by decide⟩,by decide⟩) rfl
   | 1,_=>exact go "(" ⟨.inl rfl,by decide⟩ rfl
   | 2,_=>exact go _ w0.1 rfl
   | 3,_=>exact go "bulb" (Zdd ⟨⟨by decide,by decide⟩,by decide⟩) rfl
  rintro l4 ys H4 m4 s4 e4 ⟨zs,rfl,hzl,okz⟩;rw[length_map,List.length_range]at hzl;walk_at "";refine Zcs (s4 _ _ e3) e4 (by simp only [length_map,length_cons,length_nil]; omega) fun l5 H5 s5 m5 e5=>?_;have w4:=s1.trans (s2.trans (s3.trans s4));exact q l5 zs H5 (w4.trans s5) (w4.free m5) e5 okz (by omega) (fun _=>by omega) (fun h=>absurd h0 h)
 obtain⟨p,hp,hpm⟩:=Zbi (n:=ns.length) (c / 4) (by omega);obtain⟨y,hy,hym⟩:=Zbi (n:=11) (c / 24) (by omega);have hy:c / 24 % 11=(y:Int):=hy;walk_at "";rw[hln]
 (try refine i_rI (by omega) ?_)
 rw[hp];walk_at "";refine ZaD (Nat.le_of_ble_eq_true rfl) fun l1 H1 s1 m1 e1=>?_;walk_at "";rw[hy]
 obtain⟨z0,hz0,hz1,hz2⟩ : ∃z0:Str,([V.str "and",V.str "or",V.str "not",V.str "either",V.str "yes",V.str "no",V.str "then",V.str "is",V.str "(",V.str ")",V.str ","]:List V)[y]?=some (.str z0)∧z0∈noNm∧WdX z0:=by
  have hl:∀z:Str,(NmL z∧z.length≤14)→WdX z:=fun z h=>Zdd h
  match y,hym with
  | 0,_=>exact⟨"and",rfl,by decide,hl _ ⟨⟨by decide,by decide⟩,by decide⟩⟩
  | 1,_=>exact⟨"or",rfl,by decide,hl _ ⟨⟨by decide,by decide⟩,by decide⟩⟩
  | 2,_=>exact⟨"not",rfl,by decide,hl _ ⟨⟨by decide,by decide⟩,by decide⟩⟩
  | 3,_=>exact⟨"either",rfl,by decide,hl _ ⟨⟨by decide,by decide⟩,by decide⟩⟩
  | 4,_=>exact⟨"yes",rfl,by decide,hl _ ⟨⟨by decide,by decide⟩,by decide⟩⟩
  | 5,_=>exact⟨"no",rfl,by decide,hl _ ⟨⟨by decide,by decide⟩,by decide⟩⟩
  | 6,_=>exact⟨"then",rfl,by decide,hl _ ⟨⟨by decide,by decide⟩,by decide⟩⟩
  | 7,_=>exact⟨"is",rfl,by decide,hl _ ⟨⟨by decide,by decide⟩,by decide⟩⟩
  | 8,_=>exact⟨"(",rfl,by decide,.inl rfl,by decide⟩
  | 9,_=>exact⟨")",rfl,by decide,.inr (.inl rfl),by decide⟩
  | 10,_=>exact⟨",",rfl,by decide,.inr (.inr (.inl rfl)),by decide⟩
 refine ZaO (j:=y) e1 (v:=.str z0) hz0 ?_;have hn1:=s1 _ _ hn
 let BadN:Str→Prop:=fun z=>WdX z∧¬NmOk (ns.take p++z::ns.drop (p+1))
 have b0:BadN z0:=⟨hz2,fun h=>(h.1 z0 (by simp)).1 hz1⟩;walk_at "rs";refine Zhx (fun σ H'=>∃z,H1=H'∧BadN z∧σ=[some (.ref nl),some (.int wy),some (.int c),some (.ref l1),none,some (.int (p:Int)),some (.str z),none]) ?_ ?_
 rotate_left
 ·intro Kn hK
  walk_at "";refine ZbN (fun h1=>?_) (fun h1=>?_)
  ·walk_at ""
   obtain⟨sz,hsz,hs9,hs14⟩ : ∃k:Nat,9+c / 24 % 5=(k:Int)∧9≤k∧k≤14:=⟨(9+c / 24 % 5).toNat,by omega,by omega,by omega⟩;rw[hsz];refine⟨c,sz,rfl,hs14,fun z hz hzl=>?_⟩;walk_at "";refine hK _ _ ⟨z,rfl,⟨(Zje hz (by omega) (by omega) (fun e=>by rw[e]at hzl; have:Str.length "then" = 4:=rfl; omega)).1,fun h=>?_⟩,rfl⟩;have:=(h.1 z (by simp)).2;omega
  ·walk_at ""
   exact hK _ _ ⟨z0,rfl,b0,rfl⟩
 rintro σ H' ⟨z1,rfl,b1,rfl⟩;walk_at "rs";refine Zhx (fun σ H'=>∃z v7,H1=H'∧BadN z∧σ=[some (.ref nl),some (.int wy),some (.int c),some (.ref l1),none,some (.int (p:Int)),some (.str z),v7]) ?_ ?_
 rotate_left
 ·intro Kn hK
  walk_at "";refine ZbN (fun h2=>?_) (fun h2=>?_)
  ·walk_at ""
   rw[hln];refine ZbN (fun h3=>?_) (fun h3=>?_)
   ·obtain⟨x,hx,hxm⟩:=Zbi (n:=ns.length - 1) (c / 24) (by omega)
    obtain⟨j,hj,hjm⟩:=Zbi (n:=ns.length) ((p:Int)+(1+(x:Int))) (by omega)
    have hij:j≠p:=fun e=>by
     subst e;have a1:((j:Int)+(1+(x:Int))) % (ns.length:Int)=(j:Int):=hj;have d:(ns.length:Int) ∣ ((j:Int)+(1+(x:Int)) - (j:Int)):=Int.dvd_of_emod_eq_zero (by rw[Int.sub_emod,a1,Int.emod_eq_of_lt (by omega) (by omega:(j:Int) < (ns.length:Int)),Int.sub_self,Int.zero_emod]);have:=Int.le_of_dvd (by omega) d;omega
    walk_at "";rw[hln]
    (try refine i_rI (by omega) ?_)
    rw[show(ns.length:Int) - 1=((ns.length - 1:Nat):Int) by omega,hx];walk_at ""
    (try rw[hln])
    (try refine i_rI (by omega) ?_)
    rw[hj];refine ZaO (j:=j) hn1 (v:=.str (ns.getD j Str.empty)) (by rw[getElem?_map,Zbg hjm]; rfl) ?_;walk_at "";exact hK _ _ ⟨_,_,rfl,⟨(ZiO A hjm).1,fun h=>ZBW hjm hij h.2⟩,rfl⟩
   ·walk_at ""
    exact hK _ _ ⟨z1,_,rfl,b1,rfl⟩
  ·walk_at ""
   exact hK _ _ ⟨z1,_,rfl,b1,rfl⟩
 rintro σ H' ⟨z,v7,rfl,bz,rfl⟩;walk_at "";refine ZaD (by simp) fun l2 H2 s2 m2 e2=>?_;walk_at "";refine ZgD (SqL.of (s2 _ _ hn1)) (Zvc (Nat.le_of_lt hpm)) fun l3 H3 s3 m3 e3=>?_;refine Zcs (s3 _ _ e2) e3 (by simp only [length_map,length_cons,length_nil,length_take]; omega) fun l4 H4 s4 m4 e4=>?_;walk_at "";refine ZaD (by simp) fun l5 H5 s5 m5 e5=>?_;refine Zcs (s5 _ _ e4) e5 (by simp only [length_map,length_append,length_cons,length_nil,length_take]; omega) fun l6 H6 s6 m6 e6=>?_;have w6:=s2.trans (s3.trans (s4.trans (s5.trans s6)));walk_at "";refine ZgD (SqL.of (w6 _ _ hn1)) (Zc9 (k:=p+1) (by rw[length_map]; omega)) fun l7 H7 s7 m7 e7=>?_;refine Zcs (s7 _ _ e6) e7 (by simp only [length_map,length_append,length_cons,length_nil,length_take,length_drop]; omega) fun l8 H8 s8 m8 e8=>?_
 have hl9:(ns.take p++z::ns.drop (p+1)).length=ns.length:=by simp only [length_append,length_cons,length_take,length_drop]; omega
 have w8:=s1.trans (w6.trans (s7.trans s8));refine q l8 (ns.take p++z::ns.drop (p+1)) H8 w8 ((s1.trans (w6.trans s7)).free m8) ?_ (fun y hy=>?_) (by omega) (fun h=>absurd h h0) (fun _=>⟨by omega,by omega,bz.2⟩)
 ·rw[e8]
  simp
 ·rcases mem_append.mp hy with h | h
  ·exact(A.wd y (mem_of_mem_take h)).x
  ·rcases mem_cons.mp h with rfl | h
   ·exact bz.1
   ·exact(A.wd y (List.mem_of_mem_drop h)).x
end
unseal PE PA PS PSs
def pcX (ns:List Str) (x:Nat×List Str):List Str:=ns.getD x.1 Str.empty::("is" : Str)::x.2
structure MvX (g:List Str) (pcs:List (List Str)):Prop where
 ng:∀z∈g,WdX z∧z≠"then"
 np:∀p∈pcs,∀z∈p,WdB z
 ne:pcs≠[]
 lg:g.length≤20
 lp:∀p∈pcs,p.length≤20
 l3:pcs.length≤3
theorem MvX.gt {g:List Str} {pcs:List (List Str)} (X:MvX g pcs):("then" : Str)∉("move" : Str)::g:=fun h=>by
 rcases mem_cons.mp h with h | h
 ·exact absurd h (by decide)
 ·exact(X.ng _ h).2 rfl
theorem MvX.pt {g:List Str} {pcs:List (List Str)} (X:MvX g pcs):Zb2 (jnW "," pcs)=pcs:=ZoS X.ne fun p hp h=>(X.np p hp _ h).2.2 rfl
theorem MvX.jt {g:List Str} {pcs:List (List Str)} (X:MvX g pcs):("then" : Str)∉jnW "," pcs:=fun h=>Zkd (Pz:=fun z=>z≠"then") (k:=",") (by decide) (ps:=pcs) (fun p hp z hz=>(X.np p hp z hz).2.1) _ h rfl
theorem MvX.ln {g:List Str} {pcs:List (List Str)} (X:MvX g pcs):(jnW "," pcs).length≤63:=by
 have:=Zke "," (B:=20) (ps:=pcs) X.lp;have b:(20+1) * pcs.length≤21 * 3:=Nat.mul_le_mul_left _ X.l3;omega
theorem MvX.wd {g:List Str} {pcs:List (List Str)} (X:MvX g pcs):∀z∈("move" : Str)::(g++("then" : Str)::jnW "," pcs),WdX z:=fun z hz=>by
 rcases mem_cons.mp hz with rfl | hz
 ·exact Zdd ⟨⟨by decide,by decide⟩,by decide⟩
 rcases mem_append.mp hz with hz | hz
 ·exact(X.ng z hz).1
 rcases mem_cons.mp hz with rfl | hz
 ·exact Zdd ⟨⟨by decide,by decide⟩,by decide⟩
 ·exact Zkd (Pz:=WdX) (k:=",") ⟨.inr (.inr (.inl rfl)),by decide⟩ (ps:=pcs) (fun p hp y hy=>(X.np p hp y hy).1) z hz
theorem MvX.no {g:List Str} {pcs:List (List Str)} (X:MvX g pcs) {pc:List Str} (hp:pc∈pcs) (h : ¬(2≤pc.length∧pc[1]?=some ("is" : Str))) : ¬MvOk (("move" : Str)::(g++("then" : Str)::jnW "," pcs)):=fun⟨a',b',e,M⟩=>by
 obtain⟨_,rfl⟩:=ZzN (a:=("move" : Str)::g) e X.gt M.na;exact h (M.pc pc (by rw[X.pt]; exact hp))
theorem MvX.ws {g:List Str} {pcs:List (List Str)} (X:MvX g pcs) (h:∀p∈pcs,2≤p.length∧p[1]?=some ("is" : Str)):MvWs (("move" : Str)::g) (jnW "," pcs):=⟨X.gt,X.jt,by have:=X.ln; have:=X.lg; rw[length_cons]; omega,fun p hp=>by rw[X.pt]at hp; exact h p hp⟩
theorem MvX.nm {ns g:List Str} {pcs:List (List Str)} (X:MvX g pcs) (h:∀p∈pcs,2≤p.length∧p[1]?=some ("is" : Str)) (hn:∀ls,¬LmOk ns pcs ls):BadT ns (("move" : Str)::(g++("then" : Str)::jnW "," pcs)) .name:=
 .nm (X.ws h) (fun z hz=>ZfE (X.ng z hz).1) (fun p hp z hz=>by rw[X.pt]at hp; exact ZfE (X.np p hp z hz).1) (fun ls=>by rw[X.pt]; exact hn ls)
theorem MvX.fm {ns g:List Str} {pcs:List (List Str)} {ls:List Nat} (X:MvX g pcs) (h:∀p∈pcs,2≤p.length∧p[1]?=some ("is" : Str)) (hl:LmOk ns pcs ls) (hn:Ze7 ns g=none∨∃z r,(z::("is" : Str)::r)∈pcs∧Ze7 ns r=none):BadT ns (("move" : Str)::(g++("then" : Str)::jnW "," pcs)) .form:=
 .mf (ls:=ls) (X.ws h) (fun z hz=>ZfE (X.ng z hz).1) (fun p hp z hz=>by rw[X.pt]at hp; exact ZfE (X.np p hp z hz).1) (by rw[X.pt]; exact hl) (fun v M=>by
  rcases hn with hn | ⟨z,r,hp,hr⟩
  ·have:=M.gd
   rw[hn]at this
   cases this
  ·have hc:=M.cs
   rw[X.pt]at hc;obtain⟨i,hi,e⟩:=List.mem_iff_getElem.mp hp;obtain⟨c,_,z',r',e',_,hr'⟩:=Zbj hc (i:=i) (a:=z::("is" : Str)::r) (by rw[List.getElem?_eq_getElem hi,e]);obtain⟨_,e3⟩:=List.cons.inj e';obtain⟨_,rfl⟩:=List.cons.inj e3;rw[hr]at hr'
   cases hr')
theorem ZAG {ns:List Str} {pcs:List (List Str)} {z:Str} {r:List Str} (hp:(z::r)∈pcs) (hz:z∉ns):∀ls,¬LmOk ns pcs ls:=fun ls h=>by
 obtain⟨i,hi,e⟩:=List.mem_iff_getElem.mp hp;obtain⟨k,_,z',r',e',hx⟩:=Zbj h.1 (i:=i) (a:=z::r) (by rw[List.getElem?_eq_getElem hi,e]);obtain⟨rfl,_⟩:=List.cons.inj e';rw[ZvG hz]at hx
 cases hx
theorem Zzu {ns:List Str} {pcs:List (List Str)} {z:Str} {r r':List Str} {i j:Nat} (hi:pcs[i]?=some (z::r)) (hj:pcs[j]?=some (z::r')) (hij:i≠j):∀ls,¬LmOk ns pcs ls:=fun ls h=>by
 obtain⟨k,hk,z1,r1,e1,hx1⟩:=Zbj h.1 hi;obtain⟨k',hk',z2,r2,e2,hx2⟩:=Zbj h.1 hj;obtain⟨rfl,_⟩:=List.cons.inj e1;obtain⟨rfl,_⟩:=List.cons.inj e2;rw[hx1]at hx2
 cases hx2
 exact hij (Ztx h.2 hk hk')
theorem Zzt {ns:List Str} (A:NmA ns):∀{xs:List (Nat×List Str)},(∀x∈xs,x.1 < ns.length)→(xs.map Prod.fst).Nodup→LmOk ns (xs.map (pcX ns)) (xs.map Prod.fst):=fun h nd=>⟨Zjs fun x hx=>⟨_,_,rfl,Zjo A.nd (Zbg (h x hx))⟩,nd⟩
theorem ZtE (ns:List Str) (xs:List (Nat×List Str)):∀p∈xs.map (pcX ns),2≤p.length∧p[1]?=some ("is" : Str):=fun p hp=>by
 obtain⟨x,_,rfl⟩:=mem_map.mp hp;exact⟨by show 2≤x.2.length+2; omega,rfl⟩
theorem Zlh {α β:Type} {F:α→β→Prop}:∀{xs:List α} {ys:List β} (k:Nat) {x:α} {y:β},Paired F xs ys→F x y→Paired F (xs.set k x) (ys.set k y)
 | _,_,_,_,_,.nil,_=>.nil
 | _::_,_::_,0,_,_,.cons _ q,h=>.cons h q
 | _::_,_::_,k+1,_,_,.cons r q,h=>.cons r (Zlh k q h)
theorem Zuv {ws:List Str} (h:MvOk ws):ws.count ("then" : Str)=1:=by
 obtain⟨a,b,rfl,M⟩:=h;rw[count_append,count_cons_self,count_eq_zero.mpr M.na,count_eq_zero.mpr M.nb]
theorem noIs {ns:List Str} (A:NmA ns) {tr:Tr} (h:OkF ns.length tr):("is" : Str)∉wdG true ns tr:=fun hm=>Zo0 (Pz:=fun z=>z≠"is") (fun z hz=>by rintro rfl; exact absurd hz (by decide)) (m:=ns.length) (fun k hk e=>(A.nm _ (A.get hk)).2 (by rw[e]; decide)) tr h.ok.1 _ hm rfl
theorem ZtL {α:Type}:∀{l:List α} {k:Nat} {a:α},l[k]?=some a→l.set k a=l
 | [],_,_,_=>rfl
 | x::l,0,a,h=>by have:x=a:=(by simpa using h); rw[this]; rfl
 | x::l,k+1,a,h=>congrArg (x :: ·) (ZtL (l:=l) (k:=k) (by simpa using h))
theorem Zp1:∀(l:List Addr) (k:Nat) (x:Addr),(l.map V.ref).set k (.ref x)=(l.set k x).map V.ref
 | [],_,_=>rfl
 | _::_,0,_=>rfl
 | y::r,k+1,x=>congrArg (V.ref y :: ·) (Zp1 r k x)
seal PE PA PS PSs
section
variable {P:Program} {w:World} {K:W.Frag} {mg:Str→Option Value} {base:Heap} {t:Ad} {n:Nat}
def ZyF:Sp:=fun vs H Q _=>∃(nl:Addr) (wy c mo:Int) (ns:List Str),vs=[.ref nl,.int wy,.int c,.int mo]∧H nl=some (.lst (ns.map V.str))∧NmA ns∧(wy=5∨wy=6∨wy=7∨wy=9∨wy=10∨wy=12∨wy=13)∧∀l r H',Same H H'→H l=none→H' l=some (.lst ((("move" : Str)::r).map V.str))→(∀z∈("move" : Str)::r,WdX z)→r.length≤90→(wy≤7→¬MvOk ("move"::r))→(wy=9∨wy=10→BadT ns ("move"::r) .name)→(12≤wy→BadT ns ("move"::r) .form)→Q (.ref l) H'
theorem ZpL (T:Txt K mg t):FnS P w K mg base 6 "_law_wrong_move" ["_law_names_here","_law_way","_law_cell","_law_more"] (ZyF):=by
 refine⟨_,_,T.ZbG.ok Za0 (fun vs H Q E h=>?_) (fun cdv A outer s H vs Q E hr h=>?_),T.Zgw,T.ZbG.kp,T.ZgF⟩
 ·obtain⟨nl,wy,c,mo,ns,rfl,hn,A,hw,q⟩:=h
  rfl
 obtain⟨nl,wy,c,mo,ns,rfl,hn,A,hw,q⟩:=h;have ZaS:=Znt (P:=P) (w:=w) (base:=base) T;have ZdK:=Zrg (P:=P) (w:=w) (base:=base) T;have ZgW:=Zrj (P:=P) (w:=w) (base:=base) T;have ZnZ:=Zuy (P:=P) (w:=w) (base:=base) T;have Zjg:=Zwe (P:=P) (w:=w) (base:=base) T;have hln:(ns.map V.str).length=ns.length:=length_map _;have n1:=A.n1;have n6:=A.n6;have w0:=ZiO A (i:=0) (by omega);have g0:=Zbg (ns:=ns) (k:=0) (by omega);have z0i:ns.getD 0 Str.empty≠"is":=fun e=>(A.nm _ (A.get (k:=0) (by omega))).2 (by rw[e]; decide);generalize ns.getD 0 Str.empty=z0 at w0 g0 z0i
 refine⟨_,(Zac (ss 4 Za0.nd (Za8 ZaS hr (Zaa (pv 3) (Zaa (pv 0) Zab))))
   (Zac (ZaP (PW.pt (Zoq (PW.pt (ZgI (Zal Zyc (pv 1) Zad (Zat _)) (Zgg (Zal (ZaF hr.units) (Zah Zax (pv 2) Zad) Zad (Zat _))))) (Zjd (Zal (ZaF hr.units) (pv 1) Zad (Zat _)))))
   (Zac (ss 4 Za0.nd (Za8 ZdK hr (Zaa (pv 0) (Zaa (pv 3) Zab))))
   (Zae (ZaP (Zal (ZaF hr.units) (Zah Zax (Zah Zay (pv 2) Zad) Zad) Zad (Zat _))
   (Zae (ss 4 Za0.nd (Zah Zam (Za8 ZaS hr (Zaa (pv 3) (Zaa (pv 0) Zab))) (Zaq (Zaa Zai (Zaa (Za1 ZaA (pv 0) Zad (fun _ _=>rfl)) Zab))))))
   Zap)))
   Zap)
   (Zac (ZaP (Zal (ZaF hr.units) (pv 1) Zad (Zat _))
   (Zac (ss 5 Za0.nd (Za1 ZaA (Zaq (Zaa (Zaq (Zaa Zai Zab)) (Zaa (Zah Zam (Zah Zam (Zaq (Zaa Zai Zab)) (pv 4)) (Zaq (Zaa Zai Zab))) Zab))) (Zah Zax (Zah Zay (pv 2) Zad) Zad) (fun _ _=>rfl)))
   (Zae (Zas (Zah Zam (Zah Zam (Zah Zam (Zaq (Zaa Zai Zab)) (pv 4)) (pv 5)) (Za8 ZaS hr (Zaa (pv 2) (Zaa (pv 0) Zab)))))))
   Zap)
   (Zac (ss 6 Za0.nd (Za8 ZgW hr (Zaa (Zah Zay (pv 3) Zad) (Zaa (pv 0) Zab))))
   (Zac (ss 7 Za0.nd (Zah Zax (Zah Zay (pv 2) Zad) (Zaw ZaE rfl T.B.len ZbV (Zaa (pv 6) Zab))))
   (Zac (ZaP (Zal (ZaF hr.units) (pv 1) Zad (Zat _))
   (Zae (ZoV (Za1 ZaA (Zaq (Zaa (Zaq Zab) (Zaa (Zaq (Zaa (Za1 ZaA (pv 0) Zad (fun _ _=>rfl)) Zab)) (Zaa (Zaq (Zaa Zai Zab)) Zab)))) (Zah Zax (Zah Zay (pv 2) Zad) Zad) (fun _ _=>rfl)) (ZoU (pv 6) (pv 7) ZiM)))
   Zap)
   (Zac (ZaP (Zal (ZaF hr.units) (pv 1) Zad (Zat _))
   (Zac (ss 5 Za0.nd (Za1 ZaA (Zaq (Zaa (Zaq Zab) (Zaa (Zaq (Zaa Zai Zab)) (Zaa (Zaq (Zaa (Za1 ZaA (pv 0) Zad (fun _ _=>rfl)) Zab)) (Zaa (Zaq (Zaa Zai Zab)) Zab))))) (Zah Zax (Zah Zay (pv 2) Zad) Zad) (fun _ _=>rfl)))
   (Zae (ZoV (Zah Zam (Zah Zam (Zaq (Zaa (Za1 ZaA (pv 0) Zad (fun _ _=>rfl)) Zab)) (pv 5)) (Za8 ZaS hr (Zaa (pv 3) (Zaa (pv 0) Zab)))) (ZoU (pv 6) (pv 7) ZiM))))
   Zap)
   (Zac (ZaP (Zal (ZaF hr.units) (pv 1) Zad (Zat _))
   (Zae (ZoV (Zah Zam (Zaq (Zaa (Za8 ZnZ hr (Zaa (pv 0) (Zaa (Zah Zay (pv 2) Zad) Zab))) Zab)) (Zbp Zc8 (Za1 ZaA (pv 6) (pv 7) (fun _ _=>rfl)) (ZbK Zad) Zce)) (ZoU (pv 6) (pv 7) ZiM)))
   Zap)
   (Zac (ZaP (Zal (ZaF hr.units) (pv 1) Zad (Zat _))
   (Zac (Za2 (ZcX F.plainAttrs_list F.slot_list_append F.type_list_append ZaU (pv 6) (Zaa (Zah Zam (Zbp Zc8 (Za1 ZaA (pv 6) (pv 7) (fun _ _=>rfl)) Zce (ZbK Zad)) (Za8 ZaS hr (Zaa (Zah Zay (pv 2) Zad) (Zaa (pv 0) Zab)))) Zab)))
   (Zae (ZaP (Zal (ZaF hr.units) (Zah Zax (Zah Zay (pv 2) Zad) Zad) Zad (Zat _))
   (Zae (ZoV (Zah Zam (Zbp Zc8 (Za1 ZaA (pv 6) (pv 7) (fun _ _=>rfl)) Zce (ZbK Zad)) (Za8 ZdK hr (Zaa (pv 0) (Zaa (Zah Zay (pv 3) Zad) Zab)))) (ZoU (pv 6) (pv 7) ZiM)))
   Zap)))
   Zap)
   (Zac (ZaP (Zal (ZaF hr.units) (pv 1) Zad (Zat _))
   (Zae (ZoV (Zah Zam (Zbp Zc8 (Za1 ZaA (pv 6) (pv 7) (fun _ _=>rfl)) Zce (ZbK Zad)) (Za8 ZdK hr (Zaa (pv 0) (Zaa (Zah Zay (pv 2) Zad) Zab)))) (ZoU (pv 6) (pv 7) ZiM)))
   Zap)
   (Zae (Zas (Za8 Zjg hr (Zaa (pv 4) (Zaa (pv 6) Zab))))))))))))))),?_⟩
 walk_at "rd0";refine⟨_,nl,ns,rfl,hn,n1,n6,fun gl0 tr H1 s1 m1 e1 ok1=>?_⟩;have v1:=wd6 (ns:=ns) ok1;have wb1:=Zfc A ok1;walk_at "rs";refine Zhx (fun σ H'=>∃gl g,Same H H'∧H' gl=some (.lst (g.map V.str))∧(∀z∈g,WdX z∧z≠"then")∧g.length≤11∧(wy=12→Ze7 ns g=none)∧σ=[some (.ref nl),some (.int wy),some (.int c),some (.int mo),some (.ref gl),none,none,none]) ?_ ?_
 rotate_left
 ·intro Kn hK
  have no : ¬(wy < 12∧c % 2=1)→¬wy=12→Kn [some (.ref nl),some (.int wy),some (.int c),some (.int mo),some (.ref gl0),none,none,none] H1:=fun h1 h2=>hK _ _ ⟨gl0,_,s1,e1,fun z hz=>⟨(wb1 z hz).1,(wb1 z hz).2.1⟩,by omega,fun e=>absurd e h2,rfl⟩
  by_cases hB:(wy < 12∧c % 2=1)∨wy=12
  ·refine(fun(key:True→?G)=>?main) ?key
   case main=>
    rcases hB with⟨h1,h2⟩ | h3
    ·walk_at "tst"
     exact key trivial
    ·walk_at "tst"
     exact key trivial
   case key=>
    intro _;refine⟨nl,mo,ns,rfl,s1 _ _ hn,A,fun l2 ws H2 s2 m2 e2 hr hwb hwl=>?_⟩;walk_at "";refine ZbN (fun h5=>?_) (fun h5=>?_)
    ·walk_at ""
     refine⟨_,nl,ns,rfl,(s1.trans s2) _ _ hn,n1,n6,fun l3 tr3 H3 s3 m3 e3 ok3=>?_⟩;have v3:=wd6 (ns:=ns) ok3;have wb3:=Zfc A ok3;walk_at "";refine ZaO (j:=0) ((s1.trans (s2.trans s3)) _ _ hn) (v:=.str z0) (by rw[getElem?_map,g0]; rfl) ?_;walk_at "";refine ZaD (by simp) fun l4 H4 s4 m4 e4=>?_;refine Zcs (s4 _ _ e3) e4 (by simp only [length_map,length_cons,length_nil]; omega) fun l5 H5 s5 m5 e5=>?_;walk_at "";refine hK _ _ ⟨l5,wdG true ns tr3++[(",": Str),z0],s1.trans (s2.trans (s3.trans (s4.trans s5))),by rw[e5,map_append]; rfl,fun z hz=>?_,by rw[length_append]; simp only [length_cons,length_nil]; omega,fun _=>Zre (Zrd A),rfl⟩
     rcases mem_append.mp hz with h | h
     ·exact⟨(wb3 z h).1,(wb3 z h).2.1⟩
     ·simp only [mem_cons,not_mem_nil,or_false]at h
      rcases h with rfl | rfl
      ·exact⟨⟨.inr (.inr (.inl rfl)),by decide⟩,by decide⟩
      ·exact⟨w0.1,w0.2.1⟩
    ·walk_at ""
     exact hK _ _ ⟨l2,ws,s1.trans s2,e2,fun z hz=>⟨(hwb z hz).1,(hwb z hz).2.1⟩,by omega,fun _=>hr,rfl⟩
  ·have h1 : ¬(wy < 12∧c % 2=1):=fun h=>hB (.inl h)
   have h2 : ¬wy=12:=fun h=>hB (.inr h)
   by_cases h3:wy < 12
   ·have h4 : ¬c % 2=1:=fun h=>h1 ⟨h3,h⟩
    walk_at "tst";exact no h1 h2
   ·walk_at "tst"
    exact no h1 h2
 rintro σ H2 ⟨gl,g,s2,e2,hg,hgl,hg12,rfl⟩;have gth:("then" : Str)∉g:=fun h=>(hg _ h).2 rfl
 by_cases h5:wy=5
 ·have hn2:=s2 _ _ hn
  obtain⟨y,hy,hym⟩:=Zbi (n:=2) (c / 2) (by omega);have hy:c / 2 % 2=(y:Int):=hy;walk_at "tst";refine ZaD (by simp) fun la H3 s3 m3 e3=>?_;walk_at "";refine ZaD (by simp) fun lb H4 s4 m4 e4=>?_;walk_at "";refine Zcs e4 ((s3.trans s4) _ _ e2) (by simp only [length_map,length_cons,length_nil]; omega) fun lc H5 s5 m5 e5=>?_;walk_at "";refine ZaD (by simp) fun ld H6 s6 m6 e6=>?_;refine Zcs (s6 _ _ e5) e6 (by simp only [length_map,length_append,length_cons,length_nil]; omega) fun le H7 s7 m7 e7=>?_;walk_at "";refine ZaD (by simp) fun lf H8 s8 m8 e8=>?_;walk_at "";rw[hy];have w38:=s3.trans (s4.trans (s5.trans (s6.trans (s7.trans s8))))
  obtain⟨lm,mk,hl8,em,hmk,hml⟩ : ∃(lm:Addr) (mk:List Str),([V.ref la,V.ref le]:List V)[y]?=some (.ref lm)∧H8 lm=some (.lst (mk.map V.str))∧(mk=[("is" : Str)]∨mk=("then" : Str)::(g++[("then" : Str)]))∧mk.length≤13:=by
   match y,hym with
   | 0,_=>exact⟨la,[("is" : Str)],rfl,(s4.trans (s5.trans (s6.trans (s7.trans s8)))) _ _ e3,.inl rfl,by simp⟩
   | 1,_=>exact⟨le,("then" : Str)::(g++[("then" : Str)]),rfl,by rw[s8 _ _ e7]; simp,.inr rfl,by simp; omega⟩
  refine ZaO (j:=y) e8 (v:=.ref lm) hl8 ?_;walk_at "";refine ZaD (by simp) fun l9 H9 s9 m9 e9=>?_;walk_at "";refine Zcs e9 ((w38.trans s9) _ _ e2) (by simp only [length_map,length_cons,length_nil]; omega) fun l10 H10 s10 m10 e10=>?_;walk_at "";refine Zcs e10 ((s9.trans s10) _ _ em) (by simp only [length_map,length_append,length_cons,length_nil]; omega) fun l11 H11 s11 m11 e11=>?_;have w11:=w38.trans (s9.trans (s10.trans s11));walk_at "";refine⟨_,nl,ns,rfl,w11 _ _ hn2,n1,n6,fun l12 tr' H12 s12 m12 e12 ok12=>?_⟩;have v12:=wd6 (ns:=ns) ok12;have wb12:=Zfc A ok12;refine Zcs (s12 _ _ e11) e12 (by simp only [length_map,length_append,length_cons,length_nil]; omega) fun l13 H13 s13 m13 e13=>?_;have fth:("then" : Str)∉wdG true ns tr':=fun h=>(wb12 _ h).2.1 rfl;refine q l13 (g++(mk++wdG true ns tr')) H13 (s2.trans (w11.trans (s12.trans s13))) ((s2.trans (w11.trans s12)).free m13) (by rw[e13]; simp) (fun z hz=>?_) (by simp only [length_append]; omega) (fun _ h=>?_) (fun h=>by omega) (fun h=>by omega)
  ·rcases mem_cons.mp hz with rfl | hz
   ·exact Zdd ⟨⟨by decide,by decide⟩,by decide⟩
   rcases mem_append.mp hz with hz | hz
   ·exact(hg z hz).1
   rcases mem_append.mp hz with hz | hz
   ·rcases hmk with rfl | rfl
    ·rw[mem_singleton.mp hz]; exact Zdd ⟨⟨by decide,by decide⟩,by decide⟩
    ·rcases mem_cons.mp hz with rfl | hz
     ·exact Zdd ⟨⟨by decide,by decide⟩,by decide⟩
     rcases mem_append.mp hz with hz | hz
     ·exact(hg z hz).1
     ·rw[mem_singleton.mp hz]; exact Zdd ⟨⟨by decide,by decide⟩,by decide⟩
   ·exact(wb12 z hz).1
  ·have hc:=Zuv h
   rw[List.count_cons_of_ne (by decide),count_append,count_append,count_eq_zero.mpr gth,count_eq_zero.mpr fth]at hc
   rcases hmk with rfl | rfl
   ·rw[count_eq_zero.mpr (by decide)]at hc
    omega
   ·rw[count_cons_self,count_append,count_eq_zero.mpr gth]at hc
    have:([("then" : Str)]:List Str).count ("then" : Str)=1:=by decide
    omega
 have hn2:=s2 _ _ hn;walk_at "tst";refine⟨_,nl,ns,rfl,hn2,n1,n6,fun pl qs cs H3 s3 m3 e3 p3 nd3 ok3=>?_⟩;have hql:=Zau p3;rw[length_map]at hql;have c1:=ok3.l1;have c2:=ok3.l2;obtain⟨k,hk,hkm⟩:=Zbi (n:=qs.length) (c / 2) (by omega);obtain⟨xs,hxs⟩ : ∃xs:List (Nat×List Str),xs=cs.map fun c=>(c.1,wdG true ns c.2):=⟨_,rfl⟩
 have hxl:xs.length=cs.length:=by rw[hxs,length_map]
 have exs:cs.map (pc17 ns)=xs.map (pcX ns):=by rw[hxs,map_map]; rfl
 rw[exs]at p3
 have xlo:∀x∈xs,x.1 < ns.length:=fun x hx=>by rw[hxs]at hx; obtain⟨c,hc,rfl⟩:=mem_map.mp hx; exact(ok3.ok c hc).2
 have xnd:(xs.map Prod.fst).Nodup:=by rw[hxs,map_map]; exact ok3.nd
 have xwd:∀x∈xs,(∀z∈x.2,WdB z)∧x.2.length≤8:=fun x hx=>by rw[hxs]at hx; obtain⟨c,hc,rfl⟩:=mem_map.mp hx; exact⟨Zfc A (ok3.ok c hc).1,wd6 (ok3.ok c hc).1⟩
 have wis:WdB "is":=Zje (by unfold Lt; decide) (by decide) (by decide) (by decide)
 have pwd:∀x:Nat×List Str,x.1 < ns.length→(∀z∈x.2,WdB z)→∀z∈pcX ns x,WdB z:=fun x h1 h2 z hz=>by
  rcases mem_cons.mp hz with rfl | hz
  ·exact ZiO A h1
  rcases mem_cons.mp hz with rfl | hz
  ·exact wis
  ·exact h2 z hz
 have pall:∀p∈xs.map (pcX ns),(∀z∈p,WdB z)∧p.length≤10:=fun p hp=>by
  obtain⟨x,hx,rfl⟩:=mem_map.mp hp;exact⟨pwd x (xlo x hx) (xwd x hx).1,by have:=(xwd x hx).2; show x.2.length+2≤10; omega⟩
 have m3':H2 pl=none:=m3;have e23:=s3 _ _ e2;have gpl:gl≠pl:=Zaf e2 m3
 have fin:∀(pcs':List (List Str)) (qs':List Addr) (H':Hp) (Q':VK) (E':XK),Same H2 H'→H' pl=some (.lst (qs'.map V.ref))→Paired (fun p pc=>H' p=some (.lst (pc.map V.str))) qs' pcs'→(∀p∈pcs',(∀z∈p,WdB z)∧p.length≤20)→1≤pcs'.length→pcs'.length≤3→(MvX g pcs'→(wy≤7→¬MvOk (("move" : Str)::(g++("then" : Str)::jnW "," pcs')))∧(wy=9∨wy=10→BadT ns (("move" : Str)::(g++("then" : Str)::jnW "," pcs')) .name)∧(12≤wy→BadT ns (("move" : Str)::(g++("then" : Str)::jnW "," pcs')) .form))→(∀l H'',Same H H''→H l=none→∀r,H'' l=some (.lst ((("move" : Str)::r).map V.str))→(∀z∈("move" : Str)::r,WdX z)→r.length≤90→(wy≤7→¬MvOk ("move"::r))→(wy=9∨wy=10→BadT ns ("move"::r) .name)→(12≤wy→BadT ns ("move"::r) .form)→Q' (.ref l) H'')→ZtM [.ref gl,.ref pl] H' Q' E':=fun pcs' qs' H' Q' E' s' e' p' hw' hl1 hl3 F k=>by
  have X:MvX g pcs':=⟨hg,fun p hp=>(hw' p hp).1,fun e=>by rw[e]at hl1; simp at hl1,by omega,fun p hp=>(hw' p hp).2,hl3⟩;obtain⟨F1,F2,F3⟩:=F X;exact⟨gl,pl,g,qs',pcs',rfl,s' _ _ e2,e',p',hl1,hl3,by omega,fun p hp=>(hw' p hp).2,fun l H'' s'' m'' e''=>k l H'' (s2.trans (s'.trans s'')) ((s2.trans s').free m'') _ e'' X.wd (by have:=X.ln; simp only [length_append,length_cons]; omega) F1 F2 F3⟩
 have hkx:k < xs.length:=by omega
 have hX:=List.getElem?_eq_getElem hkx;generalize xs[k]=x0 at hX;have hx0:x0∈xs:=mem_of_getElem? hX
 have hpk:(xs.map (pcX ns))[k]?=some (pcX ns x0):=by rw[getElem?_map,hX]; rfl
 walk_at "";rw[length_map]
 (try refine i_rI (by omega) ?_)
 rw[hk];have plq:∀p∈qs,p≠pl:=fun p hp e=>(nodup_cons.mp nd3).1 (by rw[←e]; exact hp)
 have qk:∃a,qs[k]?=some a∧H3 a=some (.lst ((pcX ns x0).map V.str)):=by
  obtain⟨a,ha,_,h2⟩:=ZiI p3 hpk;exact⟨a,ha,h2⟩
 obtain⟨ak,hak,eak⟩:=qk;have hakp:ak≠pl:=plq ak (mem_of_getElem? hak)
 have setP:∀(ln:Addr) (npc:List Str) (H4 H5:Hp),Same H3 H4→H3 ln=none→H4 ln=some (.lst (npc.map V.str))→But pl H4 H5→H5 pl=some (.lst ((qs.map V.ref).set k (.ref ln)))→Same H2 H5∧H5 pl=some (.lst ((qs.set k ln).map V.ref))∧Paired (fun p pc=>H5 p=some (.lst (pc.map V.str))) (qs.set k ln) ((xs.map (pcX ns)).set k npc):=fun ln npc H4 H5 s4 mn en b5 e5=>by
  refine⟨b5.same m3 (s3.trans s4),by rw[e5,Zp1],Zlh k (Zdj p3 fun p pc hp z=>b5 _ _ (plq p hp) (s4 _ _ z.2)) (b5 _ _ (Zaf e3 mn).symm en)⟩
 have hset:∀npc,((xs.map (pcX ns)).set k npc)[k]?=some npc:=fun npc=>by rw[List.getElem?_set_self (by rw[length_map]; exact hkx)]
 have mset:∀{npc p:List Str},p∈(xs.map (pcX ns)).set k npc→p∈xs.map (pcX ns)∨p=npc:=fun h=>List.mem_or_eq_of_mem_set h
 have lset:∀npc,((xs.map (pcX ns)).set k npc).length=cs.length:=fun npc=>by rw[length_set,length_map,hxl]
 have k':∀l H'',Same H H''→H l=none→∀r,H'' l=some (.lst ((("move" : Str)::r).map V.str))→(∀z∈("move" : Str)::r,WdX z)→r.length≤90→(wy≤7→¬MvOk ("move"::r))→(wy=9∨wy=10→BadT ns ("move"::r) .name)→(12≤wy→BadT ns ("move"::r) .form)→Q (.ref l) H'':=fun l H'' a1 a2 r a3 a4 a5 a6 a7 a8=>q l r H'' a1 a2 a3 a4 a5 a6 a7 a8;have hn3:=s3 _ _ hn2
 rcases hw with h | h | h | h | h | h | h
 ·exact absurd h h5
 ·obtain⟨y,hy,hym⟩:=Zbi (n:=3) (c / 4) (by omega)
  have hy:c / 4 % 3=(y:Int):=hy;walk_at "tst";refine ZaD (by simp) fun la H4 s4 m4 e4=>?_;walk_at "";refine ZaO (j:=0) (s4 _ _ hn3) (v:=.str z0) (by rw[getElem?_map,g0]; rfl) ?_;walk_at "";refine ZaD (by simp) fun lb H5 s5 m5 e5=>?_;walk_at "";refine ZaD (by simp) fun lc H6 s6 m6 e6=>?_;walk_at "";refine ZaD (by simp) fun ld H7 s7 m7 e7=>?_;walk_at "";rw[hy];have w7:=s4.trans (s5.trans (s6.trans s7))
  obtain⟨ln,npc,hl7,mn,en,hnw,hnl⟩ : ∃(ln:Addr) (npc:List Str),([V.ref la,V.ref lb,V.ref lc]:List V)[y]?=some (.ref ln)∧H3 ln=none∧H7 ln=some (.lst (npc.map V.str))∧(∀z∈npc,WdB z)∧npc.length≤1:=by
   match y,hym with
   | 0,_=>exact⟨la,[],rfl,m4,(s5.trans (s6.trans s7)) _ _ e4,(fun z hz=>by cases hz),by simp⟩
   | 1,_=>exact⟨lb,[z0],rfl,s4.free m5,(s6.trans s7) _ _ e5,(fun z hz=>by rw[mem_singleton.mp hz]; exact w0),by simp⟩
   | 2,_=>exact⟨lc,[("is" : Str)],rfl,(s4.trans s5).free m6,s7 _ _ e6,(fun z hz=>by rw[mem_singleton.mp hz]; exact wis),by simp⟩
  refine ZaO (j:=y) e7 (v:=.ref ln) hl7 ?_;walk_at "";refine Zuh (j:=k) (w7 _ _ e3) (by rw[length_map]; exact hkm) fun H8 b8 e8=>?_;obtain⟨s8,e8',p8⟩:=setP ln npc H7 H8 w7 mn en b8 e8;walk_at "tst"
  exact fin _ _ H8 _ _ s8 e8' p8 (fun p hp=>by
   rcases mset hp with hp | rfl
   ·exact⟨(pall p hp).1,by have:=(pall p hp).2; omega⟩
   ·exact⟨hnw,by omega⟩) (by rw[lset]; omega) (by rw[lset]; omega) (fun X=>⟨fun _=>X.no (mem_of_getElem? (hset npc)) (fun h'=>by omega),fun h'=>by omega,fun h'=>by omega⟩) k'
 ·obtain⟨y,hy,hym⟩:=Zbi (n:=4) (c / 4) (by omega)
  have hy:c / 4 % 4=(y:Int):=hy;walk_at "tst";refine ZaD (by simp) fun la H4 s4 m4 e4=>?_;walk_at "";refine ZaD (by simp) fun lb H5 s5 m5 e5=>?_;walk_at "";refine ZaO (j:=0) ((s4.trans s5) _ _ hn3) (v:=.str z0) (by rw[getElem?_map,g0]; rfl) ?_;walk_at "";refine ZaD (by simp) fun lc H6 s6 m6 e6=>?_;walk_at "";refine ZaD (by simp) fun ld H7 s7 m7 e7=>?_;walk_at "";refine ZaD (by simp) fun lo H8 s8 m8 e8=>?_;walk_at "";rw[hy];have w8:=s4.trans (s5.trans (s6.trans (s7.trans s8)))
  obtain⟨lm,mk,hl8,em,hmw,hmi,hml⟩ : ∃(lm:Addr) (mk:List Str),([V.ref la,V.ref lb,V.ref lc,V.ref ld]:List V)[y]?=some (.ref lm)∧H8 lm=some (.lst (mk.map V.str))∧(∀z∈mk,WdB z)∧("is" : Str)∉mk∧mk.length≤1:=by
   match y,hym with
   | 0,_=>exact⟨la,[],rfl,(s5.trans (s6.trans (s7.trans s8))) _ _ e4,(fun z hz=>by cases hz),by simp,by simp⟩
   | 1,_=>exact⟨lb,[("not" : Str)],rfl,(s6.trans (s7.trans s8)) _ _ e5,(fun z hz=>by rw[mem_singleton.mp hz]; exact Zje (by unfold Lt; decide) (by decide) (by decide) (by decide)),by decide,by simp⟩
   | 2,_=>exact⟨lc,[z0],rfl,(s7.trans s8) _ _ e6,(fun z hz=>by rw[mem_singleton.mp hz]; exact w0),fun h'=>z0i (mem_singleton.mp h').symm,by simp⟩
   | 3,_=>exact⟨ld,[("(" : Str)],rfl,s8 _ _ e7,(fun z hz=>by rw[mem_singleton.mp hz]; exact⟨⟨.inl rfl,by decide⟩,by decide,by decide⟩),by decide,by simp⟩
  refine ZaO (j:=y) e8 (v:=.ref lm) hl8 ?_;walk_at "";refine ZaO (j:=0) (w8 _ _ hn3) (v:=.str z0) (by rw[getElem?_map,g0]; rfl) ?_;walk_at "";refine ZaD (by simp) fun l9 H9 s9 m9 e9=>?_;walk_at "";refine Zcs e9 (s9 _ _ em) (by simp only [length_map,length_cons,length_nil]; omega) fun l10 H10 s10 m10 e10=>?_;have w10:=w8.trans (s9.trans s10);walk_at "";refine⟨_,nl,ns,rfl,w10 _ _ hn3,n1,n6,fun l11 tr' H11 s11 m11 e11 ok11=>?_⟩;have v11:=wd6 (ns:=ns) ok11;have wb11:=Zfc A ok11;have wi11:=noIs A ok11;refine Zcs (s11 _ _ e10) e11 (by simp only [length_map,length_append,length_cons,length_nil]; omega) fun l12 H12 s12 m12 e12=>?_;have w12:=w10.trans (s11.trans s12)
  have e12:H12 l12=some (.lst ((z0::(mk++wdG true ns tr')).map V.str)):=by rw[e12]; simp
  walk_at "";refine Zuh (j:=k) (w12 _ _ e3) (by rw[length_map]; exact hkm) fun H13 b13 e13=>?_;obtain⟨s13,e13',p13⟩:=setP l12 _ H12 H13 w12 ((w10.trans s11).free m12) e12 b13 e13;walk_at "tst"
  exact fin _ _ H13 _ _ s13 e13' p13 (fun p hp=>by
   rcases mset hp with hp | rfl
   ·exact⟨(pall p hp).1,by have:=(pall p hp).2; omega⟩
   ·refine⟨fun u hu=>?_,by simp only [length_cons,length_append]; omega⟩
    rcases mem_cons.mp hu with rfl | hu
    ·exact w0
    rcases mem_append.mp hu with hu | hu
    ·exact hmw u hu
    ·exact wb11 u hu) (by rw[lset]; omega) (by rw[lset]; omega) (fun X=>⟨fun _=>X.no (mem_of_getElem? (hset _)) (fun h'=>by
    have h1:(mk++wdG true ns tr')[0]?=some ("is" : Str):=by have:=h'.2; simpa using this
    rcases mem_append.mp (mem_of_getElem? h1) with h2 | h2
    ·exact hmi h2
    ·exact wi11 h2),fun h'=>by omega,fun h'=>by omega⟩) k'
 ·walk_at "tst"
  refine⟨nl,_,ns,rfl,hn3,A,fun z H4 s4 hz hzb=>?_⟩;walk_at "";refine ZaD (by simp) fun l5 H5 s5 m5 e5=>?_;have w5:=s4.trans s5;walk_at "";refine ZaO (j:=k) (w5 _ _ e3) (v:=.ref ak) (by rw[getElem?_map,hak]; rfl) ?_;walk_at "";refine ZgD (SqL.of (w5 _ _ eak)) (Zc9 (k:=1) (by simp[pcX])) fun l6 H6 s6 m6 e6=>?_;refine Zcs (s6 _ _ e5) e6 (by have:=(xwd x0 hx0).2; simp[pcX]; omega) fun l7 H7 s7 m7 e7=>?_;have w7:=w5.trans (s6.trans s7)
  have e7:H7 l7=some (.lst ((z::("is" : Str)::x0.2).map V.str)):=by rw[e7]; simp[pcX]
  walk_at "";refine Zuh (j:=k) (w7 _ _ e3) (by rw[length_map]; exact hkm) fun H8 b8 e8=>?_;obtain⟨s8,e8',p8⟩:=setP l7 _ H7 H8 w7 ((w5.trans s6).free m7) e7 b8 e8;walk_at "tst"
  exact fin _ _ H8 _ _ s8 e8' p8 (fun p hp=>by
   rcases mset hp with hp | rfl
   ·exact⟨(pall p hp).1,by have:=(pall p hp).2; omega⟩
   ·refine⟨fun u hu=>?_,by have:=(xwd x0 hx0).2; show x0.2.length+2≤20; omega⟩
    rcases mem_cons.mp hu with rfl | hu
    ·exact hzb
    rcases mem_cons.mp hu with rfl | hu
    ·exact wis
    ·exact(xwd x0 hx0).1 u hu) (by rw[lset]; omega) (by rw[lset]; omega) (fun X=>⟨fun h'=>by omega,fun _=>X.nm (fun p hp=>by
    rcases mset hp with hp | rfl
    ·exact ZtE ns xs p hp
    ·exact⟨by show 2≤x0.2.length+2; omega,rfl⟩) (ZAG (mem_of_getElem? (hset _)) hz),fun h'=>by omega⟩) k'
 ·walk_at "tst"
  refine⟨tyL e3,?_⟩;walk_at "";refine ZaO (j:=k) e3 (v:=.ref ak) (by rw[getElem?_map,hak]; rfl) ?_;walk_at "";refine ZgD (SqL.of eak) (Zvc (k:=2) (by show 2≤x0.2.length+2; omega)) fun l4 H4 s4 m4 e4=>?_;walk_at "";refine⟨_,nl,ns,rfl,s4 _ _ hn3,n1,n6,fun l5 tr' H5 s5 m5 e5 ok5=>?_⟩;have v5:=wd6 (ns:=ns) ok5;have wb5:=Zfc A ok5;refine Zcs (s5 _ _ e4) e5 (by simp only [length_map,length_take]; omega) fun l6 H6 s6 m6 e6=>?_;have w6:=s4.trans (s5.trans s6);have m6':H3 l6=none:=(s4.trans s5).free m6
  have e6:H6 l6=some (.lst ((pcX ns (x0.1,wdG true ns tr')).map V.str)):=by rw[e6]; rfl
  walk_at "";have l6p:l6≠pl:=(Zaf e3 m6').symm;refine ZaZ (w6 _ _ e3) (by rw[length_map]; omega) fun H7 b7 e7=>?_;have s7:Same H2 H7:=b7.same m3 (s3.trans w6)
  have e7:H7 pl=some (.lst ((qs++[l6]).map V.ref)):=by rw[e7,map_append]; rfl
  have p7:Paired (fun p pc=>H7 p=some (.lst (pc.map V.str))) (qs++[l6]) (xs.map (pcX ns)++[pcX ns (x0.1,wdG true ns tr')]):=ZaX (Zdj p3 fun p pc hp z=>b7 _ _ (plq p hp) (w6 _ _ z.2)) (.cons (b7 _ _ l6p e6) .nil);have eak7:=b7 _ _ hakp (w6 _ _ eak);have hn7:=s7 _ _ hn2
  have hln':(xs.map (pcX ns)++[pcX ns (x0.1,wdG true ns tr')]).length=xs.length+1:=by rw[length_append,length_map]; rfl
  have hA:∀p∈xs.map (pcX ns)++[pcX ns (x0.1,wdG true ns tr')],(∀z∈p,WdB z)∧p.length≤20:=fun p hp=>by
   rcases mem_append.mp hp with hp | hp
   ·exact⟨(pall p hp).1,by have:=(pall p hp).2; omega⟩
   ·rw[mem_singleton.mp hp]
    exact⟨pwd (x0.1,_) (xlo x0 hx0) wb5,by show(wdG true ns tr').length+2≤20; omega⟩
  have hI:∀p∈xs.map (pcX ns)++[pcX ns (x0.1,wdG true ns tr')],2≤p.length∧p[1]?=some ("is" : Str):=fun p hp=>by
   rcases mem_append.mp hp with hp | hp
   ·exact ZtE ns xs p hp
   ·rw[mem_singleton.mp hp]
    exact⟨by show 2≤(wdG true ns tr').length+2; omega,rfl⟩
  have hlast:(xs.map (pcX ns)++[pcX ns (x0.1,wdG true ns tr')])[xs.length]?=some (pcX ns (x0.1,wdG true ns tr')):=by
   rw[List.getElem?_append_right (by rw[length_map]; exact Nat.le_refl _),length_map,Nat.sub_self];rfl
  walk_at "";refine ZbN (fun h8=>?_) (fun h8=>?_)
  ·walk_at ""
   refine ZaO (j:=k) e7 (v:=.ref ak) (by rw[getElem?_map,getElem?_append_left hkm,hak]; rfl) ?_;walk_at "";refine ZgD (SqL.of eak7) (Zvc (k:=2) (by show 2≤x0.2.length+2; omega)) fun l8 H8 s8 m8 e8=>?_;walk_at "";refine⟨nl,_,ns,rfl,s8 _ _ hn7,A,fun l9 ws H9 s9 m9 e9 hr hwb hwl=>?_⟩;refine Zcs (s9 _ _ e8) e9 (by simp only [length_map,length_take]; omega) fun l10 H10 s10 m10 e10=>?_;have w10:=s8.trans (s9.trans s10)
   have e10:H10 l10=some (.lst ((pcX ns (x0.1,ws)).map V.str)):=by rw[e10]; rfl
   have m10':H7 l10=none:=(s8.trans s9).free m10;walk_at "";refine Zuh (j:=k) (w10 _ _ e7) (by rw[length_map,length_append]; omega) fun H11 b11 e11=>?_
   have hpne:∀p∈qs++[l6],p≠pl:=fun p hp=>by
    rcases mem_append.mp hp with hp | hp
    ·exact plq p hp
    ·rw[mem_singleton.mp hp]; exact l6p
   walk_at "tst";refine fin _ _ H11 _ _ (b11.same m3 (s7.trans w10)) (by rw[e11,Zp1]) (Zlh k (Zdj p7 fun p pc hp z=>b11 _ _ (hpne p hp) (w10 _ _ z)) (b11 _ _ (Zaf e7 m10').symm e10)) (fun p hp=>?_) (by rw[length_set,hln']; omega) (by rw[length_set,hln']; omega) (fun X=>⟨fun h'=>by omega,fun _=>X.nm (fun p hp=>?_) (Zzu (i:=k) (j:=xs.length) (z:=ns.getD x0.1 Str.empty) (r:=("is" : Str)::ws) (r':=("is" : Str)::wdG true ns tr') ?_ ?_ (by omega)),fun h'=>by omega⟩) k'
   ·rcases List.mem_or_eq_of_mem_set hp with hp | rfl
    ·exact hA p hp
    ·exact⟨pwd (x0.1,ws) (xlo x0 hx0) hwb,by show ws.length+2≤20; omega⟩
   ·rcases List.mem_or_eq_of_mem_set hp with hp | rfl
    ·exact hI p hp
    ·exact⟨by show 2≤ws.length+2; omega,rfl⟩
   ·rw[List.getElem?_set_self (by rw[hln']; omega)]
    rfl
   ·rw[List.getElem?_set_ne (by omega)]
    exact hlast
  ·walk_at "tst"
   exact fin _ _ H7 _ _ s7 e7 p7 hA (by rw[hln']; omega) (by rw[hln']; omega) (fun X=>⟨fun h'=>by omega,fun _=>X.nm hI (Zzu (i:=k) (j:=xs.length) (z:=ns.getD x0.1 Str.empty) (r:=("is" : Str)::x0.2) (r':=("is" : Str)::wdG true ns tr') (by rw[getElem?_append_left (by rw[length_map]; exact hkx)]; exact hpk) hlast (by omega)),fun h'=>by omega⟩) k'
 ·walk_at "tst"
  exact fin _ qs H3 _ _ s3 e3 (Zan (fun _ _ z=>z.2) p3) (fun p hp=>⟨(pall p hp).1,by have:=(pall p hp).2; omega⟩) (by rw[length_map]; omega) (by rw[length_map]; omega) (fun X=>⟨fun h'=>by omega,fun h'=>by omega,fun _=>X.fm (ZtE ns xs) (Zzt A xlo xnd) (.inl (hg12 h))⟩) (fun l H'' a1 a2 r a3 a4 a5 a6 a7 a8=>q l r H'' a1 a2 a3 a4 a5 a6 a7 a8)
 ·have e3k:=e3
  walk_at "tst";refine ZaO (j:=k) e3 (v:=.ref ak) (by rw[getElem?_map,hak]; rfl) ?_;walk_at "";refine ZgD (SqL.of eak) (Zvc (k:=2) (by show 2≤x0.2.length+2; omega)) fun l4 H4 s4 m4 e4=>?_;walk_at "";refine⟨nl,_,ns,rfl,s4 _ _ hn3,A,fun l5 ws H5 s5 m5 e5 hr hwb hwl=>?_⟩;refine Zcs (s5 _ _ e4) e5 (by simp only [length_map,length_take]; omega) fun l6 H6 s6 m6 e6=>?_;have w6:=s4.trans (s5.trans s6)
  have e6:H6 l6=some (.lst ((pcX ns (x0.1,ws)).map V.str)):=by rw[e6]; rfl
  walk_at "";refine Zuh (j:=k) (w6 _ _ e3) (by rw[length_map]; exact hkm) fun H7 b7 e7=>?_;obtain⟨s7,e7',p7⟩:=setP l6 _ H6 H7 w6 ((s4.trans s5).free m6) e6 b7 e7;walk_at "tst"
  have ems:(xs.map (pcX ns)).set k (pcX ns (x0.1,ws))=(xs.set k (x0.1,ws)).map (pcX ns):=by rw[map_set]
  have efs:(xs.set k (x0.1,ws)).map Prod.fst=xs.map Prod.fst:=by
   rw[map_set];exact ZtL (by rw[getElem?_map,hX]; rfl)
  exact fin _ _ H7 _ _ s7 e7' p7 (fun p hp=>by
   rcases mset hp with hp | rfl
   ·exact⟨(pall p hp).1,by have:=(pall p hp).2; omega⟩
   ·exact⟨pwd (x0.1,ws) (xlo x0 hx0) hwb,by show ws.length+2≤20; omega⟩) (by rw[lset]; omega) (by rw[lset]; omega) (fun X=>⟨fun h'=>by omega,fun h'=>by omega,fun _=>X.fm (ls:=xs.map Prod.fst) (by rw[ems]; exact ZtE ns _) (by
    have:=Zzt A (xs:=xs.set k (x0.1,ws)) (fun x hx=>by
     rcases List.mem_or_eq_of_mem_set hx with hx | rfl
     ·exact xlo x hx
     ·exact xlo x0 hx0) (by rw[efs]; exact xnd)
    rw[efs]at this;rw[ems]
    exact this) (.inr ⟨_,ws,mem_of_getElem? (hset _),hr⟩)⟩) k'
end
unseal PE PA PS PSs
def ZyQ (ns:List Str) (wy:Int) (ws:List Str):Prop:=
 (wy=0→ws=[])∧(wy=1∨wy=2→∃x r,ws=x::r∧x∉(["start","bad","move"]:List Str))∧(wy=3→∃x r,ws=x::r∧x≠"lamps")∧(wy=4→∃r,ws=("lamps" : Str)::r∧¬(1≤r.length∧r.length≤6))∧(wy=8→∃r,ws=("lamps" : Str)::r∧1≤r.length∧r.length≤6∧¬NmOk r)∧(wy=5∨wy=6∨wy=7→∃r,ws=("move" : Str)::r∧¬MvOk ws)∧(wy=9∨wy=10→BadT ns ws .name)∧(wy=11∨wy=12∨wy=13→BadT ns ws .form)
seal PE PA PS PSs
section
variable {P:Program} {w:World} {K:W.Frag} {mg:Str→Option Value} {base:Heap} {t:Ad} {n:Nat}
def ZBr:Sp:=fun vs H Q _=>∃(nl:Addr) (wy c mo:Int) (ns:List Str),vs=[.ref nl,.int wy,.int c,.int mo]∧H nl=some (.lst (ns.map V.str))∧NmA ns∧0≤wy∧wy≤13∧∀l ws H',Same H H'→H' l=some (.lst (ws.map V.str))→(∀z∈ws,WdX z)→ws.length≤92→ZyQ ns wy ws→Q (.ref l) H'
theorem Zyb (T:Txt K mg t):FnS P w K mg base 8 "_law_wrong" ["_law_names_here","_law_way","_law_cell","_law_more"] (ZBr):=by
 refine⟨_,_,T.Zdu.ok Zfa (fun vs H Q E h=>?_) (fun cdv A outer s H vs Q E hr h=>?_),T.ZlP,T.Zdu.kp,T.Zl0⟩
 ·obtain⟨nl,wy,c,mo,ns,rfl,hn,A,hw0,hw13,q⟩:=h
  rfl
 obtain⟨nl,wy,c,mo,ns,rfl,hn,A,hw0,hw13,q⟩:=h;have ZaS:=Znt (P:=P) (w:=w) (base:=base) T;have ZdK:=Zrg (P:=P) (w:=w) (base:=base) T;have ZjR:=Zom (P:=P) (w:=w) (base:=base) T;have ZkQ:=ZpL (P:=P) (w:=w) (base:=base) T;have hln:(ns.map V.str).length=ns.length:=length_map _;have n1:=A.n1;have n6:=A.n6;have w0:=ZiO A (i:=0) (by omega);have g0:=Zbg (ns:=ns) (k:=0) (by omega);generalize ns.getD 0 Str.empty=z0 at w0 g0;have wk:∀z:Str,NmL z→z.length≤14→WdX z:=fun z h1 h2=>Zdd ⟨h1,h2⟩
 refine⟨_,(Zac (ZaP (Zal (ZaF hr.units) (pv 1) Zad (Zat _))
   (Zae (Zas (Zaq Zab)))
   Zap)
   (Zac (ZaP (Zal (ZaF hr.units) (pv 1) Zad (Zat _))
   (Zac (ss 4 Zfa.nd (Za1 ZaA (Zaq (ZpM (Zaa Zai (Zaa Zai (Zaa Zai (Zaa (Za1 ZaA (pv 0) Zad (fun _ _=>rfl)) Zab)))))) (Zah Zax (pv 2) Zad) (fun _ _=>rfl)))
   (Zac (ZaP (Zal Zl7 (pv 4) (Zjc (Zaa Zai (Zaa Zai (Zaa Zai (Zaa Zai Zab))))) (by with_unfolding_all rfl))
   (Zae (ss 4 Zfa.nd Zai))
   Zap)
   (Zae (Zas (Zah Zam (Zaq (Zaa (pv 4) Zab)) (Za8 ZaS hr (Zaa (pv 3) (Zaa (pv 0) Zab))))))))
   Zap)
   (Zac (ZaP (Zal (ZaF hr.units) (pv 1) Zad (Zat _))
   (Zae (Zas (Zah Zam (Zaq (Zaa Zai Zab)) (Za1 ZaA (Zaq (Zaa (pv 0) (Zaa (Zaq (Zaa Zai Zab)) (Zaa (Zaq (Zaa Zai Zab)) (Zaa (Zaq Zab) Zab))))) (Zah Zax (pv 2) Zad) (fun _ _=>rfl)))))
   Zap)
   (Zac (ZaP (Zal (ZaF hr.units) (pv 1) Zad (Zat _))
   (Zae (Zas (Za1 ZaA (Zaq (Zaa (Zah Zam (Zaq (Zaa Zai Zab)) (Za8 ZaS hr (Zaa (pv 3) (Zaa (pv 0) Zab)))) (Zaa (Zaq (Zaa Zai Zab)) (Zaa (Zaq (Zaa Zai Zab)) (Zaa (Zaq (Zaa Zai Zab)) Zab))))) (Zah Zax (pv 2) Zad) (fun _ _=>rfl))))
   Zap)
   (Zac (ZaP (PW.pt (Zoq (Zal (ZaF hr.units) (pv 1) Zad (Zat _)) (Zjd (Zal (ZaF hr.units) (pv 1) Zad (Zat _)))))
   (Zae (Zas (Za8 ZjR hr (Zaa (pv 0) (Zaa (pv 1) (Zaa (pv 2) Zab))))))
   Zap)
   (Zac (ZaP (Zal (ZaF hr.units) (pv 1) Zad (Zat _))
   (Zac (ss 5 Zfa.nd (Zah Zam (Zaq (Zaa (Za1 ZaA (Zaq (Zaa Zai (Zaa Zai Zab))) (Zah Zax (pv 2) Zad) (fun _ _=>rfl)) Zab)) (Za8 ZdK hr (Zaa (pv 0) (Zaa (pv 3) Zab)))))
   (Zae (Zas (Zah Zam (pv 5) (Za1 ZaA (Zaq (Zaa (Zaq Zab) (Zaa (Zaq (Zaa Zai (Zaa (Za1 ZaA (pv 0) Zad (fun _ _=>rfl)) Zab))) (Zaa (Zaq (Zaa Zai Zab)) Zab)))) (Zah Zax (Zah Zay (pv 2) Zad) Zad) (fun _ _=>rfl))))))
   Zap)
   (Zae (Zas (Za8 ZkQ hr (Zaa (pv 0) (Zaa (pv 1) (Zaa (pv 2) (Zaa (pv 3) Zab))))))))))))),?_⟩
 walk_at "rd0"
 by_cases h0:wy=0
 ·walk_at "tst"
  exact ZaD (by simp) fun l H1 s1 m1 e1=>q l [] H1 s1 e1 (fun z hz=>by cases hz) (Nat.zero_le _) ⟨fun _=>rfl,fun h=>by omega,fun h=>by omega,fun h=>by omega,fun h=>by omega,fun h=>by omega,fun h=>by omega,fun h=>by omega⟩
 by_cases h1:wy=1
 ·obtain⟨y,hy,hym⟩:=Zbi (n:=8) c (by omega)
  have hy:c % 8=(y:Int):=hy;walk_at "tst";refine ZaO (j:=0) hn (v:=.str z0) (by rw[getElem?_map,g0]; rfl) ?_;walk_at "";refine ZaD (Nat.le_of_ble_eq_true rfl) fun l1 H1 s1 m1 e1=>?_;walk_at "";rw[hy]
  obtain⟨x,hx,hxw⟩ : ∃x:Str,([V.str "starts",V.str "lamp",V.str "moves",V.str "(",V.str ",",V.str "judge",V.str "not",V.str z0]:List V)[y]?=some (.str x)∧WdX x:=by
   match y,hym with
   | 0,_=>exact⟨"starts",rfl,wk _ ⟨by decide,by decide⟩ (by decide)⟩
   | 1,_=>exact⟨"lamp",rfl,wk _ ⟨by decide,by decide⟩ (by decide)⟩
   | 2,_=>exact⟨"moves",rfl,wk _ ⟨by decide,by decide⟩ (by decide)⟩
   | 3,_=>exact⟨"(",rfl,.inl rfl,by decide⟩
   | 4,_=>exact⟨",",rfl,.inr (.inr (.inl rfl)),by decide⟩
   | 5,_=>exact⟨"judge",rfl,wk _ ⟨by decide,by decide⟩ (by decide)⟩
   | 6,_=>exact⟨"not",rfl,wk _ ⟨by decide,by decide⟩ (by decide)⟩
   | 7,_=>exact⟨z0,rfl,w0.1⟩
  refine ZaO (j:=y) e1 (v:=.str x) hx ?_;have hn1:=s1 _ _ hn;walk_at "rs";refine Zhx (fun σ H'=>∃x',Same H1 H'∧WdX x'∧x'∉(["start","bad","move"]:List Str)∧σ=[some (.ref nl),some (.int wy),some (.int c),some (.int mo),some (.str x'),none]) ?_ ?_
  rotate_left
  ·intro Kn hK
   walk_at "";refine Zoc (by simp) fun tp H2 s2 m2 e2=>?_;refine ZvB (ns:=["lamps","start","bad","move"]) (.inr e2) ?_;walk_at "";refine ZbN (fun h=>?_) (fun h=>?_)
   ·walk_at ""
    exact hK _ _ ⟨"then",s2,wk _ ⟨by decide,by decide⟩ (by decide),by decide,rfl⟩
   ·walk_at ""
    exact hK _ _ ⟨x,s2,hxw,fun h'=>h (mem_cons_of_mem _ h'),rfl⟩
  rintro σ H2 ⟨x',s2,hx1,hx2,rfl⟩;walk_at "";refine ZaD (by simp) fun l3 H3 s3 m3 e3=>?_;walk_at "";refine⟨_,nl,ns,rfl,(s2.trans s3) _ _ hn1,n1,n6,fun l4 tr H4 s4 m4 e4 ok4=>?_⟩;have v4:=wd6 (ns:=ns) ok4;have wb4:=Zfc A ok4;refine Zcs (s4 _ _ e3) e4 (by simp only [length_map,length_cons,length_nil]; omega) fun l5 H5 s5 m5 e5=>?_;refine q l5 (x'::wdG true ns tr) H5 (s1.trans (s2.trans (s3.trans (s4.trans s5)))) e5 (fun z hz=>?_) (by rw[length_cons]; omega) ⟨fun h=>by omega,fun _=>⟨_,_,rfl,hx2⟩,fun h=>by omega,fun h=>by omega,fun h=>by omega,fun h=>by omega,fun h=>by omega,fun h=>by omega⟩
  rcases mem_cons.mp hz with rfl | hz
  ·exact hx1
  ·exact(wb4 z hz).1
 by_cases h2:wy=2
 ·obtain⟨y,hy,hym⟩:=Zbi (n:=4) c (by omega)
  have hy:c % 4=(y:Int):=hy;walk_at "tst";refine ZaD (by simp) fun l1 H1 s1 m1 e1=>?_;walk_at "";refine ZaD (by simp) fun l2 H2 s2 m2 e2=>?_;walk_at "";refine ZaD (by simp) fun l3 H3 s3 m3 e3=>?_;walk_at "";refine ZaD (by simp) fun l4 H4 s4 m4 e4=>?_;walk_at "";refine ZaD (by simp) fun l5 H5 s5 m5 e5=>?_;walk_at "";rw[hy];have w5:=s1.trans (s2.trans (s3.trans (s4.trans s5)))
  obtain⟨lm,mk,hl5,em,hmw,hml⟩ : ∃(lm:Addr) (mk:List Str),([V.ref nl,V.ref l2,V.ref l3,V.ref l4]:List V)[y]?=some (.ref lm)∧H5 lm=some (.lst (mk.map V.str))∧(∀z∈mk,WdX z)∧mk.length≤6:=by
   match y,hym with
   | 0,_=>exact⟨nl,ns,rfl,w5 _ _ hn,fun z hz=>(A.wd z hz).x,n6⟩
   | 1,_=>exact⟨l2,[("and" : Str)],rfl,(s3.trans (s4.trans s5)) _ _ e2,(fun z hz=>by rw[mem_singleton.mp hz]; exact wk _ ⟨by decide,by decide⟩ (by decide)),by simp⟩
   | 2,_=>exact⟨l3,[("bulb" : Str)],rfl,(s4.trans s5) _ _ e3,(fun z hz=>by rw[mem_singleton.mp hz]; exact wk _ ⟨by decide,by decide⟩ (by decide)),by simp⟩
   | 3,_=>exact⟨l4,[],rfl,s5 _ _ e4,(fun z hz=>by cases hz),by simp⟩
  refine ZaO (j:=y) e5 (v:=.ref lm) hl5 ?_;walk_at "";refine Zcs ((s2.trans (s3.trans (s4.trans s5))) _ _ e1) em (by simp only [length_map,length_cons,length_nil]; omega) fun l6 H6 s6 m6 e6=>?_;refine q l6 (("lamps" : Str)::mk) H6 (w5.trans s6) e6 (fun z hz=>?_) (by rw[length_cons]; omega) ⟨fun h=>by omega,fun _=>⟨_,_,rfl,by decide⟩,fun h=>by omega,fun h=>by omega,fun h=>by omega,fun h=>by omega,fun h=>by omega,fun h=>by omega⟩
  rcases mem_cons.mp hz with rfl | hz
  ·exact wk _ ⟨by decide,by decide⟩ (by decide)
  ·exact hmw z hz
 by_cases h4:wy=4∨wy=8
 ·refine(fun(key:True→?G)=>?main) ?key
  case main=>
   rcases h4 with h | h
   ·walk_at "tst"
    exact key trivial
   ·walk_at "tst"
    exact key trivial
  case key=>
   intro _;refine⟨nl,wy,c,ns,rfl,hn,A,fun l r H1 s1 m1 e1 hr hrl h4' h8'=>?_⟩;refine q l (("lamps" : Str)::r) H1 s1 e1 (fun z hz=>?_) (by rw[length_cons]; omega) ⟨fun h=>by omega,fun h=>by omega,fun h=>by omega,fun h=>⟨r,rfl,h4' h⟩,fun h=>⟨r,rfl,h8' (by omega)⟩,fun h=>by omega,fun h=>by omega,fun h=>by omega⟩
   rcases mem_cons.mp hz with rfl | hz
   ·exact wk _ ⟨by decide,by decide⟩ (by decide)
   ·exact hr z hz
 by_cases h11:wy=11
 ·obtain⟨y,hy,hym⟩:=Zbi (n:=2) c (by omega)
  have hy:c % 2=(y:Int):=hy;obtain⟨u,hu,hum⟩:=Zbi (n:=3) (c / 2) (by omega);have hu:c / 2 % 3=(u:Int):=hu;walk_at "tst";refine ZaD (by simp) fun l1 H1 s1 m1 e1=>?_;walk_at "";rw[hy]
  obtain⟨x,hx,hxw⟩ : ∃x:Str,([V.str "start",V.str "bad"]:List V)[y]?=some (.str x)∧(x = "start"∨x = "bad"):=by
   match y,hym with
   | 0,_=>exact⟨"start",rfl,.inl rfl⟩
   | 1,_=>exact⟨"bad",rfl,.inr rfl⟩
  refine ZaO (j:=y) e1 (v:=.str x) hx ?_;walk_at "";refine ZaD (by simp) fun l2 H2 s2 m2 e2=>?_;walk_at "";refine⟨nl,_,ns,rfl,(s1.trans s2) _ _ hn,A,fun l3 ws H3 s3 m3 e3 hr hwb hwl=>?_⟩;refine Zcs (s3 _ _ e2) e3 (by simp only [length_map,length_cons,length_nil]; omega) fun l4 H4 s4 m4 e4=>?_;have w4:=s1.trans (s2.trans (s3.trans s4));walk_at "";refine ZaD (by simp) fun l5 H5 s5 m5 e5=>?_;walk_at "";refine ZaO (j:=0) ((w4.trans s5) _ _ hn) (v:=.str z0) (by rw[getElem?_map,g0]; rfl) ?_;walk_at "";refine ZaD (by simp) fun l6 H6 s6 m6 e6=>?_;walk_at "";refine ZaD (by simp) fun l7 H7 s7 m7 e7=>?_;walk_at "";refine ZaD (by simp) fun l8 H8 s8 m8 e8=>?_;walk_at "";rw[hu]
  obtain⟨lm,mk,hl8,em,hmw,hml,hmr⟩ : ∃(lm:Addr) (mk:List Str),([V.ref l5,V.ref l6,V.ref l7]:List V)[u]?=some (.ref lm)∧H8 lm=some (.lst (mk.map V.str))∧(∀z∈mk,WdX z)∧mk.length≤2∧Ze7 ns (ws++mk)=none:=by
   match u,hum with
   | 0,_=>exact⟨l5,[],rfl,(s6.trans (s7.trans s8)) _ _ e5,(fun z hz=>by cases hz),by simp,by rw[append_nil]; exact hr⟩
   | 1,_=>exact⟨l6,[("," : Str),z0],rfl,(s7.trans s8) _ _ e6,(fun z hz=>by
     simp only [mem_cons,not_mem_nil,or_false]at hz
     rcases hz with rfl | rfl
     ·exact⟨.inr (.inr (.inl rfl)),by decide⟩
     ·exact w0.1),by simp,Zre (Zrd A)⟩
   | 2,_=>exact⟨l7,[("then" : Str)],rfl,s8 _ _ e7,(fun z hz=>by rw[mem_singleton.mp hz]; exact wk _ ⟨by decide,by decide⟩ (by decide)),by simp,Zre (Zx5 A)⟩
  refine ZaO (j:=u) e8 (v:=.ref lm) hl8 ?_;have w8:=s5.trans (s6.trans (s7.trans s8));refine Zcs (w8 _ _ e4) em (by simp only [length_map,length_append,length_cons,length_nil]; omega) fun l9 H9 s9 m9 e9=>?_
  have wx:WdX x:=by
   rcases hxw with rfl | rfl
   ·exact wk _ ⟨by decide,by decide⟩ (by decide)
   ·exact wk _ ⟨by decide,by decide⟩ (by decide)
  have wall:∀z∈ws++mk,WdX z:=fun z hz=>by
   rcases mem_append.mp hz with hz | hz
   ·exact(hwb z hz).1
   ·exact hmw z hz
  have hlen:(ws++mk).length≤13:=by rw[length_append]; omega
  refine q l9 (x::(ws++mk)) H9 (w4.trans (w8.trans s9)) (by rw[e9]; simp) (fun z hz=>?_) (by rw[length_cons]; omega) ⟨fun h=>by omega,fun h=>by omega,fun h=>by omega,fun h=>by omega,fun h=>by omega,fun h=>by omega,fun h=>by omega,fun _=>?_⟩
  ·rcases mem_cons.mp hz with rfl | hz
   ·exact wx
   ·exact wall z hz
  ·rcases hxw with rfl | rfl
   ·exact .st hmr (fun z hz=>ZfE (wall z hz)) (by omega)
   ·exact .bd hmr (fun z hz=>ZfE (wall z hz)) (by omega)
 by_cases h3:wy=3
 ·obtain⟨y,hy,hym⟩:=Zbi (n:=4) c (by omega)
  have hy:c % 4=(y:Int):=hy;walk_at "tst";refine ZaD (by simp) fun l1 H1 s1 m1 e1=>?_;walk_at "";refine⟨_,nl,ns,rfl,s1 _ _ hn,n1,n6,fun l2 tr H2 s2 m2 e2 ok2=>?_⟩;have v2:=wd6 (ns:=ns) ok2;have wb2:=Zfc A ok2;refine Zcs (s2 _ _ e1) e2 (by simp only [length_map,length_cons,length_nil]; omega) fun l3 H3 s3 m3 e3=>?_;walk_at "";refine ZaD (by simp) fun l4 H4 s4 m4 e4=>?_;walk_at "";refine ZaD (by simp) fun l5 H5 s5 m5 e5=>?_;walk_at "";refine ZaD (by simp) fun l6 H6 s6 m6 e6=>?_;walk_at "";refine ZaD (by simp) fun l7 H7 s7 m7 e7=>?_;walk_at "";rw[hy];have w7:=s1.trans (s2.trans (s3.trans (s4.trans (s5.trans (s6.trans s7)))))
  obtain⟨lm,x,r,hl7,em,hmw,hml,hxl⟩ : ∃(lm:Addr) (x:Str) (r:List Str),([V.ref l3,V.ref l4,V.ref l5,V.ref l6]:List V)[y]?=some (.ref lm)∧H7 lm=some (.lst ((x::r).map V.str))∧(∀z∈x::r,WdX z)∧r.length≤8∧x≠"lamps":=by
   match y,hym with
   | 0,_=>exact⟨l3,"start",wdG true ns tr,rfl,(s4.trans (s5.trans (s6.trans s7))) _ _ e3,(fun z hz=>by
     rcases mem_cons.mp hz with rfl | hz
     ·exact wk _ ⟨by decide,by decide⟩ (by decide)
     ·exact(wb2 z hz).1),v2,by decide⟩
   | 1,_=>exact⟨l4,"bad",[],rfl,(s5.trans (s6.trans s7)) _ _ e4,(fun z hz=>by rw[mem_singleton.mp hz]; exact wk _ ⟨by decide,by decide⟩ (by decide)),by simp,by decide⟩
   | 2,_=>exact⟨l5,"move",[],rfl,(s6.trans s7) _ _ e5,(fun z hz=>by rw[mem_singleton.mp hz]; exact wk _ ⟨by decide,by decide⟩ (by decide)),by simp,by decide⟩
   | 3,_=>exact⟨l6,"show",[],rfl,s7 _ _ e6,(fun z hz=>by rw[mem_singleton.mp hz]; exact wk _ ⟨by decide,by decide⟩ (by decide)),by simp,by decide⟩
  refine ZaO (j:=y) e7 (v:=.ref lm) hl7 ?_;exact q lm (x::r) H7 w7 em hmw (by rw[length_cons]; omega) ⟨fun h=>by omega,fun h=>by omega,fun _=>⟨x,r,rfl,hxl⟩,fun h=>by omega,fun h=>by omega,fun h=>by omega,fun h=>by omega,fun h=>by omega⟩
 walk_at "tst";refine⟨nl,wy,c,mo,ns,rfl,hn,A,by omega,fun l r H1 s1 m1 e1 hr hrl a1 a2 a3=>?_⟩;exact q l (("move" : Str)::r) H1 s1 e1 hr (by rw[length_cons]; omega) ⟨fun h=>by omega,fun h=>by omega,fun h=>by omega,fun h=>by omega,fun h=>by omega,fun h=>⟨r,rfl,a1 (by omega)⟩,fun h=>a2 h,fun h=>a3 (by omega)⟩
end
unseal PE PA PS PSs
mutual
theorem FmE.tr {t:Ad} {H:Hp} {π:Nat→Nat}:∀(tr:Tr) (D:Nat) (p:Addr),nT tr≤D→FmE t H p (fmT π tr)→FmAt t H D p (fmT π tr)
 | .lamp k,0,p,h,_=>absurd h (by simp[nT])
 | .lamp k,D+1,p,_,⟨n,h⟩=>by
  cases n with
  | zero=>exact absurd h id
  | succ n=>exact h
 | .sure c,0,p,h,_=>absurd h (by simp[nT])
 | .sure c,D+1,p,_,⟨n,h⟩=>by
  cases n with
  | zero=>exact absurd h id
  | succ n=>exact h
 | .neg g,0,p,h,_=>absurd h (by simp[nT])
 | .neg g,D+1,p,hD,⟨n,h⟩=>by
  cases n with
  | zero=>exact absurd h id
  | succ n=>
   have hn:nT (.neg g)=1+nT g:=rfl;obtain⟨dx,q,e,hq⟩:=h;exact⟨dx,q,e,FmE.tr g D q (by omega) ⟨n,hq⟩⟩
 | .wrap g,D,p,hD,h=>by
  have hn:nT (.wrap g)=1+nT g:=rfl;exact FmE.tr g D p (by omega) h
 | .join v gs,0,p,h,_=>absurd h (by simp[nT])
 | .join v gs,D+1,p,hD,⟨n,h⟩=>by
  cases n with
  | zero=>exact absurd h id
  | succ n=>
   have hn:nT (.join v gs)=1+nTL gs:=rfl;obtain⟨dx,tp,ps,e,e2,hq⟩:=h;exact⟨dx,tp,ps,e,e2,FmE.trL gs D ps (by omega) (Zan (fun a b h=>⟨n,h⟩) hq)⟩
theorem FmE.trL {t:Ad} {H:Hp} {π:Nat→Nat}:∀(gs:List Tr) (D:Nat) (ps:List Addr),nTL gs≤D→Paired (FmE t H) ps (fmTL π gs)→Paired (FmAt t H D) ps (fmTL π gs)
 | [],D,_,_,.nil=>.nil
 | g::gs,D,_,hD,.cons h r=>by
  have hn:nTL (g::gs)=nT g+nTL gs:=by simp[nTL]
  exact .cons (FmE.tr g D _ (by omega) h) (FmE.trL gs D _ (by omega) r)
end
end LW
open PySem L2
namespace LW
open PySem L2 EM
open List (all_eq_true any_cons append_assoc append_nil cons_append count_append count_cons_self count_eq_zero drop_zero filterMap_append getD_eq_getElem?_getD getElem?_append_left getElem?_drop getElem?_map getLast?_cons_of_ne_nil length_append length_cons length_drop length_eq_zero_iff length_map length_nil length_set length_singleton length_take map_append map_congr_left map_cons map_drop map_map map_nil map_set map_take mem_append mem_cons mem_cons_of_mem mem_cons_self mem_map mem_of_getElem? mem_of_mem_take mem_singleton nil_append nodup_append nodup_cons nodup_nil not_mem_nil set_cons_succ set_cons_zero sum_cons take_length take_nil take_zero)
def gsep (f:List Nat→List Nat→Bool):List (List Nat)→List Nat
 | []=>[]
 | [p]=>p
 | p::q::r=>p++(if f p q=true then [] else [32])++gsep f (q::r)
def f0:List Nat→List Nat→Bool:=fun _ _=>false
def f1:List Nat→List Nat→Bool:=fun p _=>decide (p=[40])
def f2:List Nat→List Nat→Bool:=fun p q=>f1 p q || decide (q=[41])
def f3:List Nat→List Nat→Bool:=fun p q=>f2 p q || decide (q=[44])
theorem Zvv:∀ws:List (List Nat),gsep f0 ws=jn [32] ws
 | []=>rfl
 | [p]=>rfl
 | p::q::r=>by
  rw[Zm9 (by simp),←Zvv (q::r)];rfl
theorem Zvu {f:List Nat→List Nat→Bool} (p:List Nat) (r:List (List Nat)):∃l,gsep f (p::r)=p++l:=by
 cases r with
 | nil=>exact⟨[],(append_nil _).symm⟩
 | cons q r=>exact⟨_,append_assoc _ _ _⟩
theorem ZrH {p:List Nat} (h:Wd3 p):(32:Nat)∉p∧(p≠[40]→(40:Nat)∉p)∧(∀c,c=41∨c=44→p≠[c]→∃b q,p=b::q∧b≠c):=by
 rcases h with rfl | rfl | rfl | ⟨h1,h2⟩
 ·exact⟨by decide,fun e=>absurd rfl e,fun c hc _=>⟨40,[],rfl,by omega⟩⟩
 ·refine⟨by decide,fun _=>by decide,fun c hc e=>⟨41,[],rfl,fun z=>e (by rw[z])⟩⟩
 ·refine⟨by decide,fun _=>by decide,fun c hc e=>⟨44,[],rfl,fun z=>e (by rw[z])⟩⟩
 ·refine⟨fun y=>by have:=h2 32 y; omega,fun _ y=>by have:=h2 40 y; omega,fun c hc e=>?_⟩
  cases p with
  | nil=>exact absurd rfl h1
  | cons b q=>exact⟨b,q,rfl,fun y=>by have:=h2 b (by simp); omega⟩
theorem ZzI {c d:Nat} {z p:List Nat} (h:c∉p):rp2 c d z p=p:=by
 have:=ZkF (d:=d) (z:=z) (r:=[]) h;rw[append_nil]at this;rw[this];exact append_nil _
theorem ZtI:∀ws:List (List Nat),(∀p∈ws,Wd3 p)→rp2 40 32 [40] (gsep f0 ws)=gsep f1 ws
 | [],_=>rfl
 | [p],h=>by
  show rp2 40 32 [40] p=p
  by_cases e:p=[40]
  ·rw[e]; rfl
  ·exact ZzI ((ZrH (h p (by simp))).2.1 e)
 | p::q::r,h=>by
  have ih:=ZtI (q::r) fun y hy=>h y (mem_cons_of_mem _ hy);show rp2 40 32 [40] (p++[32]++gsep f0 (q::r))=p++(if f1 p q=true then [] else [32])++gsep f1 (q::r)
  by_cases e:p=[40]
  ·subst e
   rw[if_pos (show f1 [40] q=true from rfl),append_nil,←ih];show(if (40:Nat)=40∧(32:Nat)=32 then [40]++rp2 40 32 [40] (gsep f0 (q::r)) else _)=_;rw[if_pos ⟨rfl,rfl⟩]
  ·have hn:(40:Nat)∉p++[32]:=fun y=>by
    rcases mem_append.mp y with y | y
    ·exact(ZrH (h p (by simp))).2.1 e y
    ·simp at y
   rw[if_neg (by unfold f1; simp[e]),ZkF hn,ih]
theorem ZsY {c:Nat} (hc:c=41∨c=44) {f g:List Nat→List Nat→Bool} (hg:∀p q,g p q=(f p q || decide (q=[c]))):∀ws:List (List Nat),(∀p∈ws,Wd3 p)→rp2 32 c [c] (gsep f ws)=gsep g ws
 | [],_=>rfl
 | [p],h=>ZzI (ZrH (h p (by simp))).1
 | p::q::r,h=>by
  have ih:=ZsY hc hg (q::r) fun y hy=>h y (mem_cons_of_mem _ hy);have hq:=h q (by simp);show rp2 32 c [c] (p++(if f p q=true then [] else [32])++gsep f (q::r))=p++(if g p q=true then [] else [32])++gsep g (q::r);rw[append_assoc,ZkF (ZrH (h p (by simp))).1,append_assoc]
  congr 1
  cases e:f p q with
  | true=>
   rw[if_pos rfl,if_pos (by rw[hg,e]; rfl),←ih];rfl
  | false=>
   rw[if_neg Bool.false_ne_true];obtain⟨l,hl⟩:=Zvu (f:=f) q r
   by_cases e2:q=[c]
   ·rw[if_pos (by rw[hg,e2]; simp)]
    subst e2;rw[hl]at ih ⊢
    have c32:(32:Nat)∉[c]:=by simp; omega
    show rp2 32 c [c] (32::c::l)=_;rw[show rp2 32 c [c] (32::c::l)=[c]++rp2 32 c [c] l from by show(if (32:Nat)=32∧c=c then _ else _)=_; rw[if_pos ⟨rfl,rfl⟩],←ih,ZkF c32];rfl
   ·rw[if_neg (by rw[hg,e]; simp[e2]),←ih,hl]
    obtain⟨b,q',rfl,hb⟩:=(ZrH hq).2.2 c hc e2;show(if (32:Nat)=32∧b=c then _ else 32::rp2 32 c [c] (b::(q'++l)))=_;rw[if_neg fun y=>hb y.2];rfl
theorem ZsT (x:Str) (ws:List (List Nat)) (hx:x.cps.toList=jn [32] ws) (h:∀p∈ws,Wd3 p):(Txt.replace (Txt.replace (Txt.replace x ⟨#[40,32]⟩ ⟨#[40]⟩) ⟨#[32,41]⟩ ⟨#[41]⟩) ⟨#[32,44]⟩ ⟨#[44]⟩).cps.toList=gsep f3 ws:=by
 rw[Ze8,Ze8,Ze8,hx,←Zvv];show rp2 32 44 [44] (rp2 32 41 [41] (rp2 40 32 [40] (gsep f0 ws)))=_;rw[ZtI ws h,ZsY (f:=f1) (g:=f2) (.inl rfl) (fun _ _=>rfl) ws h,ZsY (f:=f2) (g:=f3) (.inr rfl) (fun _ _=>rfl) ws h]
theorem ZwD {x:Str} {c d e:Nat}:(Txt.replace x ⟨#[c,d]⟩ ⟨#[e]⟩).length≤x.length:=by
 show Array.size _≤Array.size _;rw[←Array.length_toList,←Array.length_toList,Ze8];exact ZsX (show([e]:List Nat).length≤2 from Nat.le_of_ble_eq_true rfl) _
seal PE PA PS PSs
section
variable {P:Program} {w:World} {K:W.Frag} {mg:Str→Option Value} {base:Heap} {t:Ad} {n:Nat}
def ZwR:Sp:=fun vs H Q _=>∃(l:Addr) (ws:List Str),vs=[.ref l]∧H l=some (.lst (ws.map V.str))∧(∀z∈ws,WdX z)∧ws.length≤100∧∀x:Str,cl1 x=gsep f3 (ws.map cl1)→Q (.str x) H
theorem Zx9 (T:Txt K mg t):FnS P w K mg base 1 "_law_plain" ["_law_some"] (ZwR):=by
 refine⟨_,_,T.Zdt.ok ZkI (fun vs H Q E h=>?_) (fun cdv A outer s H vs Q E hr h=>?_),T.ZlO,T.Zdt.kp,T.ZlZ⟩
 ·obtain⟨l,ws,rfl,hl,hw,hwl,q⟩:=h
  rfl
 obtain⟨l,ws,rfl,hl,hw,hwl,q⟩:=h
 refine⟨_,(ZDm (ssp 1 ZkI.nd (ZcX F.plainAttrs_str F.slot_str_join F.type_str_join ZpD Zai (Zaa (pv 0) Zab)))
   (Zym (ZBa (ZsR (ZsR (ZsR (ZDc (pv 1)))))))),?_⟩
 walk_at "rd0";refine⟨tyS,?_⟩;walk_at "";have hsum:(ws.map (·.length)).sum≤14 * ws.length:=ZzK fun z hz=>(hw z hz).2;refine⟨" ",l,ws,rfl,rfl,SqL.of hl,?_,?_⟩
 ·unfold JoinOk Builtin.Str.tooLong
  rw[StrLaws.joinTotal];have:Str.length " " = 1:=rfl;rw[this,decide_eq_false (Nat.not_lt.mpr (ZaQ (by omega)))];rfl
 have hj:(Txt.join " " ws).cps.toList=jn [32] (ws.map cl1):=by
  show(Builtin.Str.glued _ _).cps.toList=_;rw[StrLaws.glued_eq_join,Zfr];rfl
 have hjl:(Txt.join " " ws).length≤1500:=by
  show(Builtin.Str.glued _ _).length≤_;rw[StrLaws.glued_eq_join];have:=StrLaws.join_length_le " " ws;have e:Str.length " " = 1:=rfl;rw[e]at this;omega
 have hg:=ZsT _ _ hj fun p hp=>by
  obtain⟨z,hz,rfl⟩:=mem_map.mp hp;exact(hw z hz).1
 walk_at "";generalize Txt.join " " ws=x at hjl hg ⊢;have h1:=ZwD (x:=x) (c:=40) (d:=32) (e:=40);have h2:=ZwD (x:=Txt.replace x ⟨#[40,32]⟩ ⟨#[40]⟩) (c:=32) (d:=41) (e:=41);refine⟨_,rfl,by decide,?_,_,rfl,by decide,?_,_,rfl,by decide,?_,?_⟩
 ·show _+(_+1) * 1≤_
  omega
 ·show(Txt.replace x ⟨#[40,32]⟩ ⟨#[40]⟩).length+((Txt.replace x ⟨#[40,32]⟩ ⟨#[40]⟩).length+1) * 1≤_
  omega
 ·show(Txt.replace (Txt.replace x ⟨#[40,32]⟩ ⟨#[40]⟩) ⟨#[32,41]⟩ ⟨#[41]⟩).length+((Txt.replace (Txt.replace x ⟨#[40,32]⟩ ⟨#[40]⟩) ⟨#[32,41]⟩ ⟨#[41]⟩).length+1) * 1≤_
  omega
 ·exact q _ hg
end
unseal PE PA PS PSs
theorem ZB1 {p q:List Nat} (h1:p≠[40]) (h2:q≠[41]) (h3:q≠[44]):f3 p q=false:=by
 unfold f3 f2 f1;rw[decide_eq_false h1,decide_eq_false h2,decide_eq_false h3];rfl
theorem Zsi {k y:List Nat} {b:List (List Nat)} (hk:k≠[40]) (h1:y≠[41]) (h2:y≠[44]):gsep f3 (k::y::b)=k++32::gsep f3 (y::b):=by
 show k++(if f3 k y=true then [] else [32])++gsep f3 (y::b)=_;rw[ZB1 hk h1 h2,if_neg Bool.false_ne_true,append_assoc];rfl
theorem ZqH:∀ws:List (List Nat),[44]∉ws→gsep f3 ws=glue ws
 | [],_=>rfl
 | [p],_=>rfl
 | p::q::r,h=>by
  have ih:=ZqH (q::r) fun y=>h (mem_cons_of_mem _ y);have hq:q≠[44]:=fun e=>h (by rw[e]; simp);show p++(if f3 p q=true then [] else [32])++gsep f3 (q::r)=p++(if p=[40]∨q=[41] then [] else [32])++glue (q::r);rw[ih]
  have e:f3 p q=decide (p=[40]∨q=[41]):=by
   unfold f3 f2 f1;rw[decide_eq_false hq,Bool.or_false,Bool.decide_or]
  rw[e]
  by_cases c:p=[40]∨q=[41]
  ·rw[if_pos c,if_pos (decide_eq_true c)]
  ·rw[if_neg c,if_neg (by rw[decide_eq_false c]; exact Bool.false_ne_true)]
theorem Zpl {f:List Nat→List Nat→Bool} {d:Bool} {y:List Nat} {b:List (List Nat)}:∀a:List (List Nat),a≠[]→(∀x,a.getLast?=some x→f x y=d)→gsep f (a++y::b)=gsep f a++(if d=true then [] else [32])++gsep f (y::b)
 | [],h,_=>absurd rfl h
 | [p],_,h=>by
  have:=h p rfl;show p++(if f p y=true then [] else [32])++gsep f (y::b)=p++_++_;rw[this]
 | p::q::r,_,h=>by
  have ih:=Zpl (f:=f) (d:=d) (y:=y) (b:=b) (q::r) (by simp) fun x hx=>h x (by rw[getLast?_cons_of_ne_nil (by simp)]; exact hx);show p++(if f p q=true then [] else [32])++gsep f (q::r++y::b)=(p++(if f p q=true then [] else [32])++gsep f (q::r))++_++gsep f (y::b);rw[ih];simp only [append_assoc]
theorem ZoG:∀ws:List (List Nat),(∀p∈ws,p≠[40]∧p≠[41]∧p≠[44])→gsep f3 ws=jn [32] ws
 | [],_=>rfl
 | [p],_=>rfl
 | p::q::r,h=>by
  have ih:=ZoG (q::r) fun y hy=>h y (mem_cons_of_mem _ hy);have hq:=h q (by simp);rw[Zsi (h p (by simp)).1 hq.2.1 hq.2.2,ih,Zm9 (p:=p) (r:=q::r) (by simp),append_assoc];rfl
theorem Zjk (x y:Str):cl1 (x++y)=cl1 x++cl1 y:=list_append x y
theorem ZvN (z:Str) (ts:List Str):cl1 (Txt.join z ts)=jn (cl1 z) (ts.map cl1):=by
 show(Builtin.Str.glued _ _).cps.toList=_;rw[StrLaws.glued_eq_join,Zfr];rfl
theorem ZpF {z:Str} (h:Nm8 z):cl1 z≠[40]∧cl1 z≠[41]∧cl1 z≠[44]:=by
 have:=(Zty h).1;exact⟨this.no.1,this.no.2,fun e=>by have:=this.2 44 (by show 44∈cl1 z; rw[e]; simp); omega⟩
structure FwOk (ns:List Str) (tr:Tr):Prop where
 hd:∃y b,(wdG true ns tr).map cl1=y::b∧y≠[41]∧y≠[44]
 la:∀x,((wdG true ns tr).map cl1).getLast?=some x→x≠[40]
 eq:cl1 (ZbC ns (fmT id tr))=gsep f3 ((wdG true ns tr).map cl1)
theorem ZxC {ns:List Str} (A:NmA ns) {tr:Tr} (o:OkF ns.length tr):FwOk ns tr:=by
 have h44:([44]:List Nat)∉(wdG true ns tr).map cl1:=fun h=>by
  obtain⟨z,hz,e⟩:=mem_map.mp h;have e2:z = ",":=ZnK e;exact(Zs4 A o.ok.1 z hz).2.2 e2
 have e:wdG true ns tr=wdG false ns tr:=by
  obtain⟨i,j,v,k,_,_,rfl⟩:=o;rw[wd19,wd19]
 obtain⟨⟨a1,a2,a3⟩,b⟩:=ZiN (ns':=ns) (ns:=ns) (π:=id) (m:=ns.length) (fun k hk=>rfl) (fun k hk=>(ZAK (fun z hz=>(A.nm z hz).1) hk).1) tr o.ok.1;rw[←e]at a1 a2 a3 b;refine⟨?_,fun x hx ex=>a3 (by rw[hx,ex]),by rw[b,ZqH _ h44]⟩
 cases hF:(wdG true ns tr).map cl1 with
 | nil=>exact absurd hF a1
 | cons y r=>
  rw[hF]at a2 h44;exact⟨y,r,rfl,fun z=>a2 (by rw[z]; rfl),fun z=>h44 (by rw[z]; simp)⟩
theorem ZB6 {ns:List Str} {tr:Tr} (o:FwOk ns tr) {k k':Str} (e:cl1 k'=cl1 k++[32]) (hk:cl1 k≠[40]):cl1 (k'++ZbC ns (fmT id tr))=gsep f3 ((k::wdG true ns tr).map cl1):=by
 obtain⟨y,b,h1,h2,h3⟩:=o.hd;have e1:=o.eq;rw[Zjk,e,e1,map_cons,h1,Zsi hk h2 h3,append_assoc];rfl
theorem Zz8 {ns:List Str} (A:NmA ns) {c:Nat×Tr} (o:OkF ns.length c.2) (hc:c.1 < ns.length):cl1 (Zl8 ns (c.1,fmT id c.2))=gsep f3 ((pc17 ns c).map cl1):=by
 have F:=ZxC A o;obtain⟨y,b,h1,h2,h3⟩:=F.hd;have e1:=F.eq;have n1:=ZpF (A.nm _ (A.get hc)).1;unfold Zl8 pc17;rw[Zjk,Zjk,e1,map_cons,map_cons,h1,Zsi n1.1 (by decide) (by decide),Zsi (by decide) h2 h3]
 have:cl1 " is " = 32::(cl1 "is"++[32]):=by decide
 rw[this];simp only [append_assoc,cons_append,nil_append]
def HdP (p:List Str):Prop:=∃z r,p=z::r∧cl1 z≠[41]∧cl1 z≠[44]
theorem Zzo {p:List Str} {r:List (List Str)} (h:HdP p):HdP (jnW "," (p::r)):=by
 obtain⟨z,q,rfl,h1,h2⟩:=h
 cases r with
 | nil=>exact⟨z,q,rfl,h1,h2⟩
 | cons a b=>exact⟨z,_,rfl,h1,h2⟩
theorem Zvt:∀ps:List (List Str),ps≠[]→(∀p∈ps,HdP p)→gsep f3 ((jnW "," ps).map cl1)=jn [44,32] (ps.map fun p=>gsep f3 (p.map cl1))
 | [],h,_=>absurd rfl h
 | [p],_,_=>rfl
 | p::q::r,_,h=>by
  have ih:=Zvt (q::r) (by simp) fun x hx=>h x (mem_cons_of_mem _ hx);obtain⟨z,l,e,h1,h2⟩:=Zzo (r:=r) (h q (by simp));obtain⟨z',l',e',_⟩:=h p (by simp);rw[map_cons,Zm9 (by simp),←ih];show gsep f3 ((p++("," : Str)::jnW "," (q::r)).map cl1)=_;rw[map_append,map_cons,Zpl (d:=true) _ (by rw[e']; simp) (fun x _=>by unfold f3; rw[decide_eq_true (show cl1 "," = [44] by decide),Bool.or_true]),if_pos rfl,append_nil,e,map_cons,Zsi (by decide) h1 h2,append_assoc];rfl
theorem ZB5 {ns:List Str} (A:NmA ns) {v:Tr×List (Nat×Tr)} (o:OkF ns.length v.1) (p:PcOk ns.length v.2):cl1 (shM ns (fm17 v))=gsep f3 ((enW ns (.mv v)).map cl1):=by
 have F:=ZxC A o;obtain⟨y,b,h1,h2,h3⟩:=F.hd;have e1:=F.eq
 have hp:∀q∈v.2.map (pc17 ns),HdP q:=fun q hq=>by
  obtain⟨c,hc,rfl⟩:=mem_map.mp hq;have n1:=ZpF (A.nm _ (A.get (p.ok c hc).2)).1;exact⟨_,_,rfl,n1.2⟩
 have hne:v.2.map (pc17 ns)≠[]:=fun e=>by have:=p.l1; rw[List.map_eq_nil_iff]at e; rw[e]at this; simp at this
 have gp:=Zvt _ hne hp
 obtain⟨z,l,e,k1,k2⟩ : HdP (jnW "," (v.2.map (pc17 ns))):=by
  cases hv:v.2.map (pc17 ns) with
  | nil=>exact absurd hv hne
  | cons a r=>exact Zzo (hp a (by rw[hv]; simp))
 have ej:cl1 (Txt.join ", " ((fm17 v).2.map (Zl8 ns)))=gsep f3 ((jnW "," (v.2.map (pc17 ns))).map cl1):=by
  rw[gp,ZvN];show jn [44,32] (((v.2.map fun c=>(c.1,fmT id c.2)).map (Zl8 ns)).map cl1)=_;rw[map_map,map_map,map_map];exact congrArg _ (map_congr_left fun c hc=>Zz8 A (p.ok c hc).1 (p.ok c hc).2)
 have a1:cl1 "move " = cl1 "move"++[32]:=by decide
 have a2:cl1 " then " = 32::(cl1 "then"++[32]):=by decide
 unfold shM;rw[Zjk,Zjk,Zjk,ej,a1,a2];show cl1 "move"++[32]++cl1 (ZbC ns (fmT id v.1))++_++_=gsep f3 ((("move" : Str)::(wdG true ns v.1++("then" : Str)::jnW "," (v.2.map (pc17 ns)))).map cl1);have hg:=Zpl (f:=f3) (d:=false) (y:=cl1 "then") (b:=(jnW "," (v.2.map (pc17 ns))).map cl1) ((wdG true ns v.1).map cl1) (by rw[h1]; simp) fun x hx=>ZB1 (F.la x hx) (by decide) (by decide);rw[if_neg Bool.false_ne_true]at hg;rw[map_cons,map_append,map_cons]
 have hm:gsep f3 (cl1 "move"::((wdG true ns v.1).map cl1++cl1 "then"::(jnW "," (v.2.map (pc17 ns))).map cl1))=cl1 "move"++32::gsep f3 ((wdG true ns v.1).map cl1++cl1 "then"::(jnW "," (v.2.map (pc17 ns))).map cl1):=by
  rw[h1,cons_append,Zsi (by decide) h2 h3]
 rw[hm,hg,e1,e,map_cons,Zsi (by decide) k1 k2];simp only [append_assoc,cons_append,nil_append]
theorem Zz7 {ns:List Str} (A:NmA ns):cl1 (("lamps " : Str)++Txt.join " " ns)=gsep f3 ((("lamps" : Str)::ns).map cl1):=by
 have hp:∀p∈(("lamps" : Str)::ns).map cl1,p≠[40]∧p≠[41]∧p≠[44]:=fun p hp=>by
  obtain⟨z,hz,rfl⟩:=mem_map.mp hp
  rcases mem_cons.mp hz with rfl | hz
  ·decide
  ·exact ZpF (A.nm z hz).1
 have hne:ns.map cl1≠[]:=fun e=>by have:=A.n1; rw[List.map_eq_nil_iff]at e; rw[e]at this; simp at this
 rw[ZoG _ hp,map_cons,Zm9 hne,Zjk,ZvN];rfl
theorem ZxX {ns:List Str} (A:NmA ns) {fs bs:List Tr} {us:List (Tr×List (Nat×Tr))} (G:OkG ns.length fs bs us):(Ztq ns (fs.map (fmT id)) (bs.map (fmT id)) (us.map fm17)).map cl1=(Zfq ns (Zcc fs bs us)).map fun ws=>gsep f3 (ws.map cl1):=by
 unfold Ztq Zfq Zcc;simp only [map_append,map_cons,map_nil,map_map,cons_append,nil_append];rw[Zz7 A,map_cons]
 congr 1
 congr 1
 ·congr 1
  ·exact map_congr_left fun g hg=>ZB6 (ZxC A (G.f g hg)) (k:="start") (by decide) (by decide)
  ·exact map_congr_left fun g hg=>ZB6 (ZxC A (G.b g hg)) (k:="bad") (by decide) (by decide)
 ·exact map_congr_left fun v hv=>ZB5 A (G.u v hv).1 (G.u v hv).2
theorem OkG.e {m:Nat} {fs bs:List Tr} {us:List (Tr×List (Nat×Tr))} (G:OkG m fs bs us):∀e∈Zcc fs bs us,OkE m e:=by
 have tr:∀{g:Tr},OkF m g→okT m g=true∧nT g≤51:=fun h=>⟨h.ok.1,by have:=h.ok.2; omega⟩;intro e he
 rcases mem_append.mp he with he | he
 ·rcases mem_append.mp he with he | he
  ·obtain⟨g,hg,rfl⟩:=mem_map.mp he
   exact tr (G.f g hg)
  ·obtain⟨g,hg,rfl⟩:=mem_map.mp he
   exact tr (G.b g hg)
 ·obtain⟨v,hv,rfl⟩:=mem_map.mp he
  obtain⟨a,b⟩:=G.u v hv;exact⟨tr a,fun c hc=>⟨tr (b.ok c hc).1,(b.ok c hc).2⟩,b.nd,b.l1,by have:=b.l2; omega⟩
theorem ZAb {ns:List Str} (A:NmA ns) {fs bs:List Tr} {us:List (Tr×List (Nat×Tr))} (G:OkG ns.length fs bs us):∀ws∈Zfq ns (Zcc fs bs us),(∀z∈ws,WdX z)∧ws.length≤40∧ws≠[]:=by
 have wk:∀z:Str,NmL z→z.length≤14→WdX z:=fun z h1 h2=>Zdd ⟨h1,h2⟩;have nx:∀z∈ns,WdX z:=fun z hz=>(A.wd z hz).x
 have tx:∀{g:Tr},OkF ns.length g→∀{k:Str},WdX k→(∀z∈k::wdG true ns g,WdX z)∧(k::wdG true ns g).length≤40∧k::wdG true ns g≠[]:=fun {g} h {k} hk=>⟨fun z hz=>by
  rcases mem_cons.mp hz with rfl | hz
  ·exact hk
  ·exact Zqa A h.ok.1 z hz,by have:=wd6 (ns:=ns) h; rw[length_cons]; omega,by simp⟩
 intro ws hw
 rcases mem_cons.mp hw with rfl | hw
 ·refine⟨fun z hz=>?_,by have:=A.n6; rw[length_cons]; omega,by simp⟩
  rcases mem_cons.mp hz with rfl | hz
  ·exact wk _ ⟨by decide,by decide⟩ (by decide)
  ·exact nx z hz
 obtain⟨e,he,rfl⟩:=mem_map.mp hw
 rcases mem_append.mp he with he | he
 ·rcases mem_append.mp he with he | he
  ·obtain⟨g,hg,rfl⟩:=mem_map.mp he
   exact tx (G.f g hg) (wk _ ⟨by decide,by decide⟩ (by decide))
  ·obtain⟨g,hg,rfl⟩:=mem_map.mp he
   exact tx (G.b g hg) (wk _ ⟨by decide,by decide⟩ (by decide))
 ·obtain⟨v,hv,rfl⟩:=mem_map.mp he
  obtain⟨a,b⟩:=G.u v hv;have l1:=wd6 (ns:=ns) a
  have l2:=Zke "," (B:=10) (ps:=v.2.map (pc17 ns)) fun p hp=>by
   obtain⟨c,hc,rfl⟩:=mem_map.mp hp;have:=wd6 (ns:=ns) (b.ok c hc).1;show(wdG true ns c.2).length+2≤10;omega
  have l3:=b.l2;rw[length_map]at l2;have l4:(10+1) * v.2.length≤11 * 2:=Nat.mul_le_mul_left _ l3;refine⟨fun z hz=>?_,?_,by show("move" : Str)::_≠[]; simp⟩
  ·have hz:z∈("move" : Str)::(wdG true ns v.1++("then" : Str)::jnW "," (v.2.map (pc17 ns))):=hz
   rcases mem_cons.mp hz with rfl | hz
   ·exact wk _ ⟨by decide,by decide⟩ (by decide)
   rcases mem_append.mp hz with hz | hz
   ·exact Zqa A a.ok.1 z hz
   rcases mem_cons.mp hz with rfl | hz
   ·exact wk _ ⟨by decide,by decide⟩ (by decide)
   refine Zkd (Pz:=WdX) (k:=",") ⟨.inr (.inr (.inl rfl)),by decide⟩ (ps:=v.2.map (pc17 ns)) (fun p hp z hz=>?_) z hz;obtain⟨c,hc,rfl⟩:=mem_map.mp hp;have hz:z∈ns.getD c.1 Str.empty::("is" : Str)::wdG true ns c.2:=hz
   rcases mem_cons.mp hz with rfl | hz
   ·exact nx _ (A.get (b.ok c hc).2)
   rcases mem_cons.mp hz with rfl | hz
   ·exact wk _ ⟨by decide,by decide⟩ (by decide)
   ·exact Zqa A (b.ok c hc).1.ok.1 z hz
  ·show(("move" : Str)::(wdG true ns v.1++("then" : Str)::jnW "," (v.2.map (pc17 ns)))).length≤40
   rw[length_cons,length_append,length_cons];omega
theorem Zvp {α β:Type}:∀l:List α,l.filterMap (fun _=>(none:Option β))=[]
 | []=>rfl
 | _::l=>Zvp l
theorem Zt7 (fs bs:List Tr) (us:List (Tr×List (Nat×Tr))):stE ((Zcc fs bs us).map entF)=fs.map (fmT id)∧bdE ((Zcc fs bs us).map entF)=bs.map (fmT id)∧mvE ((Zcc fs bs us).map entF)=us.map fm17:=by
 unfold stE bdE mvE Zcc
 refine⟨?_,?_,?_⟩ <;> simp[filterMap_append,List.filterMap_map,Function.comp_def,Zvp,entF]
theorem Znv {α β γ δ:Type} {R:α→γ→Prop} {S:α→δ→Prop} {f:β→γ} {g:β→δ}:∀{as:List α} {bs:List β},(∀b∈bs,∀a,R a (f b)→S a (g b))→Paired R as (bs.map f)→Paired S as (bs.map g)
 | _,[],_,.nil=>.nil
 | _,b::bs,h,.cons x r=>.cons (h b mem_cons_self _ x) (Znv (fun c hc=>h c (mem_cons_of_mem _ hc)) r)
theorem Ztz {t:Ad} {ns:List Str} {tr:Tr} (o:OkF ns.length tr):okS t ns (fmT id tr):=by
 refine⟨fun H p h=>FmE.tr tr 61 p (by have:=o.ok.2; omega) h,?_,?_⟩
 ·obtain⟨i,j,v,k,hi,hj,rfl⟩:=o
  match k with
  | 0=>exact decide_eq_true hi
  | 1=>exact decide_eq_true hi
  | 2=>simp[fm19,fmT,fmTL,ZpB,Fm.low,hi,hj]
  | 3=>simp[fm19,fmT,fmTL,ZpB,Fm.low,Fm.lowL,hi,hj]
  | _+4=>rfl
 ·obtain⟨i,j,v,k,hi,hj,rfl⟩:=o
  match k with
  | 0=>exact Nat.le_of_ble_eq_true rfl
  | 1=>exact Nat.le_of_ble_eq_true rfl
  | 2=>exact Nat.le_of_ble_eq_true rfl
  | 3=>exact Nat.le_of_ble_eq_true rfl
  | _+4=>exact Nat.le_of_ble_eq_true rfl
theorem ZCT {t:Ad} {ns:List Str} {v:Tr×List (Nat×Tr)} (o:OkF ns.length v.1) (p:PcOk ns.length v.2):okM t ns (fm17 v):=
 ⟨Ztz o,fun c hc=>by
  have hc:c∈v.2.map fun c=>(c.1,fmT id c.2):=hc;obtain⟨c',hc',rfl⟩:=mem_map.mp hc
  exact⟨Ztz (p.ok c' hc').1,(p.ok c' hc').2⟩,by show(v.2.map _).length≤6; rw[length_map]; have:=p.l2; omega⟩
def bdOf (wy:Int):Bd:=if wy≤7 then .line else if wy≤10 then .name else .form
def BadX (ns:List Str) (wy:Int) (x:Str):Prop:=(wy=3∨wy=4∨wy=8→FirstB x (bdOf wy))∧(¬(wy=3∨wy=4∨wy=8)→BadL ns x (bdOf wy))
theorem ZBN {ns:List Str} {wy:Int} (h0:0≤wy) (h13:wy≤13) {ws:List Str} {x:Str} (h:ZyQ ns wy ws) (hw:∀z∈ws,WdX z) (hl:ws.length≤92) (hal:∀d∈x.cps.toList,al d=true) (hxl:x.length≤16000) (hwd:Txt.words (pad x)=ws):BadX ns wy x:=by
 obtain⟨w0,w1,w3,w4,w8,w5,w9,w11⟩:=h;have ln:ws≠[]→LnW x ws:=fun hne=>⟨Zs8 hal,hxl,all_eq_true.mpr hal,hwd,hne⟩;have bl:wy≤7→bdOf wy=.line:=fun h=>if_pos h
 have bn:7 < wy→wy≤10→bdOf wy=.name:=fun h h'=>by unfold bdOf; rw[if_neg (by omega),if_pos h']
 have bf:10 < wy→bdOf wy=.form:=fun h=>by unfold bdOf; rw[if_neg (by omega),if_neg (by omega)]
 refine⟨?_,fun hn=>?_⟩
 ·rintro(h | h | h)
  ·obtain⟨y,r,rfl,hy⟩:=w3 h
   rw[bl (by omega)];exact .hd (ln (by simp)) hy
  ·obtain⟨r,rfl,hr⟩:=w4 h
   rw[bl (by omega)];rw[length_cons]at hl;exact .ct (ln (by simp)) (by omega) hr
  ·obtain⟨r,rfl,r1,r6,hr⟩:=w8 h
   rw[bn (by omega) (by omega)];refine .nm (ln (by simp)) r1 r6 (fun y hy=>?_) hr;have:=hw y (mem_cons_of_mem _ hy);exact⟨ZfE this,by have:=this.2; omega⟩
 ·by_cases c0:wy=0
  ·rw[bl (by omega)]
   exact .ln ⟨Zs8 hal,hxl,.inr (by rw[hwd]; exact w0 c0)⟩
  by_cases c1:wy=1∨wy=2
  ·rw[bl (by omega)]
   obtain⟨y,r,rfl,hy⟩:=w1 c1;exact .hd (ln (by simp)) hy
  by_cases c5:wy=5∨wy=6∨wy=7
  ·rw[bl (by omega)]
   obtain⟨r,rfl,hr⟩:=w5 c5;rw[length_cons]at hl;exact .mv (ln (by simp)) (by omega) hr
  have hne:∀{k},BadT ns ws k→ws≠[]:=fun h=>by cases h <;> simp
  by_cases c9:wy=9∨wy=10
  ·rw[bn (by omega) (by omega)]
   exact .th (ln (hne (w9 c9))) (w9 c9)
  ·rw[bf (by omega)]
   exact .th (ln (hne (w11 (by omega)))) (w11 (by omega))
theorem ZC3 {ns:List Str} (A:NmA ns) {wy:Int} {fs bs:List Tr} {us:List (Tr×List (Nat×Tr))} (G:OkG ns.length fs bs us) {zs:List Str} (hz:Paired LnW zs (Zfq ns (Zcc fs bs us))) {pl:Nat} (hp:((wy=3∨wy=4∨wy=8)∧pl=0)∨(¬(wy=3∨wy=4∨wy=8)∧1≤pl)) {x:Str} (hx:BadX ns wy x) (r:List Str):Zxl (zs.take pl++x::r) (bdOf wy):=by
 rcases hp with⟨h,rfl⟩ | ⟨h,h1⟩
 ·exact .inr (.inl ⟨x,r,rfl,hx.1 h⟩)
 ·obtain⟨n,rfl⟩ : ∃n,pl=n+1:=⟨pl - 1,by omega⟩
  unfold Zfq at hz
  cases hz with
  | cons h0 hr=>
   rename_i z0 gs
   refine .inr (.inr ⟨z0,ns,gs.take n,((Zcc fs bs us).take n).map entF,x,r,rfl,h0,A.lm,fun y hy=>Zho (A.wd y hy),?_,hx.2 h⟩);have:=Znw n hr;rw[←map_take]at this;exact Znv (fun e he z hz=>⟨_,hz,ZBX A (G.e e (mem_of_mem_take he))⟩) this
theorem ZBT {zs:List Str} {k:Nat} (h:k≤zs.length):cutV (zs.map V.str) none (some (k:Int))=(zs.take k).map V.str:=by
 rw[ZyU (by rw[length_map]; exact h),map_take]
theorem ZBS {zs:List Str} {k:Nat} (h:k≤zs.length):cutV (zs.map V.str) (some (k:Int)) none=(zs.drop k).map V.str:=by
 rw[Zc9 (by rw[length_map]; exact h),map_drop]
theorem ZhM {z:Str} (h:z.cps.toList.all (fun c=>decide (c < 128))=true):Asc z:=fun c hc=>of_decide_eq_true (all_eq_true.mp h c hc)
theorem Zsb (H:Hp):∀a:List Bool,DVs H (a.map .bool) (a.map V.bl)
 | []=>by rw[map_nil,DVs]; rfl
 | x::a=>by
  rw[map_cons,DVs];exact⟨.bl x,a.map V.bl,rfl,by rw[DV],Zsb H a⟩
theorem neLB {l l':Addr} {a:List Bool} {H:Hp} {Q:VK} (h4:a.length=4) (h:H l=some (.lst (a.map V.bl))) (h':H l'=some (.lst (a.map V.bl))) (q:Q (.bl false) H):rNeA (.ref l) (.ref l') H Q:=by
 have hc:PyData.canLayAll0 (a.map .bool)=true∧PyData.depthAll (a.map .bool)≤60∧PyData.eqvAll (a.map .bool) (a.map .bool)=true:=by
  match a,h4 with
  | [x,y,z,u],_=>cases x <;> cases y <;> cases z <;> cases u <;> exact⟨rfl,by decide,by decide⟩
 refine .inr (.inl ⟨a.map .bool,a.map .bool,?_,?_,hc.1,hc.1,hc.2.1,?_⟩)
 ·rw[DV]; exact⟨l,_,rfl,h,Zsb H a⟩
 ·rw[DV]; exact⟨l',_,rfl,h',Zsb H a⟩
 ·rw[hc.2.2]; exact q
seal PE PA PS PSs
section
variable {P:Program} {w:World} {K:W.Frag} {mg:Str→Option Value} {base:Heap} {t:Ad} {n:Nat}
theorem ZxM {p:Addr} {x:Nat} {ns:List Nat} {H:Hp} {Q:VK} (h:H p=some (.tup (Zjq ns))) (k:Q (.bl (!decide (x∈ns))) H):ZpS K (.int (x:Int)) (.ref p) H Q:=by
 refine .inr ⟨p,Zjq ns,rfl,.inr (SqT.of h),rfl,?_,?_⟩
 ·rw[all_eq_true]
  intro v hv;obtain⟨z,_,rfl⟩:=mem_map.mp hv;rfl
 ·rw[Zpq]
  exact k
theorem ok_law (T:Txt K mg t):FnOk P w K mg base CX0 80 t.f_law t.d_law ["_law_script"] (spLaw K):=by
 refine T.F_law.ok ZeL (fun vs H Q E h=>?_) (fun cdv A outer s H vs Q E hr h=>?_)
 ·obtain⟨a,ns,rfl,_⟩:=h
  rfl
 obtain⟨sc,cs,rfl,hS,h63,hO,q⟩:=h;have ZaN:=ZoO (P:=P) (w:=w) (base:=base) T;have Zqf:=Zx7 (P:=P) (w:=w) (base:=base) T;have ZrP:=ZAQ (P:=P) (w:=w) (base:=base) T;have Zqh:=Zyb (P:=P) (w:=w) (base:=base) T;have ZjQ:=Zwg (P:=P) (w:=w) (base:=base) T;have ZrR:=ZAS (P:=P) (w:=w) (base:=base) T;have Zqg:=Zx9 (P:=P) (w:=w) (base:=base) T;have ZuR:=Zuz (P:=P) (w:=w) (base:=base) T;have ZhL:=ZkA (P:=P) (w:=w) (base:=base) T
 refine⟨_,(Zac (ss 1 ZeL.nd (Zah Zam Zad (Zah Zax (Za8 ZaN hr (Zaa (pv 0) (Zaa Zad Zab))) Zad)))
   (Zac (ss 2 ZeL.nd (Za8 Zqf hr (Zaa (pv 1) (Zaa (Za8 ZaN hr (Zaa (pv 0) (Zaa Zad Zab))) Zab))))
   (Zac (ss 3 ZeL.nd (Za8 ZrP hr (Zaa (pv 0) (Zaa (pv 2) Zab))))
   (Zac (ss 4 ZeL.nd (Zah Zax (Za8 ZaN hr (Zaa (pv 0) (Zaa Zad Zab))) Zad))
   (Zac (ss 5 ZeL.nd (Za8 ZaN hr (Zaa (pv 0) (Zaa Zad Zab))))
   (Zac (ss 6 ZeL.nd (Za8 Zqh hr (Zaa (pv 2) (Zaa (pv 4) (Zaa (Zah Zay (Za8 ZaN hr (Zaa (pv 0) (Zaa Zad Zab))) Zad) (Zaa (pv 5) Zab))))))
   (Zac (ss 7 ZeL.nd Zad)
   (Zac (ZaP (Zal Zfw (pv 4) (Zjc (Zaa Zad (Zaa Zad (Zaa Zad Zab)))) (by with_unfolding_all rfl))
   (Zae (ss 7 ZeL.nd (Zah Zam Zad (Zah Zax (Zah Zay (Za8 ZaN hr (Zaa (pv 0) (Zaa Zad Zab))) Zad) (Zaw ZaE rfl T.B.len ZbV (Zaa (pv 3) Zab))))))
   Zap)
   (Zac (ZA7 8 ZeL.nd (sc:=Zaj Zor) (N:=["_law_script","_law_many","_law_names_here","_law_good_here","_law_way","_law_cell","_law_wrong_here","_law_place","_law_lines","_law_behind","_law_spoilt","_law_due","_law_found","_law_k"]) (ns:=["_law_cell"]) (ix:=[5]) rfl rfl (by decide +kernel) rfl (Zfz (pv 3)) (fun _ _ _ _=>Zwx) (fun _ _ _ _=>(Za8 ZjQ hr (Zaa (pv 0) (Zaa (Zah Zam (pv 1) (Zaw (Zt2 (K:=K) rfl) rfl T.B.len ZbV (Zaa (pv 0) Zab))) Zab)))))
   (Zac (ss 9 ZeL.nd (Zbp Zc8 (pv 8) (ZbK (Zah Zam (pv 7) (ZcH Zqz rfl T.B.int ZyS (Zaa (Znx (ZaF hr.units) (pv 7) Zad (Zat _)) Zab)))) Zce))
   (Zac (ss 10 ZeL.nd (Zah Zam (Zah Zam (Zbp Zc8 (pv 8) Zce (ZbK (pv 7))) (Zaq (Zaa (Za8 ZjQ hr (Zaa (pv 6) (Zaa (pv 5) Zab))) Zab))) (pv 9)))
   (Zac (ZaP (PW.pt (ZgI (Zal (ZaF hr.units) (pv 4) Zad (Zat _)) (Zgg (Zal Zrk (Zah Zax (pv 5) Zad) Zad (Zat _)))))
   (Zae (ZoV (Zah Zam Zai (Za1 ZaA Zai (Zah Zax (Zah Zay (pv 5) Zad) Zad) (fun _ _=>rfl))) (ZoU (pv 10) (pv 7) ZiM)))
   Zap)
   (Zac (ZaP (Zal (ZaF hr.units) (Zah Zax (Za8 ZaN hr (Zaa (pv 0) (Zaa Zad Zab))) Zad) Zad (Zat _))
   (Zae (Za2 (ZcX F.plainAttrs_list F.slot_list_append F.type_list_append ZaU (pv 10) (Zaa (Za1 ZaA (Zaq (Zaa Zai (Zaa Zai (Zaa Zai (Zaa Zai Zab))))) (Zah Zax (Zah Zay (pv 5) Zad) Zad) (fun _ _=>rfl)) Zab))))
   Zap)
   (Zac (ZaP (PW.pt (ZgI (Zal (ZaF hr.units) (pv 4) Zad (Zat _)) (Zgg (Zal (ZaF hr.units) (Zah Zax (pv 5) Zad) Zad (Zat _)))))
   (Zae (ss 10 ZeL.nd (Zaq Zab)))
   Zap)
   (Zac (ss 11 ZeL.nd Zad)
   (Zac (ZaP (Zal Zrk (pv 4) Zad (Zat _))
   (Zae (ss 11 ZeL.nd (Zah Zam Zad (ZcH Zqz rfl T.B.int ZyS (Zaa (Znx Zrk (pv 4) Zad (Zat _)) Zab)))))
   Zap)
   (Zac (ZaP (Zal (ZkB hr.units) (Za8 ZrR hr (Zaa (pv 10) Zab)) (Zaq (Zaa (Znx (ZaF hr.units) (pv 11) Zad (Zat _)) (Zaa (Znx (ZaF hr.units) (pv 11) Zad (Zat _)) (Zaa (Znx (ZaF hr.units) (pv 11) Zad (Zat _)) (Zaa Zli Zab))))) (Zat _))
   (Zae (Zas Zli))
   Zap)
   (Zac (ss 12 ZeL.nd (Za8 ZuR hr (Zaa (ZC8 ZhL hr (Zaa (ZcH ZkS rfl T.B.list Zpa (Zaa (pv 8) Zab)) Zab)) Zab)))
   (Zac (ZaP (PW.pt (Zoq (Zww (ZdR (Zaw Ztb rfl T.B.isinstance Za3 (Zaa (pv 12) (Zaa (ZsP (v:=.ty "list") rfl T.B.list Zpa rfl) Zab))) (fun _=>rfl))) (Zjd (Zal (ZkB hr.units) (Zaw ZaE rfl T.B.len ZbV (Zaa (pv 12) Zab)) (Zaw ZaE rfl T.B.len ZbV (Zaa (pv 3) Zab)) (Zat _)))))
   (Zae (Zas Zli))
   Zap)
   (Zac (ZcI PassesOwn.never rfl (ZeI rfl T.B.range (Zaa (Zaw ZaE rfl T.B.len ZbV (Zaa (pv 3) Zab)) Zab)) (sg 13 ZeL.nd)
   (Zae (ZaP (PW.pt (Zoq (Zww (ZdR (Zaw Ztb rfl T.B.isinstance Za3 (Zaa (Za1 ZaA (pv 12) (pv 13) (fun _ _=>rfl)) (Zaa (ZsP (v:=.ty "str") rfl T.B.str ZBP rfl) Zab))) (fun _=>rfl))) (Zjd (Zal (ZkB hr.units) (Za1 ZaA (pv 12) (pv 13) (fun _ _=>rfl)) (Za8 Zqg hr (Zaa (Za1 ZaA (pv 3) (pv 13) (fun _ _=>rfl)) Zab)) (Zat _)))))
   (Zae (Zas Zli))
   Zap)))
   (Zae (Zas Zli)))))))))))))))))))))),?_⟩
 walk_at "rd0";refine⟨sc,cs,0,rfl,hS,?_⟩;obtain⟨m,hm,hm1,hm6⟩ : ∃m:Nat,1+cell cs 0 % 6=(m:Int)∧1≤m∧m≤6:=⟨(1+cell cs 0 % 6).toNat,by omega,by omega,by omega⟩;walk_at "";rw[hm];walk_at "";refine⟨sc,cs,1,rfl,hS,?_⟩;walk_at "";refine⟨m,_,rfl,hm6,fun nl ns H1 s1 n1 e1 hl1 hn1 hd1=>?_⟩;have Nm:NmA ns:=⟨hn1,hd1,by omega,by omega⟩;subst hl1;clear hn1 hd1 hm n1;walk_at "";refine⟨sc,nl,cs,ns,rfl,s1.seq hS,e1,hm1,hm6,fun ll ps fs bs us H2 GG ok=>?_⟩;have hS2:=(s1.trans GG.sm).seq hS;have e2:=GG.sm _ _ e1;have el2:=GG.el;have wl2:=GG.wl;have gw:=ZAb Nm ok;have hgl:=Zau wl2
 have hgl0:(Zfq ns (Zcc fs bs us)).length≤13∧1≤(Zfq ns (Zcc fs bs us)).length:=by
  have a1:=ok.lf;have a2:=ok.lb;have a3:=ok.lu;rw[Zj7];omega
 clear GG;clear hO s1 hS e1;walk_at "";refine⟨sc,cs,2,rfl,hS2,?_⟩;obtain⟨wy,hwy,hwy13⟩:=Zbi (n:=14) (cell cs 2) (by omega);have hwy:cell cs 2 % 14=(wy:Int):=hwy;walk_at "";rw[hwy];walk_at "";refine⟨sc,cs,3,rfl,hS2,?_⟩;generalize cell cs 3=c;walk_at "";refine⟨sc,cs,2,rfl,hS2,?_⟩;walk_at "";refine⟨nl,_,_,_,ns,rfl,e2,Nm,by omega,by omega,fun wl ws H3 s3 e3 hwx hwl hW=>?_⟩;have hS3:=s3.seq hS2;have el3:=s3 _ _ el2;have wl3:WL ll H3 ps (Zfq ns (Zcc fs bs us)):=Zan (fun _ _ z=>⟨z.1,s3 _ _ z.2⟩) wl2;clear wl2 el2 hS2 e2 hwy s3;walk_at "rs";refine ZqM ?_;walk_at "rs";refine Zhx (fun σ H'=>∃pl:Nat,Same H3 H'∧pl≤(Zfq ns (Zcc fs bs us)).length∧((((wy:Int)=3∨(wy:Int)=4∨(wy:Int)=8)∧pl=0)∨(¬((wy:Int)=3∨(wy:Int)=4∨(wy:Int)=8)∧1≤pl))∧σ=[some (.ref sc),some (.int (ns.length:Int)),some (.ref nl),some (.ref ll),some (.int (wy:Int)),some (.int c),some (.ref wl),some (.int (pl:Int)),none,none,none,none,none,none]) ?_ ?_
 rotate_left
 ·intro Kn hK
  walk_at "";refine Zoc (Nat.le_of_ble_eq_true rfl) fun tp H4 s4 n4 e4=>?_;refine ZxM (ns:=[3,4,8]) e4 ?_;walk_at ""
  cases hd:decide (wy∈[3,4,8]) with
  | true=>
   refine Za7 rfl ?_;walk_at "";have:=of_decide_eq_true hd;simp only [mem_cons,not_mem_nil,or_false]at this;exact hK _ _ ⟨0,s4,by omega,.inl ⟨by omega,rfl⟩,rfl⟩
  | false=>
   refine Zbn rfl ?_;have:=of_decide_eq_false hd;simp only [mem_cons,not_mem_nil,or_false]at this;have el4:=s4 _ _ el3;walk_at "";refine⟨sc,cs,4,rfl,s4.seq hS3,?_⟩;walk_at "";rw[length_map,hgl];obtain⟨y,hy,hym⟩:=Zbi (n:=(Zfq ns (Zcc fs bs us)).length) (cell cs 4 / 2) (by omega)
   (try refine i_rI (by omega) ?_)
   rw[hy];walk_at "";exact hK _ _ ⟨1+y,s4,by omega,.inr ⟨by omega,by omega⟩,by rw[show((1+y:Nat):Int)=1+(y:Int) by omega]⟩
 rintro σ H4 ⟨pl,s4,hpl,hpw,rfl⟩;have hS4:=s4.seq hS3;have el4:=s4 _ _ el3;have wl4:WL ll H4 ps (Zfq ns (Zcc fs bs us)):=Zan (fun _ _ z=>⟨z.1,s4 _ _ z.2⟩) wl3;have e4:=s4 _ _ e3;clear wl3 el3 hS3 e3 s4;walk_at "";refine .inl ⟨ll,_,rfl,SqL.of el4,?_⟩;refine Zvb (fun i ys=>∃zs,ys=zs.map V.str∧Paired LnW zs ((Zfq ns (Zcc fs bs us)).take i)) (ZBA (SqL.of el4)) (by rw[length_map]; omega) ⟨[],rfl,.nil⟩ ?_ ?_
 ·rintro i x ys acc H' hx s' ha ea ⟨zs,rfl,pz⟩ hyl R kk
  obtain⟨p,rfl,hp⟩:=Zgc hx;obtain⟨vs,hgi,_,hpe⟩:=Zbj wl4 hp;have hpe':=s' _ _ hpe;obtain⟨x1,x2,x3⟩:=gw vs (mem_of_getElem? hgi);simp only [subS,map_cons,map_nil];walk_at "";refine kk true H' (Same.refl _) (fun z=>by cases z) fun _ R2 k2=>?_;walk_at "";refine⟨p,vs,_,rfl,hpe',x1,by omega,fun y hal hyl hyw=>?_⟩;refine k2 _ _ (Same.refl _) ⟨zs++[y],by rw[map_append]; rfl,?_⟩;rw[Zbh hgi];exact ZaX pz (.cons ⟨Zs8 hal,hyl,all_eq_true.mpr hal,hyw,x3⟩ .nil)
 rintro la ys H5 nla s5 ela ⟨zs,rfl,pz⟩;rw[length_map,hgl,take_length]at pz;have hzl:=Zau pz
 have hza:∀z∈zs,Asc z:=fun z hz=>by
  obtain⟨b,hb⟩:=ZiJ pz z hz;exact hb.1
 have hS5:=s5.seq hS4;have el5:=s5 _ _ el4;have wl5:WL ll H5 ps (Zfq ns (Zcc fs bs us)):=Zan (fun _ _ z=>⟨z.1,s5 _ _ z.2⟩) wl4;have e5:=s5 _ _ e4;clear wl4 el4 hS4 e4 s5 nla;walk_at ""
 obtain⟨d,hd,hd1,hd0⟩ : ∃d:Nat,((pl:Int)+if decide ((pl:Int)=0)=true then 1 else 0)=(d:Int)∧d≤zs.length∧pl≤d:=by
  by_cases h:(pl:Int)=0
  ·exact⟨1,by rw[decide_eq_true h,if_pos rfl]; omega,by omega,by omega⟩
  ·exact⟨pl,by rw[decide_eq_false h,if_neg Bool.false_ne_true]; omega,by omega,Nat.le_refl _⟩
 rw[hd];refine ZgD (SqL.of ela) (ZBS hd1) fun lb H6 s6 n6 e6=>?_;have ela6:=s6 _ _ ela;walk_at "";refine ZgD (SqL.of ela6) (ZBT (by omega)) fun lc H7 s7 n7 e7=>?_;walk_at "";refine⟨wl,ws,_,rfl,(s6.trans s7) _ _ e5,hwx,by omega,fun x hal hxl hxw=>?_⟩;have hBX:=ZBN (ns:=ns) (by omega) (by omega) hW hwx hwl hal hxl hxw;have hxa:Asc x:=Zs8 hal;walk_at "";refine ZaD (by simp) fun ld H8 s8 n8 e8=>?_;walk_at "";have e8:H8 ld=some (.lst ([x].map V.str)):=e8;refine Zcs (s8 _ _ e7) e8 (by simp only [length_map,length_take,length_singleton]; omega) fun le H9 s9 n9 e9=>?_;walk_at "";have e69:=(s7.trans (s8.trans s9)) _ _ e6;refine Zcs e9 e69 (by simp only [length_append,length_map,length_take,length_drop,length_singleton]; omega) fun sp H10 s10 n10 e10=>?_;have w9:=s6.trans (s7.trans (s8.trans s9));have e11:∃r:List Str,H10 sp=some (.lst ((zs.take pl++x::r).map V.str))∧r.length≤13∧∀z∈r,Asc z:=⟨zs.drop d,by rw[e10]; simp,by rw[length_drop]; omega,fun z hz=>hza z (List.mem_of_mem_drop hz)⟩;have hS9:=w9.seq hS5;have el9:=w9 _ _ el5;have wl9:WL ll H9 ps (Zfq ns (Zcc fs bs us)):=Zan (fun _ _ z=>⟨z.1,w9 _ _ z.2⟩) wl5;have ela9:=w9 _ _ ela;clear hd hd1 hd0 e9 e69 e8 e7 e6 ela6 s6 s7 s8 s9 w9 wl5 el5 hS5 ela e5 n6 n7 n8 n9 hal hxl hxw hW hwx hwl;clear e10;walk_at "rs";refine Zhx (fun σ H'=>(∃(x:Str) (r:List Str),H' sp=some (.lst ((zs.take pl++x::r).map V.str))∧r.length≤13∧(∀z∈x::r,Asc z)∧BadX ns (wy:Int) x)∧Same H9 H'∧σ=[some (.ref sc),some (.int (ns.length:Int)),some (.ref nl),some (.ref ll),some (.int (wy:Int)),some (.int c),some (.ref wl),some (.int (pl:Int)),some (.ref la),some (.ref lb),some (.ref sp),none,none,none]) ?_ ?_
 rotate_left
 ·intro Kn hK
  obtain⟨r,e10,hr,hra⟩:=e11;have old:Kn [some (.ref sc),some (.int (ns.length:Int)),some (.ref nl),some (.ref ll),some (.int (wy:Int)),some (.int c),some (.ref wl),some (.int (pl:Int)),some (.ref la),some (.ref lb),some (.ref sp),none,none,none] H10:=hK _ _ ⟨⟨x,r,e10,hr,fun z hz=>(mem_cons.mp hz).elim (fun e=>by rw[e]; exact hxa) (hra z),hBX⟩,s10,rfl⟩;walk_at "";refine ZbN (fun h0=>?_) (fun h0=>?_)
  ·walk_at ""
   refine ZbN (fun h1=>?_) (fun h1=>?_)
   ·obtain⟨y,hy,hym⟩:=Zbi (n:=7) (c / 3) (by omega)
    have hy:c / 3 % 7=(y:Int):=hy
    obtain⟨d,hd,hda⟩ : ∃d,(Str.cps "A1-;.\n\t").toList[y]?=some d∧NoWs ("start yes"++⟨#[d]⟩):=by
     match y,hym with
     | 0,_=>exact⟨65,rfl,ZhM (by decide),by decide,.inl (by decide)⟩
     | 1,_=>exact⟨49,rfl,ZhM (by decide),by decide,.inl (by decide)⟩
     | 2,_=>exact⟨45,rfl,ZhM (by decide),by decide,.inl (by decide)⟩
     | 3,_=>exact⟨59,rfl,ZhM (by decide),by decide,.inl (by decide)⟩
     | 4,_=>exact⟨46,rfl,ZhM (by decide),by decide,.inl (by decide)⟩
     | 5,_=>exact⟨10,rfl,ZhM (by decide),by decide,.inl (by decide)⟩
     | 6,_=>exact⟨9,rfl,ZhM (by decide),by decide,.inl (by decide)⟩
    walk_at "";rw[hy];refine Zss (by decide) (ZhN hd) ?_;refine ZdP (ZaQ (by show 9+1≤_; omega)) ?_;walk_at "";refine Zuh e10 (by rw[length_map,length_append,length_cons,length_take]; omega) fun H11 b11 e11=>?_;refine hK _ _ ⟨⟨_,r,?_,hr,fun z hz=>(mem_cons.mp hz).elim (fun e=>by rw[e]; exact hda.1) (hra z),?_⟩,b11.same n10 s10,rfl⟩
    ·rw[e11]
     have hl:((zs.take pl).map V.str).length=pl:=by rw[length_map,length_take]; omega
     rw[map_append,List.set_append_right _ _ (by omega),hl,Nat.sub_self];simp
    ·refine⟨fun h=>by omega,fun _=>?_⟩
     rw[show bdOf (wy:Int)=.line from if_pos (by omega)];exact .ln hda
   ·walk_at ""
    exact old
  ·walk_at ""
   exact old
 clear e11 hBX hxa s10;rintro σ H11 ⟨⟨x,r,e11,hr,hra,hBX⟩,s11,rfl⟩;walk_at "rs";refine Zhx (fun σ H'=>(∃(x:Str) (r:List Str),H' sp=some (.lst ((zs.take pl++x::r).map V.str))∧r.length≤14∧(∀z∈x::r,Asc z)∧BadX ns (wy:Int) x)∧Same H9 H'∧σ=[some (.ref sc),some (.int (ns.length:Int)),some (.ref nl),some (.ref ll),some (.int (wy:Int)),some (.int c),some (.ref wl),some (.int (pl:Int)),some (.ref la),some (.ref lb),some (.ref sp),none,none,none]) ?_ ?_
 rotate_left
 ·intro Kn hK
  walk_at "";refine⟨sc,cs,4,rfl,s11.seq hS9,?_⟩;walk_at "";refine ZbN (fun h0=>?_) (fun h0=>?_)
  ·obtain⟨y,hy,hym⟩:=Zbi (n:=4) (c / 21) (by omega)
   have hy:c / 21 % 4=(y:Int):=hy
   obtain⟨z,hz,hza'⟩ : ∃z:Str,([V.str "then",V.str "start",V.str "move yes then is is yes",V.str "lamps and"]:List V)[y]?=some (.str z)∧Asc z:=by
    match y,hym with
    | 0,_=>exact⟨"then",rfl,ZhM (by decide)⟩
    | 1,_=>exact⟨"start",rfl,ZhM (by decide)⟩
    | 2,_=>exact⟨"move yes then is is yes",rfl,ZhM (by decide)⟩
    | 3,_=>exact⟨"lamps and",rfl,ZhM (by decide)⟩
   walk_at "";refine⟨tyL e11,?_⟩;walk_at "";refine ZaD (by simp) fun l12 H12 s12 n12 e12=>?_;walk_at "";rw[hy];refine ZaO (j:=y) e12 (v:=.str z) hz ?_;walk_at "";refine ZaZ (s12 _ _ e11) (by rw[length_map,length_append,length_cons,length_take]; omega) fun H13 b13 e13=>?_;walk_at "";refine hK _ _ ⟨⟨x,r++[z],by rw[e13]; simp,by rw[length_append,length_singleton]; omega,fun y' hy'=>?_,hBX⟩,b13.same n10 (s11.trans s12),rfl⟩
   rcases mem_cons.mp hy' with rfl | hy'
   ·exact hra _ mem_cons_self
   rcases mem_append.mp hy' with hy' | hy'
   ·exact hra _ (mem_cons_of_mem _ hy')
   ·rw[mem_singleton.mp hy']; exact hza'
  ·walk_at ""
   exact hK _ _ ⟨⟨x,r,e11,by omega,hra,hBX⟩,s11,rfl⟩
 clear e11 hBX hra s11 hr r x;rintro σ H11 ⟨⟨x,r,e11,hrl,hra,hBX⟩,s11,rfl⟩;walk_at "rs";refine Zhx (fun σ H'=>∃sp' zs',H' sp'=some (.lst (zs'.map V.str))∧(∀z∈zs',Asc z)∧zs'.length≤1000∧Zxl zs' (bdOf (wy:Int))∧Same H9 H'∧σ=[some (.ref sc),some (.int (ns.length:Int)),some (.ref nl),some (.ref ll),some (.int (wy:Int)),some (.int c),some (.ref wl),some (.int (pl:Int)),some (.ref la),some (.ref lb),some (.ref sp'),none,none,none]) ?_ ?_
 rotate_left
 ·intro Kn hK
  have old:Kn [some (.ref sc),some (.int (ns.length:Int)),some (.ref nl),some (.ref ll),some (.int (wy:Int)),some (.int c),some (.ref wl),some (.int (pl:Int)),some (.ref la),some (.ref lb),some (.ref sp),none,none,none] H11:=hK _ _ ⟨sp,_,e11,fun z hz=>(mem_append.mp hz).elim (fun h=>hza z (mem_of_mem_take h)) (hra z),by rw[length_append,length_cons,length_take]; omega,ZC3 Nm ok pz hpw hBX r,s11,rfl⟩;walk_at "";refine ZbN (fun h0=>?_) (fun h0=>?_)
  ·walk_at ""
   refine ZbN (fun h1=>?_) (fun h1=>?_)
   ·walk_at ""
    refine ZaD (by simp) fun l12 H12 s12 n12 e12=>?_;walk_at "";refine hK _ _ ⟨l12,[],e12,(fun z hz=>by cases hz),by simp,.inl ⟨rfl,if_pos (by omega)⟩,s11.trans s12,rfl⟩
   ·walk_at ""
    exact old
  ·walk_at ""
   exact old
 clear e11 hBX hra s11 hrl r x hpw;rintro σ H11 ⟨sp',zs',e11,ha',hl',hO',s11,rfl⟩;walk_at "rs";refine ZqM ?_;walk_at "rs";refine Zhx (fun σ H'=>∃du:Int,H11=H'∧du=(if wy≤7 then 0 else if wy≤10 then 1 else 2)∧σ=[some (.ref sc),some (.int (ns.length:Int)),some (.ref nl),some (.ref ll),some (.int (wy:Int)),some (.int c),some (.ref wl),some (.int (pl:Int)),some (.ref la),some (.ref lb),some (.ref sp'),some (.int du),none,none]) ?_ ?_
 rotate_left
 ·intro Kn hK
  walk_at "";refine ZbN (fun h0=>?_) (fun h0=>?_)
  ·walk_at ""
   by_cases h1:(10:Int) < wy
   ·rw[decide_eq_true h1,if_pos rfl]
    exact hK _ _ ⟨2,rfl,by rw[if_neg (by omega),if_neg (by omega)],rfl⟩
   ·rw[decide_eq_false h1,if_neg Bool.false_ne_true]
    exact hK _ _ ⟨1,rfl,by rw[if_neg (by omega),if_pos (by omega)],rfl⟩
  ·walk_at ""
   exact hK _ _ ⟨0,rfl,by rw[if_pos (by omega)],rfl⟩
 rintro σ H12 ⟨du,rfl,hdu,rfl⟩
 have hdk:[decide (du=0),decide (du=1),decide (du=2),true]=[isK .line (bdOf (wy:Int)),isK .name (bdOf (wy:Int)),isK .form (bdOf (wy:Int)),true]:=by
  unfold bdOf
  by_cases h1:wy≤7
  ·rw[hdu,if_pos h1,if_pos (by omega)]; rfl
  ·by_cases h2:wy≤10
   ·rw[hdu,if_neg h1,if_pos h2,if_neg (by omega),if_pos (by omega)]; rfl
   ·rw[hdu,if_neg h1,if_neg h2,if_neg (by omega),if_neg (by omega)]; rfl
 clear hdu;walk_at "";refine⟨sp',zs',_,rfl,e11,ha',hl',hO',fun ta H12 s12 n12 e12=>?_⟩;walk_at "";refine ZaD (by simp) fun tb H13 s13 n13 e13=>?_;have e13:H13 tb=some (.lst ([decide (du=0),decide (du=1),decide (du=2),true].map V.bl)):=e13;rw[hdk]at e13;refine neLB (a:=[isK .line (bdOf (wy:Int)),isK .name (bdOf (wy:Int)),isK .form (bdOf (wy:Int)),true]) rfl (s13 _ _ e12) e13 ?_;walk_at "";refine Za7 rfl ?_;have w13:=s11.trans (s12.trans s13);have el13:=w13 _ _ el9;have ela13:=w13 _ _ ela9;have wl13:WL ll H13 ps (Zfq ns (Zcc fs bs us)):=Zan (fun _ _ z=>⟨z.1,w13 _ _ z.2⟩) wl9;clear e11 ha' hl' hO' s11 s12 s13 w13 wl9 ela9 el9 hS9 e12 e13 n12 n13 hdk;walk_at "";refine ZvJ (.inl (SqL.of ela13)) fun l14 H14 s14 n14 e14=>?_
 obtain⟨z0,gs,ezs,h0,hgs⟩ : ∃z0 gs,zs=z0::gs∧LnW z0 ("lamps"::ns)∧Paired LnW gs ((Zcc fs bs us).map (enW ns)):=by
  unfold Zfq at pz
  cases pz with
  | cons a b=>exact⟨_,_,rfl,a,b⟩
 obtain⟨q1,q2,q3⟩:=Zt7 fs bs us
 have k1:∀f∈fs.map (fmT id),okS t ns f:=fun f hf=>by obtain⟨g,hg,rfl⟩:=mem_map.mp hf; exact Ztz (ok.f g hg)
 have k2:∀f∈bs.map (fmT id),okS t ns f:=fun f hf=>by obtain⟨g,hg,rfl⟩:=mem_map.mp hf; exact Ztz (ok.b g hg)
 have k3:∀v∈us.map fm17,okM t ns v:=fun f hf=>by obtain⟨g,hg,rfl⟩:=mem_map.mp hf; exact ZCT (ok.u g hg).1 (ok.u g hg).2
 have k8:∀z∈ns,z.length≤8:=fun z hz=>(Nm.nm z hz).1.2.2
 have kz:(fs.map (fmT id)).length+(bs.map (fmT id)).length+(us.map fm17).length≤1000:=by
  have a1:=ok.lf;have a2:=ok.lb;have a3:=ok.lu;rw[length_map,length_map,length_map];omega
 have hL:=ZxX Nm ok;have pr:Paired (fun z e=>∃ws,LnW z ws∧EntW ns ws e) gs ((Zcc fs bs us).map entF):=Znv (fun e he z hz=>⟨_,hz,ZBX Nm (ok.e e he)⟩) hgs;walk_at "";refine⟨l14,zs,rfl,e14,by omega,.inr (.inr ⟨z0,ns,gs,_,[],by rw[ezs,append_nil],h0,Nm.lm,fun y hy=>Zho (Nm.wd y hy),pr,fun _ mc H15 s15 hM=>?_,fun h=>absurd rfl h⟩)⟩;rw[q1,q2,q3]at hM;clear q1 q2 q3 h0 hgs ezs pr pz;walk_at "";refine⟨mc,ns,_,_,_,rfl,hM,Nm.n6,k8,k1,k2,k3,kz,fun l16 H16 s16 n16 e16=>?_⟩;generalize Ztq ns (fs.map (fmT id)) (bs.map (fmT id)) (us.map fm17)=L at e16 hL;generalize Zfq ns (Zcc fs bs us)=gds at hgl hgl0 hL gw wl13 hzl hpl
 have hLl:L.length=gds.length:=by
  have:=congrArg List.length hL;rw[length_map,length_map]at this;exact this
 have w16:=s14.trans (s15.trans s16);have el16:=w16 _ _ el13;have wl16:WL ll H16 ps gds:=Zan (fun _ _ z=>⟨z.1,w16 _ _ z.2⟩) wl13;clear wl13 el13 ela13 k1 k2 k3 k8 kz hM s14 s15 s16 w16 e14 n14 n16;walk_at ""
 dsimp only
 refine Za7 rfl ?_;walk_at "";rw[length_map,length_map,hLl,hgl];refine Za7 (by rw[decide_eq_true rfl]; rfl) ?_;walk_at "";rw[length_map,hgl];refine⟨_,rfl,by omega,by omega,?_⟩;rw[Int.toNat_natCast];refine Zni (n:=gds.length) (fun i σ H'=>∃v13,H16=H'∧σ=[some (.ref sc),some (.int (ns.length:Int)),some (.ref nl),some (.ref ll),some (.int (wy:Int)),some (.int c),some (.ref wl),some (.int (pl:Int)),some (.ref la),some (.ref lb),some (.ref sp'),some (.int du),some (.ref l16),v13]) ⟨_,rfl,rfl⟩ ?_ ?_
 ·rintro i σ H17 hi ⟨v13,rfl,rfl⟩
  obtain⟨z,hz⟩ : ∃z,L[i]?=some z:=⟨_,List.getElem?_eq_getElem (by omega)⟩;obtain⟨vs,hvs⟩ : ∃vs,gds[i]?=some vs:=⟨_,List.getElem?_eq_getElem hi⟩;obtain⟨p,hp,_,hpe⟩:=ZiI wl16 hvs;obtain⟨x1,x2,x3⟩:=gw vs (mem_of_getElem? hvs)
  have hcl:cl1 z=gsep f3 (vs.map cl1):=by
   have:=congrArg (·[i]?) hL;simp only [getElem?_map,hz,hvs,Option.map_some]at this;exact Option.some.inj this
  walk_at "";refine ZaO (j:=i) e16 (v:=.str z) (by rw[getElem?_map,hz]; rfl) ?_;walk_at ""
  dsimp only
  refine Za7 rfl ?_;walk_at "";refine ZaO (j:=i) e16 (v:=.str z) (by rw[getElem?_map,hz]; rfl) ?_;walk_at "";refine ZaO (j:=i) el16 (v:=.ref p) (by rw[getElem?_map,hp]; rfl) ?_;walk_at "";refine⟨p,vs,rfl,hpe,x1,by omega,fun x hx=>?_⟩;have hzx:z=x:=ZnK (hcl.trans hx.symm);subst hzx;walk_at "";refine Za7 (by rw[decide_eq_true rfl]; rfl) ?_;walk_at "";exact⟨_,rfl,rfl⟩
 rintro σ H17 ⟨v13,rfl,rfl⟩;walk_at "";exact q _
end
unseal PE PA PS PSs
end LW
structure PySem.W.Fast : Prop where
 (tw8848074964782799059 tw6741173036252743168 tw1198428128470637652 tw14075365156289509936 tw2406592736839198453 tw14347285109731517321 tw11529913257104855004 tw10570706957692931047 tw2625710168569706048 tw2104079530351728092 tw7518074524165283340 tw2915902670724499714 tw9919228425270581076 tw11235281629235971928 tw6505645115741583937 tw15884805532038974313 tw12246575934614789321 tw962471246473997786 tw5311874916688652189 tw12689315183297142113 tw3747875090416588631 tw15298592444951931203 tw14096944741221787475 tw4252825173448808589 tw3508861847160657714 tw16331947654257960321 tw9416907629900161201 tw5759439124239358246 tw12615851689698135620 tw17135151066735244280 tw17205749457680573272 tw13204622960436231925 tw8561676934855258912 tw13965092771988827500 tw658975963252701886 tw1256727510393917917 tw11298046897445697106 tw3044330681395465574 tw16097440184424767669 tw14597869760313560377 tw10216493758914059377 tw11960457299242776621 tw16490587804468392948 tw11059452503100894043 tw4838094422362053196 tw3292428918724972167 tw1993454615910067024 tw13254005008861760953 tw13503143238668747154 tw11749429660236510676 tw13530452389795793726 tw14056533037885965976 tw6927008786582636565 tw10392720271792587044 tw13108289975827575251 tw15213765152998726712 tw14858577463810292359 tw8729109981701165565 tw3731923593394997456 tw815582854815360589 tw18015577479867662499 tw11113272692718521872 tw5172327108992582914 tw4200361698276482282 tw1081242331014992851 tw12886482743980450897 tw14445981372990123413 tw12036215610831166212 tw4023310536867480054 tw5845285671877726310 tw12171366697927124604 tw13212296697875544037 tw7321363507670794007 tw16268895872255274850 tw659048831265709853 tw15624019757422021971 tw2393921118664908521 tw3552321220432628190 tw8380081688670278096 tw2889795540230311507 tw1028932771621334796 tw7871745576463824081 tw15845122095527967235 tw2031520598283575006 tw1639847733641848504 tw5157822269012623849 tw1492489102016766308 tw4666465219591269981 tw17944033735605054245 tw14905298623604874643 tw6776019460778770636 tw15103786870594191884 tw4496452148863961134 tw14964251951565348228 tw5202815236835587853 tw12236650583803438867 tw4808138908109989985 tw14692686659905775997 tw11630625612291344004 tw712014474487933152 tw11309627179040225945 tw13297621450888393398 tw17190507714099805548 tw9713163402856340923 tw9389689239423234418 tw10948968254728668307 tw9190399473016414080 tw1449333768518852124 tw8520796603186281989 tw16295612066455341159 tw8457715566332471100 tw17029575932302673390 tw8946133885350736843 tw14190618992763302308 tw6535740059955370740 tw16593462920504212768 tw4772534616418816711 tw3093428397600371414 tw16635204682411830840 tw1012136726634037037 tw5566564052835826700 tw8499710803369120645 tw3521557966335796637 tw18125686230163696451 tw5837461655312026941 tw6349745940769542856 tw17443302598660481107 tw10210668767367856589 tw11915685894887040514 tw3908822472302571150 tw1139808201457569093 tw2659709057300759959 tw5844563308719991552 tw7282683239253423734 tw7782140102600717069 tw13679168293899152288 tw16462674106935707077 tw305211115401080846 tw3634531570097154034 tw6198079220538279170 tw14742600218961623021 tw5370810620372020159 tw15637779624260098296 tw1025744200352095007 tw4557067802410055495 tw11042022290468457760 tw5326494981501845656 tw3828618169800431560 tw11318216341565698300 tw8679328437612205416 tw17795571562347910341 tw11117347953481924405 tw14702372701597621096 tw12822357056429086285 tw15309832100766035298 tw1504264367071657550 tw11590819488138978525 tw9709726195456997089 tw8485216720357586686 tw5373794312535877021 tw48578052733533464 tw11240602934124214540 tw5158407214107227651 tw8751675520802702398 tw4334157716463368097 tw17556081711672215498 tw16891999086897289205 tw8487524518055928139 tw16595391894151877777 tw1086322253801324007 tw17588283195841012850 tw544978238646292195 tw14743821903720324214 tw12519171915160663995 tw11714183218788960639 tw6184268084275839091 tw4966032870936129577 tw14301468731614561056 tw2483187857761074907 tw723945812435298521 tw12607335502479148082 tw12927707299329508790 tw5449119594440183570 tw13414452197836002441 tw11241471989650491833 tw6376783926924561308 tw8446048817649632570 tw4812842947845024121 tw10756085621244989676 tw14374798381181301123 tw15402130873933160975 tw1695863060735657230 tw8553929201660789902 tw8711039712311711819 tw8448616034445584112 tw5649896445580239583 tw17235262951101681923 tw17201747002368528424 tw13077715108973897659 tw3263324562854044888 tw6375650599680224409 tw5860543251537923645 tw5975615083024270745 tw3501857092781153007 tw9789867187730804407 tw6301956330676943278 tw5457006038873673270 tw739694312948734190 tw15170014762078821995 tw10785089541456043732 tw16554431808855445357 tw8279500431500458992 tw4330341108768911121 tw691114887577529431 tw4826810984494132803 tw10830911426495202642 tw13142638265168989754 tw5670067031707156235 tw5040528709452011765 tw9132551749226463715 tw722430346247201703 tw9078923610111012682 tw15112188141963912429 tw14272305532024278314 tw267062882625665028 tw1240599824714396058 tw5422899833025639801 tw3838378413871986559 tw10602377080874668967 tw17119731780231313216 tw11645133763056421152 tw4520621766209131438 tw18258066711205211092 tw15238147539149592959 tw9753204088054445654 tw1487825410233709087 tw2343006431664879822 tw12234257700931193321 tw16452535537284220261 tw7419653312145385157 tw3111933405427438450 tw6110133256440523804 tw2279789061997357351 tw6517620491799172663 tw3177015851572066500 tw15255139295012750140 tw12815651037689109420 tw16154321932585086514 tw15815681575492636645 tw6084966478417426826 tw8925735522051377606 tw8432805874909956124 tw406094771198710310 tw8144737445186583694 tw6402469108785899160 tw1088030527293617029 tw14110025286624737139 tw13496803530895916761 tw14601969360915417317 tw4862624207352807554 tw3811682222271137294 tw3677954607932734469 tw6486450376569074950 tw18104874410772945562 tw11359248711744266858 tw8857697588558240101 tw9153005989181076918 tw4375912374623368519 tw16206889450145479594 tw7219305707218070460 tw2302409380369277636 tw938255208514802288 tw17545648049637585594 tw11420203157013119660 tw7081965973086433319 tw11257754205416463980 tw1036484928143749015 tw3474265785042423941 tw4457189479811094255 tw12084994007828185587 tw16641253025528411596 tw14281435690520742528 tw15647657867121352697 tw16932827559886308883 tw4636885671124056212 tw12295750342729705715 tw2808665323612729271 tw2498944914700451385 tw4395224863466303396 tw11423018459440534448 tw4394339270465838494 tw7331313972865317969 tw301703569383546427 tw9417924188891749964 tw13753297183453220037 tw18005561617594319247 tw5371241976851617243 tw4607591757813393458 tw1732668077830697914 tw4663716291957891444 tw406883188531210890 tw15661537174527114399 tw14901068670490011488 tw4516191318806012537 tw7322199787156702358 tw6378004597967411774 tw14303600688374987560 tw10193980591589697052 tw8343078123674779597 tw4418778616662843877 tw8180132518062789861 tw2624802258527729919 tw9596768311040918267 tw3829454321350385723 tw3384594135020314821 tw10549502905244288145 tw4196116629431639531 tw6994955458261417232 tw5532585003700578414 tw2404355760401044124 tw17272674487025810372 tw455345860912477732 tw13504987873601224275 tw4610539492135978868 tw1013118137142225811 tw287916303957948975 tw10185374483387700 tw9430776836897668466 tw15306515207769391837 tw16702991835305009574 tw8065631179931733568 tw17919115689984032121 tw5095434647941141431 tw9101003628299337988 tw12254488940009697998 tw7942440684960073593 tw7480002050069936919 tw4513691761063045169 tw6212000394204273040 tw11661463958381855696 tw9250891165906475157 tw8464106052053566620 tw235169446150447303 tw16780705800168896958 tw4647330761671611411 tw5599753274306568012 tw16984218948791841684 tw5771720210741083129 tw2763612507730023591 tw8765054497313120788 tw11603239786018941652 tw12549754342465387731 tw12402879726451450006 tw10527822659955897823 tw13776047311121670071 tw17873909322520846477 tw5464914848420120885 tw17011744855811014284 tw11828856943738290693 tw13963895010755227238 tw9771165687430305108 tw13396511083896820329 tw9298856208924270843 tw11984102095008099076 tw17211525895568718168 tw18035114410665756550 tw6315751063172459619 tw16084390767913158485 tw9996445140257523246 tw4091797076665806749 tw17545857370631408859 tw3999383270967140444 tw1415544081365878556 tw16792963127143695469 tw11659826467929774628 tw1983713583003904810 tw5220307702795629273 tw17863748603298327751 tw17926157920698556234 tw16298438281620883324 tw14315156082193326769 tw9886193143404987215 tw7405396761055360251 tw15468629717063772856 tw7337263272397773960 tw8822282304437517877 tw17652119864548909641 tw170487118386330801 tw14759851963707014499 tw3937100512349821518 tw6031203647202300627 tw5883589648125467336 tw14654416952113792257 tw18291928846626562442 tw3501705128451642884 tw16670558420829965305 tw18035756588295383339 tw330525648592298003 tw11478078779478884577 tw12338868679188876980 tw2567569021557976208 tw2998713063059962002 tw12385080945900712002 tw14138190806357079047 tw1069641663069054141 tw6434879341852192419 tw13341594705231499545 tw988167856795001136 tw17044687695551402365 tw14105487535465633701 tw8645166041629305514 tw13081846103990256974 tw13482248309646304607 tw17848207261548628738 tw7395952542816634173 tw17888791669974256027 tw4031096397202377637 tw11797805978862119869 tw17721043784940916016 tw4646232043613156460 tw13217582146956497848 tw9686223888212304741 tw16838689758448606269 tw4611505417989478957 tw7046499760080169301 tw9611172905176693234 tw4370255685470023302 tw14960139782282390437 tw4546801589092698648 tw18172085002098142711 tw15913590847490688720 tw12871106277637397608 tw18313210219231278210 tw17488087673717662562 tw9583654967124253794 tw7203936899800867603 tw14377172108284153061 tw7909277088389436393 tw17629065464391388705 tw17007338214176299365 tw3206938076405554369 tw1426655725662599943 tw11143877505632516784 tw9779477286897879750 tw17565083302769829958 tw10509667825387367954 tw3928496866865563316 tw5941757873171475540 tw3870920365104269826 tw2645135142292442659 tw4421878761367727189 tw13260447056626002178 tw11651829324414853854 tw3395814231849657930 tw1581712050229679406 tw426726536335878009 tw13022411659989660144 tw6002260410316973698 tw12245014298952731221 tw3998116389047510508 tw9568066631074248449 tw3526785033904900731 tw1293922122656108840 tw6600797501854333269 tw5615153049372155182 tw3270391802738666179 tw13393190812483643670 tw15913005459005140011 tw4603314040772819919 tw11553610309681570688 tw17079065457825124864 tw5764334784769445408 tw5579539675570471528 tw16590420397660893576 tw5774290454580088373 tw5025364591732182172 tw17632752562614924047 tw17814795402094495845 tw3292141754291260333 tw6194276582745660318 tw16478550675801109313 tw14296292507766210347 tw8424947906485977386 tw8395352382256973984 tw498430378597897738 tw9460595358469068933 tw4235508370721604971 tw17239629030712762558 tw14672430949553515708 tw1230715658763724301 tw6013049072767502647 tw13209954502291067056 tw15325773837784224948 tw16920596108809321264 tw17337989261956706176 tw13712176298631942386 tw16722733256162318022 tw424042109622107532 tw10860477310355870834 tw13650267728600595264 tw11272722618866479597 tw11674588416877333296 tw5191920381901902124 tw10532551176639877615 tw7442716381668957598 tw2533535515314306869 tw15709671721512779600 tw1358959392788260029 tw6061097528415242804 tw17143438687826818564 tw5266363593188575334 tw5929383924741492670 tw9206999904302501649 tw361441709539037136 tw7386886558448402436 tw10261272371215019083 tw5022663096540790243 tw7570532310027840281 tw16912866216926337149 tw2421077987019688088 tw2218365345245121613 tw3376608888747166142 tw4694063833218779034 tw16832153865074377522 tw9896264212738065435 tw17383314693223688724 tw12038074879026339434 tw13374701657068976241 tw2859853414992451467 tw14074583550359895922 tw598367525595640803 tw17436920001037331425 tw9136998125206659955 tw93343140699103341 tw13879102459562167368 tw6604692342719909817 tw6936105397580905885 tw6455776791694379815 tw13060318898413535012 tw13592278130240126147 tw8796505233318866626 tw10908664493900697315 tw1952537340488048943 tw15511147104912997177 tw13112956959847235686 tw1062064938596434794 tw12214616729480374663 tw11244382296056174569 tw4291676391012451949 tw15959207623599659437 tw18003241234313867486 tw7410841467119502532 tw4791055637487104728 tw13556705204510795302 tw6062475816210804048 tw11569435182947348390 tw3879108438311255450 tw2845183731385254173 tw500678322452616828 tw5548841326189173673 tw11826502512517272660 tw3631299679724271274 tw15574774275008131015 tw10524113028994374923 tw1786892404315703806 tw12265483074234774556 tw3793909115743990017 tw11731075525260918703 tw8896411628095185597 tw15406122552037614545 tw14517669867873955682 tw14733250396584755224 tw6792096302049535302 tw9714022606142444002 tw9829800432874824633 tw11602870041574340459 tw6817824062683561958 tw11872025353323918927 tw1364873597535574112 tw7198179515790107719 tw11411712473612958243 tw10849109127643268982 tw7324609801610738226 tw7290673220937173914 tw3358361308028848024 tw795371798495765121 tw4541820494006989335 tw9968951214074426773 tw8457061937241754983 tw13381187102755614430 tw4426212957847685912 tw16839941327545680496 tw13659202623802173412 tw1016554025491428330 tw11053603213684858146 tw15390339051755237082 tw14688614956708329675 tw5331549964158159535 tw746040431546578042 tw17320328934526476187 tw11803897026881570341 tw4909424902399043643 tw1777708252003563401 tw14822766152927727649 tw16879931726058638893 tw10270653797981341950 tw750739614000119326 tw1118993288693504977 tw15286004999687187809 tw3584868012764809015 tw13534909515776135007 tw9857063430147754826 tw6316697223419958116 tw15752212293412384211 tw737079768095136404 tw10396479854770320047 tw1837530233349550723 tw5865343191724529838 tw4969691215953849474 tw10789241724444474246 tw11081278916830834640 tw15057298669695025879 tw16964229424625133792 tw9692487856555909869 tw7850367174724420617 tw15237060392348031506 tw8333057147108040362 tw2258711131061645936 tw4517647451073099304 tw9483399061687942237 tw12626008792578103944 tw1808428966243793792 tw4000562562097753057 tw7389864677550521022 tw11953370999148117634 tw9817963981393106436 tw13930115772326279344 tw11901452726834821091 tw15422445415576983289 tw17544496010168123006 tw15421396002515473605 tw6460616314344821784 tw4102180881627817575 tw12361337430580311507 tw1466069239948094118 tw6494973605602473531 tw968703165554369603 tw428494766239974257 tw9005639063481638384 tw12322909419778708882 tw138847075891387659 tw15996540967954945599 tw5176351825237632913 tw4008267292779618508 tw8784289942928167877 tw13447690903647343136 tw4005937656811745568 tw11183933812805531753 tw878814223518612810 tw14075373043063245174 tw11266201456859381290 tw10375949040344507254 tw1723816512544592226 tw13746858830399084034 tw14978227763199629831 tw17688430998663232959 tw5200826633217813565 tw7559213442029035302 tw16924186581507751034 tw14205801753842423204 tw3287651494868431263 tw15583169844848406850 tw17290932610663122622 tw7310541296869927265 tw10943374777994651103 tw9174342933035757809 tw15474989564526041980 tw16092572181021070953 tw14107681493197128873 tw14079548241523608561 tw9813361949918314147 tw11995055099499324766 tw14423438780442551586 tw16384685700511523225 tw600446521313970483 tw41908782585576672 tw372673845053110993 tw17184628376994667605 tw15000752712237454592 tw10024497508728952443 tw2896517159079162824 tw1499549422157479525 tw3408484236717780274 tw4392420624663766861 tw8036010850408424462 tw5656603214996463355 tw15204384252339404817 tw842407034170519750 tw3808363483313288977 tw854392385219505249 tw6556842635622306709 tw14071985061700546284 tw11420226922628932512 tw10338939999349823092 tw9196181865621332958 tw8615807223362425348 tw8855167196807114165 tw13454380276113725132 tw8014082742365206703 tw5283688017325604456 tw133185663153544050 tw2786179510164679090 tw16371735298285440192 tw18296020541729301432 tw6631111612812439910 tw7662988595373722130 tw2243643920420586391 tw10176469265877466180 tw17788748270225283197 tw15588435734686133181 tw14845434088736507244 tw14968359139877268835 tw10707687337118447836 tw12401432043052291898 tw3060330051156628247 tw3255201927347632239 tw8706597374183677034 tw9083712549117063755 tw13616786599118657871 tw5778772442347020446 tw9767550938520375205 tw1604812888973552053 tw9857980517917586021 tw17737806794406710850 tw6168812998110997017 tw17248594695683109784 tw12192391765919993620 tw5588978202218697895 tw15202635295997226781 tw8775250753154468111 tw6983776955076006926 tw16038137524826616524 tw8532592046026385282 tw13929688288834489329 tw47493652068412719 tw1551903421858439840 tw6588350092612742117 tw2936453948949206247 tw13552180425904759029 tw11646975679078242039 tw14754394085761708842 tw17717307338977029744 tw12283042485393327034 tw498600912789517711 tw2835643206822470831 tw12747741514481578287 tw13524606071762931922 tw1955152377358340429 tw12852457686912667454 tw5718265982645096966 tw16996443753846434596 tw1389978307117075822 tw5921591510017729056 tw874350277759032371 tw5355365700195498767 tw8782304664483906939 tw17175749170776043350 tw17257515074506699789 tw12485697845413544227 tw1647117012302154770 tw11185188642606117699 tw1592373640997434212 tw16159454194898940810 tw16806208817779166807 tw16425615061501341876 tw2019656620963618940 tw2368724133414339398 tw18334622878114822091 tw14473163172681732679 tw17453347328142782219 tw9318556838636981819 tw545153089989669670 tw15539025265552713061 tw5426724774709248327 tw167529817347193971 tw2399589144798157980 tw12781142106779978676 tw11977039242350940131 tw7674583481657061809 tw5517282597869166044 tw14099217329608232226 tw1680833793829357017 tw16235569821848141776 tw16046472963784410408 tw4902617901623200981 tw9162205662158155920 tw11951774074603441227 tw7324666760006290914 tw5908407181124015334 tw12902380182040019361 tw3720818819317452112 tw14490217702245383581 tw7582424977891990325 tw16656312213946917522 tw8593456155717629983 tw3987149571495631744 tw1166912770981675531 tw12557693415091855884 tw8706127643659335033 tw9357861343930031586 tw14836264898003962764 tw6106896676607665687 tw2938538879182762531 tw6290799958853785399 tw10117287968570062447 tw13110756267838494202 tw11284985935185177341 tw16255791226540205586 tw1183099974432551290 tw8389816614605358716 tw7516571213518135774 tw9326019850853606128 tw4537391805473574619 tw14016246404240298859 tw269597368093494341 tw17396282252664579378 tw13372888129526059865 tw2911287117660535336 tw14515535862818320027 tw210942554853199702 tw15215790796274758737 tw13370564585263710331 tw11514092948277098891 tw4663385190396555235 tw13817986422975469857 tw15642359629758242931 tw11590787669763236659 tw17624360151755300031 tw11661015307937537870 tw12779132540152757090 tw4706085896776036327 tw15066188615024061230 tw2917459378873462213 tw8870586614572967096 tw4970773889466053393 tw17046299044459896172 tw2281237005099463626 tw490653881971496485 tw1911224212605226769 tw14956800348809871065 tw623773291463760623 tw7737741506833042876 tw370798003516547051 tw15389131158881043983 tw11971946948246928763:True)
namespace L2
open PySem PySem.W
def liveO (o:Obj):Option Obj:=match o with
 | ⟨_,_,.freed,_⟩=>none
 | o=>some o
noncomputable def pick (l:List Obj):Nat→List Nat→List (Option Obj):=@List.rec Obj (fun _=>Nat→List Nat→List (Option Obj)) (fun _ as=>@List.rec Nat (fun _=>List (Option Obj)) [] (fun _ _ r=>none::r) as) (fun o _ ih i as=>@List.rec Nat (fun _=>List (Option Obj)) [] (fun a r _=>@Bool.rec (fun _=>List (Option Obj)) (ih (Nat.succ i) (a::r)) (liveO o::ih (Nat.succ i) r) (Nat.beq i a)) as) l
theorem pick_ok {h:Heap}:∀(l:List Obj) (i:Nat) (as:List Nat) (vs:List Obj),h.objs.toList.drop i=l→pick l i as=vs.map some→as.map h.get?=vs.map some:=by
 intro l;induction l with
 | nil=>
  intro i as vs _ e;cases as with
  | nil=>exact e
  | cons a r=>cases vs with
   | nil=>cases e
   | cons v vs=>injection e with e _; cases e
 | cons o l ih=>
  intro i as vs hd e
  have h1:h.objs[i]?=some o:=by rw[←Array.getElem?_toList,←List.head?_drop,hd]; rfl
  have h2:h.objs.toList.drop (i+1)=l:=by rw[←List.tail_drop,hd]; rfl
  cases as with
  | nil=>exact e
  | cons a r=>
   replace e:(@Bool.rec (fun _=>List (Option Obj)) (pick l (i+1) (a::r)) (liveO o::pick l (i+1) r) (Nat.beq i a))=vs.map some:=e
   cases hb:Nat.beq i a with
   | false=>rw[hb]at e; exact ih _ _ _ h2 e
   | true=>
    rw[hb]at e;cases Nat.eq_of_beq_eq_true hb;cases vs with
    | nil=>cases e
    | cons v vs=>
     injection e with e1 e2;rw[List.map_cons,List.map_cons,ih _ _ _ h2 e2,←e1];congr 1;unfold Heap.get?;rw[h1];cases o with
     | mk c d b s=>cases b <;> rfl
noncomputable def pHook (K:Params→Frag) (as:List Addr) (e:∀P,as=(K P).map (·.1)):Hook:=⟨List (Option Obj),fun s=>pick s.heap.objs.toList 0 as,fun w=>(K w.params).map fun p=>some p.2,InK K,fun w s y=>InK.of e w s (by
  have z:(K w.params).map (fun p=>some p.2)=((K w.params).map (·.2)).map some:=by rw[List.map_map]; rfl
  rw[z]at y ⊢;exact pick_ok _ 0 as _ rfl y),InK.keeps⟩
end L2
open PySem PySem.W PyProof.Rows
local macro_rules | `(tactic| o_head ($f $K $a $e)) => `(tactic| o_head L2.pHook $K $a $e)
set_option maxRecDepth 100000 in
set_option maxHeartbeats 0 in
theorem PySem.Challenge.cw_evernever_k19_lines_refused_holds : PySem.Challenge.rw_evernever_k19_lines_refused.Holds := by
 w_on; o_law; k_head; (case hw=>w_witness2)
 k_fill
 refine L2.walk_ofK (l:=PySem.Challenge.rw_evernever_k19_lines_refused) (n:=63) (k:=80) (x:="_law_script") (CX:=L2.CX0) (sp:=LW.spLaw) rfl (by decide) rfl ⟨rfl,by decide,by decide⟩ (fun w h Y=>Y) ?F ?S ?C
 case F=>
  intro w mg fa h KX G hmg
  have T:∃t,LW.Txt (L2.KOf KX) mg t:=by
   dsimp only [L2.KOf]
   refine' LW.txt_mk KX G ?_ ?_ ?_ ?_ ?_ ?_ ?_ ?_ ?_ ?_ ?_ ?_ ?_ ?_ ?_ ?_ ?_ ?_ ?_ ?_ ?_ ?_ ?_ ?_ ?_ ?_ ?_ ?_ ?_ ?_ ?_ ?_ ?_ ?_ ?_ ?_ ?_ ?_ ?_ ?_ ?_ ?_ ?_ ?_ ?_ ?_ ?_ ?_ ?_ ?_ ?_ ?_ ?_ ?_ ?_ ?_ ?_ ?_ ?_ ?_ ?_ ?_ ?_ ?_ ?_ ?_ ?_ ?_ ?_ ?_ ?_ ?_ ?_ ?_ ?_ ?_ ?_ ?_ ?_ ?_ ?_ ?_ ?_ ?_ ?_ ?_ ?_ ?_ ?_ ?_ ?_ ?_ ?_ ?_ ?Zip ?_ ?_ ?_ ?_ ?_ ?_ ?_ ?_ ?_ ?_ ?_ ?_ ?_ ?_ ?_ ?_ ?_ ?ZnU ?_ ?_ ?_ ?_ ?_ ?_ ?_ ?_ ?_ ?_ ?_ ?_ ?_ ?_ ?_ ?_ ?_ ?ZnV ?_ ?_ ?_ ?_ ?_ ?_ ?_ ?_ ?_ ?_ ?_ ?_ ?_ ?_ ?_ ?_ ?_ ?_ ?ne_ ?_ ?_ ?_ ?_ ?_ ?_ ?_ ?_ ?_ ?_ ?_ ?_ ?_ ?_ ?_ ?_ ?_ ?_ ?_ ?_ ?_ ?_ ?_ ?_ ?_ ?_ ?_ ?_ (LW.dmk ?_ ?_ ?_) (LW.dmk ?_ ?_ ?_) (LW.dmk ?_ ?_ ?_) (LW.dmk ?_ ?_ ?_) (LW.dmk ?_ ?_ ?_) (LW.dmk ?_ ?_ ?_) (LW.dmk ?_ ?_ ?_) (LW.dmk ?_ ?_ ?_) (LW.dmk ?_ ?_ ?_) (LW.dmk ?_ ?_ ?_) (LW.dmk ?_ ?_ ?_) (LW.dmk ?_ ?_ ?_) (LW.dmk ?_ ?_ ?_) (LW.dmk ?_ ?_ ?_) (LW.dmk ?_ ?_ ?_) (LW.dmk ?_ ?_ ?_) (LW.dmk ?_ ?_ ?_) (LW.dmk ?_ ?_ ?_) (LW.dmk ?_ ?_ ?_) (LW.dmk ?_ ?_ ?_) (LW.dmk ?_ ?_ ?_) (LW.dmk ?_ ?_ ?_) (LW.dmk ?_ ?_ ?_) (LW.dmk ?_ ?_ ?_) (LW.dmk ?_ ?_ ?_) (LW.dmk ?_ ?_ ?_) (LW.dmk ?_ ?_ ?_) (LW.dmk ?_ ?_ ?_) (LW.dmk ?_ ?_ ?_) (LW.dmk ?_ ?_ ?_) (LW.dmk ?_ ?_ ?_) (LW.dmk ?_ ?_ ?_) (LW.dmk ?_ ?_ ?_) (LW.dmk ?_ ?_ ?_) (LW.dmk ?_ ?_ ?_) (LW.dmk ?_ ?_ ?_) (LW.dmk ?_ ?_ ?_) (LW.dmk ?_ ?_ ?_) (LW.dmk ?_ ?_ ?_) ?_ ?_ ?_ (LW.dmk ?_ ?_ ?_) ?_ (LW.dmk ?_ ?_ ?_) ?_ (LW.dmk ?_ ?_ ?_) ?_ (LW.dmk ?_ ?_ ?_) ?_ (LW.dmk ?_ ?_ ?_) ?_ (LW.dmk ?_ ?_ ?_) ?_ (LW.dmk ?_ ?_ ?_) ?_ (LW.dmk ?_ ?_ ?_) ?_ (LW.dmk ?_ ?_ ?_) ?_ (LW.dmk ?_ ?_ ?_) ?_ (LW.dmk ?_ ?_ ?_) ?_ (LW.dmk ?_ ?_ ?_) ?_ (LW.dmk ?_ ?_ ?_) ?_ (LW.dmk ?_ ?_ ?_) ?_ (LW.dmk ?_ ?_ ?_) ?_ (LW.dmk ?_ ?_ ?_) ?_ (LW.dmk ?_ ?_ ?_) ?_ (LW.dmk ?_ ?_ ?_) ?_ (LW.dmk ?_ ?_ ?_) ?_ (LW.dmk ?_ ?_ ?_) ?_ (LW.dmk ?_ ?_ ?_) ?_ (LW.dmk ?_ ?_ ?_) ?_ ?_ ?_ ?_ ?_ ?_ ?_ ?_ ?_ ?_ ?_ ?_ ?_ ?_ ?_ ?_ ?_ ?_ ?_ ?_ ?_ ?_ ?_ ?_ ?_ ?_ ?_ ?_ ?_ ?_ ?_ ?_ ?_ ?_ ?_ ?_ ?_ ?_ ?_ ?_ ?_ ?_ ?_ ?_ ?_ ?_ ?_ ?_ ?_ ?_ ?_ ?_ ?_ ?_ ?_ ?_ ?_ ?_ ?_ ?_ ?_ ?_ ?_ ?_ ?_ ?_ ?_ ?_ ?_ ?_ ?_ ?_ ?nd_ ?_ ?_ ?_ ?_ ?_ ?_ ?_ ?_ ?_ ?_ ?_ ?_ ?_ ?_ ?_ ?_ ?_ ?_ ?_ ?_ ?_ ?_ ?_ ?_ ?_ ?_ ?_ ?_ ?_ ?_ ?_
   all_goals (try k_is)
   (case Zip=>k_exc)
   (case ZnU=>k_exc)
   (case ZnV=>k_exc)
   (case ne_=>decide)
   (case nd_=>decide)
  obtain⟨t,T⟩:=T;have e0:=hmg.symm.trans T.m_law
  cases e0
  exact⟨_,T.bl,fun base _ _=>LW.ok_law T⟩
 case S=>exact fun K H a ns hl hO hS=>⟨a,ns,rfl,hS,hl,hO,fun _=>rfl⟩
 case C=>exact fun _ _ _ _ z=>z
#print axioms PySem.Challenge.cw_evernever_k19_lines_refused_holds
