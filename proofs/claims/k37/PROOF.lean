import PyProof.Rows.All
import Wide.All
import OpenK.AllK
import Wide.FinOn
import Lean
import PyProof.EqAt
import PyProof.EqKinds
import PyProof.TupleCall
import PyProof.P3Eq
import PyProof.NeKinds
import KE.KRevIter
import PyProof.EnumMake
import PyProof.EnumFor
import PyProof.Draws
import PyProof.ZipIter
import PyProof.ConsumeWalk
import PyProof.RaisesMany
import PyProof.ExcClass3
import PyProof.ExcBaseAll.ValueError
import PyProof.RulesAs
import PyProof.ExcAttrAll.ValueError
import PyProof.ReprStr
import PyProof.PassesOwn
import PyProof.ToksMono
import PyProof.DictItems
import PyProof.MeetsIn
import PyProof.StrCalls6
import PyProof.StrCalls2
import PyProof.StrBlock2
import PyProof.StrLawsWords
import PyProof.StrLawsTight
import PyProof.StrLawsChain
import PyProof.ListRange
import PyProof.NsDelKeeps
import PyProof.P3In
import PyProof.DictWalks
import KE.KDictList
import PyProof.Rows.StrInSeq3
import PySem.Challenge.RW_evernever_k37_end_of_a_hunt
set_option Elab.async false
set_option linter.all false
set_option maxRecDepth 100000
set_option maxHeartbeats 4000000
namespace L2
open PySem PySem.Spec PyProof.Rows
abbrev Key:=Sum Int Str
def Znb:Key→Value→Bool
 | .inl k,v=>Value.isInt k v
 | .inr x,v=>Value.isStrOf x v
def keyH (w:World):Key→Int
 | .inl k=>hashInt k
 | .inr x=>hashStr w x
theorem ZbD:∀{k:Key} {v:Value},Znb k v=true→(∃i t,k=Sum.inl i∧v=Value.int i t)∨(∃x t,k=Sum.inr x∧v=Value.str x t)
 | .inl i,v,h=>by
  obtain⟨t,e⟩:=Value.isInt_shape (k:=i) (v:=v) h;exact .inl ⟨i,t,rfl,e⟩
 | .inr x,v,h=>by
  obtain⟨t,e⟩:=Value.isStrOf_shape (x:=x) (v:=v) h;exact .inr ⟨x,t,rfl,e⟩
theorem ZoL (i:Int) (t:Tok):Znb (.inl i) (.int i t)=true:=by simp[Znb,Value.isInt]
theorem ZoM (x:Str) (t:Tok):Znb (.inr x) (.str x t)=true:=by simp[Znb,Value.isStrOf]
theorem ZuD (a b:Int):decide ((Sum.inl a:Key)=Sum.inl b)=(a == b):=by
 by_cases e:a=b
 ·subst e; simp
 ·have h : ¬(Sum.inl a:Key)=Sum.inl b:=fun q=>e (Sum.inl.inj q)
  rw[decide_eq_false h];exact(beq_eq_false_iff_ne.mpr e).symm
theorem ZuG (a b:Str):decide ((Sum.inr a:Key)=Sum.inr b)=decide (a=b):=by
 by_cases e:a=b
 ·subst e; simp
 ·have h : ¬(Sum.inr a:Key)=Sum.inr b:=fun q=>e (Sum.inr.inj q)
  rw[decide_eq_false h,decide_eq_false e]
theorem ZuE (a:Int) (b:Str):decide ((Sum.inl a:Key)=Sum.inr b)=false:=decide_eq_false (fun q=>nomatch q)
theorem ZuF (a:Str) (b:Int):decide ((Sum.inr a:Key)=Sum.inl b)=false:=decide_eq_false (fun q=>nomatch q)
def Zb2 (prog:Program) (w:World):PySem.KeyKind prog w Key where
 is:=Znb
 hash:=keyH w
 inj:=fun v a b ha hb=>by
  rcases ZbD ha with⟨i,t,rfl,rfl⟩ | ⟨x,t,rfl,rfl⟩
  ·rcases ZbD hb with⟨j,u,rfl,e⟩ | ⟨y,u,rfl,e⟩
   ·injection e with e1 _; rw[e1]
   ·exact nomatch e
  ·rcases ZbD hb with⟨j,u,rfl,e⟩ | ⟨y,u,rfl,e⟩
   ·exact nomatch e
   ·injection e with e1 _; rw[e1]
 byValue:=fun k v h=>by
  rcases ZbD h with⟨i,t,rfl,rfl⟩ | ⟨x,t,rfl,rfl⟩ <;> rfl
 pyHash:=fun hv h=>by
  rcases ZbD hv with⟨i,t,rfl,rfl⟩ | ⟨x,t,rfl,rfl⟩
  ·exact wpAny_pyHash_int h
  ·exact wpAny_pyHash_str h
 eqBool:=fun hu hv h=>by
  rcases ZbD hu with⟨i,t,rfl,rfl⟩ | ⟨x,t,rfl,rfl⟩
  ·rcases ZbD hv with⟨j,u,rfl,rfl⟩ | ⟨y,u,rfl,rfl⟩
   ·rw[ZuD]at h; exact wpAny_eqBool_int h
   ·rw[ZuE]at h; exact SeqAt.EqAt.int_str i t y u _ _ _ _ h
  ·rcases ZbD hv with⟨j,u,rfl,rfl⟩ | ⟨y,u,rfl,rfl⟩
   ·rw[ZuF]at h; exact SeqAt.EqAt.str_int x t j u _ _ _ _ h
   ·rw[ZuG]at h; exact wpAny_eqBool_str h
 «strs»:=fun k x t v h=>by
  rcases ZbD h with⟨i,u,rfl,e⟩ | ⟨y,u,rfl,e⟩
  ·exact nomatch e
  ·injection e with e1 _
   subst e1
   cases v <;> rfl
theorem Zlt (prog:Program) (w:World) (i:Int) (t:Tok):(Zb2 prog w).is (.inl i) (.int i t)=true:=ZoL i t
theorem Zlu (prog:Program) (w:World) (x:Str) (t:Tok):(Zb2 prog w).is (.inr x) (.str x t)=true:=ZoM x t
end L2
namespace L2
open PySem PySem.Spec PyProof.Rows
inductive V where
 | non | bl (b:Bool) | int (i:Int) | str (x:Str) | byt (b:Array UInt8) | flt (b:UInt64) | ref (a:Addr) | ty (n:String)
 deriving DecidableEq
def RelV:V→Value→Prop
 | .non,u=>u=Value.none
 | .bl b,u=>u=Value.bool b
 | .int i,u=>∃t,u=Value.int i t
 | .str x,u=>∃t,u=Value.str x t
 | .byt b,u=>∃t,u=Value.bytes b t
 | .flt b,u=>∃t,u=Value.float b t
 | .ref a,u=>u=Value.ref a
 | .ty n,u=>u=Value.type n
abbrev Vals:List V→List Value→Prop:=Paired RelV
theorem Vals.length {xs:List V} {us:List Value} (r:Vals xs us):xs.length=us.length:=Paired.length r
theorem Vals.get:∀{xs:List V} {us:List Value} {i:Nat} {x:V},Vals xs us→xs[i]?=some x→∃u,us[i]?=some u∧RelV x u
 | _,_,_,_,.nil,e=>by simp at e
 | _,_,0,_,.cons r _,e=>by simp at e; subst e; exact⟨_,rfl,r⟩
 | _,_,i+1,x,.cons _ t,e=>by
  obtain⟨u,h1,h2⟩:=Vals.get (i:=i) (x:=x) t (by simpa using e);exact⟨u,by simpa using h1,h2⟩
theorem Vals.set {x:V} {u:Value} (r:RelV x u):∀{xs:List V} {us:List Value} (i:Nat),Vals xs us→Vals (xs.set i x) (us.set i u)
 | _,_,_,.nil=>.nil
 | _,_,0,.cons _ t=>.cons r t
 | _,_,i+1,.cons q t=>.cons q (Vals.set r i t)
theorem Vals.append:∀{xs ys:List V} {us ws:List Value},Vals xs us→Vals ys ws→Vals (xs++ys) (us++ws)
 | _,_,_,_,.nil,s=>s
 | _,_,_,_,.cons r t,s=>.cons r (Vals.append t s)
theorem Vals.take:∀{xs:List V} {us:List Value} (n:Nat),Vals xs us→Vals (xs.take n) (us.take n)
 | _,_,0,_=>.nil
 | _,_,_+1,.nil=>.nil
 | _,_,n+1,.cons r t=>.cons r (Vals.take n t)
theorem Vals.drop:∀{xs:List V} {us:List Value} (n:Nat),Vals xs us→Vals (xs.drop n) (us.drop n)
 | _,_,0,r=>r
 | _,_,_+1,.nil=>.nil
 | _,_,n+1,.cons _ t=>Vals.drop n t
def RelO:Option V→Option Value→Prop
 | some v,some u=>RelV v u
 | none,none=>True
 | _,_=>False
def KV {κ:Type}:List (κ×V)→List (κ×Value)→Prop:=Paired fun(p:κ×V) (q:κ×Value)=>p.1=q.1∧RelV p.2 q.2
def kV:Key→V
 | .inl i=>.int i
 | .inr x=>.str x
inductive HO where
 | lst (xs:List V)
 | tup (xs:List V)
 | dK (kvs:List (Key×V)) | dT (kvs:List (List Key×V))
 | set (S:Int→Bool) (n:Nat)
 | ins (C dx:Addr) (fs:List (Str×V))
 | own (x:Addr)
 | xd (fs:List (Str×V))
 | met (f x:Addr)
 | rng (lo hi:Int)
 | frz (o:Obj) (u:HO)
 | tbl (ps:Array Value)
 | ext (φ:Heap→Prop)
abbrev Hp:=Addr→Option HO
def upd (H:Hp) (a:Addr) (o:HO):Hp:=fun b=>if b=a then some o else H b
theorem Zak {H:Hp} {a:Addr} {o:HO}:upd H a o a=some o:=by unfold upd; rw[if_pos rfl]
theorem Zal {H:Hp} {a b:Addr} {o:HO} (h:b≠a):upd H a o b=H b:=by unfold upd; rw[if_neg h]
theorem Zp4 {H:Hp} {a:Addr} {o u:HO}:upd (upd H a o) a u=upd H a u:=by
 funext b; unfold upd; split <;> rfl
theorem ZaK {H:Hp} {a b:Addr} {o u:HO} (h:H a=some o) (h':H b=some u) (d:o≠u):a≠b:=by
 intro e; subst e; rw[h]at h'; exact d (Option.some.inj h')
theorem Zai {H:Hp} {a b:Addr} {o:HO} (h:H a=some o) (h':H b=none):a≠b:=by
 intro e; subst e; rw[h]at h'; cases h'
section
variable (P:Program) (w:World)
def ZaT (H:Hp) (h:Heap) (a:Addr):HO→Prop
 | .lst xs=>xs.length≤sizeLine∧∃(its:List Value) (n:Nat),Vals xs its∧h.get? a=some { cls:=.type "list",data:=.seq its.toArray n }
 | .tup xs=>xs.length≤sizeLine∧∃its:List Value,Vals xs its∧IsTup h a its.toArray
 | .dK kvs=>kvs.length≤sizeLine∧(a == sysModules)=false∧∃vs,KV kvs vs∧h.DictOf (Zb2 P w) a vs
 | .dT kvs=>kvs.length≤sizeLine∧(a == sysModules)=false∧∃xs:List (List Key×Addr×Value),
   Paired (fun(p:List Key×V) (q:List Key×Addr×Value)=>p.1=q.1∧H q.2.1=some (.tup (p.1.map kV))∧RelV p.2 q.2.2) kvs xs∧
   ∃o es ep,h.get? a=some o∧o.ExactDict∧o.data=.dict es ep∧es.toList=xs.map (entryOfKey (tupleKind (Zb2 P w)))∧(xs.map (·.1)).Nodup
 | .set S n=>h.SetOf (intKind P w) a S n
 | .ins C dx fs=>H dx=some (.own a)∧fs.length≤1000∧dx≠a∧h.get? a=some (PySem.W.instObj C dx)∧
   ∃mA,h.Ns1 dx mA∧(∀f,RelO (fs.lookup f) (mA f))∧PySem.Within mA (fs.map (·.1))
 | .own _=>∃o,h.get? a=some o
 | .xd fs=>∃mA,h.Ns1 a mA∧∀f,RelO (fs.lookup f) (mA f)
 | .rng lo hi=>∃t u v,h.get? a=some { cls:=.type "range",data:=.fields #[.int lo t,.int hi u,.int 1 v] }
 | .frz o u=>h.get? a=some o∧ZaT H h a u
 | .tbl ps=>h.get? a=some { cls:=.none,data:=.fields ps }
 | .met f x=>h.get? a=some (PySem.W.methodObj (.ref f) (.ref x))
 | .ext φ=>φ h∧(∃o,h.get? a=some o)∧∀h1 h2:Heap,φ h1→(∀o,h1.get? a=some o→h2.get? a=some o)→φ h2
def HOk (H:Hp) (h:Heap):Prop:=∀a o,H a=some o→ZaT P w H h a o
end
section
variable {P:Program} {w:World} {H H':Hp} {h h':Heap} {a:Addr} {o:HO}
theorem ZaT.lt (x:ZaT P w H h a o):a < h.objs.size:=by
 cases o with
 | lst xs=>obtain⟨_,_,_,_,e⟩:=x; exact Heap.lt_size e
 | tup xs=>obtain⟨_,_,_,p⟩:=x; exact p.lt
 | dK kvs=>obtain⟨_,_,_,_,o,_,_,e,_⟩:=x; exact Heap.lt_size e
 | dT kvs=>obtain⟨_,_,_,_,o,_,_,e,_⟩:=x; exact Heap.lt_size e
 | set S n=>obtain⟨o,_,_,_,e,_⟩:=x; exact Heap.lt_size e
 | ins C dx fs=>obtain⟨_,_,_,e,_⟩:=x; exact Heap.lt_size e
 | own y=>obtain⟨_,e⟩:=x; exact Heap.lt_size e
 | xd fs=>obtain⟨_,⟨_,_,_,e,_⟩,_⟩:=x; exact Heap.lt_size e
 | rng lo hi=>obtain⟨_,_,_,e⟩:=x; exact Heap.lt_size e
 | frz ob u=>obtain⟨e,_⟩:=x; exact Heap.lt_size e
 | tbl ps=>exact Heap.lt_size (show h.get? a=some _ from x)
 | met f y=>exact Heap.lt_size (show h.get? a=some _ from x)
 | ext φ=>obtain⟨_,⟨_,e⟩,_⟩:=x; exact Heap.lt_size e
theorem Paired.mapP {α β:Type} {F G:α→β→Prop}:∀{l₁:List α} {l₂:List β},Paired F l₁ l₂→(∀a b,F a b→G a b)→Paired G l₁ l₂
 | _,_,.nil,_=>.nil
 | _,_,.cons r t,f=>.cons (f _ _ r) (Paired.mapP t f)
theorem ZaT.stay (x:ZaT P w H h a o) (k:∀b u,(b=a∨H b=some (.own a))→h.get? b=some u→h'.get? b=some u)
  (ho:∀b,H b=some (.own a)→H' b=some (.own a)) (ht:∀b xs,H b=some (.tup xs)→H' b=some (.tup xs)):ZaT P w H' h' a o:=by
 induction o with
 | lst xs=>obtain⟨z,its,n,r,e⟩:=x; exact⟨z,its,n,r,k _ _ (.inl rfl) e⟩
 | tup xs=>obtain⟨z,its,r,ob,e,c⟩:=x; exact⟨z,its,r,ob,k _ _ (.inl rfl) e,c⟩
 | dK kvs=>obtain⟨z,y,vs,r,ob,es,ep,e,c⟩:=x; exact⟨z,y,vs,r,ob,es,ep,k _ _ (.inl rfl) e,c⟩
 | dT kvs=>
  obtain⟨z,y,xs,r,ob,es,ep,e,c⟩:=x;exact⟨z,y,xs,Paired.mapP r fun p q z=>⟨z.1,ht _ _ z.2.1,z.2.2⟩,ob,es,ep,k _ _ (.inl rfl) e,c⟩
 | set S n=>obtain⟨ob,es,ep,t,e,c⟩:=x; exact⟨ob,es,ep,t,k _ _ (.inl rfl) e,c⟩
 | ins C dx fs=>
  obtain⟨d,z,ne,e,mA,⟨od,es,ep,e2,c⟩,r⟩:=x;exact⟨ho _ d,z,ne,k _ _ (.inl rfl) e,mA,⟨od,es,ep,k _ _ (.inr d) e2,c⟩,r⟩
 | own y=>obtain⟨ob,e⟩:=x; exact⟨ob,k _ _ (.inl rfl) e⟩
 | xd fs=>obtain⟨mA,⟨od,es,ep,e,c⟩,r⟩:=x; exact⟨mA,⟨od,es,ep,k _ _ (.inl rfl) e,c⟩,r⟩
 | rng lo hi=>obtain⟨t,u,v,e⟩:=x; exact⟨t,u,v,k _ _ (.inl rfl) e⟩
 | frz ob u ih=>obtain⟨e,q⟩:=x; exact⟨k _ _ (.inl rfl) e,ih q⟩
 | tbl ps=>
  have e:h.get? a=some { cls:=.none,data:=.fields ps }:=x;show h'.get? a=some { cls:=.none,data:=.fields ps };exact k a _ (.inl rfl) e
 | met f y=>
  have e:h.get? a=some (PySem.W.methodObj (.ref f) (.ref y)):=x;show h'.get? a=some (PySem.W.methodObj (.ref f) (.ref y));exact k a _ (.inl rfl) e
 | ext φ=>obtain⟨p,⟨o,e⟩,st⟩:=x; exact⟨st _ _ p fun o q=>k _ _ (.inl rfl) q,⟨o,k _ _ (.inl rfl) e⟩,st⟩
theorem HOk.lt (x:HOk P w H h) (e:H a=some o):a < h.objs.size:=(x a o e).lt
theorem HOk.fresh (x:HOk P w H h) (e:h.objs.size≤a):H a=none:=by
 cases q:H a with
 | none=>rfl
 | some u=>exact absurd (Nat.lt_of_lt_of_le (x.lt q) e) (Nat.lt_irrefl _)
theorem HOk.kept (x:HOk P w H h) (k:∀b u,h.get? b=some u→h'.get? b=some u):HOk P w H h':=fun a o e=>
 (x a o e).stay (fun b u _ q=>k b u q) (fun _ q=>q) fun _ _ q=>q
theorem HOk.laid (x:HOk P w H h) (k:∀b u,h.get? b=some u→h'.get? b=some u) (hp:h.objs.size≤a) (new:ZaT P w (upd H a o) h' a o):HOk P w (upd H a o) h':=fun b u e=>by
 have hn:=x.fresh hp
 by_cases hb:b=a
 ·subst hb; rw[Zak]at e; cases e; exact new
 ·rw[Zal hb]at e
  exact(x b u e).stay (fun c v _ q=>k c v q) (fun c q=>by rw[Zal (Zai q hn)]; exact q) fun c xs q=>by rw[Zal (Zai q hn)]; exact q
end
def Rd (H:Hp) (a:Addr) (u:HO):Prop:=H a=some u∨∃o,H a=some (.frz o u)
theorem Rd.ok {P:Program} {w:World} {H:Hp} {h:Heap} {a:Addr} {u:HO} (r:Rd H a u) (x:HOk P w H h):ZaT P w H h a u:=by
 rcases r with r | ⟨o,r⟩
 ·exact x a u r
 ·obtain⟨_,q⟩:=x a _ r
  exact q
def Mut:Option HO→Prop
 | some (.lst _)=>True
 | some (.dK _)=>True
 | some (.dT _)=>True
 | some (.set _ _)=>True
 | some (.ins _ _ _)=>True
 | some (.ext _)=>True
 | _=>False
section
variable {P:Program} {w:World} {H:Hp} {h h':Heap} {x e:Addr} {o':HO}
theorem HOk.write (ok:HOk P w H h) (mu:Mut (H x)) (he:e=x∨H e=some (.own x)) (k:∀b u,b≠e→h.get? b=some u→h'.get? b=some u) (heo:∃u,h'.get? e=some u)
  (new:ZaT P w (upd H x o') h' x o'):HOk P w (upd H x o') h':=fun b u q=>by
 have nown:∀c y,H c=some (.own y)→c≠x:=fun c y r z=>by subst z; rw[r]at mu; exact mu
 have ntup:∀c xs,H c=some (.tup xs)→c≠x:=fun c xs r z=>by subst z; rw[r]at mu; exact mu
 by_cases hb:b=x
 ·subst hb; rw[Zak]at q; cases q; exact new
 ·rw[Zal hb]at q
  by_cases hbe:b=e
  ·have q':H b=some (.own x):=by
    rcases he with z | z
    ·exact absurd (hbe.trans z) hb
    ·rw[hbe]; exact z
   rw[q]at q'; cases q';obtain⟨v,hv⟩:=heo;exact⟨v,by rw[hbe]; exact hv⟩
  ·refine(ok b u q).stay (fun c v hc r=>k c v ?_ r) (fun c r=>by rw[Zal (nown c b r)]; exact r) fun c xs r=>by rw[Zal (ntup c xs r)]; exact r
   rcases hc with rfl | hc
   ·exact hbe
   ·rintro rfl
    rcases he with z | z
    ·exact nown c b hc z
    ·rw[hc]at z; cases z; exact hb rfl
end
structure Un (fs ex:List Addr) (H H':Hp) (h h':Heap):Prop where
 keep:∀b o,h.get? b=some o→H b=none→b∉fs→b∉ex→h'.get? b=some o
 slot:∀b o,h.get? b=some o→H b=none→b∈fs→b∉ex→∃sl,h'.get? b=some { o with slots:=sl }
 free:∀b o,h.get? b=some o→H b=none→b∉ex→H' b=none
 there:∀b o,h.get? b=some o→b∉ex→∃o',h'.get? b=some o'
 tups:∀b xs,H b=some (.tup xs)→H' b=some (.tup xs)
 frzs:∀b o u,H b=some (.frz o u)→H' b=some (.frz o u)
 tbls:∀b ps,H b=some (.tbl ps)→∃more,H' b=some (.tbl (ps++more))
section
variable {fs fs' ex ex':List Addr} {H H1 H2:Hp} {h h1 h2 h':Heap} {a x e:Addr} {o:HO}
theorem Un.any (u:Un fs ex H H1 h h1) {b:Addr} {ob:Obj} (q:h.get? b=some ob) (n:H b=none) (hx:b∉ex):∃sl,h1.get? b=some { ob with slots:=sl }:=by
 by_cases hb:b∈fs
 ·exact u.slot b ob q n hb hx
 ·exact⟨ob.slots,u.keep b ob q n hb hx⟩
theorem Un.kept (k:∀b u,h.get? b=some u→h'.get? b=some u):Un fs ex H H h h':=
 ⟨fun b ob q _ _ _=>k b ob q,fun b ob q _ _ _=>⟨ob.slots,k b ob q⟩,fun _ _ _ n _=>n,fun b ob q _=>⟨ob,k b ob q⟩,fun _ _ q=>q,fun _ _ _ q=>q,fun _ ps q=>⟨#[],by rw[q]; simp⟩⟩
theorem Un.refl:Un fs ex H H h h:=Un.kept fun _ _ q=>q
theorem Un.laid (k:∀b u,h.get? b=some u→h'.get? b=some u) (hp:h.objs.size≤a) (hn:H a=none):Un fs ex H (upd H a o) h h' where
 keep:=fun b u q _ _ _=>k b u q
 slot:=fun b u q _ _ _=>⟨u.slots,k b u q⟩
 free:=fun b u q n _=>by rw[Zal (Nat.ne_of_lt (Nat.lt_of_lt_of_le (Heap.lt_size q) hp))]; exact n
 there:=fun b u q _=>⟨u,k b u q⟩
 tups:=fun b xs q=>by rw[Zal (Zai q hn)]; exact q
 frzs:=fun b u xs q=>by rw[Zal (Zai q hn)]; exact q
 tbls:=fun b ps q=>⟨#[],by rw[Zal (Zai q hn),q]; simp⟩
theorem Un.write (mu:Mut (H x)) (he:e=x∨H e=some (.own x)) (k:∀b u,b≠e→h.get? b=some u→h'.get? b=some u) (heo:∃u,h'.get? e=some u):Un fs ex H (upd H x o) h h':=by
 have hx:∀b,H b=none→b≠x:=fun b n z=>by subst z; rw[n]at mu; exact mu
 have hb:∀b,H b=none→b≠e:=fun b n z=>by
  subst z
  rcases he with r | r
  ·exact hx b n r
  ·rw[n]at r; cases r
 have hm:∀b u,H b=some u→¬Mut (some u)→b≠x:=fun b u q nm z=>by subst z; rw[q]at mu; exact nm mu
 refine⟨fun b u q n _ _=>k b u (hb b n) q,fun b u q n _ _=>⟨u.slots,k b u (hb b n) q⟩,fun b u q n _=>by rw[Zal (hx b n)]; exact n,fun b u q _=>?_,
  fun b xs q=>by rw[Zal (hm b _ q fun z=>z)]; exact q,fun b u xs q=>by rw[Zal (hm b _ q fun z=>z)]; exact q,fun b ps q=>⟨#[],by rw[Zal (hm b _ q fun z=>z),q]; simp⟩⟩
 by_cases hbe:b=e
 ·subst hbe; exact heo
 ·exact⟨u,k b u hbe q⟩
end
def trk (h:Heap) (H:Hp):List Addr:=(List.range h.objs.size).filter fun a=>(H a).isSome
def hidT (h:Heap) (H:Hp):Heap:=PySem.W.hideAll h (trk h H)
theorem Zol (h:Heap) (H:Hp):(hidT h H).objs.size=h.objs.size:=PySem.W.hideAll_size _ _
theorem Zqz {h:Heap} {H:Hp} {b:Addr} {o:Obj} (e:h.get? b=some o) (n:H b=none):(hidT h H).get? b=some o:=
 PySem.W.hideAll_get _ e fun hm=>by
  have q:(H b).isSome=true:=(List.mem_filter.mp hm).2;rw[n]at q; simp at q
theorem Zti {h:Heap} {H:Hp} {b:Addr} {o:Obj} (e:(hidT h H).get? b=some o):h.get? b=some o∧H b=none:=by
 have e':h.get? b=some o:=PySem.W.of_hideAll (trk h H) e;refine⟨e',?_⟩
 cases q:H b with
 | none=>rfl
 | some x=>
  have hm:b∈trk h H:=List.mem_filter.mpr ⟨List.mem_range.mpr (Heap.lt_size e'),by simp[q]⟩;have z:(hidT h H).get? b=none:=PySem.W.hideAll_none (trk h H) hm;rw[z]at e; cases e
end L2
namespace L2
open PySem PySem.Spec PyProof.Rows
structure Mod (K:PySem.W.Frag) (mg:Str→Option Value) (base:Heap):Prop where
 kin:K.In base
 glob:base.Ns mainGlobals mg
 blt:∃mb,base.Ns builtinsNs mb∧∀x:Str,x≠"__name__"→mb x=bootBuiltins x
 nolimit:base.NoLimit
structure Cx where
 prog:Program
 w:World
 K:PySem.W.Frag
 mg:Str→Option Value
 base:Heap
 A:Around
 N:List Str
 s₀:Shared
 H₀:Hp
 env:Env
 outer:List Env
 stack:List Env
 ex:List Addr
 fn:Str→Bool
 calm:Bool
 pn:List (Addr×Obj)
 xe:Value→Shared→Prop
def frs (l:List Env):List Addr:=l.filterMap (·.frame)
abbrev Cx.fs (X:Cx):List Addr:=frs X.outer
def Vis (sc:Scope) (x:Str):Prop:=sc.names.lookup x=some .local∨sc.names.lookup x=some .cell∨sc.names.lookup x=some .free
def Loc (sc:Scope) (x:Str):Prop:=sc.names.lookup x=some .local∨sc.names.lookup x=some .cell
def Look (env:Env) (h:Heap) (m:Str→Option Value) (x:Str) (u:Value):Prop:=
 (env.kindOf x=some .local∧m x=some u)∨((env.kindOf x=some .cell∨env.kindOf x=some .free)∧∃c,env.cells.lookup x=some c∧h.IsCell c (some u))
structure Cx.Ok (X:Cx):Prop where
 mod:Mod X.K X.mg X.base
 kind:X.env.scope.kind=.function
 glob:X.env.globals=mainGlobals
 blt:X.env.builtins=builtinsNs
 above:X.s₀.heap.objs.size≤X.env.locals
 inj:∀x y c,X.env.cells.lookup x=some c→X.env.cells.lookup y=some c→x=y
 has:∀x,(X.env.kindOf x=some .cell∨X.env.kindOf x=some .free)→∃c,X.env.cells.lookup x=some c
 cab:∀x c,X.fn x=true→X.env.cells.lookup x=some c→X.s₀.heap.objs.size≤c
 hd:X.calm=true→X.A.handled=none
 frames:X.A.frames=some X.stack
 stk:X.stack=X.outer∨(X.stack=X.env::X.outer∧X.env.frame=some X.env.locals)
 exf:∀b∈X.ex,b≠X.env.locals∧∀x c,X.env.cells.lookup x=some c→c≠b
 bs:∀b o,X.base.get? b=some o→X.s₀.heap.get? b=some o∧X.H₀ b=none
 bsz:X.base.objs.size≤X.s₀.heap.objs.size
 noex:∀b o,X.base.get? b=some o→b∉X.ex
 exfs:∀b∈X.ex,b∉X.fs
 funs:X.s₀.heap.FunFrames X.base X.outer
 frf:∀b∈X.fs,X.H₀ b=none
structure Inv (X:Cx) (pins:List (Addr×Obj)) (σ:List (Option V)) (H:Hp) (s:Shared):Prop where
 ok:X.Ok
 os:s.os=X.s₀.os
 bare:AllBare s.gens
 base:Un X.fs X.ex X.H₀ H X.s₀.heap s.heap
 loc:∃m,s.heap.Ns X.env.locals m∧∀(i:Nat) (x:Str) (v:V),X.N[i]?=some x→σ[i]?=some (some v)→Vis X.env.scope x→∃u,RelV v u∧Look X.env s.heap m x u
 cell:∀x c,X.env.cells.lookup x=some c→∃v,s.heap.IsCell c v
 free:H X.env.locals=none
 freeC:∀x c,X.env.cells.lookup x=some c→H c=none
 pin:∀p∈X.pn++pins,s.heap.get? p.1=some p.2∧H p.1=none∧p.1≠X.env.locals∧p.1∉X.fs∧∀v,p.2.data≠.cell v
 hok:HOk X.prog X.w H s.heap
 len:σ.length=X.N.length
section
variable {X:Cx} {pins:List (Addr×Obj)} {σ:List (Option V)} {H H':Hp} {s:Shared} {h':Heap}
theorem Cx.Ok.nofr (ok:X.Ok) {b:Addr} {o:Obj} (e:X.base.get? b=some o):b∉X.fs:=fun hb=>by
 have:=(ok.funs.mem hb).1;rw[e]at this; cases this
theorem Inv.bs (I:Inv X pins σ H s):∀b o,X.base.get? b=some o→s.heap.get? b=some o∧H b=none:=fun b o e=>
 ⟨I.base.keep b o (I.ok.bs b o e).1 (I.ok.bs b o e).2 (I.ok.nofr e) (I.ok.noex b o e),I.base.free b o (I.ok.bs b o e).1 (I.ok.bs b o e).2 (I.ok.noex b o e)⟩
theorem Inv.bk (I:Inv X pins σ H s):∀b o,X.base.get? b=some o→s.heap.get? b=some o:=fun b o e=>(I.bs b o e).1
theorem Inv.mod (I:Inv X pins σ H s):Mod X.K X.mg X.base:=I.ok.mod
theorem Inv.kIn (I:Inv X pins σ H s):X.K.In s.heap:=I.ok.mod.kin.keeps I.bk
theorem Inv.lt (I:Inv X pins σ H s):X.env.locals < s.heap.objs.size:=let ⟨_,hn,_⟩:=I.loc; hn.lt
theorem Inv.sz (I:Inv X pins σ H s):X.s₀.heap.objs.size≤s.heap.objs.size:=Nat.le_trans I.ok.above (Nat.le_of_lt I.lt)
theorem Inv.nofs (I:Inv X pins σ H s) {a:Addr} (h:s.heap.objs.size≤a):a∉X.fs:=fun hb=>by
 obtain⟨_,o,ho,_⟩:=I.ok.funs.mem hb;exact absurd (Nat.lt_of_lt_of_le (Heap.lt_size ho) (Nat.le_trans I.sz h)) (Nat.lt_irrefl _)
theorem Inv.cne (I:Inv X pins σ H s):∀x c,X.env.cells.lookup x=some c→c≠X.env.locals:=fun x c e z=>by
 obtain⟨v,o,ho,hd⟩:=I.cell x c e;obtain⟨m,⟨o',es,ep,ho',hd',_⟩,_⟩:=I.loc;rw[z,ho']at ho; cases ho; rw[hd']at hd; cases hd
theorem Inv.funs (I:Inv X pins σ H s):s.heap.FunFrames X.base X.outer:=by
 have all:∀(l:List Env),(∀b∈frs l,b∈X.fs)→X.s₀.heap.FunFrames X.base l→s.heap.FunFrames X.base l:=by
  intro l
  induction l with
  | nil=>intro _ _; trivial
  | cons env r ih=>
   intro hs hl;obtain⟨hk,⟨L,o,hf,hn,ho,hd⟩,hr⟩:=hl;have hL:L∈X.fs:=hs L (by unfold frs; rw[List.filterMap_cons,hf]; exact List.mem_cons_self);obtain⟨sl,e⟩:=I.base.slot L o ho (I.ok.frf L hL) hL fun z=>I.ok.exfs L z hL;exact⟨hk,⟨L,_,hf,hn,e,hd⟩,ih (fun b hb=>hs b (by unfold frs; rw[List.filterMap_cons,hf]; exact List.mem_cons_of_mem _ hb)) hr⟩
 exact all X.outer (fun _ hb=>hb) I.ok.funs
theorem Inv.stack (I:Inv X pins σ H s):s.heap.FunFrames X.base X.stack:=by
 rcases I.ok.stk with e | ⟨e,hf⟩
 ·rw[e]; exact I.funs
 ·rw[e]
  obtain⟨m,hn,_⟩:=I.loc;refine .cons (by rw[I.ok.kind]; decide) hf hn ?_ I.funs;exact Heap.get?_none_of_le (Nat.le_trans I.ok.bsz I.ok.above)
theorem Inv.stkSub (I:Inv X pins σ H s):∀b∈frs X.stack,b∈X.env.locals::X.fs:=fun b hb=>by
 rcases I.ok.stk with e | ⟨e,hf⟩
 ·rw[e]at hb; exact List.mem_cons_of_mem _ hb
 ·rw[e]at hb
  unfold frs at hb;rw[List.filterMap_cons,hf]at hb;exact hb
theorem Inv.stkFree (I:Inv X pins σ H s):∀b∈frs X.stack,H b=none:=fun b hb=>by
 rcases List.mem_cons.mp (I.stkSub b hb) with e | hb
 ·rw[e]; exact I.free
 ·obtain⟨_,o,ho,_⟩:=I.ok.funs.mem hb
  exact I.base.free b o ho (I.ok.frf b hb) fun z=>I.ok.exfs b z hb
theorem Inv.step {g':Array GenState} {t':Nat} {d':Drawn} {ch:List Addr} (I:Inv X pins σ H s)
  (hch:∀b∈ch,(b∈X.ex∨X.s₀.heap.objs.size≤b)∧b≠X.env.locals∧(∀x c,X.env.cells.lookup x=some c→c≠b)∧∀p∈X.pn++pins,p.1≠b)
  (keep:∀b o,b≠X.env.locals→b∉X.fs→b∉ch→s.heap.get? b=some o→H b=none→h'.get? b=some o)
  (slot:∀b o,b≠X.env.locals→b∈X.fs→b∉ch→s.heap.get? b=some o→H b=none→∃sl,h'.get? b=some { o with slots:=sl }) (free:∀b o,b∉ch→s.heap.get? b=some o→H b=none→H' b=none)
  (there:∀b o,b∉ch→s.heap.get? b=some o→∃o',h'.get? b=some o')
  (tups:∀b xs,H b=some (.tup xs)→H' b=some (.tup xs)) (frzs:∀b o u,H b=some (.frz o u)→H' b=some (.frz o u)) (tbls:∀b ps,H b=some (.tbl ps)→∃more,H' b=some (.tbl (ps++more)))
  (ns:∀m,s.heap.Ns X.env.locals m→h'.Ns X.env.locals m) (hok:HOk X.prog X.w H' h') (hg:AllBare g') :
  Inv X pins σ H' { s with heap:=h',gens:=g',drawn:=d',toks:=t' }:=by
 have neL:∀b o,X.s₀.heap.get? b=some o→b≠X.env.locals:=fun b o e=>Nat.ne_of_lt (Nat.lt_of_lt_of_le (Heap.lt_size e) I.ok.above)
 have neC:∀b o,X.s₀.heap.get? b=some o→b∉X.ex→b∉ch:=fun b o e hx hb=>by
  rcases(hch b hb).1 with z | z
  ·exact hx z
  ·exact absurd (Nat.lt_of_lt_of_le (Heap.lt_size e) z) (Nat.lt_irrefl _)
 have cellK:∀x c,X.env.cells.lookup x=some c→∀v,s.heap.IsCell c v→h'.IsCell c v:=fun x c e v ⟨o,ho,hd⟩=>by
  have nch:c∉ch:=fun z=>(hch c z).2.2.1 x c e rfl
  by_cases hc:c∈X.fs
  ·obtain⟨sl,q⟩:=slot c o (I.cne x c e) hc nch ho (I.freeC x c e)
   exact⟨_,q,hd⟩
  ·exact⟨o,keep c o (I.cne x c e) hc nch ho (I.freeC x c e),hd⟩
 refine⟨I.ok,I.os,hg,⟨fun b o e n hb hx=>?_,fun b o e n hb hx=>?_,fun b o e n hx=>?_,fun b o e hx=>?_,fun b xs e=>tups b xs (I.base.tups b xs e),fun b o xs e=>frzs b o xs (I.base.frzs b o xs e),fun b ps e=>?_⟩,?_,fun x c e=>?_,?_,fun x c e=>?_,fun p hp=>?_,hok,I.len⟩
 ·exact keep b o (neL b o e) hb (neC b o e hx) (I.base.keep b o e n hb hx) (I.base.free b o e n hx)
 ·obtain⟨sl,e1⟩:=I.base.slot b o e n hb hx
  obtain⟨sl',e2⟩:=slot b _ (neL b o e) hb (neC b o e hx) e1 (I.base.free b o e n hx);exact⟨sl',e2⟩
 ·obtain⟨o',e1⟩:=I.base.there b o e hx
  exact free b o' (neC b o e hx) e1 (I.base.free b o e n hx)
 ·obtain⟨o',e1⟩:=I.base.there b o e hx
  exact there b o' (neC b o e hx) e1
 ·obtain⟨m1,e1⟩:=I.base.tbls b ps e
  obtain⟨m2,e2⟩:=tbls b _ e1;exact⟨m1++m2,by rw[e2,Array.append_assoc]⟩
 ·obtain⟨m,hn,hl⟩:=I.loc
  refine⟨m,ns m hn,fun i x v e1 e2 e3=>?_⟩;obtain⟨u,r,l⟩:=hl i x v e1 e2 e3;refine⟨u,r,?_⟩
  rcases l with l | ⟨k,c,e,z⟩
  ·exact .inl l
  ·exact .inr ⟨k,c,e,cellK x c e _ z⟩
 ·obtain⟨v,z⟩:=I.cell x c e
  exact⟨v,cellK x c e v z⟩
 ·obtain⟨m,⟨o,_,_,ho,_⟩,_⟩:=I.loc
  exact free _ o (fun z=>(hch _ z).2.1 rfl) ho I.free
 ·obtain⟨v,o,ho,hd⟩:=I.cell x c e
  exact free c o (fun z=>(hch c z).2.2.1 x c e rfl) ho (I.freeC x c e)
 ·obtain⟨e,n,ne,nf,d⟩:=I.pin p hp
  have nch:p.1∉ch:=fun z=>(hch p.1 z).2.2.2 p hp rfl;exact⟨keep p.1 p.2 ne nf nch e n,free p.1 p.2 nch e n,ne,nf,d⟩
theorem Inv.un {t':Nat} (I:Inv X pins σ H s) (u:Un X.fs [] H H' s.heap h') (hok:HOk X.prog X.w H' h'):Inv X pins σ H' { s with heap:=h',toks:=t' }:=by
 obtain⟨m,⟨o,es,ep,ho,r⟩,_⟩:=id I.loc;obtain⟨sl,hL⟩:=u.any ho I.free (by simp)
 exact I.step (g':=s.gens) (d':=s.drawn) (ch:=[]) (fun _ z=>nomatch z) (fun b o _ hb _ e n=>u.keep b o e n hb (by simp)) (fun b o _ hb _ e n=>u.slot b o e n hb (by simp)) (fun b o _ e n=>u.free b o e n (by simp)) (fun b o _ e=>u.there b o e (by simp)) u.tups u.frzs u.tbls (fun m' hm=>by
  obtain⟨o',es',ep',ho',r'⟩:=hm;rw[ho]at ho'; cases ho'
  exact⟨_,es',ep',hL,r'⟩) hok I.bare
theorem Inv.call {g':Array GenState} {t':Nat} {d':Drawn} {ch:List Addr} (I:Inv X pins σ H s) (u:Un (frs X.stack) ch H H' s.heap h') (hok:HOk X.prog X.w H' h') (hg:AllBare g')
  (hch:∀b∈ch,(b∈X.ex∨X.s₀.heap.objs.size≤b)∧b≠X.env.locals∧(∀x c,X.env.cells.lookup x=some c→c≠b)∧∀p∈X.pn++pins,p.1≠b) :
  Inv X pins σ H' { s with heap:=h',gens:=g',drawn:=d',toks:=t' }:=by
 obtain⟨m,⟨o,es,ep,ho,r⟩,_⟩:=id I.loc;obtain⟨sl,hL⟩:=u.any ho I.free fun z=>(hch _ z).2.1 rfl
 exact I.step (ch:=ch) hch (fun b o hL hb hc e n=>u.keep b o e n (fun z=>(List.mem_cons.mp (I.stkSub b z)).elim hL hb) hc) (fun b o _ _ hc e n=>u.any e n hc) (fun b o hc e n=>u.free b o e n hc) (fun b o hc e=>u.there b o e hc) u.tups u.frzs u.tbls (fun m' hm=>by
  obtain⟨o',es',ep',ho',r'⟩:=hm;rw[ho]at ho'; cases ho'
  exact⟨_,es',ep',hL,r'⟩) hok hg
theorem Inv.turned {t':Nat} {it:Addr} (I:Inv X pins σ H s) (k:∀b o,b≠it→s.heap.get? b=some o→h'.get? b=some o) (hn:H it=none) (hL:it≠X.env.locals)
  (h1:it∈X.ex∨X.s₀.heap.objs.size≤it) (h2:∀x c,X.env.cells.lookup x=some c→c≠it) (h3:∀p∈X.pn++pins,p.1≠it):Inv X pins σ H { s with heap:=h',toks:=t' }:=by
 have nit:∀b u,H b=some u→b≠it:=fun b u e z=>by rw[z,hn]at e; cases e
 refine I.step (g':=s.gens) (d':=s.drawn) (ch:=[it]) (fun b hb=>?_) (fun b o _ _ hc e _=>k b o (fun z=>hc (by simp[z])) e) (fun b o _ _ hc e _=>⟨o.slots,k b o (fun z=>hc (by simp[z])) e⟩) (fun _ _ _ _ n=>n)
  (fun b o hc e=>⟨o,k b o (fun z=>hc (by simp[z])) e⟩) (fun _ _ e=>e) (fun _ _ _ e=>e) (fun b ps e=>⟨#[],by rw[e]; simp⟩) (fun m hm=>?_) (fun b u e=>?_) I.bare
 ·have e:b=it:=by simpa using hb
  subst e;exact⟨h1,hL,h2,h3⟩
 ·obtain⟨o,es,ep,ho,r⟩:=hm
  exact⟨o,es,ep,k _ o (Ne.symm hL) ho,r⟩
 ·refine(I.hok b u e).stay (fun c v hc q=>k c v ?_ q) (fun _ q=>q) fun _ _ q=>q
  rcases hc with z | z
  ·rw[z]; exact nit b u e
  ·exact nit c _ z
theorem Inv.tok (I:Inv X pins σ H s) (t:Nat):Inv X pins σ H { s with toks:=t }:=I.un (h':=s.heap) (t':=t) Un.refl I.hok
theorem Inv.kept {t':Nat} (I:Inv X pins σ H s) (k:∀b u,s.heap.get? b=some u→h'.get? b=some u):Inv X pins σ H { s with heap:=h',toks:=t' }:=I.un (Un.kept k) (I.hok.kept k)
theorem Inv.laid {a:Addr} {o:HO} {t':Nat} (I:Inv X pins σ H s) (k:∀b u,s.heap.get? b=some u→h'.get? b=some u) (hp:s.heap.objs.size≤a) (new:ZaT X.prog X.w (upd H a o) h' a o) :
  Inv X pins σ (upd H a o) { s with heap:=h',toks:=t' }:=I.un (Un.laid k hp (I.hok.fresh hp)) (I.hok.laid k hp new)
theorem Inv.write {x e:Addr} {o:HO} {t':Nat} (I:Inv X pins σ H s) (mu:Mut (H x)) (he:e=x∨H e=some (.own x)) (k:∀b u,b≠e→s.heap.get? b=some u→h'.get? b=some u) (heo:∃u,h'.get? e=some u)
  (new:ZaT X.prog X.w (upd H x o) h' x o):Inv X pins σ (upd H x o) { s with heap:=h',toks:=t' }:=I.un (Un.write mu he k heo) (I.hok.write mu he k heo new)
theorem Inv.pins_of {pins':List (Addr×Obj)} (I:Inv X pins σ H s) (h:∀p∈pins',s.heap.get? p.1=some p.2∧H p.1=none∧p.1≠X.env.locals∧p.1∉X.fs∧∀v,p.2.data≠.cell v):Inv X pins' σ H s:=
 ⟨I.ok,I.os,I.bare,I.base,I.loc,I.cell,I.free,I.freeC,fun p hp=>(List.mem_append.mp hp).elim (fun z=>I.pin p (List.mem_append_left _ z)) (h p),I.hok,I.len⟩
theorem Zmj {N:List Str} (hN:N.Nodup) {i j:Nat} {x:Str} (a:N[i]?=some x) (b:N[j]?=some x):i=j:=by
 obtain⟨h1,e1⟩:=List.getElem?_eq_some_iff.mp a;obtain⟨h2,e2⟩:=List.getElem?_eq_some_iff.mp b;exact(List.getElem_inj hN).mp (e1.trans e2.symm)
theorem ZpS {M:Model} {A:Around} {E:Value→Shared→Prop} {i:Nat} {x:Str} {v:V} {u:Value} {Q:Unit→Shared→Prop} (I:Inv X pins σ H s) (hN:X.N.Nodup) (hi:X.N[i]?=some x) (hx:Loc X.env.scope x) (r:RelV v u)
  (h:∀s',Inv X pins (σ.set i (some v)) H s'→(∃a,Heap.SameBut a s.heap s'.heap∧(a=X.env.locals∨X.env.cells.lookup x=some a))→Q () s') (hf:X.fn x=true∨X.env.scope.names.lookup x=some .local:=by first | exact .inl rfl | exact .inr rfl | assumption):wpAny M A (storeName X.env x u) Q E s:=by
 obtain⟨m,hn,hl⟩:=id I.loc
 have hcls:(X.env.scope.kind == .class || (X.env.scope.kind == .module && X.env.locals != X.env.globals))=false:=by rw[I.ok.kind]; rfl
 have hiσ:i < σ.length:=by rw[I.len]; exact(List.getElem?_eq_some_iff.mp hi).1
 have cne:=I.cne
 have tracked:∀{a:Addr} {h':Heap},(∃o,s.heap.get? a=some o∧H a=none)→Heap.SameBut a s.heap h'→HOk X.prog X.w H h':=fun {a h'} ha hs b ob e=>by
  obtain⟨_,_,hfree⟩:=ha;refine(I.hok b ob e).stay (fun c w' hc q=>(hs.2 c ?_).trans q) (fun _ q=>q) fun _ _ q=>q;rintro rfl
  rcases hc with rfl | hc
  ·rw[hfree]at e; cases e
  ·rw[hfree]at hc; cases hc
 rcases hx with hk | hk
 ·refine wpAny_storeName_local hk hn (fun h' hn' hs=>?_) hcls
  obtain⟨oL,_,_,hoL,_⟩:=id hn;refine h _ ⟨I.ok,I.os,I.bare,⟨fun b o e n hb hx=>?_,fun b o e n hb hx=>?_,I.base.free,fun b o e hx=>?_,I.base.tups,I.base.frzs,I.base.tbls⟩,⟨_,hn',fun j y v' e1 e2 e3=>?_⟩,fun y c e=>?_,I.free,I.freeC,fun p hp=>?_,tracked ⟨oL,hoL,I.free⟩ hs,by simpa using I.len⟩ ⟨_,hs,.inl rfl⟩
  ·exact(hs.2 b (Nat.ne_of_lt (Nat.lt_of_lt_of_le (Heap.lt_size e) I.ok.above))).trans (I.base.keep b o e n hb hx)
  ·obtain⟨sl,e1⟩:=I.base.slot b o e n hb hx
   exact⟨sl,(hs.2 b (Nat.ne_of_lt (Nat.lt_of_lt_of_le (Heap.lt_size e) I.ok.above))).trans e1⟩
  ·obtain⟨o',e1⟩:=I.base.there b o e hx
   exact⟨o',(hs.2 b (Nat.ne_of_lt (Nat.lt_of_lt_of_le (Heap.lt_size e) I.ok.above))).trans e1⟩
  ·by_cases hj:j=i
   ·subst hj
    rw[hi]at e1; cases e1;rw[List.getElem?_set_self hiσ]at e2
    cases e2
    exact⟨u,r,.inl ⟨hk,by simp⟩⟩
   ·rw[List.getElem?_set_ne (Ne.symm hj)]at e2
    obtain⟨u',r',q⟩:=hl j y v' e1 e2 e3;refine⟨u',r',?_⟩
    rcases q with⟨k,e⟩ | ⟨k,c,e,z⟩
    ·refine .inl ⟨k,?_⟩
     have:y≠x:=fun e=>hj (Zmj hN e1 (e ▸ hi));simp[this,e]
    ·exact .inr ⟨k,c,e,z.sameBut hs (cne y c e)⟩
  ·obtain⟨w',z⟩:=I.cell y c e
   exact⟨w',z.sameBut hs (cne y c e)⟩
  ·obtain⟨e,n,ne,nf,d⟩:=I.pin p hp
   exact⟨(hs.2 p.1 ne).trans e,n,ne,nf,d⟩
 ·have hfn:X.fn x=true:=by
   rcases hf with z | z
   ·exact z
   ·rw[z]at hk; cases hk
  obtain⟨c,hc⟩:=I.ok.has x (.inl hk);obtain⟨w',z⟩:=I.cell x c hc;refine wpAny_storeName_cell I.ok.kind hk hc z (fun h' hc' hs=>?_);obtain⟨oc,hoc,hocd⟩:=id z;refine h { s with heap:=h' } ⟨I.ok,I.os,I.bare,⟨fun b o e n hb hx=>?_,fun b o e n hb hx=>?_,I.base.free,fun b o e hx=>?_,I.base.tups,I.base.frzs,I.base.tbls⟩,⟨m,hn.sameBut hs (Ne.symm (cne x c hc)),fun j y v' e1 e2 e3=>?_⟩,fun y c' e=>?_,I.free,I.freeC,fun p hp=>?_,tracked ⟨oc,hoc,I.freeC x c hc⟩ hs,by simpa using I.len⟩ ⟨c,hs,.inr hc⟩
  ·exact(hs.2 b (Nat.ne_of_lt (Nat.lt_of_lt_of_le (Heap.lt_size e) (I.ok.cab x c hfn hc)))).trans (I.base.keep b o e n hb hx)
  ·obtain⟨sl,e1⟩:=I.base.slot b o e n hb hx
   exact⟨sl,(hs.2 b (Nat.ne_of_lt (Nat.lt_of_lt_of_le (Heap.lt_size e) (I.ok.cab x c hfn hc)))).trans e1⟩
  ·obtain⟨o',e1⟩:=I.base.there b o e hx
   exact⟨o',(hs.2 b (Nat.ne_of_lt (Nat.lt_of_lt_of_le (Heap.lt_size e) (I.ok.cab x c hfn hc)))).trans e1⟩
  ·by_cases hj:j=i
   ·subst hj
    rw[hi]at e1; cases e1;rw[List.getElem?_set_self hiσ]at e2
    cases e2
    exact⟨u,r,.inr ⟨.inl hk,c,hc,hc'⟩⟩
   ·rw[List.getElem?_set_ne (Ne.symm hj)]at e2
    obtain⟨u',r',q⟩:=hl j y v' e1 e2 e3;refine⟨u',r',?_⟩
    rcases q with q | ⟨k,c',e,z'⟩
    ·exact .inl q
    ·refine .inr ⟨k,c',e,z'.sameBut hs ?_⟩
     rintro rfl;exact hj (Zmj hN e1 (I.ok.inj _ _ _ e hc ▸ hi))
  ·by_cases hcc:c'=c
   ·subst hcc; exact⟨_,hc'⟩
   ·obtain⟨w2,z2⟩:=I.cell y c' e
    exact⟨w2,z2.sameBut hs hcc⟩
  ·obtain⟨e,n,ne,nf,d⟩:=I.pin p hp
   refine⟨(hs.2 p.1 ?_).trans e,n,ne,nf,d⟩;intro q;rw[q,hoc]at e;have q':oc=p.2:=Option.some.inj e;exact d w' (by rw[←q']; exact hocd)
theorem ZmE {M:Model} {A:Around} {E:Value→Shared→Prop} {i:Nat} {x:Str} {v:V} {u:Value} {Q:Unit→Shared→Prop} (I:Inv X pins σ H s) (hN:X.N.Nodup) (hi:X.N[i]?=some x) (hx:Loc X.env.scope x) (r:RelV v u)
  (h:∀s',Inv X pins (σ.set i (some v)) H s'→Q () s') (hf:X.fn x=true∨X.env.scope.names.lookup x=some .local:=by first | exact .inl rfl | exact .inr rfl | assumption):wpAny M A (storeName X.env x u) Q E s:=
 ZpS I hN hi hx r (fun s' I' _=>h s' I') hf
theorem Inv.call' {s':Shared} {ch:List Addr} (I:Inv X pins σ H s) (ho:s'.os=s.os) (u:Un (frs X.stack) ch H H' s.heap s'.heap) (hok:HOk X.prog X.w H' s'.heap) (hg:AllBare s'.gens)
  (hch:∀b∈ch,(b∈X.ex∨X.s₀.heap.objs.size≤b)∧b≠X.env.locals∧(∀x c,X.env.cells.lookup x=some c→c≠b)∧∀p∈X.pn++pins,p.1≠b):Inv X pins σ H' s':=by
 obtain⟨h',g',d',t',o'⟩:=s';have e:o'=s.os:=ho;subst e;exact I.call (g':=g') (t':=t') (d':=d') u hok hg hch
end
abbrev XK:=Value→Option Addr→Hp→Prop
abbrev St:=List (Option V)
abbrev VK:=V→Hp→Prop
abbrev TE:=St→Hp→VK→Prop
abbrev TT:=St→Hp→(Bool→Hp→Prop)→Prop
abbrev TA:=St→Hp→(List V→Hp→Prop)→Prop
structure Ends where
 nx:St→Hp→Prop
 rt:VK
 bk:St→Hp→Prop:=fun _ _=>False
 ct:St→Hp→Prop:=fun _ _=>False
abbrev TS:=Ends→St→Hp→Prop
def EP (X:Cx) (pins:List (Addr×Obj)) (σ:St) (Q:VK) (u:Value) (s':Shared):Prop:=∃v H',Inv X pins σ H' s'∧RelV v u∧Q v H'
def TP (X:Cx) (pins:List (Addr×Obj)) (σ:St) (Q:Bool→Hp→Prop) (b:Bool) (s':Shared):Prop:=∃H',Inv X pins σ H' s'∧Q b H'
def AP (X:Cx) (pins:List (Addr×Obj)) (σ:St) (Q:List V→Hp→Prop) (us:List Value) (s':Shared):Prop:=∃vs H',Inv X pins σ H' s'∧Vals vs us∧Q vs H'
def SP (X:Cx) (pins:List (Addr×Obj)) (D:Ends) (f:Flow) (s':Shared):Prop:=
 match f with
 | .next=>∃σ' H',Inv X pins σ' H' s'∧D.nx σ' H'
 | .brk=>∃σ' H',Inv X pins σ' H' s'∧D.bk σ' H'
 | .cont=>∃σ' H',Inv X pins σ' H' s'∧D.ct σ' H'
 | .ret u=>∃v σ' H',Inv X pins σ' H' s'∧RelV v u∧D.rt v H'
def PE (X:Cx) (e:Expr) (t:TE):Prop:=
 ∀(pins:List (Addr×Obj)) (s:Shared) (σ:St) (H:Hp) (Q:VK),Inv X pins σ H s→t σ H Q→wpAny (model X.prog X.w) X.A (eval e X.env) (EP X pins σ Q) X.xe s
def PT (X:Cx) (e:Expr) (t:TT):Prop:=
 ∀(pins:List (Addr×Obj)) (s:Shared) (σ:St) (H:Hp) (Q:Bool→Hp→Prop),Inv X pins σ H s→t σ H Q→wpAny (model X.prog X.w) X.A (isTrue e X.env (eval e X.env)) (TP X pins σ Q) X.xe s
def PW (X:Cx) (e:Expr) (t:TT):Prop:=
 ∀(whole:Sem Value) (pins:List (Addr×Obj)) (s:Shared) (σ:St) (H:Hp) (Q:Bool→Hp→Prop),Inv X pins σ H s→t σ H Q→wpAny (model X.prog X.w) X.A (isTrue e X.env whole) (TP X pins σ Q) X.xe s
theorem PW.pt {X:Cx} {e:Expr} {t:TT} (h:PW X e t):PT X e t:=h _
def PA (X:Cx) (es:List Expr) (t:TA):Prop:=
 ∀(pos:Pos) (pins:List (Addr×Obj)) (s:Shared) (σ:St) (H:Hp) (Q:List V→Hp→Prop),Inv X pins σ H s→t σ H Q→wpAny (model X.prog X.w) X.A (spliced (backTo pos (starEach es X.env))) (AP X pins σ Q) X.xe s
def PS (X:Cx) (st:Stmt) (t:TS):Prop:=
 ∀(pins:List (Addr×Obj)) (s:Shared) (σ:St) (H:Hp) (D:Ends),Inv X pins σ H s→t D σ H→wpAny (model X.prog X.w) X.A (exec st X.env) (SP X pins D) X.xe s
def PSs (X:Cx) (st:List Stmt) (t:TS):Prop:=
 ∀(pins:List (Addr×Obj)) (s:Shared) (σ:St) (H:Hp) (D:Ends),Inv X pins σ H s→t D σ H→wpAny (model X.prog X.w) X.A (execs st X.env) (SP X pins D) X.xe s
theorem thn {α:Type} {t:Sem α} {Q Q':α→Shared→Prop} {M:Model} {A:Around} {E:Value→Shared→Prop} {s:Shared} (h:wpAny M A t Q E s) (hQ:∀a s,Q a s→Q' a s):wpAny M A t Q' E s:=wpAny_mono h hQ fun _ _ x=>x
end L2
namespace L2
open PySem PySem.Spec PyProof.Rows
section
variable {X:Cx}
def tVar (i:Nat):TE:=fun σ H Q=>∃v,σ[i]?=some (some v)∧Q v H
def tC (v:V):TE:=fun _ H Q=>Q v H
theorem Zu6 {i:Nat} {x:Str} {pos:Pos} (hN:X.N[i]?=some x) (hv:Vis X.env.scope x) (hd:(x == ("__debug__" : Str))=false:=by decide) (hcd:(x == ("__classdict__" : Str))=false:=by decide):PE X (.Name x pos) (tVar i):=by
 intro pins s σ H Q I h;obtain⟨v,e,h⟩:=h;obtain⟨m,hn,hl⟩:=I.loc;obtain⟨u,r,l⟩:=hl i x v hN e hv;have fin:EP X pins σ Q u s:=⟨v,H,I,r,h⟩
 rcases l with⟨hk,hm⟩ | ⟨hk,c,hc,hcell⟩
 ·exact wpAny_Name (wpAny_loadName_local I.ok.kind hk hn hm fin) hd
 ·rcases hk with hk | hk
  ·exact wpAny_Name (wpAny_loadName_cell I.ok.kind hk hc hcell fin) hd
  ·exact wpAny_Name (wpAny_loadName_free I.ok.kind hk hc hcell fin hcd) hd
theorem Zac {i j pos}:PE X (.Constant (.int i) j pos) (tC (.int i)):=fun _ _ _ H _ I h=>wpAny_Constant_int ⟨.int i,H,I.tok _,⟨_,rfl⟩,h⟩
theorem ZhT {b j pos}:PE X (.Constant (.bool b) j pos) (tC (.bl b)):=fun _ _ _ H _ I h=>Constant_bool ⟨.bl b,H,I,rfl,h⟩
theorem Zg1 {j pos}:PE X (.Constant .none j pos) (tC .non):=fun _ _ _ H _ I h=>Constant_none ⟨.non,H,I,rfl,h⟩
theorem Zeb {x j pos}:PE X (.Constant (.str x) j pos) (tC (.str x)):=fun _ _ _ H _ I h=>Calls.Constant_str ⟨.str x,H,I.tok _,⟨_,rfl⟩,h⟩
def Gl (X:Cx) (x:Str):Prop:=X.env.kindOf x=some .globalImplicit
theorem Zlm {E:Value→Shared→Prop} {pins:List (Addr×Obj)} {s:Shared} {σ:St} {H:Hp} {x:Str} {u:Value} {pos:Pos} {Q:Value→Shared→Prop} (I:Inv X pins σ H s) (hg:Gl X x) (hm:X.mg x=some u) (h:Q u s)
  (hd:(x == ("__debug__" : Str))=false:=by decide):wpAny (model X.prog X.w) X.A (eval (.Name x pos) X.env) Q E s:=
 Calls.Name_function_global I.ok.kind hg (Calls.loadGlobal_global (by rw[I.ok.glob]; exact I.mod.glob.keeps I.bk) hm h) hd
theorem ZgU {E:Value→Shared→Prop} {pins:List (Addr×Obj)} {s:Shared} {σ:St} {H:Hp} {x:Str} {u:Value} {pos:Pos} {Q:Value→Shared→Prop} (I:Inv X pins σ H s) (hg:Gl X x) (hm:X.mg x=none) (hv:bootBuiltins x=some u) (h:Q u s)
  (hn:x≠"__name__":=by decide) (hd:(x == ("__debug__" : Str))=false:=by decide):wpAny (model X.prog X.w) X.A (eval (.Name x pos) X.env) Q E s:=by
 obtain⟨mb,h1,h2⟩:=I.mod.blt;exact Calls.Name_function_global I.ok.kind hg (Calls.loadGlobal_builtin (by rw[I.ok.glob]; exact I.mod.glob.keeps I.bk) hm (by rw[I.ok.blt]; exact h1.keeps I.bk) ((h2 x hn).trans hv) h) hd
theorem Zdx {x:Str} {v:V} {u:Value} {pos:Pos} (hg:Gl X x) (hm:X.mg x=none) (hv:bootBuiltins x=some u) (r:RelV v u) (hn:x≠"__name__":=by decide) (hd:(x == ("__debug__" : Str))=false:=by decide):PE X (.Name x pos) (tC v):=
 fun _ _ _ H _ I h=>ZgU I hg hm hv ⟨v,H,I,r,h⟩ hn hd
variable {a b:Expr} {ta tb:TE} {pos:Pos}
variable {tA tB':TT} {rest:List Expr}
def tAnd (t u:TT):TT:=fun σ H Q=>t σ H fun c H1=>if c=true then u σ H1 Q else Q false H1
def tOr (t u:TT):TT:=fun σ H Q=>t σ H fun c H1=>if c=true then Q true H1 else u σ H1 Q
def tNot (t:TT):TT:=fun σ H Q=>t σ H fun c H1=>Q (!c) H1
theorem ZjU (ha:PT X a tA):PW X (.BoolOp .And [a] pos) tA:=by
 intro wh pins s σ H Q I h;refine isTrue_and (thn (ha pins s σ H Q I h) fun c s1 e=>?_)
 cases c with
 | true=>exact isTrue_and_nil e
 | false=>exact e
theorem ZeO (ha:PT X a tA):PW X (.BoolOp .Or [a] pos) tA:=by
 intro wh pins s σ H Q I h;refine isTrue_or (thn (ha pins s σ H Q I h) fun c s1 e=>?_)
 cases c with
 | false=>exact isTrue_or_nil e
 | true=>exact e
theorem Zms (ha:PT X a tA) (hb:PW X (.BoolOp .And (b::rest) pos) tB'):PW X (.BoolOp .And (a::b::rest) pos) (tAnd tA tB'):=by
 intro wh pins s σ H Q I h;refine isTrue_and (thn (ha pins s σ H _ I h) fun c s1 ⟨H1,I1,q1⟩=>?_)
 cases c with
 | true=>exact hb wh pins s1 σ H1 Q I1 q1
 | false=>exact⟨H1,I1,q1⟩
theorem Zge (ha:PT X a tA) (hb:PW X (.BoolOp .Or (b::rest) pos) tB'):PW X (.BoolOp .Or (a::b::rest) pos) (tOr tA tB'):=by
 intro wh pins s σ H Q I h;refine isTrue_or (thn (ha pins s σ H _ I h) fun c s1 ⟨H1,I1,q1⟩=>?_)
 cases c with
 | true=>exact⟨H1,I1,q1⟩
 | false=>exact hb wh pins s1 σ H1 Q I1 q1
theorem Zc1 (ha:PT X a tA):PT X (.UnaryOp .Not a pos) (tNot tA):=by
 intro pins s σ H Q I h;exact isTrue_not (ha pins s σ H (fun c H1=>Q (!c) H1) I h)
def Zvx (ta tb:TE):TE:=fun σ H Q=>ta σ H fun x H1=>∃c,x=.bl c∧if c=true then tb σ H1 Q else Q (.bl false) H1
theorem ZhV {op} {t:TE} (h:PE X a t):PE X (.BoolOp op [a] pos) t:=fun pins s σ H Q I hw=>BoolOp_one (h pins s σ H Q I hw)
theorem Zg0 (ha:PE X a ta) (hb:PE X (.BoolOp .And (b::rest) pos) tb):PE X (.BoolOp .And (a::b::rest) pos) (Zvx ta tb):=by
 intro pins s σ H Q I h;refine BoolOp_and (thn (ha pins s σ H _ I h) fun v s1 ⟨x,H1,I1,r1,q1⟩=>?_);obtain⟨c,rfl,q1⟩:=q1
 cases r1
 refine wpAny_truthy_bool ?_
 cases c with
 | true=>exact hb pins s1 σ H1 Q I1 q1
 | false=>exact⟨.bl false,H1,I1,rfl,q1⟩
end
end L2
namespace L2
open PySem PySem.Spec PyProof.Rows
def SqL (K:PySem.W.Frag) (H:Hp) (a:Addr) (xs:List V):Prop:=
 Rd H a (.lst xs)∨
  ∃(o:Obj) (its:Array Value) (n:Nat),K.lookup a=some o∧o.cls=.type "list"∧o.dict=none∧o.data=.seq its n∧its.size≤sizeLine∧Vals xs its.toList
def SqT (K:PySem.W.Frag) (H:Hp) (a:Addr) (xs:List V):Prop:=
 Rd H a (.tup xs)∨
  ∃(o:Obj) (its:Array Value) (n:Nat),K.lookup a=some o∧o.cls=.type "tuple"∧o.data=.seq its n∧its.size≤sizeLine∧Vals xs its.toList
def absV:Value→Option V
 | .none=>some .non
 | .bool b=>some (.bl b)
 | .int i _=>some (.int i)
 | .str x _=>some (.str x)
 | .bytes b _=>some (.byt b)
 | .float b _=>some (.flt b)
 | .ref a=>some (.ref a)
 | .type n=>some (.ty n)
 | _=>none
theorem RelV.abs {x:V} {u:Value} (r:RelV x u):absV u=some x:=by
 cases x with
 | non=>cases r; rfl
 | bl _=>cases r; rfl
 | int _=>obtain⟨t,rfl⟩:=r; rfl
 | str _=>obtain⟨t,rfl⟩:=r; rfl
 | byt _=>obtain⟨t,rfl⟩:=r; rfl
 | flt _=>obtain⟨t,rfl⟩:=r; rfl
 | ref _=>cases r; rfl
 | ty _=>cases r; rfl
theorem RelV.inj {x y:V} {u:Value} (r:RelV x u) (q:RelV y u):x=y:=Option.some.inj (r.abs.symm.trans q.abs)
theorem Vals.inj:∀{xs ys:List V} {us:List Value},Vals xs us→Vals ys us→xs=ys
 | _,_,_,.nil,.nil=>rfl
 | _,_,_,.cons r t,.cons r' t'=>by rw[r.inj r',Vals.inj t t']
section
variable {X:Cx} {pins:List (Addr×Obj)} {σ:St} {H:Hp} {s:Shared} {a:Addr} {xs ys:List V}
theorem SqL.of {K:PySem.W.Frag} (h:H a=some (.lst xs)):SqL K H a xs:=.inl (.inl h)
theorem SqT.of {K:PySem.W.Frag} (h:H a=some (.tup xs)):SqT K H a xs:=.inl (.inl h)
theorem Inv.list (I:Inv X pins σ H s) (h:SqL X.K H a xs):∃its:List Value,Vals xs its∧PlainL s.heap a its.toArray∧xs.length≤sizeLine:=by
 rcases h with h | ⟨o,its,n,hk,hc,hd,hs,hz,r⟩
 ·obtain⟨z,its,n,r,e⟩:=h.ok I.hok
  exact⟨its,r,⟨_,n,e,rfl,rfl,rfl⟩,z⟩
 ·refine⟨its.toList,r,⟨o,n,I.kIn a o hk,hc,hd,by simpa using hs⟩,?_⟩
  have e:=r.length;simp only [Array.length_toList]at e;omega
theorem Inv.tuple (I:Inv X pins σ H s) (h:SqT X.K H a xs):∃its:List Value,Vals xs its∧IsTup s.heap a its.toArray∧xs.length≤sizeLine:=by
 rcases h with h | ⟨o,its,n,hk,hc,hs,hz,r⟩
 ·obtain⟨z,its,r,p⟩:=h.ok I.hok
  exact⟨its,r,p,z⟩
 ·refine⟨its.toList,r,⟨o,I.kIn a o hk,hc,n,by simpa using hs⟩,?_⟩
  have e:=r.length;simp only [Array.length_toList]at e;omega
theorem Inv.list_inj (I:Inv X pins σ H s) (h:SqL X.K H a xs) (h':SqL X.K H a ys):xs=ys:=by
 obtain⟨its,r,⟨o,n,e,_,_,d⟩,_⟩:=I.list h;obtain⟨its',r',⟨o',n',e',_,_,d'⟩,_⟩:=I.list h';rw[e]at e'; cases e';rw[d]at d'
 injection d' with d1 _
 have:its=its':=by simpa using congrArg Array.toList d1
 subst this;exact r.inj r'
theorem Inv.tuple_inj (I:Inv X pins σ H s) (h:SqT X.K H a xs) (h':SqT X.K H a ys):xs=ys:=by
 obtain⟨its,r,⟨o,e,_,n,d⟩,_⟩:=I.tuple h;obtain⟨its',r',⟨o',e',_,n',d'⟩,_⟩:=I.tuple h';rw[e]at e'; cases e';rw[d]at d'
 injection d' with d1 _
 have:its=its':=by simpa using congrArg Array.toList d1
 subst this;exact r.inj r'
end
abbrev Cx.wish (X:Cx) (E:Value→Shared→Prop):Cx:={ X with xe:=E }
abbrev Cx.nox (X:Cx):Cx:=X.wish fun _ _=>False
theorem Cx.Ok.wish {X:Cx} (ok:X.Ok) (E:Value→Shared→Prop):(X.wish E).Ok:=
 ⟨ok.mod,ok.kind,ok.glob,ok.blt,ok.above,ok.inj,ok.has,ok.cab,ok.hd,ok.frames,ok.stk,ok.exf,ok.bs,ok.bsz,ok.noex,ok.exfs,ok.funs,ok.frf⟩
theorem Cx.Ok.unwish {X:Cx} {E:Value→Shared→Prop} (ok:(X.wish E).Ok):X.Ok:=
 ⟨ok.mod,ok.kind,ok.glob,ok.blt,ok.above,ok.inj,ok.has,ok.cab,ok.hd,ok.frames,ok.stk,ok.exf,ok.bs,ok.bsz,ok.noex,ok.exfs,ok.funs,ok.frf⟩
section
variable {X:Cx} {pins:List (Addr×Obj)} {σ:St} {H:Hp} {s:Shared} {E:Value→Shared→Prop}
theorem Inv.wish (I:Inv X pins σ H s) (E:Value→Shared→Prop):Inv (X.wish E) pins σ H s:=⟨I.ok.wish E,I.os,I.bare,I.base,I.loc,I.cell,I.free,I.freeC,I.pin,I.hok,I.len⟩
theorem Inv.unwish (I:Inv (X.wish E) pins σ H s):Inv X pins σ H s:=⟨I.ok.unwish,I.os,I.bare,I.base,I.loc,I.cell,I.free,I.freeC,I.pin,I.hok,I.len⟩
theorem SP.unwish {D:Ends} {f:Flow} {s':Shared} (h:SP (X.wish E) pins D f s'):SP X pins D f s':=by
 cases f with
 | next=>obtain⟨σ',H',I,q⟩:=h; exact⟨σ',H',I.unwish,q⟩
 | brk=>obtain⟨σ',H',I,q⟩:=h; exact⟨σ',H',I.unwish,q⟩
 | cont=>obtain⟨σ',H',I,q⟩:=h; exact⟨σ',H',I.unwish,q⟩
 | ret u=>obtain⟨v,σ',H',I,r,q⟩:=h; exact⟨v,σ',H',I.unwish,r,q⟩
theorem PT.nox {e:Expr} {t:TT} (h:PT X.nox e t):PT X e t:=fun pins s σ H Q I hw=>
 wpAny_mono (h pins s σ H Q (I.wish _) hw) (fun _ _ ⟨H',I',q⟩=>⟨H',I'.unwish,q⟩) fun _ _ z=>False.elim z
theorem PSs.nox {st:List Stmt} {t:TS} (h:PSs X.nox st t):PSs X st t:=fun pins s σ H D I hw=>
 wpAny_mono (h pins s σ H D (I.wish _) hw) (fun _ _ q=>q.unwish) fun _ _ z=>False.elim z
end
section
variable {X:Cx} {st:Stmt} {rest:List Stmt} {t u:TS} {e:Expr} {te:TE} {pos:Pos}
def ZvB:TS:=fun D σ H=>D.nx σ H
def tSeq (t u:TS):TS:=fun D σ H=>t { D with nx:=u D } σ H
theorem Zar:PSs X [] ZvB:=fun _ _ σ H _ I h=>wpAny_execs_nil ⟨σ,H,I,h⟩
theorem Zab (h1:PS X st t) (h2:PSs X rest u):PSs X (st::rest) (tSeq t u):=by
 intro pins s σ H D I h;refine wpAny_execs_cons (thn (h1 pins s σ H { D with nx:=u D } I h) fun f s1 q=>?_)
 cases f with
 | next=>
  obtain⟨σ',H',I',q⟩:=q;exact h2 pins s1 σ' H' D I' q
 | ret v=>exact q
 | brk=>exact q
 | cont=>exact q
theorem Zad (h1:PS X st t):PSs X [st] t:=by
 intro pins s σ H D I h;refine wpAny_execs_cons (thn (h1 pins s σ H D I h) fun f s1 q=>?_)
 cases f with
 | next=>exact wpAny_execs_nil q
 | ret v=>exact q
 | brk=>exact q
 | cont=>exact q
theorem Inv.quiet {pins:List (Addr×Obj)} {σ:St} {H:Hp} {s:Shared} (I:Inv X pins σ H s):interactive X.env=false:=by simp[interactive,I.ok.kind]
def Zvz (te:TE):TS:=fun D σ H=>te σ H fun _ H1=>D.nx σ H1
theorem Zbu (he:PE X e te) (hs:swapsWith e none pos.line X.env=pure false:=by rfl):PS X (.Expr e pos) (Zvz te):=by
 intro pins s σ H D I h;exact wpAny_Expr_any (thn (he pins s σ H _ I h) fun v s1 ⟨x,H1,I1,r1,q1⟩=>⟨σ,H1,I1,q1⟩) I.quiet hs
def tRet (te:TE):TS:=fun D σ H=>te σ H D.rt
theorem Zas (he:PE X e te):PS X (.Return (some e) pos) (tRet te):=by
 intro pins s σ H D I h;exact wpAny_Return_some (thn (he pins s σ H _ I h) fun v s1 ⟨x,H1,I1,r1,q1⟩=>⟨x,σ,H1,I1,r1,q1⟩)
def ZvF:TS:=fun D _ H=>D.rt .non H
theorem Ztu:PS X (.Return none pos) ZvF:=fun _ _ σ H _ I h=>wpAny_Return_none ⟨.non,σ,H,I,rfl,h⟩
def tIfS (c:TT) (t u:TS):TS:=fun D σ H=>c σ H fun b H1=>if b=true then t D σ H1 else u D σ H1
theorem Za0 {c:Expr} {a b:List Stmt} {tc:TT} (hc:PT X c tc) (ha:PSs X a t) (hb:PSs X b u):PS X (.If c a b pos) (tIfS tc t u):=by
 intro pins s σ H D I h;refine wpAny_If (thn (hc pins s σ H _ I h) fun d s1 ⟨H1,I1,q1⟩=>?_)
 cases d with
 | true=>exact ha pins s1 σ H1 D I1 q1
 | false=>exact hb pins s1 σ H1 D I1 q1
def ZvA:TS:=fun _ _ _=>False
theorem Zmp:PS X st ZvA:=fun _ _ _ _ _ _ h=>h.elim
end
abbrev TG:=V→St→Hp→(St→Hp→Prop)→Prop
abbrev TGs:=List V→St→Hp→(St→Hp→Prop)→Prop
def PG (X:Cx) (target:Expr) (t:TG):Prop:=
 ∀(pins:List (Addr×Obj)) (s:Shared) (σ:St) (H:Hp) (v:V) (u:Value) (Q:St→Hp→Prop),Inv X pins σ H s→RelV v u→t v σ H Q→
  wpAny (model X.prog X.w) X.A (assign target X.env u) (fun _ s'=>∃σ' H',Inv X pins σ' H' s'∧Q σ' H') X.xe s
def PGs (X:Cx) (ts:List Expr) (t:TGs):Prop:=
 ∀(pins:List (Addr×Obj)) (s:Shared) (σ:St) (H:Hp) (vs:List V) (us:List Value) (Q:St→Hp→Prop),Inv X pins σ H s→Vals vs us→t vs σ H Q→
  wpAny (model X.prog X.w) X.A (assignInOrder ((assignEach ts X.env).map (·.2)) us) (fun _ s'=>∃σ' H',Inv X pins σ' H' s'∧Q σ' H') X.xe s
abbrev TSet:=V→V→V→Hp→(Hp→Prop)→Prop
def PSet (X:Cx) (t:TSet):Prop:=
 ∀(pins:List (Addr×Obj)) (s:Shared) (σ:St) (H:Hp) (o i v:V) (ov iv u:Value) (Q:Hp→Prop),Inv X pins σ H s→RelV o ov→RelV i iv→RelV v u→t o i v H Q→
  wpAny (model X.prog X.w) X.A (setItem ov iv u) (fun _ s'=>∃H',Inv X pins σ H' s'∧Q H') X.xe s
section
variable {X:Cx} {pos:Pos}
def Zhw (i:Nat):TG:=fun v σ H Q=>Q (σ.set i (some v)) H
theorem ZjR {i:Nat} {x:Str} (hN:X.N.Nodup) (hi:X.N[i]?=some x) (hx:Loc X.env.scope x) (hf:X.fn x=true∨X.env.scope.names.lookup x=some .local:=by first | exact .inl rfl | exact .inr rfl | assumption):PG X (.Name x pos) (Zhw i):=by
 intro pins s σ H v u Q I r h;exact wpAny_assign_Name (ZmE I hN hi hx r (fun s' I'=>⟨_,H,I',h⟩) hf)
def gNil:TGs:=fun vs σ H Q=>vs=[]∧Q σ H
def ZsM (t:TG) (u:TGs):TGs:=fun vs σ H Q=>∃v r,vs=v::r∧t v σ H fun σ' H'=>u r σ' H' Q
theorem ZhW:PGs X [] gNil:=by
 intro pins s σ H vs us Q I r h;obtain⟨e,h⟩:=h;subst e
 cases r
 exact assignInOrder_nil ⟨σ,H,I,h⟩
theorem ZcM {e:Expr} {es:List Expr} {t:TG} {u:TGs} (h1:PG X e t) (h2:PGs X es u)
  (hs:(assignEach (e::es) X.env).map (·.2)=assign e X.env::(assignEach es X.env).map (·.2):=by rfl):PGs X (e::es) (ZsM t u):=by
 intro pins s σ H vs us Q I r h;obtain⟨v,vr,e1,h⟩:=h;subst e1
 cases r with
 | cons r rr=>
  rw[hs];refine assignInOrder_cons (thn (h1 pins s σ H _ _ _ I r h) fun _ s1 ⟨σ1,H1,I1,q1⟩=>?_);exact h2 pins s1 σ1 H1 _ _ Q I1 rr q1
def gTup (K:PySem.W.Frag) (n:Nat) (t:TGs):TG:=fun v σ H Q=>∃a xs,v=.ref a∧SqT K H a xs∧xs.length=n∧t xs σ H Q
theorem ZkQ {es:List Expr} {k:Nat} {t:TGs} {n:Nat} (hc:X.calm=true) (h:PGs X es t)
  (hn:(assignEach es X.env).length=n:=by rfl) (hst:(assignEach es X.env).findIdx? (·.1)=none:=by rfl):PG X (.Tuple es k pos) (gTup X.K n t):=by
 intro pins s σ H v u Q I r hw;obtain⟨a,xs,e1,hq,hl,hw⟩:=hw;subst e1
 cases r
 obtain⟨its,rv,ht,hz⟩:=I.tuple hq;refine assign_Tuple_tuple (I.ok.hd hc) ht (by simp[hn,←hl,rv.length]) hst fun h' hx=>?_;have I1:Inv X pins σ H { s with heap:=h' }:=I.kept (t':=s.toks) fun b o e=>hx b o (Nat.ne_of_lt (Heap.lt_size e)) e;exact h pins _ σ H xs _ Q I1 (by simpa using rv) hw
def gSub (to ti:TE) (t:TSet):TG:=fun v σ H Q=>to σ H fun o H1=>ti σ H1 fun i H2=>t o i v H2 fun H3=>Q σ H3
theorem ZkP {o i:Expr} {to ti:TE} {t:TSet} (ho:PE X o to) (hi:PE X i ti) (hs:PSet X t)
  (ha:∀v,assign (.Subscript o i pos) X.env v=(do
   let ov ←holding [v] (eval o X.env)
   let iv ←holding [v,ov] (eval i X.env)
   standAt pos
   holding [v,ov,iv] (setItem ov iv v)
   release [v,ov,iv] []):=by intro _; rfl):PG X (.Subscript o i pos) (gSub to ti t):=by
 intro pins s σ H v u Q I r h;rw[ha];refine wpAny_bind (wpAny_holding (thn (ho pins s σ H _ I h) fun ov s1 ⟨x,H1,I1,r1,q1⟩=>?_));refine wpAny_bind (wpAny_holding (thn (hi pins s1 σ H1 _ I1 q1) fun iv s2 ⟨y,H2,I2,r2,q2⟩=>?_));refine wpAny_bind (wpAny_standAt (wpAny_bind (wpAny_holding (thn (hs pins s2 σ H2 x y v ov iv u _ I2 r1 r2 r q2) fun _ s3 ⟨H3,I3,q3⟩=>?_))));exact wpAny_release ⟨σ,H3,I3,q3⟩
def tAsg (te:TE) (g:TG):TS:=fun D σ H=>te σ H fun x H1=>g x σ H1 D.nx
theorem Zi7 {tg e:Expr} {te:TE} {g:TG} (he:PE X e te) (hg:PG X tg g) (hs:swapsWithSole [tg] e pos.line X.env=pure false:=by rfl) (hw:swappedStores [tg] e X.env=pure none:=by rfl)
  (h1:(assignEach [tg] X.env).map (·.2)=[assign tg X.env]:=by rfl):PS X (.Assign [tg] e pos) (tAsg te g):=by
 intro pins s σ H D I h;refine wpAny_Assign_stores (thn (he pins s σ H _ I h) fun v s1 ⟨x,H1,I1,r1,q1⟩=>?_) hs hw;rw[h1];exact thn (hg pins s1 σ H1 x v _ I1 r1 q1) fun _ s2 q=>q
theorem Zu7 {i:Nat} {x:Str} {e:Expr} {te:TE} {pos':Pos} (hN:X.N.Nodup) (hi:X.N[i]?=some x) (hx:Loc X.env.scope x) (he:PE X e te) (hs:swapsWith e (some (.Name x pos')) pos.line X.env=pure false:=by rfl) (hf:X.fn x=true∨X.env.scope.names.lookup x=some .local:=by first | exact .inl rfl | exact .inr rfl | assumption) :
  PS X (.Assign [.Name x pos'] e pos) (tAsg te (Zhw i)):=by
 intro pins s σ H D I h;refine wpAny_Assign_Name (thn (he pins s σ H _ I h) fun v s1 ⟨y,H1,I1,r1,q1⟩=>?_) hs;exact ZmE I1 hN hi hx r1 (fun s2 I2=>⟨_,H1,I2,q1⟩) hf
end
section
variable {X:Cx} {pos:Pos}
def ZvG (c:TT) (tb:TS):TS:=fun D σ H=>∃W:Nat→St→Hp→Prop,(∃m,W m σ H)∧∀m σ H,W m σ H→
 c σ H fun b H1=>if b=true then ∃N:St→Hp→Prop,(∀σ' H',N σ' H'→∃m',m' < m∧W m' σ' H')∧tb { D with nx:=N,ct:=N,bk:=D.nx } σ H1 else D.nx σ H1
theorem Zfd {c:Expr} {body:List Stmt} {tc:TT} {tb:TS} (hp:PassesOwn (model X.prog X.w) X.A X.env X.xe) (hc:PT X c tc) (hb:PSs X body tb):PS X (.While c body [] pos) (ZvG tc tb):=by
 intro pins s σ H D I h;obtain⟨W,⟨m0,w0⟩,turn⟩:=h;refine wpAny_While (codeAny_whileLoop (fun n s'=>∃σ' H',Inv X pins σ' H' s'∧W n σ' H') ?_ m0 ⟨σ,H,I,w0⟩);rintro n s1 ⟨σ1,H1,I1,w1⟩;refine wpAny_passesOwn hp (thn (hc pins s1 σ1 H1 _ I1 (turn n σ1 H1 w1)) fun b s2 ⟨H2,I2,q2⟩=>?_)
 cases b with
 | true=>
  obtain⟨N,hN,q2⟩:=q2;rw[if_pos rfl];refine wpAny_passesOwn hp (thn (hb pins s2 σ1 H2 _ I2 q2) fun f s3 q3=>?_)
  cases f with
  | next=>
   obtain⟨σ3,H3,I3,n3⟩:=q3;obtain⟨m',hm,w3⟩:=hN σ3 H3 n3;exact⟨m',hm,σ3,H3,I3,w3⟩
  | cont=>
   obtain⟨σ3,H3,I3,n3⟩:=q3;obtain⟨m',hm,w3⟩:=hN σ3 H3 n3;exact⟨m',hm,σ3,H3,I3,w3⟩
  | brk=>exact q3
  | ret v=>exact q3
 | false=>
  rw[if_neg Bool.false_ne_true];exact wpAny_execs_nil ⟨σ1,H2,I2,q2⟩
end
structure It where
 go:Nat→Hp→Prop
 yld:Nat→Hp→V→Hp→Prop
 stop:Nat→Hp→Prop
def FpOk (X:Cx) (pins:List (Addr×Obj)) (H:Hp) (b:Addr):Prop:=
 H b=none∧b≠X.env.locals∧b∉X.fs∧(b∈X.ex∨X.s₀.heap.objs.size≤b)∧(∀x c,X.env.cells.lookup x=some c→c≠b)∧∀p∈X.pn++pins,p.1≠b
theorem Inv.fpOk {X:Cx} {pins:List (Addr×Obj)} {σ:St} {H H':Hp} {s:Shared} {b:Addr} (I:Inv X pins σ H s) (hb:s.heap.objs.size≤b) (hn:H' b=none):FpOk X pins H' b:=by
 refine⟨hn,Nat.ne_of_gt (Nat.lt_of_lt_of_le I.lt hb),I.nofs hb,.inr (Nat.le_trans I.sz hb),fun x c e z=>?_,fun p hp z=>?_⟩
 ·obtain⟨v,q⟩:=I.cell x c e
  exact absurd (Nat.lt_of_lt_of_le q.lt (by rw[z]; exact hb)) (Nat.lt_irrefl _)
 ·exact absurd (Nat.lt_of_lt_of_le (Heap.lt_size (I.pin p hp).1) (by rw[z]; exact hb)) (Nat.lt_irrefl _)
structure Turn (P:Program) (w:World) (K:PySem.W.Frag) (tg:Expr) (J:It) (fp:List Addr) (it:Addr) (tn:Nat→Heap→Prop):Prop where
 mem:it∈fp
 obj:∀i h,tn i h→∀b∈fp,∃o,h.get? b=some o∧∀v,o.data≠.cell v
 keep:∀i h h',tn i h→(∀b∈fp,∀o,h.get? b=some o→h'.get? b=some o)→tn i h'
 item:∀(X:Cx),X.prog=P→X.w=w→X.K=K→X.calm=true→∀(i:Nat) (pins:List (Addr×Obj)) (s:Shared) (σ:St) (H:Hp) (E:Value→Shared→Prop),Inv X pins σ H s→(∀b∈fp,FpOk X pins H b)→tn i s.heap→J.go i H→
  wpAny (model P w) X.A (pyNext (.ref it)) (fun r s1=>∃u,r=some u∧
   wpAny (model P w) X.A (letOwnedTupleGo tg (.ref it) u) (fun _ s2=>∃x H',Inv X pins σ H' s2∧RelV x u∧J.yld i H x H'∧tn (i+1) s2.heap∧∀b∈fp,H' b=none) E s1) E s
 done:∀(X:Cx),X.prog=P→X.w=w→X.K=K→X.calm=true→∀(i:Nat) (pins:List (Addr×Obj)) (s:Shared) (σ:St) (H:Hp) (E:Value→Shared→Prop),Inv X pins σ H s→(∀b∈fp,FpOk X pins H b)→tn i s.heap→J.stop i H→
  wpAny (model P w) X.A (pyNext (.ref it)) (fun r s1=>r=none∧Inv X pins σ H s1) E s
 self:∀(A:Around) (i:Nat) (s:Shared) (Q:Value→Shared→Prop) (E:Value→Shared→Prop),tn i s.heap→Q (.ref it) s→wpAny (model P w) A (pyIter (.ref it)) Q E s
abbrev TI:=St→Hp→(It→Hp→Prop)→Prop
def PIE (X:Cx) (pins:List (Addr×Obj)) (σ:St) (tg:Expr) (R:It→Hp→Prop) (itv:Value) (s2:Shared):Prop:=
 ∃(it:Addr) (fp:List Addr) (tn:Nat→Heap→Prop) (J:It) (H':Hp),itv=.ref it∧Inv X pins σ H' s2∧Turn X.prog X.w X.K tg J fp it tn∧tn 0 s2.heap∧(∀b∈fp,FpOk X pins H' b)∧R J H'
def PI (X:Cx) (tg iter:Expr) (wi:TI):Prop:=
 ∀(pins:List (Addr×Obj)) (s:Shared) (σ:St) (H:Hp) (R:It→Hp→Prop),Inv X pins σ H s→wi σ H R→
  wpAny (model X.prog X.w) X.A (eval iter X.env) (fun v s1=>wpAny (model X.prog X.w) X.A (pyIter v) (PIE X pins σ tg R) X.xe s1) X.xe s
theorem Zm6 {M:Model} {A:Around} {E:Value→Shared→Prop} {s:Shared} {tg:Expr} {it:Addr} {u:Value} {o:Obj} {n:String} {vs:Array Value} {Q:Unit→Shared→Prop} (ho:s.heap.get? it=some o) (hc:o.cls=.type n) (hd:o.data=.fields vs)
    (hn:["enumerate","zip","dict_itemiterator","dict_reverseitemiterator","odict_iterator","itertools.zip_longest","itertools.pairwise"].contains n=false) (hQ:Q () s):wpAny M A (letOwnedTupleGo tg (.ref it) u) Q E s:=by
  unfold letOwnedTupleGo
  cases tg <;> first
    | exact wpAny_pure hQ
    | (cases u <;> first
        | exact wpAny_pure hQ
        | (refine wpAny_bind (wpAny_load ho ?_)
           rw[hc,hd];show wpAny M A (if (["enumerate","zip","dict_itemiterator","dict_reverseitemiterator","odict_iterator","itertools.zip_longest","itertools.pairwise"].contains n && vs[0]? == some (rawInt _))=true then _ else _) Q E s;rw[if_neg (by intro h; rw[hn,Bool.false_and]at h; cases h)]
           exact wpAny_pure hQ))
def Itl (K:PySem.W.Frag) (a:Addr):It:=
 ⟨fun i H=>∃xs x,SqL K H a xs∧xs[i]?=some x,fun i H x H'=>H'=H∧∀xs,SqL K H a xs→xs[i]?=some x,fun i H=>∃xs,SqL K H a xs∧xs.length≤i⟩
def Itt (K:PySem.W.Frag) (a:Addr):It:=
 ⟨fun i H=>∃xs x,SqT K H a xs∧xs[i]?=some x,fun i H x H'=>H'=H∧∀xs,SqT K H a xs→xs[i]?=some x,fun i H=>∃xs,SqT K H a xs∧xs.length≤i⟩
def Itr (lo:Int) (n:Nat):It:=⟨fun i _=>i < n,fun i H x H'=>H'=H∧x=.int (lo+i),fun i _=>n≤i⟩
theorem Zp0 {P:Program} {w:World} {K:PySem.W.Frag} {tg:Expr} (a it:Addr):Turn P w K tg (Itl K a) [it] it (fun i h=>h.IsListIter it a i) where
 mem:=by simp
 obj:=fun i h st b hb=>by
  have e:b=it:=by simpa using hb
  subst e;obtain⟨o,e,c,d⟩:=st;exact⟨o,e,fun v z=>by rw[d]at z; cases z⟩
 keep:=fun i h h' st k=>st.at fun o e=>k it (by simp) o e
 item:=by
  intro X hP hw hK hc i pins s σ H E I hf st hg;subst hP hw hK;obtain⟨xs,x,hq,hx⟩:=hg;obtain⟨its,rv,p,hz⟩:=I.list hq;obtain⟨u,hu,ru⟩:=rv.get hx;obtain⟨f0,f1,f2,f3,f4,f5⟩:=hf it (by simp);refine wpAny_pyNext_list_item st p.isList (x:=u) (by simpa using hu) fun h' st' sb=>?_;have I1:Inv X pins σ H { s with heap:=h' }:=I.turned (t':=s.toks) (fun b o hb e=>(sb.2 b hb).trans e) f0 f1 f3 f4 f5;obtain⟨o,e,c,d⟩:=id st';exact⟨u,rfl,Zm6 (s:={ s with heap:=h' }) e c d (by decide) ⟨x,H,I1,ru,⟨rfl,fun ys hy=>by rw[I.list_inj hy hq]; exact hx⟩,st',fun b hb=>(hf b hb).1⟩⟩
 done:=by
  intro X hP hw hK hc i pins s σ H E I hf st hg;subst hP hw hK;obtain⟨xs,hq,hx⟩:=hg;obtain⟨its,rv,p,hz⟩:=I.list hq;obtain⟨f0,f1,f2,f3,f4,f5⟩:=hf it (by simp);have hl:=rv.length;exact wpAny_pyNext_list_end (I.ok.hd hc) st p.isList (by simp; omega) fun h' eb=>⟨rfl,I.turned (t':=s.toks) (fun b o hb e=>eb b o hb e) f0 f1 f3 f4 f5⟩
 self:=fun _ _ _ _ _ st h=>wpAny_pyIter_listiter st h
theorem ZnE {P:Program} {w:World} {K:PySem.W.Frag} {tg:Expr} (a it:Addr):Turn P w K tg (Itt K a) [it] it (fun i h=>h.IsTupleIter it a i) where
 mem:=by simp
 obj:=fun i h st b hb=>by
  have e:b=it:=by simpa using hb
  subst e;obtain⟨o,e,c,d⟩:=st;exact⟨o,e,fun v z=>by rw[d]at z; cases z⟩
 keep:=fun i h h' st k=>st.at fun o e=>k it (by simp) o e
 item:=by
  intro X hP hw hK hc i pins s σ H E I hf st hg;subst hP hw hK;obtain⟨xs,x,hq,hx⟩:=hg;obtain⟨its,rv,p,hz⟩:=I.tuple hq;obtain⟨u,hu,ru⟩:=rv.get hx;obtain⟨f0,f1,f2,f3,f4,f5⟩:=hf it (by simp);refine wpAny_pyNext_tuple_item st (show s.heap.IsTuple a its.toArray from p) (x:=u) (by simpa using hu) fun h' st' sb=>?_;have I1:Inv X pins σ H { s with heap:=h' }:=I.turned (t':=s.toks) (fun b o hb e=>(sb.2 b hb).trans e) f0 f1 f3 f4 f5;obtain⟨o,e,c,d⟩:=id st';exact⟨u,rfl,Zm6 (s:={ s with heap:=h' }) e c d (by decide) ⟨x,H,I1,ru,⟨rfl,fun ys hy=>by rw[I.tuple_inj hy hq]; exact hx⟩,st',fun b hb=>(hf b hb).1⟩⟩
 done:=by
  intro X hP hw hK hc i pins s σ H E I hf st hg;subst hP hw hK;obtain⟨xs,hq,hx⟩:=hg;obtain⟨its,rv,p,hz⟩:=I.tuple hq;obtain⟨f0,f1,f2,f3,f4,f5⟩:=hf it (by simp);have hl:=rv.length;exact wpAny_pyNext_tuple_end (I.ok.hd hc) st (show s.heap.IsTuple a its.toArray from p) (by simp; omega) fun h' eb=>⟨rfl,I.turned (t':=s.toks) (fun b o hb e=>eb b o hb e) f0 f1 f3 f4 f5⟩
 self:=fun _ _ _ _ _ st h=>wpAny_pyIter_tupleiter st h
theorem ZnD {P:Program} {w:World} {K:PySem.W.Frag} {tg:Expr} (it:Addr) (lo:Int) (n:Nat):Turn P w K tg (Itr lo n) [it] it (fun i h=>IsRangeIter h it (lo+(i:Nat) * 1) ((n:Int) - (i:Nat)) 1) where
 mem:=by simp
 obj:=fun i h st b hb=>by
  have e:b=it:=by simpa using hb
  subst e
  exact⟨_,st,fun v z=>by
   have z':Data.fields _=Data.cell v:=z
   cases z'⟩
 keep:=fun i h h' st k=>k it (by simp) _ st
 item:=by
  intro X hP hw hK hc i pins s σ H E I hf st hg;subst hP hw hK;obtain⟨f0,f1,f2,f3,f4,f5⟩:=hf it (by simp);have W:=Walks.range (prog:=X.prog) (w:=X.w) (I.ok.hd hc) it lo 1 n;refine W.item i s _ _ hg st fun v h' tk hv st' kk=>?_;obtain⟨t,rfl⟩:=hv;have I1:Inv X pins σ H { s with heap:=h',toks:=tk }:=I.turned (fun b o hb e=>kk b o (by simpa using hb) e) f0 f1 f3 f4 f5;refine⟨_,rfl,Zm6 (s:={ s with heap:=h',toks:=tk }) (n:="range_iterator") st' rfl rfl (by decide) ⟨.int (lo+i),H,I1,⟨t,?_⟩,⟨rfl,rfl⟩,st',fun b hb=>(hf b hb).1⟩⟩;rw[Int.mul_one]
 done:=by
  intro X hP hw hK hc i pins s σ H E I hf st hg;subst hP hw hK;obtain⟨f0,f1,f2,f3,f4,f5⟩:=hf it (by simp);exact wpAny_pyNext_range_end (I.ok.hd hc) st (by have:n≤i:=hg; omega) fun h' eb=>⟨rfl,I.turned (t':=s.toks) (fun b o hb e=>eb b o hb e) f0 f1 f3 f4 f5⟩
 self:=fun _ _ _ _ _ st h=>wpAny_pyIter_rangeiter st h
end L2
namespace L2
open PySem PySem.Spec PyProof.Rows
section
variable {X:Cx} {tg:Expr}
theorem Zmt {pins:List (Addr×Obj)} {σ:St} {H:Hp} {s:Shared} {R:It→Hp→Prop} {E:Value→Shared→Prop} {lo hi:Int} {t u v:Tok} {tk:Nat} (I:Inv X pins σ H s) (h1 : -(2 ^ 62)≤lo) (h2:lo < 2 ^ 62) (h3 : -(2 ^ 62)≤hi) (h4:hi < 2 ^ 62)
  (q:R (Itr lo (hi - lo).toNat) H):wpAny (model X.prog X.w) X.A (pyIter (.ref s.heap.objs.size)) (PIE X pins σ tg R) E { s with heap:=s.heap.push { cls:=.type "range",data:=.fields #[.int lo t,.int hi u,.int 1 v] },toks:=tk }:=by
 refine wpAny_pyIter_range (IsRange.new ..) (small_one h1 h2 h3 h4) ?_;have I1:Inv X pins σ H { s with heap:=s.heap.push { cls:=.type "range",data:=.fields #[.int lo t,.int hi u,.int 1 v] },toks:=tk }:=I.kept fun b o e=>Heap.get?_push_of_some _ e
 refine⟨(s.heap.push { cls:=.type "range",data:=.fields #[.int lo t,.int hi u,.int 1 v] }).objs.size,[(s.heap.push { cls:=.type "range",data:=.fields #[.int lo t,.int hi u,.int 1 v] }).objs.size],_,_,H,rfl,
  I1.kept (t':=tk) fun b o e=>Heap.get?_push_of_some _ e,ZnD _ lo (hi - lo).toNat,?_,fun b hb=>?_,q⟩
 ·have e1:lo+((0:Nat):Int) * 1=lo:=by simp
  have e2:(((hi - lo).toNat:Nat):Int) - ((0:Nat):Int)=Builtin.Range.rangeSize lo hi 1:=by rw[rangeSize_one]; split <;> omega
  show IsRangeIter _ _ (lo+((0:Nat):Int) * 1) ((((hi - lo).toNat:Nat):Int) - ((0:Nat):Int)) 1;rw[e1,e2];exact Heap.get?_push_size _ rfl
 ·have e:b=(s.heap.push { cls:=.type "range",data:=.fields #[.int lo t,.int hi u,.int 1 v] }).objs.size:=by simpa using hb
  subst e;exact I1.fpOk (Nat.le_refl _) (I1.hok.fresh (Nat.le_refl _))
def ZsT (ta:TA):TI:=fun σ H R=>ta σ H fun vs H1=>∃j:Int,vs=[.int j]∧-(2 ^ 62)≤j∧j < 2 ^ 62∧R (Itr 0 j.toNat) H1
def ZsU (ta:TA):TI:=fun σ H R=>ta σ H fun vs H1=>∃i j:Int,vs=[.int i,.int j]∧(-(2 ^ 62)≤i∧i < 2 ^ 62∧-(2 ^ 62)≤j∧j < 2 ^ 62)∧R (Itr i (j - i).toNat) H1
theorem Zcv {a:Expr} {ta:TA} {p pos:Pos} (hg:Gl X "range") (hm:X.mg "range" = none) (ha:PA X [a] ta) (hs:starEach [a] X.env=[(false,eval a X.env)]:=by rfl):PI X tg (.Call (.Name "range" p) [a] [] pos) (ZsT ta):=by
 intro pins s σ H R I h;refine Call_ (ZgU I hg hm boot_range (PyProof.Rows.callWith_type1 (thn (ha pos pins s σ H _ I h) fun us s1 ⟨vs,H1,I1,r1,q1⟩=>?_) hs rfl));obtain⟨j,e,q1,q2,q⟩:=q1;subst e
 cases r1 with
 | cons r rr=>
  cases rr
  obtain⟨t,rfl⟩:=r;exact call_range_1 (Zmt I1 (by omega) (by omega) q1 q2 (by simpa using q))
theorem ZeM {a b:Expr} {ta:TA} {p pos:Pos} (hg:Gl X "range") (hm:X.mg "range" = none) (ha:PA X [a,b] ta) (hs:starEach [a,b] X.env=[(false,eval a X.env),(false,eval b X.env)]:=by rfl) (hs2:starEach [b] X.env=[(false,eval b X.env)]:=by rfl) :
  PI X tg (.Call (.Name "range" p) [a,b] [] pos) (ZsU ta):=by
 intro pins s σ H R I h;refine Call_ (ZgU I hg hm boot_range (PyProof.Rows.callWith_type1 (thn (ha pos pins s σ H _ I h) fun us s1 ⟨vs,H1,I1,r1,q1⟩=>?_) (by rw[hs,hs2]) (by rw[hs2]; rfl)));obtain⟨i,j,e,⟨q1,q2,q3,q4⟩,q⟩:=q1;subst e
 cases r1 with
 | cons r rr=>
  cases rr with
  | cons r' rr=>
   cases rr
   obtain⟨t,rfl⟩:=r;obtain⟨t',rfl⟩:=r';exact call_range_2 (Zmt I1 q1 q2 q3 q4 q)
def tFor (wi:TI) (g:TG) (tb:TS):TS:=fun D σ H=>wi σ H fun J H1=>∃W:Nat→Nat→St→Hp→Prop,(∃m,W 0 m σ H1)∧∀i m σ H,W i m σ H→
 (J.stop i H∧D.nx σ H)∨(J.go i H∧∃N:St→Hp→Prop,(∀σ' H',N σ' H'→∃m',m' < m∧W (i+1) m' σ' H')∧∀x H',J.yld i H x H'→g x σ H' fun σ2 H2=>tb { D with nx:=N,ct:=N,bk:=D.nx } σ2 H2)
def Zi6 (fp:List Addr) (h:Heap):List (Addr×Obj):=fp.filterMap fun b=>(h.get? b).map fun o=>(b,o)
theorem Zdq {fp:List Addr} {h:Heap} {b:Addr} {o:Obj} (hb:b∈fp) (e:h.get? b=some o):(b,o)∈Zi6 fp h:=List.mem_filterMap.mpr ⟨b,hb,by rw[e]; rfl⟩
theorem Zo0 {fp:List Addr} {h:Heap} {p:Addr×Obj} (hp:p∈Zi6 fp h):p.1∈fp∧h.get? p.1=some p.2:=by
 obtain⟨b,hb,e⟩:=List.mem_filterMap.mp hp
 cases q:h.get? b with
 | none=>rw[q]at e; cases e
 | some o=>
  rw[q]at e;have e':(b,o)=p:=Option.some.inj e;subst e';exact⟨hb,q⟩
theorem Inv.pinned {pins:List (Addr×Obj)} {σ:St} {H:Hp} {s:Shared} {fp:List Addr} (I:Inv X pins σ H s) (hf:∀b∈fp,FpOk X pins H b) (ho:∀b∈fp,∃o,s.heap.get? b=some o∧∀v,o.data≠.cell v):Inv X (pins++Zi6 fp s.heap) σ H s:=
 I.pins_of fun p hp=>(List.mem_append.mp hp).elim (fun z=>I.pin p (List.mem_append_right _ z)) fun z=>by
  obtain⟨hb,e⟩:=Zo0 z;obtain⟨f0,f1,f2,_⟩:=hf p.1 hb;obtain⟨o,e',d⟩:=ho p.1 hb;rw[e]at e'; cases e';exact⟨e,f0,f1,f2,d⟩
theorem Inv.unpinned {pins pl:List (Addr×Obj)} {σ:St} {H:Hp} {s:Shared} (I:Inv X (pins++pl) σ H s):Inv X pins σ H s:=I.pins_of fun p hp=>I.pin p (List.mem_append_right _ (List.mem_append_left _ hp))
theorem Zco {iter:Expr} {body:List Stmt} {wi:TI} {g:TG} {tb:TS} {pos:Pos} (hp:PassesOwn (model X.prog X.w) X.A X.env X.xe) (hc:X.calm=true) (hi:PI X tg iter wi) (hg:PG X tg g) (hb:PSs X body tb)
  (hs:∀x,foldedSetIterable iter X.env x=pure x:=by intro _; rfl):PS X (.For tg iter body [] pos) (tFor wi g tb):=by
 intro pins s σ H D I h;refine wpAny_For (thn (hi pins s σ H _ I h) fun v s1 h1=>thn h1 fun itv s2 h2=>?_) hs;obtain⟨it,fp,tn,J,H2,e,I2,T,st2,f2,W,⟨m0,w0⟩,turn⟩:=h2;subst e;have stat:∀{H':Hp},(∀b∈fp,H' b=none)→∀b∈fp,FpOk X pins H' b:=fun hn b hb=>⟨hn b hb,(f2 b hb).2⟩;refine codeAny_forLoop_any (fun n s'=>∃i σ' H',Inv X pins σ' H' s'∧tn i s'.heap∧(∀b∈fp,H' b=none)∧W i n σ' H') ?_ m0 ⟨0,σ,H2,I2,st2,fun b hb=>(f2 b hb).1,w0⟩;rintro n s3 ⟨i,σ3,H3,I3,st3,fr3,w3⟩
 rcases turn i n σ3 H3 w3 with⟨stop,qn⟩ | ⟨go,N,hN,step⟩
 ·refine wpAny_passesOwn hp (thn (T.done X rfl rfl rfl hc i pins s3 σ3 H3 X.xe I3 (stat fr3) st3 stop) fun r s4 ⟨hr,I4⟩=>?_)
  subst hr;exact wpAny_execs_nil ⟨σ3,H3,I4,qn⟩
 ·refine wpAny_passesOwn hp (thn (T.item X rfl rfl rfl hc i pins s3 σ3 H3 X.xe I3 (stat fr3) st3 go) fun r s4 ⟨u,hr,h4⟩=>?_)
  subst hr;refine wpAny_passesOwn hp (thn h4 fun _ s5 ⟨x,H5,I5,r5,y5,st5,fr5⟩=>?_);have I5':=I5.pinned (stat fr5) (T.obj _ _ st5);refine wpAny_passesOwn hp (thn (hg _ s5 σ3 H5 x u _ I5' r5 (step x H5 y5)) fun _ s6 ⟨σ6,H6,I6,q6⟩=>?_);refine wpAny_passesOwn hp (thn (hb _ s6 σ6 H6 _ I6 q6) fun f s7 q7=>?_)
  have again:∀{σ7:St} {H7:Hp},Inv X (pins++Zi6 fp s5.heap) σ7 H7 s7→N σ7 H7→∃m,m < n∧∃i σ' H',Inv X pins σ' H' s7∧tn i s7.heap∧(∀b∈fp,H' b=none)∧W i m σ' H':=fun {σ7 H7} I7 n7=>by
   obtain⟨m',hm,w7⟩:=hN σ7 H7 n7;refine⟨m',hm,i+1,σ7,H7,I7.unpinned,T.keep _ _ _ st5 fun b hb o e=>(I7.pin (b,o) (List.mem_append_right _ (List.mem_append_right _ (Zdq hb e)))).1,fun b hb=>?_,w7⟩;obtain⟨o,e,d⟩:=T.obj _ _ st5 b hb;exact(I7.pin (b,o) (List.mem_append_right _ (List.mem_append_right _ (Zdq hb e)))).2.1
  cases f with
  | next=>obtain⟨σ7,H7,I7,n7⟩:=q7; exact again I7 n7
  | cont=>obtain⟨σ7,H7,I7,n7⟩:=q7; exact again I7 n7
  | brk=>obtain⟨σ7,H7,I7,q7⟩:=q7; exact⟨σ7,H7,I7.unpinned,q7⟩
  | ret v=>obtain⟨x7,σ7,H7,I7,r7,q7⟩:=q7; exact⟨x7,σ7,H7,I7.unpinned,r7,q7⟩
end
theorem Zqt {K:PySem.W.Frag} {a:Addr} {xs:List V} {g:TG} {tb:TS} {D:Ends} {σ:St} {H:Hp} (Pv:Nat→St→Hp→Prop) (h0:Pv 0 σ H) (hl:∀i σ H,i≤xs.length→Pv i σ H→SqL K H a xs)
  (hs:∀i x σ H,xs[i]?=some x→Pv i σ H→g x σ H fun σ2 H2=>tb { D with nx:=Pv (i+1),ct:=Pv (i+1),bk:=D.nx } σ2 H2) (hd:∀σ H,Pv xs.length σ H→D.nx σ H) :
  ∃W:Nat→Nat→St→Hp→Prop,(∃m,W 0 m σ H)∧∀i m σ H,W i m σ H→
   ((Itl K a).stop i H∧D.nx σ H)∨((Itl K a).go i H∧∃N:St→Hp→Prop,(∀σ' H',N σ' H'→∃m',m' < m∧W (i+1) m' σ' H')∧∀x H',(Itl K a).yld i H x H'→g x σ H' fun σ2 H2=>tb { D with nx:=N,ct:=N,bk:=D.nx } σ2 H2):=by
 refine⟨fun i m σ H=>m=xs.length - i∧i≤xs.length∧Pv i σ H,⟨xs.length,by simp,Nat.zero_le _,h0⟩,?_⟩;rintro i m σ H ⟨rfl,hi,p⟩;have q:=hl i σ H hi p
 by_cases hlt:i < xs.length
 ·refine .inr ⟨⟨xs,xs[i],q,by simp[hlt]⟩,Pv (i+1),fun σ' H' p'=>⟨xs.length - (i+1),by omega,rfl,hlt,p'⟩,fun x H' y=>?_⟩
  obtain⟨e,y⟩:=y;subst e;exact hs i x σ _ (y xs q) p
 ·have e:i=xs.length:=by omega
  subst e;exact .inl ⟨⟨xs,q,Nat.le_refl _⟩,hd σ H p⟩
theorem ZeE {lo:Int} {n:Nat} {g:TG} {tb:TS} {D:Ends} {σ:St} {H:Hp} (Pv:Nat→St→Hp→Prop) (h0:Pv 0 σ H)
  (hs:∀i σ H,i < n→Pv i σ H→g (.int (lo+i)) σ H fun σ2 H2=>tb { D with nx:=Pv (i+1),ct:=Pv (i+1),bk:=D.nx } σ2 H2) (hd:∀σ H,Pv n σ H→D.nx σ H) :
  ∃W:Nat→Nat→St→Hp→Prop,(∃m,W 0 m σ H)∧∀i m σ H,W i m σ H→
   ((Itr lo n).stop i H∧D.nx σ H)∨((Itr lo n).go i H∧∃N:St→Hp→Prop,(∀σ' H',N σ' H'→∃m',m' < m∧W (i+1) m' σ' H')∧∀x H',(Itr lo n).yld i H x H'→g x σ H' fun σ2 H2=>tb { D with nx:=N,ct:=N,bk:=D.nx } σ2 H2):=by
 refine⟨fun i m σ H=>m=n - i∧i≤n∧Pv i σ H,⟨n,by simp,Nat.zero_le _,h0⟩,?_⟩;rintro i m σ H ⟨rfl,hi,p⟩
 by_cases hlt:i < n
 ·refine .inr ⟨hlt,Pv (i+1),fun σ' H' p'=>⟨n - (i+1),by omega,rfl,hlt,p'⟩,fun x H' y=>?_⟩
  obtain⟨e,y⟩:=y;subst e y;exact hs i σ _ hlt p
 ·have e:i=n:=by omega
  subst e;exact .inl ⟨Nat.le_refl _,hd σ H p⟩
end L2
namespace L2
open PySem PySem.Spec PyProof.Rows
abbrev R2:=V→V→Hp→VK→Prop
def OpR (X:Cx) (f:Value→Value→Sem Value) (r:R2):Prop:=
 ∀(pins:List (Addr×Obj)) (s:Shared) (σ:St) (H:Hp) (x y:V) (v u:Value) (Q:VK),Inv X pins σ H s→RelV x v→RelV y u→r x y H Q→
  wpAny (model X.prog X.w) X.A (f v u) (EP X pins σ Q) X.xe s
def UnR (X:Cx) (f:Value→Sem Value) (r:V→Hp→VK→Prop):Prop:=
 ∀(pins:List (Addr×Obj)) (s:Shared) (σ:St) (H:Hp) (x:V) (v:Value) (Q:VK),Inv X pins σ H s→RelV x v→r x H Q→
  wpAny (model X.prog X.w) X.A (f v) (EP X pins σ Q) X.xe s
def Zfz (X:Cx) (f:Value) (r:List V→Hp→VK→Prop):Prop:=
 ∀(pins:List (Addr×Obj)) (s:Shared) (σ:St) (H:Hp) (xs:List V) (us:List Value) (Q:VK),Inv X pins σ H s→Vals xs us→r xs H Q→
  wpAny (model X.prog X.w) X.A (call f us) (EP X pins σ Q) X.xe s
def TruR (X:Cx) (r:V→Hp→(Bool→Hp→Prop)→Prop):Prop:=
 ∀(pins:List (Addr×Obj)) (s:Shared) (σ:St) (H:Hp) (x:V) (v:Value) (Q:Bool→Hp→Prop),Inv X pins σ H s→RelV x v→r x H Q→
  wpAny (model X.prog X.w) X.A (truthy v) (TP X pins σ Q) X.xe s
def tOp (r:R2) (ta tb:TE):TE:=fun σ H Q=>ta σ H fun x H1=>tb σ H1 fun y H2=>r x y H2 Q
def tUn (r:V→Hp→VK→Prop) (ta:TE):TE:=fun σ H Q=>ta σ H fun x H1=>r x H1 Q
def rI (C:Int→Int→Prop) (g:Int→Int→V):R2:=fun x y H Q=>∃i j,x=.int i∧y=.int j∧C i j∧Q (g i j) H
def rI0 (g:Int→Int→V):R2:=fun x y H Q=>∃i j,x=.int i∧y=.int j∧Q (g i j) H
def rU (g:Int→V):V→Hp→VK→Prop:=fun x H Q=>∃i,x=.int i∧Q (g i) H
section
variable {X:Cx} {a b c:Expr} {ta tb tc:TE} {pos:Pos}
theorem binT (ha:PE X a ta) (hb:PE X b tb) {pins:List (Addr×Obj)} {s:Shared} {σ:St} {H:Hp} {R:V→V→Hp→Prop} (I:Inv X pins σ H s)
  (h:ta σ H fun x H1=>tb σ H1 fun y H2=>R x y H2) {Q:Value→Shared→Prop} {f:Value→Value→Sem Value}
  (hf:∀v u s2 x y H2,Inv X pins σ H2 s2→RelV x v→RelV y u→R x y H2→wpAny (model X.prog X.w) X.A (f v u) Q X.xe s2) :
  wpAny (model X.prog X.w) X.A (eval a X.env) (fun v s₁=>wpAny (model X.prog X.w) X.A (eval b X.env) (fun u s₂=>wpAny (model X.prog X.w) X.A (f v u) Q X.xe s₂) X.xe s₁) X.xe s:=by
 refine thn (ha pins s σ H _ I h) fun v s1 ⟨x,H1,I1,r1,q1⟩=>?_;refine thn (hb pins s1 σ H1 _ I1 q1) fun u s2 ⟨y,H2,I2,r2,q2⟩=>?_;exact hf v u s2 x y H2 I2 r1 r2 q2
theorem Zaf {op:Operator} {r:R2} (ho:OpR X (binaryOp op) r) (ha:PE X a ta) (hb:PE X b tb):PE X (.BinOp a op b pos) (tOp r ta tb):=by
 intro pins s σ H Q I h;exact wpAny_BinOp (binT ha hb I h fun v u s2 x y H2 I2 rx ry q=>ho pins s2 σ H2 x y v u Q I2 rx ry q)
theorem ZgD {op:UnaryOp} {r:V→Hp→VK→Prop} (ho:UnR X (unaryOp op) r) (ha:PE X a ta):PE X (.UnaryOp op a pos) (tUn r ta):=by
 intro pins s σ H Q I h;exact UnaryOp_ (thn (ha pins s σ H _ I h) fun v s1 ⟨x,H1,I1,r1,q1⟩=>ho pins s1 σ H1 x v Q I1 r1 q1)
theorem opI {f:Value→Value→Sem Value} {C:Int→Int→Prop} {g:Int→Int→Int}
  (rule:∀(i j:Int) (t u:Tok) (s:Shared) (Q:Value→Shared→Prop) (E:Value→Shared→Prop),C i j→Q (.int (g i j) s.toks) { s with toks:=s.toks+1 }→wpAny (model X.prog X.w) X.A (f (.int i t) (.int j u)) Q E s) :
  OpR X f (rI C fun i j=>.int (g i j)):=by
 intro pins s σ H x y v u Q I rx ry h;obtain⟨i,j,rfl,rfl,hc,q⟩:=h;obtain⟨t,rfl⟩:=rx;obtain⟨t',rfl⟩:=ry;exact rule i j t t' s _ _ hc ⟨.int (g i j),H,I.tok _,⟨_,rfl⟩,q⟩
theorem opI0 {f:Value→Value→Sem Value} {g:Int→Int→Int}
  (rule:∀(i j:Int) (t u:Tok) (s:Shared) (Q:Value→Shared→Prop) (E:Value→Shared→Prop),Q (.int (g i j) s.toks) { s with toks:=s.toks+1 }→wpAny (model X.prog X.w) X.A (f (.int i t) (.int j u)) Q E s) :
  OpR X f (rI0 fun i j=>.int (g i j)):=by
 intro pins s σ H x y v u Q I rx ry h;obtain⟨i,j,rfl,rfl,q⟩:=h;obtain⟨t,rfl⟩:=rx;obtain⟨t',rfl⟩:=ry;exact rule i j t t' s _ _ ⟨.int (g i j),H,I.tok _,⟨_,rfl⟩,q⟩
theorem opB0 {f:Value→Value→Sem Value} {g:Int→Int→Bool}
  (rule:∀(i j:Int) (t u:Tok) (s:Shared) (Q:Value→Shared→Prop) (E:Value→Shared→Prop),Q (.bool (g i j)) s→wpAny (model X.prog X.w) X.A (f (.int i t) (.int j u)) Q E s) :
  OpR X f (rI0 fun i j=>.bl (g i j)):=by
 intro pins s σ H x y v u Q I rx ry h;obtain⟨i,j,rfl,rfl,q⟩:=h;obtain⟨t,rfl⟩:=rx;obtain⟨t',rfl⟩:=ry;exact rule i j t t' s _ _ ⟨.bl (g i j),H,I,rfl,q⟩
def CPow (i j:Int):Prop:=0≤j∧j≤1000000∧i.natAbs < 2 ^ 64
def CMul (i j:Int):Prop:=(-(2 ^ 64) < i∧i < 2 ^ 64)∨(-(2 ^ 64) < j∧j < 2 ^ 64)
theorem CMul.ok {i j:Int} (h:CMul i j):IntMulOk i j:=by
 rcases h with⟨h1,h2⟩ | ⟨h1,h2⟩
 ·exact .of_left (intBits_le_64 h1 h2)
 ·exact .of_right (intBits_le_64 h1 h2)
theorem ZnF (k:Nat):(0:Int)≤2 ^ k:=by
 rw[two_pow_cast];exact Int.natCast_nonneg _
theorem ZuT:OpR X (binaryOp .Add) (rI0 fun i j=>.int (i+j)):=opI0 fun _ _ _ _ _ _ _ q=>add_int q
theorem Zea:OpR X (binaryOp .Sub) (rI0 fun i j=>.int (i - j)):=opI0 fun _ _ _ _ _ _ _ q=>sub_int q
theorem ZuY:OpR X (binaryOp .Mult) (rI CMul fun i j=>.int (i * j)):=opI fun _ _ _ _ _ _ _ hc q=>mul_int q hc.ok
theorem Zbw:OpR X (binaryOp .Mod) (rI (fun _ j=>0 < j) fun i j=>.int (i % j)):=opI fun i j _ _ _ _ _ hc q=>by
 have h1:(0:Int) < j:=hc;exact mod_int' (by omega) (by rw[Int.fmod_eq_emod_of_nonneg i (by omega)]; exact q)
theorem Zu1:OpR X (binaryOp .Pow) (rI CPow fun i j=>.int (i ^ j.toNat)):=opI fun _ _ _ _ _ _ _ hc q=>pow_int_small hc.1 hc.2.1 hc.2.2 q
theorem ZbF:OpR X (binaryOp .LShift) (rI CPow fun i j=>.int (i * 2 ^ j.toNat)):=opI fun _ _ _ _ _ _ _ hc q=>lshift_int_small hc.1 hc.2.1 hc.2.2 q
theorem ZeK:OpR X (binaryOp .RShift) (rI (fun _ j=>0≤j) fun i j=>.int (i / 2 ^ j.toNat)):=opI fun i j _ _ _ _ _ hc q=>
 rshift_int hc (by rw[Int.fdiv_eq_ediv_of_nonneg i (ZnF _)]; exact q)
theorem ZaL:OpR X (binaryOp .BitAnd) (rI0 fun i j=>.int (Builtin.bitAnd i j)):=opI0 fun _ _ _ _ _ _ _ q=>and_int q
theorem Znr:OpR X (binaryOp .BitOr) (rI0 fun i j=>.int (Builtin.bitOr i j)):=opI0 fun _ _ _ _ _ _ _ q=>or_int q
theorem unI {f:Value→Sem Value} {g:Int→Int}
  (rule:∀(i:Int) (t:Tok) (s:Shared) (Q:Value→Shared→Prop) (E:Value→Shared→Prop),Q (.int (g i) s.toks) { s with toks:=s.toks+1 }→wpAny (model X.prog X.w) X.A (f (.int i t)) Q E s) :
  UnR X f (rU fun i=>.int (g i)):=by
 intro pins s σ H x v Q I rx h;obtain⟨i,rfl,q⟩:=h;obtain⟨t,rfl⟩:=rx;exact rule i t s _ _ ⟨.int (g i),H,I.tok _,⟨_,rfl⟩,q⟩
theorem Zp3:UnR X (unaryOp .USub) (rU fun i=>.int (-i)):=unI fun _ _ _ _ _ q=>neg_int q
theorem Zfy:UnR X (unaryOp .Invert) (rU fun i=>.int (Builtin.bitNot i)):=unI fun _ _ _ _ _ q=>invert_int q
end
def scal:V→V→Bool
 | .non,.non=>true | .non,.int _=>true | .int _,.non=>true | .non,.bl _=>true | .bl _,.non=>true | .non,.str _=>true | .str _,.non=>true
 | .int _,.int _=>true | .bl _,.bl _=>true | .str _,.str _=>true | .byt _,.byt _=>true
 | .int _,.str _=>true | .str _,.int _=>true | .bl _,.str _=>true | .str _,.bl _=>true
 | _,_=>false
def rEq:R2:=fun x y H Q=>scal x y=true∧Q (.bl (decide (x=y))) H
def rNe:R2:=fun x y H Q=>scal x y=true∧Q (.bl (!decide (x=y))) H
theorem Zob {i j:Int}:decide (V.int i=V.int j)=(i == j):=by
 rw[Bool.eq_iff_iff];simp
theorem ZrA {i j:Bool}:decide (V.bl i=V.bl j)=(i == j):=by
 rw[Bool.eq_iff_iff];simp
theorem Zoc {i j:Str}:decide (V.str i=V.str j)=(i == j):=by
 rw[Bool.eq_iff_iff];simp
theorem Zoa {i j:Array UInt8}:decide (V.byt i=V.byt j)=(i.toList == j.toList):=by
 rw[Bool.eq_iff_iff]
 cases i
 cases j
 simp
section
variable {X:Cx} {a b c:Expr} {ta tb tc:TE} {pos:Pos}
theorem Za4 {pins:List (Addr×Obj)} {σ:St} {H:Hp} {s:Shared} {Q:VK} {k k':Bool} (I:Inv X pins σ H s) (q:Q (.bl k) H) (e:k=k'):EP X pins σ Q (.bool k') s:=by
 subst e;exact⟨.bl k,H,I,rfl,q⟩
theorem Zv2:OpR X (compareOp .Eq) rEq:=by
 intro pins s σ H x y v u Q I rx ry h;obtain⟨hs,q⟩:=h
 cases x with
 | non=>
  cases rx
  cases y with
  | non=>cases ry; exact PySem.EqNone.eq_none_none (Za4 I q (by simp))
  | bl j=>cases ry; exact PySem.EqNone.eq_none_bool (Za4 I q (by simp))
  | int j=>obtain⟨t',rfl⟩:=ry; exact PySem.EqNone.eq_none_int (Za4 I q (by simp))
  | str j=>obtain⟨t',rfl⟩:=ry; exact PySem.EqNone.eq_none_str (Za4 I q (by simp))
  | _=>exact absurd (show false=true from hs) Bool.false_ne_true
 | bl i=>
  cases rx
  cases y with
  | non=>cases ry; exact PySem.EqNone.eq_bool_none (Za4 I q (by simp))
  | bl j=>cases ry; exact eq_bool (Za4 I q ZrA)
  | str j=>obtain⟨t',rfl⟩:=ry; exact PySem.EqMixed.eq_bool_str (Za4 I q (by simp))
  | _=>exact absurd (show false=true from hs) Bool.false_ne_true
 | int i=>
  obtain⟨t,rfl⟩:=rx
  cases y with
  | non=>cases ry; exact PySem.EqNone.eq_int_none (Za4 I q (by simp))
  | int j=>obtain⟨t',rfl⟩:=ry; exact eq_int (Za4 I q Zob)
  | str j=>obtain⟨t',rfl⟩:=ry; exact PySem.EqMixed.eq_int_str (Za4 I q (by simp))
  | _=>exact absurd (show false=true from hs) Bool.false_ne_true
 | str i=>
  obtain⟨t,rfl⟩:=rx
  cases y with
  | non=>cases ry; exact PySem.EqNone.eq_str_none (Za4 I q (by simp))
  | bl j=>cases ry; exact PySem.EqMixed.eq_str_bool (Za4 I q (by simp))
  | int j=>obtain⟨t',rfl⟩:=ry; exact PySem.EqMixed.eq_str_int (Za4 I q (by simp))
  | str j=>obtain⟨t',rfl⟩:=ry; exact eq_str (Za4 I q Zoc)
  | _=>exact absurd (show false=true from hs) Bool.false_ne_true
 | byt i=>
  obtain⟨t,rfl⟩:=rx
  cases y with
  | byt j=>obtain⟨t',rfl⟩:=ry; exact PySem.W.eq_bytes (Za4 I q Zoa)
  | _=>exact absurd (show false=true from hs) Bool.false_ne_true
 | _=>cases y <;> exact absurd (show false=true from hs) Bool.false_ne_true
theorem Zv3:OpR X (compareOp .NotEq) rNe:=by
 intro pins s σ H x y v u Q I rx ry h;obtain⟨hs,q⟩:=h
 cases x with
 | non=>
  cases rx
  cases y with
  | non=>cases ry; exact PySem.EqNone.ne_none_none (Za4 I q (by simp))
  | bl j=>cases ry; exact PySem.EqNone.ne_none_bool (Za4 I q (by simp))
  | int j=>obtain⟨t',rfl⟩:=ry; exact PySem.EqNone.ne_none_int (Za4 I q (by simp))
  | str j=>obtain⟨t',rfl⟩:=ry; exact PySem.EqNone.ne_none_str (Za4 I q (by simp))
  | _=>exact absurd (show false=true from hs) Bool.false_ne_true
 | bl i=>
  cases rx
  cases y with
  | non=>cases ry; exact PySem.EqNone.ne_bool_none (Za4 I q (by simp))
  | bl j=>cases ry; exact ne_bool (Za4 I q (congrArg not ZrA))
  | str j=>obtain⟨t',rfl⟩:=ry; exact PySem.EqMixed.ne_bool_str (Za4 I q (by simp))
  | _=>exact absurd (show false=true from hs) Bool.false_ne_true
 | int i=>
  obtain⟨t,rfl⟩:=rx
  cases y with
  | non=>cases ry; exact PySem.EqNone.ne_int_none (Za4 I q (by simp))
  | int j=>obtain⟨t',rfl⟩:=ry; exact ne_int (Za4 I q (congrArg not Zob))
  | str j=>obtain⟨t',rfl⟩:=ry; exact PySem.EqMixed.ne_int_str (Za4 I q (by simp))
  | _=>exact absurd (show false=true from hs) Bool.false_ne_true
 | str i=>
  obtain⟨t,rfl⟩:=rx
  cases y with
  | non=>cases ry; exact PySem.EqNone.ne_str_none (Za4 I q (by simp))
  | bl j=>cases ry; exact PySem.EqMixed.ne_str_bool (Za4 I q (by simp))
  | int j=>obtain⟨t',rfl⟩:=ry; exact PySem.EqMixed.ne_str_int (Za4 I q (by simp))
  | str j=>obtain⟨t',rfl⟩:=ry; exact ne_str (Za4 I q (congrArg not Zoc))
  | _=>exact absurd (show false=true from hs) Bool.false_ne_true
 | byt i=>
  obtain⟨t,rfl⟩:=rx
  cases y with
  | byt j=>obtain⟨t',rfl⟩:=ry; exact PySem.W.ne_bytes (Za4 I q (congrArg not Zoa))
  | _=>exact absurd (show false=true from hs) Bool.false_ne_true
 | _=>cases y <;> exact absurd (show false=true from hs) Bool.false_ne_true
theorem Znq:OpR X (compareOp .Lt) (rI0 fun i j=>.bl (decide (i < j))):=opB0 fun _ _ _ _ _ _ _ q=>lt_int q
theorem ZqZ:OpR X (compareOp .LtE) (rI0 fun i j=>.bl (decide (i≤j))):=opB0 fun _ _ _ _ _ _ _ q=>le_int q
theorem Zo5:OpR X (compareOp .Gt) (rI0 fun i j=>.bl (decide (j < i))):=opB0 fun _ _ _ _ _ _ _ q=>gt_int q
theorem ZuW:OpR X (compareOp .GtE) (rI0 fun i j=>.bl (decide (j≤i))):=opB0 fun _ _ _ _ _ _ _ q=>ge_int q
theorem ZuX:OpR X (compareOp .Is) (fun x y H Q=>y=.non∧Q (.bl (decide (x=.non))) H):=by
 intro pins s σ H x y v u Q I rx ry h;obtain⟨rfl,q⟩:=h
 cases ry
 refine is_none_gen (Za4 I q ?_)
 cases x <;> first
  | (cases rx; rfl)
  | (obtain⟨t,rfl⟩:=rx; rfl)
theorem ZlB:OpR X (compareOp .IsNot) (fun x y H Q=>y=.non∧Q (.bl (!decide (x=.non))) H):=by
 intro pins s σ H x y v u Q I rx ry h;obtain⟨rfl,q⟩:=h
 cases ry
 refine isnot_none_gen (Za4 I q ?_)
 cases x <;> first
  | (cases rx; rfl)
  | (obtain⟨t,rfl⟩:=rx; rfl)
theorem OpR.or {f:Value→Value→Sem Value} {r r':R2} (h:OpR X f r) (h':OpR X f r'):OpR X f (fun x y H Q=>r x y H Q∨r' x y H Q):=by
 intro pins s σ H x y v u Q I rx ry q
 rcases q with q | q
 ·exact h pins s σ H x y v u Q I rx ry q
 ·exact h' pins s σ H x y v u Q I rx ry q
theorem Zap (b:Expr) {op:CmpOp} (h:op≠.In:=by decide) (h2:op≠.NotIn:=by decide):behindInMarks op b=false:=by
 have e1:(op == CmpOp.In)=false:=by cases op <;> first | rfl | exact absurd rfl h
 have e2:(op == CmpOp.NotIn)=false:=by cases op <;> first | rfl | exact absurd rfl h2
 cases b <;> simp[behindInMarks,e1,e2]
theorem ZcE {op:CmpOp} {r:R2} (ho:OpR X (compareOp op) r) (ha:PE X a ta) (hb:PE X b tb) (hm:behindInMarks op b=false):PE X (.Compare a [op] [b] pos) (tOp r ta tb):=by
 intro pins s σ H Q I h;exact wpAny_Compare1 (binT ha hb I h fun v u s2 x y H2 I2 rx ry q=>ho pins s2 σ H2 x y v u Q I2 rx ry q) hm
def ZpV (t:TE):TT:=fun σ H Q=>t σ H fun x H'=>∃k,x=.bl k∧Q k H'
theorem Zan {op:CmpOp} {r:R2} (ho:OpR X (compareOp op) r) (ha:PE X a ta) (hb:PE X b tb) (hm:behindInMarks op b=false):PT X (.Compare a [op] [b] pos) (ZpV (tOp r ta tb)):=by
 intro pins s σ H Q I h
 refine wpAny_isTrue_Compare1 (thn (ha pins s σ H _ I h) fun v s1 ⟨x,H1,I1,r1,q1⟩=>thn (hb pins s1 σ H1 _ I1 q1) fun u s2 ⟨y,H2,I2,r2,q2⟩=>
  thn (ho pins s2 σ H2 x y v u _ I2 r1 r2 q2) fun c s3 ⟨z,H3,I3,r3,k,e,q3⟩=>?_) hm
 subst e
 cases r3
 exact wpAny_truthy_bool ⟨H3,I3,q3⟩
def ZpT (r r':R2) (ta tb tc:TE):TE:=fun σ H Q=>ta σ H fun x H1=>tb σ H1 fun y H2=>r x y H2 fun z H3=>∃k,z=.bl k∧
 (if k=true then tc σ H3 fun w' H4=>r' y w' H4 Q else Q (.bl false) H3)
theorem Zq2 {op op':CmpOp} {r r':R2} (ho:OpR X (compareOp op) r) (ho':OpR X (compareOp op') r') (ha:PE X a ta) (hb:PE X b tb) (hc:PE X c tc)
  (hm:lastMarks [op,op'] [b,c]=false:=by with_unfolding_all rfl):PE X (.Compare a [op,op'] [b,c] pos) (ZpT r r' ta tb tc):=by
 intro pins s σ H Q I h
 refine Compare_chain (thn (ha pins s σ H _ I h) fun v s1 ⟨x,H1,I1,r1,q1⟩=>chain_link (thn (hb pins s1 σ H1 _ I1 q1) fun u s2 ⟨y,H2,I2,r2,q2⟩=>
  thn (ho pins s2 σ H2 x y v u _ I2 r1 r2 q2) fun d s3 ⟨z,H3,I3,r3,k,e,q3⟩=>?_)) hm
 subst e
 cases r3
 refine wpAny_truthy_bool ?_
 cases k with
 | false=>exact ite_ff ⟨.bl false,H3,I3,rfl,q3⟩
 | true=>exact ite_tt (chain_last (thn (hc pins s3 σ H3 _ I3 q3) fun w' s4 ⟨z',H4,I4,r4,q4⟩=>ho' pins s4 σ H4 y z' u w' Q I4 r2 r4 q4))
theorem Zrc {op op':CmpOp} {r r':R2} (ho:OpR X (compareOp op) r) (ho':OpR X (compareOp op') r') (ha:PE X a ta) (hb:PE X b tb) (hc:PE X c tc)
  (hm:lastMarks [op,op'] [b,c]=false:=by with_unfolding_all rfl):PT X (.Compare a [op,op'] [b,c] pos) (ZpV (ZpT r r' ta tb tc)):=by
 intro pins s σ H Q I h
 refine isTrue_chain (thn (ha pins s σ H _ I h) fun v s1 ⟨x,H1,I1,r1,q1⟩=>test_link (thn (hb pins s1 σ H1 _ I1 q1) fun u s2 ⟨y,H2,I2,r2,q2⟩=>
  thn (ho pins s2 σ H2 x y v u _ I2 r1 r2 q2) fun d s3 ⟨z,H3,I3,r3,k,e,q3⟩=>?_)) hm
 subst e
 cases r3
 refine wpAny_truthy_bool ?_
 cases k with
 | false=>
  obtain⟨k',e',q'⟩:=q3
  cases e'
  exact ite_ff ⟨H3,I3,q'⟩
 | true=>
  refine ite_tt (test_last (thn (hc pins s3 σ H3 _ I3 q3) fun w' s4 ⟨z',H4,I4,r4,q4⟩=>thn (ho' pins s4 σ H4 y z' u w' _ I4 r2 r4 q4) fun d' s5 ⟨z2,H5,I5,r5,k2,e2,q5⟩=>?_));subst e2
  cases r5
  exact wpAny_truthy_bool ⟨H5,I5,q5⟩
def TruV (K:PySem.W.Frag) (x:V) (H:Hp) (k:Bool):Prop:=
 match x with
 | .non=>k=false
 | .bl b=>k=b
 | .int i=>k=(i != 0)
 | .str y=>y.length≤sizeLine∧k=((y.length:Int) != 0)
 | .byt y=>y.size≤sizeLine∧k=((y.size:Int) != 0)
 | .ref p=>(∃xs,SqL K H p xs∧k = !xs.isEmpty)∨(∃xs,SqT K H p xs∧k = !xs.isEmpty)∨∃kvs,H p=some (.dK kvs)∧k = !kvs.isEmpty
 | _=>False
theorem Zm9 {κ:Type} {kvs:List (κ×V)} {vs:List (κ×Value)} (r:KV kvs vs):(!vs.isEmpty) = !kvs.isEmpty:=by
 cases r <;> rfl
theorem ZiW {xs:List V} {its:List Value} (r:Vals xs its):(!its.toArray.isEmpty) = !xs.isEmpty:=by
 cases r <;> simp
theorem ZiX:(sizeLine:Nat) < 2 ^ 63:=by rw[sizeLine_eq]; decide
theorem Zss:TruR X (fun x H Q=>∃k,TruV X.K x H k∧Q k H):=by
 intro pins s σ H x v Q I rx h;obtain⟨k,e,q⟩:=h;have hl:=ZiX;have hs:sizeLine=16777216:=sizeLine_eq
 cases x with
 | non=>
  cases rx
  have e':k=false:=e;subst e';exact truthy_none ⟨H,I,q⟩
 | bl b=>
  cases rx
  have e':k=b:=e;subst e';exact wpAny_truthy_bool ⟨H,I,q⟩
 | int i=>
  obtain⟨t,rfl⟩:=rx;have e':k=(i != 0):=e;subst e';exact PySem.P.truthy_int ⟨H,I,q⟩
 | str y=>
  obtain⟨t,rfl⟩:=rx;obtain⟨hy,e'⟩ : y.length≤sizeLine∧k=((y.length:Int) != 0):=e;subst e';exact PySem.P.truthy_str (by omega) ⟨H,I.tok _,q⟩
 | byt y=>
  obtain⟨t,rfl⟩:=rx;obtain⟨hy,e'⟩ : y.size≤sizeLine∧k=((y.size:Int) != 0):=e;subst e';exact PySem.W.truthy_bytes (by omega) ⟨H,I.tok _,q⟩
 | ref p=>
  cases rx
  have e':(∃xs,SqL X.K H p xs∧k = !xs.isEmpty)∨(∃xs,SqT X.K H p xs∧k = !xs.isEmpty)∨∃kvs,H p=some (.dK kvs)∧k = !kvs.isEmpty:=e
  rcases e' with⟨xs,hx,e'⟩ | ⟨xs,hx,e'⟩ | ⟨kvs,hx,e'⟩
  ·subst e'
   obtain⟨its,r,pl,hz⟩:=I.list hx;have hlen:=r.length;exact wpAny_truthy_list pl.isList (by simp only [List.size_toArray]; omega) ⟨H,I.tok _,by rw[ZiW r]; exact q⟩
  ·subst e'
   obtain⟨its,r,pl,hz⟩:=I.tuple hx;have hlen:=r.length;exact truthy_tuple pl (by simp only [List.size_toArray]; omega) ⟨H,I.tok _,by rw[ZiW r]; exact q⟩
  ·subst e'
   obtain⟨hz,hS,vs,r,m⟩ : kvs.length≤sizeLine∧(p == sysModules)=false∧∃vs,KV kvs vs∧s.heap.DictOf (Zb2 X.prog X.w) p vs:=I.hok p _ hx;have hlen:kvs.length=vs.length:=Paired.length r;exact wpAny_truthy_dict hS m (by omega) ⟨H,I.tok _,by rw[Zm9 r]; exact q⟩
 | _=>exact(show False from e).elim
theorem Zay (ha:PE X a ta) (he:∀whole,isTrue a X.env whole=(do let v ←whole; standAt a.pos; holding [v] (truthy v))) :
  PT X a (fun σ H Q=>ta σ H fun x H'=>∃k,TruV X.K x H' k∧Q k H'):=by
 intro pins s σ H Q I h;exact isTrue_plain (thn (ha pins s σ H _ I h) fun v s1 ⟨x,H1,I1,r1,q1⟩=>Zss pins s1 σ H1 x v Q I1 r1 q1) (he _)
theorem Znp:OpR X (binaryOp .Add) (fun x y H Q=>∃i j,x=.str i∧y=.str j∧i.length+j.length≤sizeLine∧Q (.str (i++j)) H):=by
 intro pins s σ H x y v u Q I rx ry h;obtain⟨i,j,rfl,rfl,hz,q⟩:=h;obtain⟨t,rfl⟩:=rx;obtain⟨t',rfl⟩:=ry;exact add_str (fun t' tk=>⟨.str (i++j),H,I.tok _,⟨_,rfl⟩,q⟩) hz
theorem Zj4 {x:V} {us:List Value} (r:Vals [x] us):∃u,us=[u]∧RelV x u:=by
 cases r with
 | cons r1 r2=>cases r2; exact⟨_,rfl,r1⟩
theorem ZtN {x y:V} {us:List Value} (r:Vals [x,y] us):∃u w',us=[u,w']∧RelV x u∧RelV y w':=by
 cases r with
 | cons r1 r2=>
  cases r2 with
  | cons r3 r4=>cases r4; exact⟨_,_,rfl,r1,r3⟩
theorem Zn2 (hc:X.calm=true):Zfz X (.builtin "min") (fun xs H Q=>∃i j,xs=[.int i,.int j]∧Q (.int (if j < i then j else i)) H):=by
 intro pins s σ H xs us Q I r h;obtain⟨i,j,rfl,q⟩:=h;obtain⟨u,w',rfl,⟨t,rfl⟩,⟨t',rfl⟩⟩:=ZtN r;refine min_two_ints (I.ok.hd hc) fun h' tk k=>⟨_,H,I.kept k,?_,q⟩
 by_cases hj:j < i
 ·rw[if_pos hj,if_pos hj]; exact⟨_,rfl⟩
 ·rw[if_neg hj,if_neg hj]; exact⟨_,rfl⟩
def LenV (K:PySem.W.Frag) (x:V) (H:Hp) (n:Nat):Prop:=
 match x with
 | .str y=>y.length≤sizeLine∧n=y.length
 | .byt y=>y.size≤sizeLine∧n=y.size
 | .ref p=>(∃xs,SqL K H p xs∧n=xs.length)∨∃xs,SqT K H p xs∧n=xs.length
 | _=>False
theorem Zql:Zfz X (.builtin "len") (fun xs H Q=>∃x n,xs=[x]∧LenV X.K x H n∧Q (.int n) H):=by
 intro pins s σ H xs us Q I r h;obtain⟨x,n,rfl,e,q⟩:=h;obtain⟨u,rfl,rx⟩:=Zj4 r;have hl:=ZiX;have hs:sizeLine=16777216:=sizeLine_eq
 cases x with
 | str y=>
  obtain⟨t,rfl⟩:=rx;obtain⟨hy,e'⟩ : y.length≤sizeLine∧n=y.length:=e;subst e';exact len_str (by omega) ⟨.int _,H,I.tok _,⟨_,rfl⟩,q⟩
 | byt y=>
  obtain⟨t,rfl⟩:=rx;obtain⟨hy,e'⟩ : y.size≤sizeLine∧n=y.size:=e;subst e';exact PySem.W.len_bytes (by omega) ⟨.int _,H,I.tok _,⟨_,rfl⟩,q⟩
 | ref p=>
  cases rx
  have e':(∃xs,SqL X.K H p xs∧n=xs.length)∨∃xs,SqT X.K H p xs∧n=xs.length:=e
  rcases e' with⟨xs,hx,e'⟩ | ⟨xs,hx,e'⟩
  ·subst e'
   obtain⟨its,r',pl,hz⟩:=I.list hx;have hlen:=r'.length;exact Calls.call_len_list pl.isList (by simp only [List.size_toArray]; omega) ⟨.int xs.length,H,I.tok _,⟨_,by simp only [List.size_toArray]; rw[hlen]⟩,q⟩
  ·subst e'
   obtain⟨its,r',pl,hz⟩:=I.tuple hx;have hlen:=r'.length;exact len_tuple pl (by simp only [List.size_toArray]; omega) ⟨.int xs.length,H,I.tok _,⟨_,by simp only [List.size_toArray]; rw[hlen]⟩,q⟩
 | _=>exact(show False from e).elim
end
end L2
namespace L2
open PySem PySem.Spec PyProof.Rows
structure ObjM (h:Heap) (x dx C:Addr) (mA:Str→Option Value):Prop where
 obj:h.get? x=some (PySem.W.instObj C dx)
 ns:h.Ns1 dx mA
 ne:dx≠x
theorem ZoU {h:Heap} {dx:Addr} {mA:Str→Option Value} (n:h.Ns1 dx mA):∃od,h.get? dx=some od∧∀name,PySem.W.lookIn name od=some (mA name):=by
 obtain⟨o,es,ep,ho,hd,hk,_,hm⟩:=n;refine⟨o,ho,fun name=>?_⟩;have e:=hm name;unfold nsFind findBy at e;rw[←Array.find?_toList]at e;unfold PySem.W.lookIn;rw[hd]
 dsimp only
 split
 ·rename_i y q
  rw[q]at e;exact congrArg some e
 ·rename_i q
  rw[q]at e
  have a:es.toList.any (·.refKey)=false:=by
   rw[List.any_eq_false];intro y hy;obtain⟨z,t,hkey⟩:=hk y (Array.mem_toList_iff.mp hy);simp[DictEntry.refKey,hkey]
  have a' : ¬es.toList.any (·.refKey)=true:=by rw[a]; exact Bool.false_ne_true
  rw[if_neg a'];exact congrArg some e
theorem ObjM.look {h:Heap} {x dx C:Addr} {mA:Str→Option Value} (I:ObjM h x dx C mA):∃od,PySem.W.InstAt h x (PySem.W.instObj C dx) C (some od)∧∀name,PySem.W.lookIn name od=some (mA name):=
 let ⟨od,ho,hl⟩:=ZoU I.ns
 ⟨od,⟨I.obj,rfl,rfl,ho⟩,hl⟩
section
variable {prog:Program} {w:World} {A:Around} {E:Value→Shared→Prop} {s:Shared} {K:PySem.W.Frag} {x dx C f:Addr} {mA:Str→Option Value} {name:Str} {v:Value}
theorem ZsP {expr:Bool} {Q:Value→Shared→Prop} (X:K.In s.heap) (I:ObjM s.heap x dx C mA) (hg:PySem.W.plainGet K C name=true) (hh:PySem.W.hasDictIn K C=true)
  (ha:PySem.W.findIn K (.ref C) name=some none) (hv:mA name=some v) (hv':PySem.W.handedIn v=true) (h:Q v { s with toks:=s.toks+1 }) :
  wpAny (model prog w) A (getAttr (.ref x) name expr) Q E s:=by
 obtain⟨od,J,hl⟩:=I.look;exact PySem.W.get_value X J (PySem.W.plainGet_of hg).1 (PySem.W.findObj_own hh ha rfl (by rw[hl,hv])) hv' h
theorem Zqw {pl:Sem Bool} {Q:Value×List Value→Shared→Prop} (X:K.In s.heap) (I:ObjM s.heap x dx C mA) (hg:PySem.W.plainGet K C name=true)
  (hf:PySem.W.findIn K (.ref C) name=some (some (.ref f))) (ht:PySem.W.isFn K (.ref f)=true) (hv:mA name=none) (h:Q (.ref f,[.ref x]) s) :
  wpAny (model prog w) A (getMethod (.ref x) name pl) Q E s:=by
 obtain⟨od,J,hl⟩:=I.look;exact PySem.W.method_fn X J (PySem.W.plainGet_of hg).1 (PySem.W.plainGet_of hg).2 hf (beq_iff_eq.mp ht) (by show(PySem.W.lookIn name od).map (·.isSome)=some false; rw[hl,hv]; rfl) h
theorem Zty {ns:List Str} {Q:Unit→Shared→Prop} (X:K.In s.heap) (I:ObjM s.heap x dx C mA)
  (hs:PySem.W.findIn K (.ref C) "__setattr__" = some (some (.builtin "object.__setattr__"))) (hp:PySem.W.plainOver K C=true) (ht:PySem.W.takerIn K C name=some none) (hh:PySem.W.hasDictIn K C=true)
  (hw:PySem.Within mA ns) (hsz:ns.length≤sizeLine)
  (h:∀h',ObjM h' x dx C (fun y=>if y=name then some v else mA y)→Heap.SameBut dx s.heap h'→Q () { s with heap:=h',toks:=s.toks+2 }) :
  wpAny (model prog w) A (setAttr (.ref x) name v) Q E s:=by
 obtain⟨od,J,hl⟩:=I.look;refine PySem.W.set_plain X J hs (PySem.W.osa_open (s:={ s with toks:=s.toks+1 }) (r:=none) X J hp ht fun b=>?_);obtain⟨cd,hc,hd'⟩:=PySem.W.any_some hh;have hx:s.heap.get? x=some ⟨.ref C,some dx,.plain,#[]⟩:=I.obj;refine wpAny_bind (wpAny_pure (wpAny_bind (wpAny_bind (wpAny_loadPart hx (wpAny_bind (PySem.W.Looks.here (s:={ s with toks:=s.toks+1 }) (PySem.W.looks_clsIn X hc) ?_))))));rw[hd'];refine wpAny_pure (a:=some dx) (wpAny_bind (wpAny_pure (wpAny_bind ?_)));refine wpAny_nsSet1 (s:={ s with toks:=s.toks+1 }) I.ns fun h' hn2 hs2=>?_;obtain⟨oD,esD,epD,hoD,hdD,hcD⟩:=hn2.count (PySem.Within.cons name v hw);refine wpAny_bind (wpAny_lookBehind hoD (by rw[hdD]; exact pastItsLine_dict (Nat.le_trans hcD (by rw[List.length_cons]; omega))) ?_);exact wpAny_pure (h _ ⟨(hs2.2 _ (Ne.symm I.ne)).trans I.obj,hn2,I.ne⟩ hs2)
theorem ZqS {R:Result→Shared→Prop} {vs:List Value} {kw:List (Str×Value)} (X:K.In s.heap) (hm:PySem.W.makesIn K C=true)
  (hi:PySem.W.findIn K (.ref C) "__init__" = some (some (.ref f))) (hf:PySem.W.typeIn K (.ref f)=some (.type "function"))
  (h:codeAny (model prog w) (A.under (.builtin "type.__call__" ⟨.ref C::vs,kw⟩)) (.call (.ref f) ⟨.ref (s.heap.objs.size+1)::vs,kw⟩) (PySem.W.InitBack (s.heap.objs.size+1) R)
   { s with heap:=(s.heap.push PySem.W.emptyDict).push (PySem.W.instObj C s.heap.objs.size) }) :
  codeAny (model prog w) A (.call (.ref C) ⟨vs,kw⟩) R s:=by
 obtain⟨hh,g,d,t,os⟩:=s;exact PySem.W.make_core (PySem.W.makes_of X hm) (PySem.W.looks_findIn X hi) (fun self=>PySem.W.bind_fn X self hf) (.inl rfl) h
end
def putF (f:Str) (v:V):List (Str×V)→List (Str×V)
 | []=>[(f,v)]
 | (g,x)::r=>if g=f then(g,v)::r else(g,x)::putF f v r
theorem Zam (f g:Str) (v:V):∀fs:List (Str×V),(putF f v fs).lookup g=if g=f then some v else fs.lookup g
 | []=>by
  show List.lookup g [(f,v)]=_
  by_cases h:g=f
  ·have hb:(g == f)=true:=beq_iff_eq.mpr h
   simp only [List.lookup,hb,if_pos h]
  ·have hb:(g == f)=false:=beq_eq_false_iff_ne.mpr h
   simp only [List.lookup,hb,if_neg h]
 | (k,x)::r=>by
  have ih:=Zam f g v r;rw[show putF f v ((k,x)::r)=(if k=f then(k,v)::r else(k,x)::putF f v r) from rfl]
  by_cases hk:k=f
  ·rw[if_pos hk]
   by_cases h:g=k
   ·have hb:(g == k)=true:=beq_iff_eq.mpr h
    simp only [List.lookup,hb,if_pos (h.trans hk)]
   ·have hb:(g == k)=false:=beq_eq_false_iff_ne.mpr h
    simp only [List.lookup,hb,if_neg (fun e:g=f=>h (e.trans hk.symm))]
  ·rw[if_neg hk]
   by_cases h:g=k
   ·have hb:(g == k)=true:=beq_iff_eq.mpr h
    simp only [List.lookup,hb,if_neg (fun e:g=f=>hk (h.symm.trans e))]
   ·have hb:(g == k)=false:=beq_eq_false_iff_ne.mpr h
    simp only [List.lookup,hb];exact ih
theorem ZhB (f:Str) (v:V):∀fs:List (Str×V),f∈(putF f v fs).map (·.1)∧∀g,g∈fs.map (·.1)→g∈(putF f v fs).map (·.1)
 | []=>⟨by simp[putF],fun g h=>by simp at h⟩
 | (k,x)::r=>by
  obtain⟨i1,i2⟩:=ZhB f v r;rw[show putF f v ((k,x)::r)=(if k=f then(k,v)::r else(k,x)::putF f v r) from rfl]
  by_cases hk:k=f
  ·rw[if_pos hk]
   subst hk;exact⟨by simp,fun g h=>by simpa using h⟩
  ·rw[if_neg hk]
   refine⟨?_,fun g h=>?_⟩
   ·rw[List.map_cons]
    exact List.mem_cons_of_mem _ i1
   ·rw[List.map_cons]at h ⊢
    rcases List.mem_cons.mp h with e | e
    ·exact List.mem_cons.mpr (.inl e)
    ·exact List.mem_cons_of_mem _ (i2 g e)
theorem ZhF (f:Str) (v:V):∀fs:List (Str×V),(putF f v fs).length≤fs.length+1
 | []=>by simp[putF]
 | (k,x)::r=>by
  have ih:=ZhF f v r;rw[show putF f v ((k,x)::r)=(if k=f then(k,v)::r else(k,x)::putF f v r) from rfl]
  by_cases hk:k=f
  ·rw[if_pos hk,List.length_cons,List.length_cons]; omega
  ·rw[if_neg hk,List.length_cons,List.length_cons]; omega
theorem RelO.some_of {v:V} {o:Option Value} (r:RelO (some v) o):∃u,o=some u∧RelV v u:=by
 cases o with
 | none=>exact(show False from r).elim
 | some u=>exact⟨u,rfl,r⟩
theorem RelO.none_of {o:Option Value} (r:RelO none o):o=none:=by
 cases o with
 | none=>rfl
 | some u=>exact(show False from r).elim
theorem Zoj {v:V} {u:Value} (r:RelV v u):PySem.W.handedIn u=true:=by
 cases v with
 | non=>cases (show u=Value.none from r); rfl
 | bl b=>cases (show u=Value.bool b from r); rfl
 | int i=>obtain⟨t,e⟩:=(show ∃t,u=Value.int i t from r); cases e; rfl
 | str x=>obtain⟨t,e⟩:=(show ∃t,u=Value.str x t from r); cases e; rfl
 | byt b=>obtain⟨t,e⟩:=(show ∃t,u=Value.bytes b t from r); cases e; rfl
 | flt b=>obtain⟨t,e⟩:=(show ∃t,u=Value.float b t from r); cases e; rfl
 | ref a=>cases (show u=Value.ref a from r); rfl
 | ty n=>cases (show u=Value.type n from r); rfl
section
variable {P:Program} {w:World} {H H':Hp} {h h':Heap} {a C dx:Addr} {fs fs':List (Str×V)}
theorem Zjx (hok:HOk P w H h) (e:H a=some (.ins C dx fs)):∃mA,ObjM h a dx C mA∧(∀f,RelO (fs.lookup f) (mA f))∧PySem.Within mA (fs.map (·.1))∧fs.length≤1000∧H dx=some (.own a):=by
 obtain⟨d,z,ne,ob,mA,n,r,q⟩:=(show ZaT P w H h a (.ins C dx fs) from hok a _ e);exact⟨mA,⟨ob,n,ne⟩,r,q,z,d⟩
end
structure Cls (K:PySem.W.Frag) (C:Addr):Prop where
 pg:PySem.W.plainGet K C Str.empty=true
 hd:PySem.W.hasDictIn K C=true
 po:PySem.W.plainOver K C=true
 sa:PySem.W.findIn K (.ref C) "__setattr__" = some (some (.builtin "object.__setattr__"))
theorem Cls.get {K:PySem.W.Frag} {C:Addr} (c:Cls K C) (f:Str):PySem.W.plainGet K C f=true:=c.pg
def ZcQ (K:PySem.W.Frag) (C:Addr) (f:Str):Prop:=PySem.W.findIn K (.ref C) f=some none
theorem ZcQ.taker {K:PySem.W.Frag} {C:Addr} {f:Str} (n:ZcQ K C f):PySem.W.takerIn K C f=some none:=by
 unfold PySem.W.takerIn;rw[show PySem.W.findIn K (.ref C) f=some none from n];rfl
structure Meth (K:PySem.W.Frag) (C:Addr) (m:Str) (f:Addr):Prop where
 at_:PySem.W.findIn K (.ref C) m=some (some (.ref f))
 fn:PySem.W.isFn K (.ref f)=true
 kp:PySem.W.keepIn K (.ref f)=true
section
variable {X:Cx} {pins:List (Addr×Obj)} {σ:St} {H:Hp} {s:Shared} {a C dx:Addr} {fs:List (Str×V)} {f:Str} {v:V} {A:Around} {E:Value→Shared→Prop}
theorem Zm5 {b:Bool} {Q:Value→Shared→Prop} (I:Inv X pins σ H s) (e:H a=some (.ins C dx fs)) (c:Cls X.K C) (n:ZcQ X.K C f) (l:fs.lookup f=some v)
  (h:∀u s',Inv X pins σ H s'→RelV v u→Q u s'):wpAny (model X.prog X.w) A (getAttr (.ref a) f b) Q E s:=by
 obtain⟨mA,O,r,_,_,_⟩:=Zjx I.hok e;obtain⟨u,hu,ru⟩:=RelO.some_of (v:=v) (o:=mA f) (by rw[←l]; exact r f);exact ZsP I.kIn O (c.get f) c.hd n hu (Zoj ru) (h u _ (I.tok _) ru)
theorem Zgx {m:Str} {g:Addr} {pl:Sem Bool} {Q:Value×List Value→Shared→Prop} (I:Inv X pins σ H s) (e:H a=some (.ins C dx fs)) (c:Cls X.K C) (k:Meth X.K C m g) (l:fs.lookup m=none)
  (h:Q (.ref g,[.ref a]) s):wpAny (model X.prog X.w) A (getMethod (.ref a) m pl) Q E s:=by
 obtain⟨mA,O,r,_,_,_⟩:=Zjx I.hok e;have hn:mA m=none:=RelO.none_of (by rw[←l]; exact r m);exact Zqw I.kIn O (c.get m) k.at_ k.fn hn h
theorem Znx {y:V} {u:Value} {Q:Unit→Shared→Prop} (I:Inv X pins σ H s) (e:H a=some (.ins C dx fs)) (c:Cls X.K C) (n:ZcQ X.K C f) (hl:fs.length < 1000) (ry:RelV y u)
  (h:∀s',Inv X pins σ (upd H a (.ins C dx (putF f y fs))) s'→Q () s'):wpAny (model X.prog X.w) A (setAttr (.ref a) f u) Q E s:=by
 obtain⟨mA,O,r,wi,_,ho⟩:=Zjx I.hok e
 have hz:(fs.map (·.1)).length≤sizeLine:=by rw[List.length_map,sizeLine_eq]; omega
 refine Zty I.kIn O c.sa c.po n.taker c.hd wi hz fun h' O' sb=>h _ ?_;have hd:∃o,h'.get? dx=some o:=let ⟨o,_,_,e',_⟩:=O'.ns; ⟨o,e'⟩;refine I.write (x:=a) (e:=dx) (by rw[e]; exact True.intro) (.inr ho) (fun b q hb z=>(sb.2 b hb).trans z) hd ?_;refine⟨by rw[Zal O.ne]; exact ho,?_,O.ne,O'.obj,_,O'.ns,fun g=>?_,fun g hg=>?_⟩
 ·have:=ZhF f y fs; omega
 ·show RelO ((putF f y fs).lookup g) (if g=f then some u else mA g)
  rw[Zam]
  by_cases q:g=f
  ·rw[if_pos q,if_pos q]; exact ry
  ·rw[if_neg q,if_neg q]; exact r g
 ·by_cases q:g=f
  ·rw[q]; exact(ZhB f y fs).1
  ·refine(ZhB f y fs).2 g (wi g fun z=>hg ?_)
   show(if g=f then some u else mA g)=none;rw[if_neg q]; exact z
theorem Inv.made (I:Inv X pins σ H s):Inv X pins σ (upd (upd H s.heap.objs.size (.own (s.heap.objs.size+1))) (s.heap.objs.size+1) (.ins C s.heap.objs.size []))
  { s with heap:=(s.heap.push PySem.W.emptyDict).push (PySem.W.instObj C s.heap.objs.size) }:=by
 have e1:(s.heap.push PySem.W.emptyDict).get? s.heap.objs.size=some PySem.W.emptyDict:=Heap.get?_push_size s.heap rfl
 have e2:((s.heap.push PySem.W.emptyDict).push (PySem.W.instObj C s.heap.objs.size)).get? (s.heap.objs.size+1)=some (PySem.W.instObj C s.heap.objs.size):=by
  have:=Heap.get?_push_size (s.heap.push PySem.W.emptyDict) (o:=PySem.W.instObj C s.heap.objs.size) rfl
  rwa [Heap.size_push]at this
 have e3:(s.heap.push PySem.W.emptyDict).Ns s.heap.objs.size (fun _=>none):=⟨PySem.W.emptyDict,#[],_,e1,rfl,(fun e he=>absurd he (by simp)),fun _=>rfl⟩;have I1:=I.laid (a:=s.heap.objs.size) (o:=.own (s.heap.objs.size+1)) (h':=s.heap.push PySem.W.emptyDict) (t':=s.toks) (fun b u q=>Heap.get?_push_of_some _ q) (Nat.le_refl _) ⟨_,e1⟩;refine I1.laid (a:=s.heap.objs.size+1) (o:=.ins C s.heap.objs.size []) (t':=s.toks) (fun b u q=>Heap.get?_push_of_some _ q) (Nat.le_of_eq (Heap.size_push _ _)) ?_;have ne:s.heap.objs.size≠s.heap.objs.size+1:=Nat.ne_of_lt (Nat.lt_succ_self _);refine⟨by rw[Zal ne,Zak],Nat.zero_le _,ne,e2,fun _=>none,(Heap.Ns1.of_empty e3).at fun o q=>Heap.get?_push_of_some _ q,fun _=>True.intro,fun y hy=>absurd rfl hy⟩
theorem ZsC {prog:Program} {w:World} {env:Env} {e:Expr} {f:Str} {pos:Pos} {s:Shared} {Q:Value→Shared→Prop} (hb:attributeBase e f env (eval e env)=eval e env)
  (h:wpAny (model prog w) A (eval e env) (fun o s₁=>wpAny (model prog w) A (getAttr o f true) Q E s₁) E s):wpAny (model prog w) A (eval (.Attribute e f pos) env) Q E s:=
 Attribute_any_ h (by rw[arm_eval_Attribute,hb])
end
def tFld (K:PySem.W.Frag) (ta:TE) (f:Str):TE:=fun σ H Q=>ta σ H fun x H1=>∃a C dx fs v,x=.ref a∧H1 a=some (.ins C dx fs)∧Cls K C∧ZcQ K C f∧fs.lookup f=some v∧Q v H1
def sFld (K:PySem.W.Frag) (ta tv:TE) (f:Str):TS:=fun D σ H=>tv σ H fun y H1=>ta σ H1 fun x H2=>∃a C dx fs,x=.ref a∧H2 a=some (.ins C dx fs)∧Cls K C∧ZcQ K C f∧fs.length < 1000∧
 D.nx σ (upd H2 a (.ins C dx (putF f y fs)))
section
variable {X:Cx} {o e value:Expr} {f:Str} {pos pos' tpos:Pos} {ta tv:TE}
theorem Za8 (he:PE X e ta) (hb:attributeBase e f X.env (eval e X.env)=eval e X.env):PE X (.Attribute e f pos) (tFld X.K ta f):=by
 intro pins s σ H Q I h;refine ZsC hb (thn (he pins s σ H _ I h) fun u s1 ⟨x,H1,I1,rx,a,C,dx,fs,v,ex,ea,c,n,l,q⟩=>?_);subst ex;obtain rfl:u=Value.ref a:=rx;exact Zm5 I1 ea c n l fun u' s2 I2 ru=>⟨v,H1,I2,ru,q⟩
theorem Zg2 (ha:PE X o ta) (hv:PE X value tv) (hs:swapsWith value (some (.Attribute o f pos')) pos.line X.env=pure false):PS X (.Assign [.Attribute o f pos'] value pos) (sFld X.K ta tv f):=by
 intro pins s σ H D I h;refine plainObj_wpAny_Assign_Attribute (thn (hv pins s σ H _ I h) fun u s1 ⟨y,H1,I1,ry,q⟩=>thn (ha pins s1 σ H1 _ I1 q) fun ov s2 ⟨x,H2,I2,rx,a,C,dx,fs,ex,ea,c,n,l,q2⟩=>?_) hs;subst ex;obtain rfl:ov=Value.ref a:=rx;exact Znx I2 ea c n l ry fun s3 I3=>⟨σ,_,I3,q2⟩
end
section
variable {X:Cx} {pins:List (Addr×Obj)} {σ:St} {H:Hp} {s:Shared} {A:Around} {E:Value→Shared→Prop} {Q:Value→Shared→Prop} {c:Value} {b:Bool}
inductive TyOf (K:PySem.W.Frag) (H:Hp):V→Value→Prop where
 | non:TyOf K H .non (.type "NoneType")
 | bl (x:Bool):TyOf K H (.bl x) (.type "bool")
 | int (i:Int):TyOf K H (.int i) (.type "int")
 | str (x:Str):TyOf K H (.str x) (.type "str")
 | flt (x:UInt64):TyOf K H (.flt x) (.type "float")
 | lst {a:Addr} {xs:List V} (e:H a=some (.lst xs)):TyOf K H (.ref a) (.type "list")
 | frz {a:Addr} {o:Obj} {xs:List V} (e:H a=some (.frz o (.lst xs))):TyOf K H (.ref a) (.type "list")
 | tup {a:Addr} {xs:List V} (e:H a=some (.tup xs)):TyOf K H (.ref a) (.type "tuple")
 | dK {a:Addr} {kvs:List (Key×V)} (e:H a=some (.dK kvs)):TyOf K H (.ref a) (.type "dict")
 | dT {a:Addr} {kvs:List (List Key×V)} (e:H a=some (.dT kvs)):TyOf K H (.ref a) (.type "dict")
 | ins {a C dx:Addr} {fs:List (Str×V)} (e:H a=some (.ins C dx fs)) (cl:Cls K C) (ha:PySem.W.findIn K (.ref C) "__class__" = some (some (.builtin "object.__class__")))
   (hn:PySem.W.specialIn K (.builtin "object.__class__") "__get__" = some (some (.builtin "getset_descriptor.__get__"))) (htk:PySem.W.takesIn K (.builtin "object.__class__")=some true)
   (hm:PySem.W.mroIn K C (.type "object")=some true):TyOf K H (.ref a) (.ref C)
theorem Zku {x:V} {u t:Value} (I:Inv X pins σ H s) (rx:RelV x u) (ty:TyOf X.K H x t) (e:PySem.W.kitOne X.K t c=some b) (h:∀tk,Q (.bool b) { s with toks:=tk }) :
  wpAny (model X.prog X.w) A (call (.builtin "isinstance") [u,c]) Q E s:=by
 cases ty with
 | non=>cases (show u=Value.none from rx); exact PySem.W.kia_one PySem.W.kitx_none I.kIn True.intro e (fun z=>nomatch z) h
 | bl y=>cases (show u=Value.bool y from rx); exact PySem.W.kia_one PySem.W.kitx_bool I.kIn True.intro e (fun z=>nomatch z) h
 | int i=>obtain⟨t,q⟩:=(show ∃t,u=Value.int i t from rx); cases q; exact PySem.W.kia_one PySem.W.kitx_int I.kIn True.intro e (fun z=>nomatch z) h
 | str y=>obtain⟨t,q⟩:=(show ∃t,u=Value.str y t from rx); cases q; exact PySem.W.kia_one PySem.W.kitx_str I.kIn True.intro e (fun z=>nomatch z) h
 | flt y=>obtain⟨t,q⟩:=(show ∃t,u=Value.float y t from rx); cases q; exact PySem.W.kia_one PySem.W.kitx_float I.kIn True.intro e (fun z=>nomatch z) h
 | @lst a xs ea=>
  cases (show u=Value.ref a from rx)
  obtain⟨_,_,n,_,h1⟩:=(show ZaT X.prog X.w H s.heap a (.lst xs) from I.hok a _ ea);exact PySem.W.kia_one PySem.W.kitx_list I.kIn ⟨_,h1,rfl⟩ e (fun z=>nomatch z) h
 | @frz a ob xs ea=>
  cases (show u=Value.ref a from rx)
  obtain⟨_,_,_,n,_,h1⟩:=(show ZaT X.prog X.w H s.heap a (.frz ob (.lst xs)) from I.hok a _ ea);exact PySem.W.kia_one PySem.W.kitx_list I.kIn ⟨_,h1,rfl⟩ e (fun z=>nomatch z) h
 | @tup a xs ea=>
  cases (show u=Value.ref a from rx)
  obtain⟨_,_,_,p⟩:=(show ZaT X.prog X.w H s.heap a (.tup xs) from I.hok a _ ea);obtain⟨o,h1,h2,_⟩:=p;exact PySem.W.kia_one PySem.W.kitx_tuple I.kIn ⟨o,h1,h2⟩ e (fun z=>nomatch z) h
 | @dK a kvs ea=>
  cases (show u=Value.ref a from rx)
  obtain⟨_,_,vs,_,p⟩:=(show ZaT X.prog X.w H s.heap a (.dK kvs) from I.hok a _ ea);obtain⟨o,es,ep,h1,h2,_⟩:=p;exact PySem.W.kia_one PySem.W.kitx_dict I.kIn ⟨o,h1,h2.1⟩ e (fun z=>nomatch z) h
 | @dT a kvs ea=>
  cases (show u=Value.ref a from rx)
  obtain⟨_,_,xs,_,o,es,ep,h1,h2,_⟩:=(show ZaT X.prog X.w H s.heap a (.dT kvs) from I.hok a _ ea);exact PySem.W.kia_one PySem.W.kitx_dict I.kIn ⟨o,h1,h2.1⟩ e (fun z=>nomatch z) h
 | @ins a C dx fs ea cl ha hn htk hm=>
  cases (show u=Value.ref a from rx)
  obtain⟨mA,O,_⟩:=Zjx I.hok ea;obtain⟨od,J,_⟩:=O.look;exact PySem.W.kia_one (PySem.W.kitx_own (cl.get _) cl.hd ha hn htk hm) I.kIn J e (fun z=>nomatch z) h
end
end L2
namespace L2
open PySem PySem.Spec PyProof.Rows
structure Room (k:Nat) (A:Around):Prop where
 hd:A.handled=none
 dp:A.depth+3 * k+5 < recursionLimit
 un:A.units+16 * k+200 < cLine
theorem Room.mono {j k:Nat} {A:Around} (r:Room k A) (h:j≤k):Room j A:=⟨r.hd,by have:=r.dp; omega,by have:=r.un; omega⟩
theorem Room.deeper {k:Nat} {A:Around} (r:Room (k+1) A) (env:Env):Room k (A.deeper env):=
 ⟨r.hd,by have:=r.dp; show A.depth+1+3 * k+5 < _; omega,by have:=r.un; show A.units+3+16 * k+200 < _; omega⟩
theorem Znj {A:Around} {C:Addr} {us:List Value} {kw:List (Str×Value)}:(A.under (.builtin "type.__call__" ⟨.ref C::us,kw⟩)).depth=A.depth+1:=by
 first | rfl | simp[Around.under,Code.weight,Code.isCreation,Code.isGuard,Code.isCaller,Code.frames,Code.isFrame,guardIds]
theorem Znk {A:Around} {C:Addr} {us:List Value} {kw:List (Str×Value)}:(A.under (.builtin "type.__call__" ⟨.ref C::us,kw⟩)).units=A.units+1:=by
 first | rfl | simp[Around.under,Code.cUnits,Code.frames,Code.isFrame]
theorem Room.make {k:Nat} {A:Around} (r:Room (k+1) A) (C:Addr) (us:List Value) (kw:List (Str×Value)):Room k (A.under (.builtin "type.__call__" ⟨.ref C::us,kw⟩)):=
 ⟨r.hd,by have:=r.dp; rw[Znj]; omega,by have:=r.un; rw[Znk]; omega⟩
theorem Room.depth {k:Nat} {A:Around} (r:Room k A):A.depth < recursionLimit:=by have:=r.dp; omega
theorem Room.units {k:Nat} {A:Around} (r:Room k A):A.units+64 < cLine:=by have:=r.un; omega
def tNil:TA:=fun _ H Q=>Q [] H
def ZlM (ta:TE) (tr:TA):TA:=fun σ H Q=>ta σ H fun x H1=>tr σ H1 fun xs H2=>Q (x::xs) H2
section
variable {X:Cx} {e:Expr} {es:List Expr} {te:TE} {t:TA} {pos:Pos}
theorem Zae:PA X [] tNil:=fun _ _ _ _ H Q I h=>Calls.spliced_nil ⟨[],H,I,.nil,h⟩
theorem Zaa (ha:PE X e te) (hr:PA X es t) (hs:starEach (e::es) X.env=(false,eval e X.env)::starEach es X.env:=by rfl):PA X (e::es) (ZlM te t):=by
 intro pos pins s σ H Q I h;rw[hs];show wpAny _ _ (spliced ((false,eval e X.env)::backTo pos (starEach es X.env))) _ _ s;refine Calls.spliced_cons (thn (ha pins s σ H _ I h) fun u s1 ⟨x,H1,I1,r1,q1⟩=>?_);exact thn (hr pos pins s1 σ H1 _ I1 q1) fun us s2 ⟨xs,H2,I2,r2,q2⟩=>⟨x::xs,H2,I2,.cons r1 r2,q2⟩
def tTup (t:TA):TE:=fun σ H Q=>t σ H fun xs H1=>xs.length≤sizeLine∧∀p,H1 p=none→Q (.ref p) (upd H1 p (.tup xs))
def tLst (t:TA):TE:=fun σ H Q=>t σ H fun xs H1=>xs.length≤sizeLine∧∀p,H1 p=none→Q (.ref p) (upd H1 p (.lst xs))
theorem Zew {x1} (h:PA X es t):PE X (.Tuple es x1 pos) (tTup t):=by
 intro pins s σ H Q I hq;refine wpAny_Tuple_spliced (thn (h pos pins s σ H _ I hq) fun us s1 ⟨xs,H1,I1,r,z,q⟩=>⟨by rw[←r.length]; exact z,?_⟩);have hf:H1 s1.heap.objs.size=none:=I1.hok.fresh (Nat.le_refl _);refine⟨.ref s1.heap.objs.size,upd H1 s1.heap.objs.size (.tup xs),I1.laid (t':=s1.toks) (fun b u e=>Heap.get?_push_of_some _ e) (Nat.le_refl _) ?_,rfl,q _ hf⟩;exact⟨z,us,r,⟨_,Heap.get?_push_size _ rfl,rfl,_,rfl⟩⟩
theorem Zgd (h:PA X es t):PE X (.List es pos) (tLst t):=by
 intro pins s σ H Q I hq;refine wpAny_List_spliced (thn (h pos pins s σ H _ I hq) fun us s1 ⟨xs,H1,I1,r,z,q⟩=>⟨by rw[←r.length]; exact z,?_⟩);have hf:H1 s1.heap.objs.size=none:=I1.hok.fresh (Nat.le_refl _);refine⟨.ref s1.heap.objs.size,upd H1 s1.heap.objs.size (.lst xs),I1.laid (t':=s1.toks) (fun b u e=>Heap.get?_push_of_some _ e) (Nat.le_refl _) ?_,rfl,q _ hf⟩;exact⟨z,us,0,r,Heap.get?_push_size _ rfl⟩
end
abbrev Sp:=List V→Hp→VK→XK→Prop
abbrev CXT:=List Env→Hp→Shared→XK→Value→Shared→Prop
structure Env0 (P:Program) (w:World) (K:PySem.W.Frag) (mg:Str→Option Value) (base:Heap) (A:Around) (outer:List Env) (s:Shared) (H:Hp):Prop where
 frames:A.frames=some outer
 mod:Mod K mg base
 bs:∀b o,base.get? b=some o→s.heap.get? b=some o∧H b=none
 bsz:base.objs.size≤s.heap.objs.size
 funs:s.heap.FunFrames base outer
 frf:∀b∈frs outer,H b=none
 hok:HOk P w H s.heap
 bare:AllBare s.gens
def CE (outer:List Env) (P:Program) (w:World) (H:Hp) (s:Shared) (Q:VK) (u:Value) (s':Shared):Prop:=
 ∃v H',s'.os=s.os∧AllBare s'.gens∧Un (frs outer) [] H H' s.heap s'.heap∧HOk P w H' s'.heap∧RelV v u∧Q v H'
def CR (CX:CXT) (outer:List Env) (P:Program) (w:World) (H:Hp) (s:Shared) (Q:VK) (E:XK) (r:Result) (s':Shared):Prop:=
 match r with
 | .ok (.ret u)=>CE outer P w H s Q u s'
 | .ok _=>False
 | .error e=>CX outer H s E e s'
structure FnOk (P:Program) (w:World) (K:PySem.W.Frag) (mg:Str→Option Value) (base:Heap) (CX:CXT) (k:Nat) (f:Addr) (fd:FuncData) (ps:List Str) (sp:Sp):Prop where
 len:∀vs H Q E,sp vs H Q E→vs.length=ps.length
 run:∀(A:Around) (outer:List Env) (s:Shared) (H:Hp) (args:Args) (us:List Value) (vs:List V) (Q:VK) (E:XK),Room k A→Env0 P w K mg base A outer s H→BindsTo s fd args (ps.zip us)→Vals vs us→sp vs H Q E→
  codeAny (model P w) A (.call (.ref f) args) (CR CX outer P w H s Q E) s
theorem Env0.make {P:Program} {w:World} {K:PySem.W.Frag} {mg:Str→Option Value} {base:Heap} {A:Around} {outer:List Env} {s:Shared} {H:Hp} (e:Env0 P w K mg base A outer s H) (C:Addr) (us:List Value) (kw:List (Str×Value)) :
  Env0 P w K mg base (A.under (.builtin "type.__call__" ⟨.ref C::us,kw⟩)) outer s H:=⟨by first | exact e.frames | (simpa [Around.under,Code.envs,Code.isFrame,pushEnvs] using e.frames),e.mod,e.bs,e.bsz,e.funs,e.frf,e.hok,e.bare⟩
section
variable {X:Cx} {pins:List (Addr×Obj)} {σ:St} {H:Hp} {s s':Shared}
theorem Inv.env0 (I:Inv X pins σ H s):Env0 X.prog X.w X.K X.mg X.base X.A X.stack s H:=
 ⟨I.ok.frames,I.ok.mod,I.bs,Nat.le_trans I.ok.bsz I.sz,I.stack,I.stkFree,I.hok,I.bare⟩
theorem Inv.after {Q:VK} {u:Value} (I:Inv X pins σ H s) (h:CE X.stack X.prog X.w H s Q u s'):EP X pins σ Q u s':=by
 obtain⟨v,H',os,bare,un,hok,r,q⟩:=h;obtain⟨hh,g,d,t,os'⟩:=s';obtain rfl:os'=s.os:=os;exact⟨v,H',I.call (h':=hh) (g':=g) (d':=d) (t':=t) (ch:=[]) un hok bare (fun b z=>absurd z (by simp)),r,q⟩
end
def ZtJ (sp:Sp) (dvs:List V) (E:XK) (t:TA):TE:=fun σ H Q=>t σ H fun vs H1=>sp (vs++dvs) H1 Q E
def ZtL (C:Addr) (sp:Sp) (dvs:List V) (E:XK) (t:TA):TE:=fun σ H Q=>t σ H fun vs H1=>∀x dx,H1 x=none→H1 dx=none→dx≠x→
 sp (.ref x::(vs++dvs)) (upd (upd H1 dx (.own x)) x (.ins C dx [])) (fun v H2=>v=.non∧Q (.ref x) H2) E
def ZaS (K:PySem.W.Frag) (fd:FuncData) (ps:List Str) (ds:List Value):Prop:=
 ∀(s:Shared) (us:List Value),K.In s.heap→(us++ds).length=ps.length→BindsTo s fd ⟨us,[]⟩ (ps.zip (us++ds))
theorem ZaS.all {K:PySem.W.Frag} {fd:FuncData} {ps:List Str} (h:∀us:List Value,us.length=ps.length→bindArgs fd ⟨us,[]⟩=pure (ps.zip us)):ZaS K fd ps []:=fun s us _ hl=>by
 rw[List.append_nil]at hl ⊢;exact .of_eq (h us hl)
def ZiI (CX:CXT) (X:Cx) (E:XK):Prop:=∀(pins:List (Addr×Obj)) (σ:St) (H:Hp) (s:Shared) (e:Value) (s':Shared),Inv X pins σ H s→CX X.stack H s E e s'→X.xe e s'
section
variable {X:Cx} {CX:CXT} {k:Nat} {f C:Addr} {fd:FuncData} {ps:List Str} {sp:Sp} {dvs:List V} {ds:List Value} {E:XK} {x m:Str} {p pos apos:Pos} {e o:Expr} {es:List Expr} {ta:TE} {t:TA}
theorem Zmv {pins:List (Addr×Obj)} {σ:St} {H:Hp} {s:Shared} {Q:VK} {us:List Value} {vs:List V} (F:FnOk X.prog X.w X.K X.mg X.base CX k f fd ps sp) (hr:Room k X.A) (hb:ZaS X.K fd ps ds) (hd:Vals dvs ds) (hx:ZiI CX X E)
  (I:Inv X pins σ H s) (r:Vals vs us) (h:sp (vs++dvs) H Q E):wpAny (model X.prog X.w) X.A (call (.ref f) us) (EP X pins σ Q) X.xe s:=by
 have r2:Vals (vs++dvs) (us++ds):=r.append hd
 have hl:(us++ds).length=ps.length:=by rw[←r2.length]; exact F.len _ _ _ _ h
 refine wpAny_call (codeAny_mono (F.run X.A X.stack s H ⟨us,[]⟩ (us++ds) (vs++dvs) Q E hr I.env0 (hb s us I.kIn hl) r2 h) fun r s' hq=>?_)
 cases r with
 | error e=>exact hx pins σ H s e s' I hq
 | ok fl=>
  cases fl with
  | ret u=>exact I.after hq
  | next=>exact False.elim hq
  | brk=>exact False.elim hq
  | cont=>exact False.elim hq
theorem Zpb (F:FnOk X.prog X.w X.K X.mg X.base CX k f fd ps sp) (hr:Room k X.A) (hg:Gl X x) (hm:X.mg x=some (.ref f)) (hk:PySem.W.keepIn X.K (.ref f)=true) (hb:ZaS X.K fd ps ds) (hd:Vals dvs ds) (hx:ZiI CX X E)
  (ha:PA X (e::es) t) (hdb:(x == ("__debug__" : Str))=false:=by decide) (he:starEach (e::es) X.env=(false,eval e X.env)::starEach es X.env:=by rfl) (hpl:(backTo pos (starEach es X.env)).any (·.1)=false:=by rfl) :
  PE X (.Call (.Name x p) (e::es) [] pos) (ZtJ sp dvs E t):=by
 intro pins s σ H Q I h;refine wpAny_Call_Name_kw (Zlm I hg hm ?_ hdb);refine PySem.W.callWith_K (h₀:=X.base) I.ok.mod.kin hk (thn (ha pos pins s σ H _ I h) fun us s1 ⟨vs,H1,I1,r,q⟩=>⟨I1.kIn,?_⟩) he hpl;exact Zmv F hr hb hd hx I1 r q
structure Mk (K:PySem.W.Frag) (C f:Addr):Prop where
 makes:PySem.W.makesIn K C=true
 init:PySem.W.findIn K (.ref C) "__init__" = some (some (.ref f))
 fn:PySem.W.isFn K (.ref f)=true
 kp:PySem.W.keepIn K (.ref C)=true
theorem Zri {pins:List (Addr×Obj)} {σ:St} {H:Hp} {s:Shared} {Q:VK} {us:List Value} {vs:List V} (M:Mk X.K C f) (F:FnOk X.prog X.w X.K X.mg X.base CX k f fd ps sp) (hr:Room (k+1) X.A) (hb:ZaS X.K fd ps ds) (hd:Vals dvs ds)
  (hx:ZiI CX X E) (I:Inv X pins σ H s) (r:Vals vs us)
  (h:∀x dx,H x=none→H dx=none→dx≠x→sp (.ref x::(vs++dvs)) (upd (upd H dx (.own x)) x (.ins C dx [])) (fun v H2=>v=.non∧Q (.ref x) H2) E) :
  wpAny (model X.prog X.w) X.A (call (.ref C) us) (EP X pins σ Q) X.xe s:=by
 have hq:=h (s.heap.objs.size+1) s.heap.objs.size (I.hok.fresh (Nat.le_succ _)) (I.hok.fresh (Nat.le_refl _)) (Nat.ne_of_lt (Nat.lt_succ_self _));have I2:=Inv.made (C:=C) I;have r2:Vals (V.ref (s.heap.objs.size+1)::(vs++dvs)) (Value.ref (s.heap.objs.size+1)::(us++ds)):=.cons rfl (r.append hd)
 have hl:(Value.ref (s.heap.objs.size+1)::us++ds).length=ps.length:=by
  have e:=r2.length;rw[F.len _ _ _ _ hq]at e;exact e.symm
 refine wpAny_call (ZqS (f:=f) I.kIn M.makes M.init (beq_iff_eq.mp M.fn) (codeAny_mono (F.run _ X.stack _ _ ⟨Value.ref (s.heap.objs.size+1)::us,[]⟩ (Value.ref (s.heap.objs.size+1)::(us++ds)) _ _ E (hr.make C us [])
  (I2.env0.make C us []) (hb _ (Value.ref (s.heap.objs.size+1)::us) I2.kIn hl) r2 hq) fun r s' hq'=>?_))
 cases r with
 | error e=>exact hx pins σ _ _ e s' I2 hq'
 | ok fl=>
  cases fl with
  | ret u=>
   obtain⟨v,H',I3,rv,ev,q3⟩:=I2.after hq';subst ev;exact⟨rv,⟨V.ref (s.heap.objs.size+1),H',I3,rfl,q3⟩⟩
  | next=>exact False.elim hq'
  | brk=>exact False.elim hq'
  | cont=>exact False.elim hq'
theorem Zto (M:Mk X.K C f) (F:FnOk X.prog X.w X.K X.mg X.base CX k f fd ps sp) (hr:Room (k+1) X.A) (hg:Gl X x) (hm:X.mg x=some (.ref C)) (hb:ZaS X.K fd ps ds) (hd:Vals dvs ds) (hx:ZiI CX X E)
  (ha:PA X (e::es) t) (hdb:(x == ("__debug__" : Str))=false:=by decide) (he:starEach (e::es) X.env=(false,eval e X.env)::starEach es X.env:=by rfl) (hpl:(backTo pos (starEach es X.env)).any (·.1)=false:=by rfl) :
  PE X (.Call (.Name x p) (e::es) [] pos) (ZtL C sp dvs E t):=by
 intro pins s σ H Q I h;refine wpAny_Call_Name_kw (Zlm I hg hm ?_ hdb);refine PySem.W.callWith_K (h₀:=X.base) I.ok.mod.kin M.kp (thn (ha pos pins s σ H _ I h) fun us s1 ⟨vs,H1,I1,r,q⟩=>⟨I1.kIn,?_⟩) he hpl;exact Zri M F hr hb hd hx I1 r q
end
section
variable {X:Cx} {CX:CXT} {k:Nat} {f C:Addr} {fd:FuncData} {ps ks:List Str} {sp:Sp} {E:XK} {x m:Str} {p pos apos kpos:Pos} {e o:Expr} {es:List Expr} {kws:List Keyword} {te ta:TE} {t tk:TA} {nm:Option Str}
variable {g:List Value→List Value→List Value} {gV:List V→List V→List V}
end
structure FnScope (N P:List Str) (sc:Scope):Prop where
 kind:sc.kind=.function
 co:sc.isCoroutine=false
 gen:sc.isGenerator=false
 nd:N.Nodup
 pre:N.take P.length=P
 par:∀x∈P,sc.names.lookup x=some .local∨sc.names.lookup x=some .cell
 nofree:∀y∈sc.names,y.2≠.free
theorem Zkl {kindOf:Str→Option NameKind} {x:Str}:∀{binds:List (Str×Value)} {m:Str→Option Value},(∀v,(x,v)∉binds)→bindL kindOf binds m x=m x
 | [],_,_=>rfl
 | (n,v)::r,m,h=>by
  unfold bindL;rw[Zkl fun w hw=>h w (List.mem_cons_of_mem _ hw)]
  split
  ·have:x≠n:=by rintro rfl; exact h v List.mem_cons_self
   simp[this]
  ·rfl
theorem Zkj {kindOf:Str→Option NameKind} {x:Str}:∀{binds:List (Str×Value)} {m:Str→Option Value},(∀v,(x,v)∉binds)→bindC kindOf binds m x=m x
 | [],_,_=>rfl
 | (n,v)::r,m,h=>by
  unfold bindC;rw[Zkj fun w hw=>h w (List.mem_cons_of_mem _ hw)]
  split
  ·rfl
  ·have:x≠n:=by rintro rfl; exact h v List.mem_cons_self
   simp[this]
theorem Zkk {kindOf:Str→Option NameKind} {x:Str} {v:Value}:∀{P:List Str} {vs:List Value} {i:Nat} {m:Str→Option Value},P.Nodup→P[i]?=some x→vs[i]?=some v→kindOf x=some .local→
  bindL kindOf (P.zip vs) m x=some v
 | [],_,_,_,_,h,_,_=>by simp at h
 | _::_,[],_,_,_,_,h,_=>by simp at h
 | p::P,w::vs,0,m,nd,h1,h2,hk=>by
  simp at h1 h2; subst h1; subst h2;show bindL kindOf ((p,w)::P.zip vs) m p=_;unfold bindL;rw[Zkl fun v hv=>(List.nodup_cons.mp nd).1 (List.of_mem_zip hv).1,if_pos hk];simp
 | p::P,w::vs,i+1,m,nd,h1,h2,hk=>by
  show bindL kindOf ((p,w)::P.zip vs) m x=_;unfold bindL;exact Zkk (i:=i) (List.nodup_cons.mp nd).2 (by simpa using h1) (by simpa using h2) hk
theorem Zki {kindOf:Str→Option NameKind} {x:Str} {v:Value}:∀{P:List Str} {vs:List Value} {i:Nat} {m:Str→Option Value},P.Nodup→P[i]?=some x→vs[i]?=some v→kindOf x≠some .local→
  bindC kindOf (P.zip vs) m x=some v
 | [],_,_,_,_,h,_,_=>by simp at h
 | _::_,[],_,_,_,_,h,_=>by simp at h
 | p::P,w::vs,0,m,nd,h1,h2,hk=>by
  simp at h1 h2; subst h1; subst h2;show bindC kindOf ((p,w)::P.zip vs) m p=_;unfold bindC;rw[Zkj fun v hv=>(List.nodup_cons.mp nd).1 (List.of_mem_zip hv).1,if_neg hk];simp
 | p::P,w::vs,i+1,m,nd,h1,h2,hk=>by
  show bindC kindOf ((p,w)::P.zip vs) m x=_;unfold bindC;exact Zki (i:=i) (List.nodup_cons.mp nd).2 (by simpa using h1) (by simpa using h2) hk
def start (N:List Str) (vs:List V):St:=vs.map some++List.replicate (N.length - vs.length) none
def cxOf (CX:CXT) (P:Program) (w:World) (K:PySem.W.Frag) (mg:Str→Option Value) (base:Heap) (N:List Str) (qual:Str) (scope:Scope) (f:Addr) (cd:Value) (A:Around) (outer:List Env) (s:Shared) (H:Hp) (E:XK):Cx where
 prog:=P
 w:=w
 K:=K
 mg:=mg
 base:=base
 A:=A.deeper (envOfC qual scope s.heap.objs.size f cd)
 N:=N
 s₀:=s
 H₀:=H
 env:=envOfC qual scope s.heap.objs.size f cd
 outer:=outer
 stack:=envOfC qual scope s.heap.objs.size f cd::outer
 ex:=[]
 calm:=true
 fn:=fun _=>true
 pn:=[]
 xe:=fun e s'=>wpAny (model P w) (A.deeper (envOfC qual scope s.heap.objs.size f cd)) (leaving (envOfC qual scope s.heap.objs.size f cd) e) (fun _ s''=>CX outer H s E e s'') (fun e' s''=>CX outer H s E e' s'') s'
theorem ZlU {sc:Scope} {n:Nat} {x:Str} (h:sc.names.lookup x=some .cell):∃c,(cellsFrom n sc.names []).lookup x=some c:=by
 have q:=PySem.W.cellsFrom_some sc.names n [] (.inl h);exact Option.isSome_iff_exists.mp q
theorem ZoC {CX:CXT} {P:Program} {w:World} {K:PySem.W.Frag} {mg:Str→Option Value} {base:Heap} {N ps:List Str} {qual:Str} {scope:Scope} {f:Addr} {cd:Value} {A:Around} {outer:List Env} {s s1:Shared} {H:Hp} {E:XK} {us:List Value} {vs:List V}
  (S:FnScope N ps scope) (hd:A.handled=none) (e0:Env0 P w K mg base A outer s H) (hl:vs.length=ps.length) (r:Vals vs us)
  (x:InCallC s s.heap.objs.size (bindL (envOfC qual scope s.heap.objs.size f cd).kindOf (ps.zip us) fun _=>none) (cellsFrom (s.heap.objs.size+1) scope.names []) (bindC (envOfC qual scope s.heap.objs.size f cd).kindOf (ps.zip us) fun _=>none) s1) :
  Inv (cxOf CX P w K mg base N qual scope f cd A outer s H E) [] (start N vs) H s1:=by
 have hpl:ps.length≤N.length:=by have:=congrArg List.length S.pre; rw[List.length_take]at this; omega
 obtain⟨h1,tk,rfl,hk⟩:=x.done;have noA:∀b:Addr,b∉(cxOf CX P w K mg base N qual scope f cd A outer s H E).ex:=fun b z=>absurd (show b∈([]:List Addr) from z) (by simp)
 refine⟨⟨e0.mod,S.kind,rfl,rfl,Nat.le_refl _,fun y z c h1 h2=>?_,fun y hy=>?_,fun y c _ h=>?_,fun _=>hd,Around.frames_deeper e0.frames,.inr ⟨rfl,rfl⟩,fun b z=>absurd z (noA b),e0.bs,e0.bsz,fun b _ _=>noA b,fun b z=>absurd z (noA b),e0.funs,e0.frf⟩,
  rfl,e0.bare,Un.kept hk,⟨_,x.toInCall.ns,fun i y v h1 h2 h3=>?_⟩,fun y c h=>⟨_,x.cell y c h⟩,e0.hok.fresh (Nat.le_refl _),fun y c h=>?_,fun p hp=>absurd (show p∈([]:List (Addr×Obj)) from hp) (by simp),e0.hok.kept hk,?_⟩
 ·exact name_of_addr x.apart (PySem.mem_of_lookup h1) (PySem.mem_of_lookup h2)
 ·have hy:scope.names.lookup y=some .cell∨scope.names.lookup y=some .free:=hy
  rcases hy with hy | hy
  ·exact ZlU hy
  ·exact absurd rfl (S.nofree _ (PySem.mem_of_lookup hy))
 ·exact Nat.le_of_lt (x.above y c (PySem.mem_of_lookup h))
 ·have hi:i < vs.length:=by
   unfold start at h2
   by_cases hi:i < vs.length
   ·exact hi
   ·rw[List.getElem?_append_right (by simpa using hi)]at h2
    rw[List.getElem?_replicate]at h2
    split at h2 <;> cases h2
  have ha:vs[i]?=some v:=by
   unfold start at h2;rw[List.getElem?_append_left (by simpa using hi),List.getElem?_map]at h2
   cases e:vs[i]? with
   | none=>rw[e]at h2; cases h2
   | some a=>rw[e]at h2; cases h2; rfl
  obtain⟨u,hu,rv⟩:=r.get ha
  have hp:ps[i]?=some y:=by
   rw[←S.pre,List.getElem?_take_of_lt (by omega)]; exact h1
  have ndP:ps.Nodup:=by rw[←S.pre]; exact S.nd.sublist (List.take_sublist _ _)
  refine⟨u,rv,?_⟩
  rcases S.par y (List.mem_of_getElem? hp) with k | k
  ·exact .inl ⟨k,Zkk ndP hp hu k⟩
  ·obtain⟨c,e⟩:=ZlU (n:=s.heap.objs.size+1) k
   refine .inr ⟨.inl k,c,e,?_⟩;have q:=x.cell y c e;rw[Zki ndP hp hu (by show scope.names.lookup y≠_; rw[k]; decide)]at q;exact q
 ·exact e0.hok.fresh (Nat.le_of_lt (x.above y c (PySem.mem_of_lookup h)))
 ·unfold start
  show _=N.length;rw[List.length_append,List.length_map,List.length_replicate];omega
theorem Zud {CX:CXT} {P:Program} {w:World} {K:PySem.W.Frag} {mg:Str→Option Value} {base:Heap} {k:Nat} {f:Addr} {name qual:Str} {params:Arguments} {body:List Stmt} {scope:Scope} {dV kV doc pm cdv ct oc:Value} {an od:Option Addr}
  {osl:Array (Option Value)} {N ps:List Str} {sp:Sp} (lk:K.lookup f=some ⟨oc,od,.func (PySem.W.fnOf name qual params body scope dV kV doc pm an cdv ct),osl⟩) (hcd:PySem.W.codeIn K cdv qual=true) (S:FnScope N ps scope)
  (len:∀vs H Q E,sp vs H Q E→vs.length=ps.length)
  (hbody:∀(A:Around) (outer:List Env) (s:Shared) (H:Hp) (vs:List V) (Q:VK) (E:XK),Room k (A.deeper (envOfC qual scope s.heap.objs.size f cdv))→sp vs H Q E→
   ∃t,PSs (cxOf CX P w K mg base N qual scope f cdv A outer s H E) body t∧t { nx:=fun _ H'=>Q .non H',rt:=Q } (start N vs) H) :
  FnOk P w K mg base CX (k+1) f (PySem.W.fnOf name qual params body scope dV kV doc pm an cdv ct) ps sp:=by
 refine⟨len,fun A outer s H args us vs Q E hr e0 hb r hsp=>?_⟩;have hl:=len _ _ _ _ hsp;have KX:K.In s.heap:=e0.mod.kin.keeps fun b o e=>(e0.bs b o e).1;have lim:s.heap.NoLimit:=e0.mod.nolimit.keeps fun b o e=>(e0.bs b o e).1
 have hkind:∀y∈ps.zip us,scope.names.lookup y.1=some .local∨(scope.names.lookup y.1=some .cell∧((cellsFrom (s.heap.objs.size+1) scope.names []).lookup y.1).isSome=true):=fun⟨n,v⟩ hy=>by
  rcases S.par n (List.of_mem_zip hy).1 with q | q
  ·exact .inl q
  ·exact .inr ⟨q,PySem.W.cellsFrom_some _ _ _ (.inl q)⟩
 refine codeAny_call_function hr.depth (KX _ _ lk) rfl S.co S.gen rfl (PySem.W.codeRec_of KX hcd) (hb _ _ _ _ ?_);refine wpAny_newFunctionEnv_cells S.kind hkind fun env he s1 x=>?_;subst he;refine⟨lim.keeps x.toInCall.keep,codeAny_func ?_⟩;obtain⟨t,ht,hq⟩:=hbody A outer s H vs Q E (hr.deeper _) hsp;have I:Inv (cxOf CX P w K mg base N qual scope f cdv A outer s H E) [] (start N vs) H s1:=ZoC S hr.hd e0 hl r x;refine wpAny_mono (ht [] s1 (start N vs) H _ I hq) (fun fl s' hs=>?_) fun e s' hs=>hs
 have fin:∀{σ':St} {H':Hp} {v:V} {u:Value},Inv (cxOf CX P w K mg base N qual scope f cdv A outer s H E) [] σ' H' s'→RelV v u→Q v H'→CE outer P w H s Q u s':=
  fun {σ' H' v u} J rv q=>⟨v,H',J.os,J.bare,J.base,J.hok,rv,q⟩
 cases fl with
 | ret u=>
  obtain⟨v,σ',H',J,rv,q⟩:=hs;exact fin J rv q
 | next=>
  obtain⟨σ',H',J,q⟩:=hs;exact fin (v:=V.non) (u:=Value.none) J rfl q
 | brk=>
  obtain⟨_,_,_,q⟩:=hs;exact False.elim q
 | cont=>
  obtain⟨_,_,_,q⟩:=hs;exact False.elim q
end L2
namespace L2
open PySem PySem.Spec PyProof.Rows
section
variable {X:Cx} {x:Str} {p pos:Pos} {e:Expr} {es:List Expr} {t:TA} {id T:String} {r:List V→Hp→VK→Prop}
def tCB (r:List V→Hp→VK→Prop) (t:TA):TE:=fun σ H Q=>t σ H fun vs H1=>r vs H1 Q
theorem Zaw (hc:Zfz X (.builtin id) r) (hg:Gl X x) (hm:X.mg x=none) (hv:bootBuiltins x=some (.builtin id)) (ha:PA X (e::es) t) (hn:x≠"__name__":=by decide) (hdb:(x == ("__debug__" : Str))=false:=by decide)
  (he:starEach (e::es) X.env=(false,eval e X.env)::starEach es X.env:=by rfl) (hpl:(backTo pos (starEach es X.env)).any (·.1)=false:=by rfl):PE X (.Call (.Name x p) (e::es) [] pos) (tCB r t):=by
 intro pins s σ H Q I h;refine wpAny_Call_Name_kw (ZgU I hg hm hv ?_ hn hdb);exact PyProof.Rows.callWith_builtin1 (thn (ha pos pins s σ H _ I h) fun us s1 ⟨vs,H1,I1,r1,q1⟩=>hc pins s1 σ H1 vs us Q I1 r1 q1) he hpl
theorem ZhU (hc:Zfz X (.type T) r) (hg:Gl X x) (hm:X.mg x=none) (hv:bootBuiltins x=some (.type T)) (ha:PA X (e::es) t) (hn:x≠"__name__":=by decide) (hdb:(x == ("__debug__" : Str))=false:=by decide)
  (he:starEach (e::es) X.env=(false,eval e X.env)::starEach es X.env:=by rfl) (hpl:(backTo pos (starEach es X.env)).any (·.1)=false:=by rfl):PE X (.Call (.Name x p) (e::es) [] pos) (tCB r t):=by
 intro pins s σ H Q I h;refine wpAny_Call_Name_kw (ZgU I hg hm hv ?_ hn hdb);exact PyProof.Rows.callWith_type1 (thn (ha pos pins s σ H _ I h) fun us s1 ⟨vs,H1,I1,r1,q1⟩=>hc pins s1 σ H1 vs us Q I1 r1 q1) he hpl
end
end L2
namespace HT
open PySem PyProof.Rows
section
open PySem.SeqAt
open PySem.AutoSeq1 (wpAny_loadPart')
open PySem.MeetsSeq PySem.MeetsSeq2 PySem.MeetsSeq3
end
section
variable {prog:Program} {w:World} {A:Around} {E:Value→Shared→Prop} {s:Shared}
def sIx (n d:Nat):Option Int→Nat
 | none=>d
 | some v=>if v < 0 then(v+(n:Int)).toNat else min v.toNat n
theorem sIx_nat (n d k:Nat):sIx n d (some (k:Int))=min k n:=by
 show(if (k:Int) < 0 then((k:Int)+(n:Int)).toNat else min (k:Int).toNat n)=min k n;rw[if_neg (by omega),Int.toNat_natCast]
theorem Zvh (n d:Nat) (hd:d≤n) (o:Option Int):sIx n d o≤n:=by
 cases o with
 | none=>exact hd
 | some v=>
  show(if v < 0 then(v+(n:Int)).toNat else min v.toNat n)≤n
  by_cases hv:v < 0
  ·rw[if_pos hv]; omega
  ·rw[if_neg hv]; exact Nat.min_le_right _ _
theorem Zn5 (v:Int) (n d:Nat):(if v < 0 then max (v+(n:Int)) 0 else min v (n:Int))=((sIx n d (some v):Nat):Int):=by
 show(if v < 0 then max (v+(n:Int)) 0 else min v (n:Int))=(((if v < 0 then(v+(n:Int)).toNat else min v.toNat n):Nat):Int)
 by_cases hv:v < 0
 ·simp only [if_pos hv]; omega
 ·simp only [if_neg hv]; omega
theorem ZmV (lo hi:Option Int) (n:Nat):Builtin.Slice.sliceAdjust lo hi 1 (n:Int)=(((sIx n 0 lo:Nat):Int),((sIx n n hi:Nat):Int)):=by
 have h1 : ¬((1:Int) < 0):=by omega
 unfold Builtin.Slice.sliceAdjust;simp only [h1,if_false];refine Prod.ext ?_ ?_
 ·cases lo with
  | none=>rfl
  | some v=>exact Zn5 v n 0
 ·cases hi with
  | none=>rfl
  | some v=>exact Zn5 v n n
theorem Znt (i j:Nat):Builtin.Slice.slicePlaces (i:Int) (j:Int) 1=j - i:=by
 unfold Builtin.Slice.slicePlaces
 have h1:(1:Int) > 0:=by omega
 simp only [h1,if_true,Int.ediv_one]
 split <;> omega
theorem Zi9 {v:Value} {o:Option Int} {Q:Option Int→Shared→Prop} (p:IsPart v o) (h:Q o s):wpAny (model prog w) A (Builtin.Slice.slicePartIndex v) Q E s:=by
 cases p with
 | none=>exact slicePart_none h
 | int i t=>exact slicePart_int h
theorem Zha {sl:Addr} {vl vu:Value} {lo hi:Option Int} {n:Nat} {Q:Int×Int×Nat→Shared→Prop} (hs:s.heap.IsSliceOf sl vl vu .none) (pl:IsPart vl lo) (pu:IsPart vu hi)
  (h:Q (((sIx n 0 lo:Nat):Int),1,sIx n n hi - sIx n 0 lo) s):wpAny (model prog w) A (Builtin.Slice.sliceApplied (.ref sl) (pure (n:Int))) Q E s:=by
 obtain⟨os,hos,hcs,hds⟩:=id hs;unfold Builtin.Slice.sliceApplied Builtin.Slice.sliceFields;refine wpAny_bind (wpAny_bind (wpAny_field hos hds (x:=vl) rfl (wpAny_bind (wpAny_field hos hds (x:=vu) rfl (wpAny_bind (wpAny_field hos hds (x:=.none) rfl (wpAny_pure ?_)))))));refine wpAny_bind (slicePart_none ?_);show wpAny _ _ (if ((1:Int) == 0)=true then _ else _) _ _ s;rw[if_neg (by decide)];refine wpAny_bind (Zi9 pl (wpAny_bind (Zi9 pu (wpAny_bind (wpAny_pure ?_)))));show wpAny _ _ (match Builtin.Slice.sliceAdjust lo hi 1 (n:Int) with | (lo,hi)=>pure (lo,(1:Int),Builtin.Slice.slicePlaces lo hi 1)) _ _ s;rw[ZmV lo hi n];show wpAny _ _ (pure (((sIx n 0 lo:Nat):Int),(1:Int),Builtin.Slice.slicePlaces ((sIx n 0 lo:Nat):Int) ((sIx n n hi:Nat):Int) 1)) _ _ s;rw[Znt];exact wpAny_pure h
theorem Zq7 (xs:Array Value) (i k:Nat):((List.range k).filterMap fun(m:Nat)=>xs[((i:Int)+(m:Int) * 1).toNat]?).toArray=((xs.toList.drop i).take k).toArray:=by
 have e:(fun(m:Nat)=>xs[((i:Int)+(m:Int) * 1).toNat]?)=fun m=>xs[i+m]?:=by
  funext m
  have:((i:Int)+(m:Int) * 1).toNat=i+m:=by omega
  rw[this]
 rw[e];have:=pick_run xs i k;rw[List.filterMap_map]at this;have e2:((fun x=>xs[x]?) ∘ fun x=>i+x)=fun m=>xs[i+m]?:=rfl;rw[e2]at this;rw[this]
theorem getItem_tuple_cut {t sl:Addr} {items:Array Value} {vl vu:Value} {lo hi:Option Int} {Q:Value→Shared→Prop} (ht:IsTup s.heap t items) (hs:s.heap.IsSliceOf sl vl vu .none) (pl:IsPart vl lo) (pu:IsPart vu hi)
  (hw : ¬(sIx items.size 0 lo=0∧sIx items.size items.size hi=items.size))
  (h:Q (.ref s.heap.objs.size) { s with heap:=s.heap.push { cls:=.type "tuple",data:=.seq ((items.toList.drop (sIx items.size 0 lo)).take (sIx items.size items.size hi - sIx items.size 0 lo)).toArray } })
  (hsz:items.size≤sizeLine):wpAny (model prog w) A (getItem (.ref t) (.ref sl)) Q E s:=by
 have htake:sizeOk (.seq ((items.toList.drop (sIx items.size 0 lo)).take (sIx items.size items.size hi - sIx items.size 0 lo)).toArray):=by
  show((items.toList.drop (sIx items.size 0 lo)).take (sIx items.size items.size hi - sIx items.size 0 lo)).toArray.size≤sizeLine;rw[List.size_toArray,List.length_take,List.length_drop,Array.length_toList];omega
 have hj:sIx items.size items.size hi≤items.size:=Zvh _ _ (Nat.le_refl _) hi;obtain⟨os,hos,hcs,hds⟩:=id hs;have hTs:s.TypeIs (.ref sl) "slice":=⟨os,hos,hcs⟩;unfold getItem
 try with_reducible refine wpAny_holding ?_
 first | refine wpAny_bind (wpAny_pure ?_) | skip
 refine wpAny_bind (wpAny_sequenceKey ht.typeIs (by decide) ?_)
 refine wpAny_bind (wpAny_callSpecial?_slot (name:=Str.ofString "__getitem__") ht.typeIs PyProof.Rows.slot_tuple_getitem
  (wpAny_call_entry PyProof.Rows.slot_tuple_getitem ht.typeIs entry_tuple_getitem ?_ (args_tuple_getitem _ _)))
 show wpAny _ _ (Builtin.Tuple.tupleItemsOf (.ref t) >>= _) _ _ s;refine wpAny_bind (tupleItemsOf_ ht ?_);refine wpAny_bind (wpAny_typeOf hTs ?_);rw[if_pos (by decide)];refine wpAny_bind (Zha hs pl pu ?_)
 have hno : ¬((((sIx items.size 0 lo:Nat):Int) == 0 && (1:Int) == 1 && (sIx items.size items.size hi - sIx items.size 0 lo) == items.size)=true):=by
  intro q;rw[Bool.and_eq_true,Bool.and_eq_true]at q;have q1:((sIx items.size 0 lo:Nat):Int)=0:=eq_of_beq q.1.1;have q2:sIx items.size items.size hi - sIx items.size 0 lo=items.size:=eq_of_beq q.2;exact hw ⟨by omega,by omega⟩
 show wpAny _ _ (if (((sIx items.size 0 lo:Nat):Int) == 0 && (1:Int) == 1 && (sIx items.size items.size hi - sIx items.size 0 lo) == items.size)=true then _ else _) _ _ s;rw[if_neg hno,Zq7]
 first
  | exact wpAny_bind (m:=Builtin.Tuple.tupleExact _) (wpAny_newObj_type (wpAny_pure ⟨_,rfl,wpAny_pure h⟩) htake)
  | exact wpAny_bind (m:=Builtin.Tuple.tupleExact _) (wpAny_newObj_type (wpAny_bind (wpAny_pure (wpAny_pure ⟨_,rfl,wpAny_pure h⟩))) htake)
  | exact wpAny_bind (wpAny_bind (m:=Builtin.Tuple.tupleExact _) (wpAny_newObj_type (wpAny_pure (wpAny_pure ⟨_,rfl,wpAny_pure h⟩)) htake))
  | exact wpAny_bind (wpAny_bind (m:=Builtin.Tuple.tupleExact _) (wpAny_newObj_type (wpAny_pure ⟨_,rfl,wpAny_pure h⟩) htake))
end
end HT
namespace L2
open PySem PySem.Spec PyProof.Rows
abbrev TO:=St→Hp→(Option Int→Hp→Prop)→Prop
def PO (X:Cx) (e:Option Expr) (t:TO):Prop:=
 ∀(pins:List (Addr×Obj)) (s:Shared) (σ:St) (H:Hp) (Q:Option Int→Hp→Prop),Inv X pins σ H s→t σ H Q→
  wpAny (model X.prog X.w) X.A (evalPart e X.env) (fun u s'=>∃o H',Inv X pins σ H' s'∧IsPart u o∧Q o H') X.xe s
def ZvE (t:TE):TO:=fun σ H Q=>t σ H fun x H1=>∃i,x=.int i∧Q (some i) H1
section
variable {X:Cx} {e:Expr} {te:TE} {lo hi:Option Expr} {tl th:TO} {pos p2:Pos}
theorem Zpf (h:PE X e te):PO X (some e) (ZvE te):=by
 intro pins s σ H Q I hw;rw[evalPart_some];refine thn (h pins s σ H _ I hw) fun u s1 ⟨x,H1,I1,r1,q1⟩=>?_;obtain⟨i,rfl,q⟩:=q1;obtain⟨t,rfl⟩:=r1;exact⟨some i,H1,I1,.int i t,q⟩
def SlR (X:Cx) (r:V→Option Int→Option Int→Hp→VK→Prop):Prop:=
 ∀(pins:List (Addr×Obj)) (s:Shared) (σ:St) (H:Hp) (x:V) (v vl vu:Value) (lo hi:Option Int) (sl:Addr) (Q:VK),Inv X pins σ H s→RelV x v→s.heap.IsSliceOf sl vl vu .none→IsPart vl lo→IsPart vu hi→r x lo hi H Q→
  ∃T id,typeLookup (.type T) "__getitem__" = pure (some (.builtin id))∧s.TypeIs v T∧wpAny (model X.prog X.w) X.A (getItem v (.ref sl)) (EP X pins σ Q) X.xe s
theorem SlR.or {r r':V→Option Int→Option Int→Hp→VK→Prop} (h:SlR X r) (h':SlR X r'):SlR X (fun x lo hi H Q=>r x lo hi H Q∨r' x lo hi H Q):=by
 intro pins s σ H x v vl vu lo hi sl Q I rx hs pl pu q
 rcases q with q | q
 ·exact h pins s σ H x v vl vu lo hi sl Q I rx hs pl pu q
 ·exact h' pins s σ H x v vl vu lo hi sl Q I rx hs pl pu q
def tSl (r:V→Option Int→Option Int→Hp→VK→Prop) (te:TE) (tl th:TO):TE:=fun σ H Q=>te σ H fun x H1=>tl σ H1 fun l H2=>th σ H2 fun u H3=>r x l u H3 Q
theorem Zq4 {r:V→Option Int→Option Int→Hp→VK→Prop} (hr:SlR X r) (he:PE X e te) (hl:PO X lo tl) (hu:PO X hi th):PE X (.Subscript e (.Slice lo hi none p2) pos) (tSl r te tl th):=by
 intro pins s σ H Q I h;refine Subscript_ (thn (he pins s σ H _ I h) fun v s1 ⟨x,H1,I1,r1,q1⟩=>?_);refine wpAny_Slice (thn (hl pins s1 σ H1 _ I1 q1) fun vl s2 ⟨l,H2,I2,pl,q2⟩=>thn (hu pins s2 σ H2 _ I2 q2) fun vu s3 ⟨u,H3,I3,pu,q3⟩=>?_);rw[evalPart_none];refine wpAny_pure ?_;have I4:Inv X pins σ H3 { s3 with heap:=s3.heap.push { cls:=.type "slice",data:=.fields #[vl,vu,.none] } }:=I3.kept (t':=s3.toks) fun b ob q=>Heap.get?_push_of_some _ q;obtain⟨T,id,hT,ht,hg⟩:=hr pins { s3 with heap:=s3.heap.push { cls:=.type "slice",data:=.fields #[vl,vu,.none] } } σ H3 x v vl vu l u s3.heap.objs.size Q I4 r1 (Heap.IsSliceOf.new ..) pl pu q3;show wpAny (model X.prog X.w) X.A (subscriptTail e (.Slice lo hi none p2) v (.ref s3.heap.objs.size)) (EP X pins σ Q) X.xe { s3 with heap:=s3.heap.push { cls:=.type "slice",data:=.fields #[vl,vu,.none] } };exact tail_any (ops:=[.ref s3.heap.objs.size,v]) ht hT hg (by with_unfolding_all rfl)
def cutV (xs:List V) (lo hi:Option Int):List V:=(xs.drop (HT.sIx xs.length 0 lo)).take (HT.sIx xs.length xs.length hi - HT.sIx xs.length 0 lo)
theorem Zht (xs:List V) (lo hi:Option Int):(cutV xs lo hi).length≤xs.length:=by
 unfold cutV;rw[List.length_take,List.length_drop];omega
def rSlT (K:PySem.W.Frag):V→Option Int→Option Int→Hp→VK→Prop:=fun x lo hi H Q=>∃a xs,x=.ref a∧SqT K H a xs∧
 ¬(HT.sIx xs.length 0 lo=0∧HT.sIx xs.length xs.length hi=xs.length)∧∀p,H p=none→Q (.ref p) (upd H p (.tup (cutV xs lo hi)))
theorem Zvn:SlR X (rSlT X.K):=by
 intro pins s σ H x v vl vu lo hi sl Q I rx hs pl pu h;obtain⟨a,xs,rfl,hx,hw,q⟩:=h
 cases rx
 obtain⟨its,r,ht,hz⟩:=I.tuple hx
 have hlen:its.toArray.size=xs.length:=by rw[List.size_toArray]; exact r.length.symm
 refine⟨"tuple",_,PyProof.Rows.slot_tuple_getitem.lookup,ht.typeIs,?_⟩;refine HT.getItem_tuple_cut ht hs pl pu (by rw[hlen]; exact hw) ?_ (by rw[hlen]; exact hz);rw[hlen];refine⟨.ref s.heap.objs.size,_,I.laid (t':=s.toks) (o:=.tup (cutV xs lo hi)) (fun b ob q=>Heap.get?_push_of_some _ q) (Nat.le_refl _) ?_,rfl,q _ (I.hok.fresh (Nat.le_refl _))⟩;exact⟨Nat.le_trans (Zht xs lo hi) hz,_,(r.drop (HT.sIx xs.length 0 lo)).take (HT.sIx xs.length xs.length hi - HT.sIx xs.length 0 lo),IsTup.new _ _⟩
end
end L2
namespace L2
open PySem PySem.Spec PyProof.Rows
def ixN (n:Nat) (i:Int):Option Nat:=if 0≤i then(if i < n then some i.toNat else none) else if -(n:Int)≤i then some (i+n).toNat else none
def atI {α:Type} (xs:List α) (i:Int):Option α:=(ixN xs.length i).bind fun j=>xs[j]?
theorem ZoF {n:Nat} {i:Int} {j:Nat} (h:ixN n i=some j):seqIndex? i n=some j∧j < n∧-(n:Int)≤i∧i < n:=by
 unfold ixN at h
 by_cases h0:0≤i
 ·rw[if_pos h0]at h
  by_cases h1:i < n
  ·rw[if_pos h1]at h
   have e:i.toNat=j:=Option.some.inj h;exact⟨by rw[seqIndex_of h0 h1,e],by omega,by omega,h1⟩
  ·rw[if_neg h1]at h; cases h
 ·rw[if_neg h0]at h
  by_cases h1 : -(n:Int)≤i
  ·rw[if_pos h1]at h
   have e:(i+n).toNat=j:=Option.some.inj h;exact⟨by rw[seqIndex_neg (by omega) h1,e],by omega,h1,by omega⟩
  ·rw[if_neg h1]at h; cases h
theorem Zlb {α:Type} {xs:List α} {i:Int} {v:α} (h:atI xs i=some v):∃j,seqIndex? i xs.length=some j∧xs[j]?=some v∧j < xs.length∧-(xs.length:Int)≤i∧i < xs.length:=by
 unfold atI at h
 cases e:ixN xs.length i with
 | none=>rw[e]at h; cases h
 | some j=>
  rw[e]at h;obtain⟨h1,h2,h3,h4⟩:=ZoF e;exact⟨j,h1,h,h2,h3,h4⟩
theorem Zlc {α:Type} {xs:List α} {j:Nat} {v:α} (h:xs[j]?=some v):atI xs (j:Int)=some v:=by
 have hj:j < xs.length:=(List.getElem?_eq_some_iff.mp h).1
 have e:ixN xs.length (j:Int)=some j:=by
  unfold ixN;rw[if_pos (by omega),if_pos (by omega)]; simp
 unfold atI; rw[e]; exact h
def Zsz (b:Expr):Prop:=∀o i,subscripted b false o i=operate [o,i] (getItem o i)
def IxR (X:Cx) (r:R2):Prop:=
 ∀(value slice:Expr) (pins:List (Addr×Obj)) (s:Shared) (σ:St) (H:Hp) (x y:V) (v u:Value) (Q:VK),Inv X pins σ H s→RelV x v→RelV y u→r x y H Q→
  subscripted slice false v u=operate [v,u] (getItem v u)→wpAny (model X.prog X.w) X.A (subscriptTail value slice v u) (EP X pins σ Q) X.xe s
def MtR (X:Cx) (id:String) (r:V→List V→Hp→VK→Prop):Prop:=
 ∀(pins:List (Addr×Obj)) (s:Shared) (σ:St) (H:Hp) (x:V) (xs:List V) (v:Value) (us:List Value) (Q:VK),Inv X pins σ H s→RelV x v→Vals xs us→r x xs H Q→
  wpAny (model X.prog X.w) X.A (call (.builtin id) (v::us)) (EP X pins σ Q) X.xe s
section
variable {X:Cx} {a b:Expr} {ta tb:TE} {pos:Pos}
theorem IxR.or {r r':R2} (h:IxR X r) (h':IxR X r'):IxR X (fun x y H Q=>r x y H Q∨r' x y H Q):=by
 intro value slice pins s σ H x y v u Q I rx ry q hs
 rcases q with q | q
 ·exact h value slice pins s σ H x y v u Q I rx ry q hs
 ·exact h' value slice pins s σ H x y v u Q I rx ry q hs
theorem ZaQ {r:R2} (hr:IxR X r) (ha:PE X a ta) (hb:PE X b tb) (hs:Zsz b):PE X (.Subscript a b pos) (tOp r ta tb):=by
 intro pins s σ H Q I h;exact Subscript_ (binT ha hb I h fun v u s2 x y H2 I2 rx ry q=>hr a b pins s2 σ H2 x y v u Q I2 rx ry q (hs _ _))
def rIxL (K:PySem.W.Frag):R2:=fun x y H Q=>∃p xs i v,x=.ref p∧y=.int i∧SqL K H p xs∧atI xs i=some v∧Q v H
def rIxT (K:PySem.W.Frag):R2:=fun x y H Q=>∃p xs i v,x=.ref p∧y=.int i∧SqT K H p xs∧atI xs i=some v∧Q v H
def rIxS:R2:=fun x y H Q=>∃z i c,x=.str z∧y=.int i∧z.length≤sizeLine∧atI z.cps.toList i=some c∧Q (.str ⟨#[c]⟩) H
theorem Zs5:IxR X (rIxL X.K):=by
 intro value slice pins s σ H x y v u Q I rx ry h hs;obtain⟨p,xs,i,z,rfl,rfl,hq,he,q⟩:=h
 cases rx
 obtain⟨t,rfl⟩:=ry;obtain⟨its,r,pl,hz⟩:=I.list hq;obtain⟨j,h1,h2,h3,h4,h5⟩:=Zlb he;obtain⟨w,ew,rw'⟩:=r.get h2;have hl:=r.length;have hn:=ZiX;have fin:EP X pins σ Q w s:=⟨z,H,I,rw',q⟩
 by_cases h0:0≤i
 ·have hj:i.toNat=j:=by
   rw[seqIndex_of h0 h5]at h1;exact Option.some.inj h1
  exact item_listR pl.isList h0 (by omega) (by rw[hj]; simpa using ew) fin hs
 ·have hj:(i+(its.toArray.size:Int)).toNat=j:=by
   rw[seqIndex_neg (by omega) h4]at h1;rw[List.size_toArray,←hl];exact Option.some.inj h1
  exact subscriptTail_builtinR (x:=w) pl.isList.typeIs slot_list_getitem.lookup
   (wpAny_getItem_list_neg (Q:=fun r s'=>r=w∧EP X pins σ Q r s') pl.isList (by omega) (by rw[List.size_toArray] <;> omega) (by omega) (by rw[hj]; simpa using ew) ⟨rfl,fin⟩) hs
theorem ZuA:IxR X (rIxT X.K):=by
 intro value slice pins s σ H x y v u Q I rx ry h hs;obtain⟨p,xs,i,z,rfl,rfl,hq,he,q⟩:=h
 cases rx
 obtain⟨t,rfl⟩:=ry;obtain⟨its,r,pl,hz⟩:=I.tuple hq;obtain⟨j,h1,h2,h3,h4,h5⟩:=Zlb he;obtain⟨w,ew,rw'⟩:=r.get h2;have hl:=r.length;have hn:=ZiX;have fin:EP X pins σ Q w s:=⟨z,H,I,rw',q⟩
 exact subscriptTail_builtinR (x:=w) pl.typeIs slot_tuple_getitem.lookup
  (getItem_tuple (j:=j) (Q:=fun r s'=>r=w∧EP X pins σ Q r s') pl (by omega) (by omega) (by rw[List.size_toArray,←hl]; exact h1) (by simpa using ew) ⟨rfl,fin⟩) hs
theorem Zuz:IxR X rIxS:=by
 intro value slice pins s σ H x y v u Q I rx ry h hs;obtain⟨z,i,c,rfl,rfl,hz,he,q⟩:=h;obtain⟨t,rfl⟩:=rx;obtain⟨t',rfl⟩:=ry;obtain⟨j,h1,h2,h3,h4,h5⟩:=Zlb he
 have hl:z.cps.toList.length=z.length:=by simp[Str.length]
 rw[hl]at h1 h4 h5;have hn:=ZiX
 exact tail_any (typeIs_str s z t) slot_str_getitem.lookup (getItem_str (c:=c) (by
  have e1:decide (i < -(2 ^ 63:Int))=false:=decide_eq_false (by omega);have e2:decide (i ≥ 2 ^ 63)=false:=decide_eq_false (by omega)
  rw[e1,e2,Bool.or_false]) (by rw[h1]; simpa using h2) ⟨.str ⟨#[c]⟩,H,I.tok _,⟨_,rfl⟩,q⟩) hs
def rIx (K:PySem.W.Frag):R2:=fun x y H Q=>rIxL K x y H Q∨rIxT K x y H Q∨rIxS x y H Q
theorem Zav:IxR X (rIx X.K):=Zs5.or (ZuA.or Zuz)
theorem Znl (its:List Value) (n j:Nat) (u:Value):Obj.mapSeq (·.setIfInBounds j u) { cls:=.type "list",data:=.seq its.toArray n } = { cls:=.type "list",data:=.seq (its.set j u).toArray n }:=by
 simp[Obj.mapSeq]
theorem Inv.lst {pins:List (Addr×Obj)} {σ:St} {H:Hp} {s:Shared} {p:Addr} {xs:List V} (I:Inv X pins σ H s) (h:H p=some (.lst xs)) :
  ∃(its:List Value) (n:Nat),Vals xs its∧s.heap.get? p=some { cls:=.type "list",data:=.seq its.toArray n }∧xs.length≤sizeLine:=by
 obtain⟨z,its,n,r,e⟩:=I.hok p _ h;exact⟨its,n,r,e,z⟩
theorem Inv.lstUpd {pins:List (Addr×Obj)} {σ:St} {H:Hp} {s:Shared} {p:Addr} {xs ys:List V} {its its':List Value} {n n':Nat} {f:Obj→Obj} (I:Inv X pins σ H s) (h:H p=some (.lst xs))
  (ho:s.heap.get? p=some { cls:=.type "list",data:=.seq its.toArray n }) (hf:f { cls:=.type "list",data:=.seq its.toArray n } = { cls:=.type "list",data:=.seq its'.toArray n' }) (r:Vals ys its') (hz:ys.length≤sizeLine) (t:Nat) :
  Inv X pins σ (upd H p (.lst ys)) { s with heap:=s.heap.update p f,toks:=t }:=by
 have e:(s.heap.update p f).get? p=some { cls:=.type "list",data:=.seq its'.toArray n' }:=by
  rw[Heap.get?_update_self f ho (by rw[hf] <;> rfl),hf]
 refine I.write (x:=p) (e:=p) (by rw[h]; trivial) (.inl rfl) (fun b u hb q=>(Heap.get?_update_other _ _ (Ne.symm hb)).trans q) ⟨_,e⟩ ?_;exact⟨hz,its',n',r,e⟩
def Zvd:V→V→V→Hp→(Hp→Prop)→Prop:=fun o i v H Q=>∃p xs k j,o=.ref p∧i=.int k∧H p=some (.lst xs)∧ixN xs.length k=some j∧Q (upd H p (.lst (xs.set j v)))
theorem Zgj:PSet X Zvd:=by
 intro pins s σ H o i v ov iv u Q I ro ri rv h;obtain⟨p,xs,k,j,rfl,rfl,hp,hj,q⟩:=h
 cases ro
 obtain⟨t,rfl⟩:=ri;obtain⟨its,n,r,ho,hz⟩:=I.lst hp;obtain⟨h1,h2,h3,h4⟩:=ZoF hj;have hl:=r.length;have hn:=ZiX
 have I':Inv X pins σ (upd H p (.lst (xs.set j v))) { s with heap:=s.heap.update p (Obj.mapSeq (·.setIfInBounds j u)) }:=
  I.lstUpd hp ho (Znl its n j u) (r.set rv j) (by rw[List.length_set]; exact hz) s.toks
 by_cases h0:0≤k
 ·have hk:k.toNat=j:=by
   rw[seqIndex_of h0 h4]at h1;exact Option.some.inj h1
  exact PySem.W.ki_setAt ho h0 (by omega) (by rw[List.size_toArray,←hl]; exact h4) (by rw[hk]; exact⟨_,I',q⟩)
 ·have hk:(k+(its.toArray.size:Int)).toNat=j:=by
   rw[seqIndex_neg (by omega) h3]at h1;rw[List.size_toArray,←hl];exact Option.some.inj h1
  exact PySem.W.ki_setBack ho (by omega) (by rw[List.size_toArray,←hl]; exact h3) (by omega) (by rw[hk]; exact⟨_,I',q⟩)
theorem ZkW (lo hi:Option Int) (n:Nat):(sliceBounds lo hi none n).1=((HT.sIx n 0 lo:Nat):Int)∧(sliceBounds lo hi none n).2.1=((HT.sIx n n hi:Nat):Int)∧(sliceBounds lo hi none n).2.2=1:=by
 refine⟨?_,?_,rfl⟩
 ·cases lo with
  | none=>simp[sliceBounds,HT.sIx]
  | some i=>
   simp only [sliceBounds,HT.sIx,Option.getD_none,show(1:Int) > 0 by decide,if_true]
   by_cases h:i < 0
   ·simp only [h,if_true] <;> omega
   ·simp only [h,if_false] <;> omega
 ·cases hi with
  | none=>simp[sliceBounds,HT.sIx]
  | some i=>
   simp only [sliceBounds,HT.sIx,Option.getD_none,show(1:Int) > 0 by decide,if_true]
   by_cases h:i < 0
   ·simp only [h,if_true] <;> omega
   ·simp only [h,if_false] <;> omega
theorem Zj1 (its:List Value) (lo hi:Option Int):slicePick its.toArray lo hi none=((its.drop (HT.sIx its.length 0 lo)).take (HT.sIx its.length its.length hi - HT.sIx its.length 0 lo)).toArray:=by
 obtain⟨h1,h2,h3⟩:=ZkW lo hi its.toArray.size;unfold slicePick;rw[h1,h2,h3]
 simp only [sliceRange_one,pick_run,List.size_toArray] <;> rfl
def rSlL (K:PySem.W.Frag):V→Option Int→Option Int→Hp→VK→Prop:=fun x lo hi H Q=>∃a xs,x=.ref a∧SqL K H a xs∧∀p,H p=none→Q (.ref p) (upd H p (.lst (cutV xs lo hi)))
theorem ZtA:SlR X (rSlL X.K):=by
 intro pins s σ H x v vl vu lo hi sl Q I rx hs pl pu h;obtain⟨a,xs,rfl,hx,q⟩:=h
 cases rx
 obtain⟨its,r,ht,hz⟩:=I.list hx;have hlen:=r.length;refine⟨"list",_,slot_list_getitem.lookup,ht.isList.typeIs,?_⟩;refine wpAny_getItem_list_slice ht.isList hs pl pu .none (by simp) ?_ (by rw[List.size_toArray] <;> omega);rw[Zj1,←hlen];refine⟨.ref s.heap.objs.size,_,I.laid (t':=s.toks) (o:=.lst (cutV xs lo hi)) (fun b ob q=>Heap.get?_push_of_some _ q) (Nat.le_refl _) ?_,rfl,q _ (I.hok.fresh (Nat.le_refl _))⟩;exact⟨Nat.le_trans (Zht xs lo hi) hz,_,0,(r.drop (HT.sIx xs.length 0 lo)).take (HT.sIx xs.length xs.length hi - HT.sIx xs.length 0 lo),Heap.get?_push_size _ rfl⟩
theorem Zkn:Zfz X (.type "list") (fun xs H Q=>∃p ys,xs=[.ref p]∧(SqL X.K H p ys∨SqT X.K H p ys)∧∀l,H l=none→Q (.ref l) (upd H l (.lst ys))):=by
 intro pins s σ H xs us Q I r h;obtain⟨p,ys,rfl,hq,q⟩:=h;obtain⟨u,rfl,rx⟩:=Zj4 r
 cases rx
 have fin:∀(its:List Value),Vals ys its→ys.length≤sizeLine→∀(h':Heap) (c':Nat),(∀b o',s.heap.get? b=some o'→h'.get? b=some o')→
   h'.get? s.heap.objs.size=some { cls:=.type "list",dict:=none,data:=.seq its.toArray c',slots:=#[] }→EP X pins σ Q (.ref s.heap.objs.size) { s with heap:=h' }:=fun its r' hz h' c' kp e=>
  ⟨.ref s.heap.objs.size,_,I.laid (t':=s.toks) kp (Nat.le_refl _) (show ZaT X.prog X.w _ h' _ (.lst ys) from⟨hz,its,c',r',e⟩),rfl,q _ (I.hok.fresh (Nat.le_refl _))⟩
 rcases hq with hq | hq
 ·obtain⟨its,r',pl,hz⟩:=I.list hq
  have hlen:=r'.length;obtain⟨o,ho,hc,n,hd⟩:=pl.isList;exact call_list_seq p (.inl rfl) ho hc hd (fun h' c' kp e=>fin its r' hz h' c' kp e) (by simp only [List.size_toArray] <;> omega)
 ·obtain⟨its,r',pl,hz⟩:=I.tuple hq
  have hlen:=r'.length;obtain⟨o,ho,hc,n,hd⟩:=pl;exact call_list_seq p (.inr rfl) ho hc hd (fun h' c' kp e=>fin its r' hz h' c' kp e) (by simp only [List.size_toArray] <;> omega)
theorem Zji:Zfz X (.type "tuple") (fun xs H Q=>∃p ys,xs=[.ref p]∧((SqL X.K H p ys∧∀l,H l=none→Q (.ref l) (upd H l (.tup ys)))∨(SqT X.K H p ys∧Q (.ref p) H))):=by
 intro pins s σ H xs us Q I r h;obtain⟨p,ys,rfl,h⟩:=h;obtain⟨u,rfl,rx⟩:=Zj4 r
 cases rx
 rcases h with⟨hq,q⟩ | ⟨hq,q⟩
 ·obtain⟨its,r',pl,hz⟩:=I.list hq
  have hlen:=r'.length;refine call_tuple_list pl.isList (fun h' kp=>?_) (by simp only [List.size_toArray] <;> omega);have I1:Inv X pins σ H { s with heap:=h' }:=I.kept (t':=s.toks) kp
  have I2:Inv X pins σ (upd H h'.objs.size (.tup ys)) { s with heap:=h'.push { cls:=.type "tuple",data:=.seq its.toArray } }:=
   I1.laid (t':=s.toks) (fun b o e=>Heap.get?_push_of_some _ e) (Nat.le_refl _) (show ZaT X.prog X.w _ _ _ (.tup ys) from⟨hz,its,r',IsTup.new _ _⟩)
  exact⟨.ref h'.objs.size,_,I2,rfl,q _ (I1.hok.fresh (Nat.le_refl _))⟩
 ·obtain⟨its,r',pl,hz⟩:=I.tuple hq
  exact call_tuple_same pl ⟨.ref p,H,I,rfl,q⟩
def tyV (K:PySem.W.Frag) (T:String) (x:V) (H:Hp):Prop:=match x with
 | .str _=>T = "str"
 | .int _=>T = "int"
 | .ref p=>(T = "list"∧∃xs,SqL K H p xs)∨(T = "tuple"∧∃o,K.lookup p=some o∧o.cls=.type "tuple"∧o.dict=none)∨
   (T = "dict"∧((∃kvs,H p=some (.dK kvs))∨∃kvs,H p=some (.dT kvs)))∨(T = "set"∧∃S n,H p=some (.set S n))
 | _=>False
theorem Zst {pins:List (Addr×Obj)} {σ:St} {H:Hp} {s:Shared} {T:String} {x:V} {v:Value} (I:Inv X pins σ H s) (r:RelV x v) (ty:tyV X.K T x H) :
  s.TypeIs v T∧∀a,v=.ref a→∃ob,s.heap.get? a=some ob∧ob.dict=none:=by
 cases x with
 | str z=>
  obtain⟨t,rfl⟩:=r
  cases (show T = "str" from ty)
  exact⟨typeIs_str s z t,fun _ e=>nomatch e⟩
 | int i=>
  obtain⟨t,rfl⟩:=r
  cases (show T = "int" from ty)
  exact⟨typeIs_int s i t,fun _ e=>nomatch e⟩
 | ref p=>
  cases r
  rcases ty with⟨rfl,xs,hq⟩ | ⟨rfl,o,hk,hc,hd⟩ | ⟨rfl,hk⟩ | ⟨rfl,S,n,hk⟩
  ·obtain⟨its,_,pl,_⟩:=I.list hq
   refine⟨pl.isList.typeIs,fun a e=>?_⟩
   cases e
   obtain⟨o,n,e,c,hd,_⟩:=pl;exact⟨o,e,hd⟩
  ·refine⟨⟨o,I.kIn p o hk,hc⟩,fun a e=>?_⟩
   cases e
   exact⟨o,I.kIn _ o hk,hd⟩
  ·have z:∃o,s.heap.get? p=some o∧o.ExactDict:=by
    rcases hk with⟨kvs,hk⟩ | ⟨kvs,hk⟩
    ·obtain⟨_,_,_,_,o,_,_,e,ex,_⟩:=I.hok p _ hk
     exact⟨o,e,ex⟩
    ·obtain⟨_,_,_,_,o,_,_,e,ex,_⟩:=I.hok p _ hk
     exact⟨o,e,ex⟩
   obtain⟨o,e,ex⟩:=z;refine⟨⟨o,e,ex.1⟩,fun a e2=>?_⟩
   cases e2
   exact⟨o,e,ex.2.1⟩
  ·obtain⟨o,_,_,_,e,ex,_⟩:=I.hok p _ hk
   refine⟨⟨o,e,ex.1⟩,fun a e2=>?_⟩
   cases e2
   exact⟨o,e,ex.2.1⟩
 | _=>exact False.elim ty
def tBM0 (K:PySem.W.Frag) (T:String) (r:V→List V→Hp→VK→Prop) (to:TE):TE:=fun σ H Q=>to σ H fun x H1=>tyV K T x H1∧r x [] H1 Q
def tBM (K:PySem.W.Frag) (T:String) (r:V→List V→Hp→VK→Prop) (to:TE) (t:TA):TE:=fun σ H Q=>to σ H fun x H1=>tyV K T x H1∧t σ H1 fun xs H2=>r x xs H2 Q
variable {o e:Expr} {es:List Expr} {to:TE} {t:TA} {name:Str} {apos cpos:Pos} {T id:String} {r:V→List V→Hp→VK→Prop}
theorem Zpa (pa:PlainAttrs T) (slot:Slot T name id) (hty:typeOf (.builtin id)=pure (.type "method_descriptor")) (hm:MtR X id r) (ho:PE X o to)
  (hbase:attributeBase o name X.env (eval o X.env)=eval o X.env:=by rfl) (hline:(apos.endLine == cpos.line)=true:=by rfl):PE X (.Call (.Attribute o name apos) [] [] cpos) (tBM0 X.K T r to):=by
 intro pins s σ H Q I h;refine wpAny_Call_method0_late hbase hline (thn (ho pins s σ H _ I h) fun v s1 ⟨x,H1,I1,r1,ty,q1⟩=>?_);obtain⟨h1,h2⟩:=Zst I1 r1 ty;exact⟨T,id,pa,slot,hty,h1,h2,Calls.callWith_builtin rfl (PySem.evalArgs_none (hm pins s1 σ H1 x [] v [] Q I1 r1 .nil q1))⟩
theorem ZkO (pa:PlainAttrs T) (slot:Slot T name id) (hty:typeOf (.builtin id)=pure (.type "method_descriptor")) (hm:MtR X id r) (ho:PE X o to) (ha:PA X (e::es) t)
  (hbase:attributeBase o name X.env (eval o X.env)=eval o X.env:=by rfl)
  (hfew:((backTo cpos (starEach (e::es) X.env)).all (fun x=>!x.1) && (backToKw cpos (keywordEach [] X.env)).all (fun x=>x.1.isSome)
   && decide ((e::es).length+([]:List Keyword).length+(if ([]:List Keyword).isEmpty then 0 else 1) < 30))=true:=by rfl)
  (hline:(apos.endLine == cpos.line)=true:=by rfl) (hs:starEach (e::es) X.env=(false,eval e X.env)::starEach es X.env:=by rfl) (hplain:(backTo cpos (starEach es X.env)).any (·.1)=false:=by rfl) :
  PE X (.Call (.Attribute o name apos) (e::es) [] cpos) (tBM X.K T r to t):=by
 intro pins s σ H Q I h;refine wpAny_Call_method_late hbase hfew hline rfl (thn (ho pins s σ H _ I h) fun v s1 ⟨x,H1,I1,r1,ty,q1⟩=>?_);obtain⟨h1,h2⟩:=Zst I1 r1 ty;refine⟨T,id,pa,slot,hty,h1,h2,?_⟩;have hA:=ha cpos pins s1 σ H1 _ I1 q1;rw[hs]at hA ⊢;refine Calls.callWith_builtin (by show(false || (backTo cpos (starEach es X.env)).any (·.1))=false; rw[hplain] <;> rfl) (Calls.evalArgs_plain ?_);exact thn hA fun us s2 ⟨vs,H2,I2,r2,q2⟩=>hm pins s2 σ H2 x vs v us Q I2 r1 r2 q2
end
end L2
namespace L2
open PySem PySem.Spec PyProof.Rows
def MtM (X:Cx) (id:String) (r:V→List V→Hp→VK→Prop):Prop:=
 ∀(pins:List (Addr×Obj)) (s:Shared) (σ:St) (H:Hp) (x:V) (xs:List V) (v:Value) (us:List Value) (Q:VK),Inv X pins σ H s→RelV x v→Vals xs us→r x xs H Q→
  wpAny (model X.prog X.w) X.A (call (.builtin id) (v::us)) (EP X pins σ Q) X.xe s
theorem Vals.one:∀{x:V} {us:List Value},Vals [x] us→∃u,us=[u]∧RelV x u
 | _,_,.cons r .nil=>⟨_,rfl,r⟩
theorem Vals.zero:∀{us:List Value},Vals [] us→us=[]
 | _,.nil=>rfl
theorem Vals.dropLast {xs:List V} {us:List Value} (h:Vals xs us):Vals xs.dropLast us.dropLast:=by
 induction h with
 | nil=>exact .nil
 | cons r t ih=>
  cases t with
  | nil=>exact .nil
  | cons q t'=>exact .cons r ih
theorem Zm3 {α:Type} (l:List α):l.eraseIdx (l.length - 1)=l.dropLast:=by
 induction l with
 | nil=>rfl
 | cons a r ih=>
  cases r with
  | nil=>rfl
  | cons b r=>
   have e:(a::b::r).length - 1=((b::r).length - 1)+1:=by
    have h1:(a::b::r).length=r.length+2:=rfl;have h2:(b::r).length=r.length+1:=rfl;omega
   rw[e,List.eraseIdx_cons_succ,ih]
   all_goals rfl
section
variable {X:Cx} {pins:List (Addr×Obj)} {σ:St} {H:Hp} {s:Shared} {l b:Addr} {xs ys zs:List V}
theorem Inv.lset {its its':List Value} {n:Nat} {f:Array Value→Array Value} {t':Nat} (I:Inv X pins σ H s) (hH:H l=some (.lst xs))
  (e:s.heap.get? l=some { cls:=.type "list",data:=.seq its.toArray n }) (hf:f its.toArray=its'.toArray) (hv:Vals ys its') (hz:ys.length≤sizeLine) :
  Inv X pins σ (upd H l (.lst ys)) { s with heap:=s.heap.update l (Obj.mapSeq f),toks:=t' }:=by
 have q:=PySem.IsL.update e f;rw[hf]at q;refine I.write (x:=l) (e:=l) (by rw[hH]; exact trivial) (.inl rfl) (fun b' u hb hu=>(Heap.get?_update_other s.heap (Obj.mapSeq f) (Ne.symm hb)).trans hu) ⟨_,q⟩ ?_;exact⟨hz,its',_,hv,q⟩
theorem Inv.lnew {its:List Value} {t':Nat} (I:Inv X pins σ H s) (hv:Vals ys its) (hz:ys.length≤sizeLine) :
  Inv X pins σ (upd H s.heap.objs.size (.lst ys)) { s with heap:=s.heap.push { cls:=.type "list",data:=.seq its.toArray },toks:=t' }:=
 I.laid (fun _ _ q=>Heap.get?_push_of_some _ q) (Nat.le_refl _) ⟨hz,its,0,hv,Heap.get?_push_size _ rfl⟩
theorem Inv.fresh (I:Inv X pins σ H s):H s.heap.objs.size=none:=I.hok.fresh (Nat.le_refl _)
theorem Inv.lstM (I:Inv X pins σ H s) (hH:H l=some (.lst xs)):xs.length≤sizeLine∧∃(its:List Value) (n:Nat),Vals xs its∧xs.length=its.length∧s.heap.get? l=some { cls:=.type "list",data:=.seq its.toArray n }:=by
 obtain⟨z,its,n,r,e⟩:=I.hok l _ hH;exact⟨z,its,n,r,r.length,e⟩
end
section
variable {X:Cx}
def ZlD:V→List V→Hp→VK→Prop:=fun x vs H Q=>∃l xs y,x=.ref l∧vs=[y]∧H l=some (.lst xs)∧xs.length < sizeLine∧Q .non (upd H l (.lst (xs++[y])))
theorem Zb4:MtM X "list.append" ZlD:=by
 intro pins s σ H x vs v us Q I rx rv h;obtain⟨l,xs,y,rfl,rfl,hH,hz,q⟩:=h
 cases rx
 obtain⟨u,rfl,ru⟩:=rv.one;obtain⟨z,its,n,r,hl,e⟩:=I.lstM hH;refine call_meets F.slot_list_append ⟨_,e,rfl⟩ F.entry_list_append (F.args_list_append_2 _ _) (PySem.list_append l its.toArray n u (by rw[List.size_toArray]; omega)) ⟨e,?_⟩;refine⟨.non,_,I.lset (its':=its++[u]) hH e (by simp) (r.append (.cons ru .nil)) ?_,rfl,q⟩;rw[List.length_append,List.length_singleton];omega
def rPop:V→List V→Hp→VK→Prop:=fun x vs H Q=>∃l xs y,x=.ref l∧vs=[]∧H l=some (.lst xs)∧xs[xs.length - 1]?=some y∧Q y (upd H l (.lst xs.dropLast))
theorem ZuO:MtM X "list.pop" rPop:=by
 intro pins s σ H x vs v us Q I rx rv h;obtain⟨l,xs,y,rfl,rfl,hH,hy,q⟩:=h
 cases rx
 have hus:=rv.zero;subst hus;obtain⟨z,its,n,r,hl,e⟩:=I.lstM hH;obtain⟨u,hu,ru⟩:=r.get hy
 have hy':its.toArray[its.toArray.size - 1]?=some u:=by
  show its.toArray[its.length - 1]?=some u;rw[←Array.getElem?_toList,←hl];exact hu
 refine call_meets F.slot_list_pop ⟨_,e,rfl⟩ F.entry_list_pop (F.args_list_pop_1 _) (MeetsSeq.list_pop_last l its.toArray n u hy' (by rw[List.size_toArray]; omega)) ⟨e,?_⟩;refine⟨y,_,I.lset (its':=its.dropLast) hH e ?_ r.dropLast ?_,ru,q⟩
 ·show its.toArray.eraseIdxIfInBounds (its.toArray.size - 1)=its.dropLast.toArray
  rw[List.size_toArray,List.eraseIdxIfInBounds_toArray,Zm3]
 ·rw[List.length_dropLast]
  omega
def rCat:R2:=fun x y H Q=>∃l b xs zs,x=.ref l∧y=.ref b∧H l=some (.lst xs)∧H b=some (.lst zs)∧xs.length+zs.length≤sizeLine∧∀p,H p=none→Q (.ref p) (upd H p (.lst (xs++zs)))
theorem ZuU:OpR X (binaryOp .Add) rCat:=by
 intro pins s σ H x y v u Q I rx ry h;obtain⟨l,b,xs,zs,rfl,rfl,hH,hB,hz,q⟩:=h
 cases rx
 cases ry
 obtain⟨z,its,n,r,hl,e⟩:=I.lstM hH;obtain⟨z2,its2,n2,r2,hl2,e2⟩:=I.lstM hB;refine PySem.P.add_list e e2 ?_ (by rw[List.size_toArray,List.size_toArray]; omega)
 have ea:its.toArray++its2.toArray=(its++its2).toArray:=by simp
 rw[ea];exact⟨.ref _,_,I.lnew (t':=s.toks) (r.append r2) (by rw[List.length_append]; omega),rfl,q _ I.fresh⟩
end
section
variable {prog:Program} {w:World} {A:Around} {E:Value→Shared→Prop} {s:Shared}
end
section
variable {X:Cx}
end
end L2
namespace L2
open PySem PySem.Spec PyProof.Rows
section
variable {κ:Type} [DecidableEq κ]
def valV (kvs:List (κ×V)) (k:κ):Option V:=(kvs.find? fun kv=>decide (kv.1=k)).map (·.2)
def putK (kvs:List (κ×V)) (k:κ) (v:V):List (κ×V):=
 if (kvs.any fun kv=>decide (kv.1=k))=true then kvs.map (fun kv=>if kv.1=k then(kv.1,v) else kv) else kvs++[(k,v)]
def ZfD (kvs:List (κ×V)) (k:κ):List (κ×V):=kvs.filter fun kv=>decide (kv.1≠k)
theorem Zhh {p:κ×V} {r:List (κ×V)} {k:κ} (e:p.1=k):valV (p::r) k=some p.2:=by simp[valV,List.find?_cons,e]
theorem Zhg {p:κ×V} {r:List (κ×V)} {k:κ} (e : ¬p.1=k):valV (p::r) k=valV r k:=by simp[valV,List.find?_cons,e]
theorem ZmJ (k:κ):∀kvs:List (κ×V),(kvs.any fun kv=>decide (kv.1=k))=(valV kvs k).isSome
 | []=>rfl
 | p::r=>by
  rw[List.any_cons]
  by_cases e:p.1=k
  ·simp only [Zhh e,decide_eq_true e,Bool.true_or,Option.isSome_some]
  ·rw[Zhg e,decide_eq_false e,Bool.false_or]; exact ZmJ k r
theorem ZhG (kvs:List (κ×V)) (k:κ) (v:V):(putK kvs k v).length≤kvs.length+1:=by
 unfold putK
 split
 ·rw[List.length_map]; omega
 ·rw[List.length_append,List.length_cons,List.length_nil]; omega
theorem RelO.isSome_eq {o:Option V} {u:Option Value} (r:RelO o u):o.isSome=u.isSome:=by
 cases o with
 | none=>cases u with
  | none=>rfl
  | some _=>exact(show False from r).elim
 | some _=>cases u with
  | none=>exact(show False from r).elim
  | some _=>rfl
theorem KV.val {kvs:List (κ×V)} {vs:List (κ×Value)} (r:KV kvs vs) (k:κ):RelO (valV kvs k) (valueAt vs k):=by
 unfold KV at r
 induction r with
 | nil=>exact True.intro
 | @cons p q ps qs h t ih=>
  obtain⟨h1,h2⟩:=h
  by_cases e:p.1=k
  ·have e':q.1=k:=h1.symm.trans e
   have b:valueAt (q::qs) k=some q.2:=by simp[valueAt,List.find?_cons,e']
   rw[Zhh e,b]; exact h2
  ·have e' : ¬q.1=k:=fun z=>e (h1.trans z)
   have b:valueAt (q::qs) k=valueAt qs k:=by simp[valueAt,List.find?_cons,e']
   rw[Zhg e,b]; exact ih
theorem KV.any {kvs:List (κ×V)} {vs:List (κ×Value)} (r:KV kvs vs) (k:κ):(kvs.any fun kv=>decide (kv.1=k))=vs.any fun kv=>decide (kv.1=k):=by
 unfold KV at r
 induction r with
 | nil=>rfl
 | cons h t ih=>rw[List.any_cons,List.any_cons,ih,h.1]
theorem KV.repl {kvs:List (κ×V)} {vs:List (κ×Value)} (r:KV kvs vs) (k:κ) {y:V} {u:Value} (ry:RelV y u) :
  KV (kvs.map fun kv=>if kv.1=k then(kv.1,y) else kv) (vs.map fun kv=>if kv.1=k then(kv.1,u) else kv):=by
 unfold KV at r ⊢
 induction r with
 | nil=>exact .nil
 | @cons p q ps qs h t ih=>
  rw[List.map_cons,List.map_cons];refine .cons ?_ ih;obtain⟨h1,h2⟩:=h
  by_cases e:p.1=k
  ·rw[if_pos e,if_pos (h1.symm.trans e)]; exact⟨h1,ry⟩
  ·rw[if_neg e,if_neg (fun z=>e (h1.trans z))]; exact⟨h1,h2⟩
theorem KV.put {kvs:List (κ×V)} {vs:List (κ×Value)} (r:KV kvs vs) (k:κ) {y:V} {u:Value} (ry:RelV y u):KV (putK kvs k y) (stored vs k u):=by
 unfold putK stored;rw[r.any k]
 by_cases e:(vs.any fun kv=>decide (kv.1=k))=true
 ·rw[if_pos e,if_pos e]; exact r.repl k ry
 ·rw[if_neg e,if_neg e]; exact Paired.snoc r ⟨rfl,ry⟩
theorem KV.length {kvs:List (κ×V)} {vs:List (κ×Value)} (r:KV kvs vs):kvs.length=vs.length:=Paired.length r
theorem Zqq (kvs:List (κ×V)) (k:κ):(ZfD kvs k).length≤kvs.length:=List.length_filter_le _ _
end
theorem Zs6 {P:Program} {w:World} {k:Key} {u:Value} (r:RelV (kV k) u):(Zb2 P w).is k u=true:=by
 cases k with
 | inl i=>obtain⟨t,e⟩:=(show ∃t,u=Value.int i t from r); subst e; exact Zlt P w i t
 | inr x=>obtain⟨t,e⟩:=(show ∃t,u=Value.str x t from r); subst e; exact Zlu P w x t
theorem Zkv {P:Program} {w:World}:∀{ks:List Key} {us:List Value},Vals (ks.map kV) us→ItemsAre (Zb2 P w) ks us
 | [],_,r=>by rw[List.map_nil]at r; cases r; exact .nil
 | k::ks,_,r=>by
  rw[List.map_cons]at r
  cases r with
  | cons h t=>exact .cons (Zs6 h) (Zkv t)
abbrev KT (H:Hp):List (List Key×V)→List (List Key×Addr×Value)→Prop:=Paired fun p q=>p.1=q.1∧H q.2.1=some (.tup (p.1.map kV))∧RelV p.2 q.2.2
theorem KT.val {H:Hp} {kvs:List (List Key×V)} {xs:List (List Key×Addr×Value)} (r:KT H kvs xs) (k:List Key):RelO (valV kvs k) ((atKey xs k).map (·.2)):=by
 induction r with
 | nil=>exact True.intro
 | @cons p q ps qs h t ih=>
  obtain⟨h1,_,h2⟩:=h
  by_cases e:p.1=k
  ·have e':q.1=k:=h1.symm.trans e
   have b:atKey (q::qs) k=some q.2:=by simp[atKey,List.find?_cons,e']
   rw[Zhh e,b]; exact h2
  ·have e' : ¬q.1=k:=fun z=>e (h1.trans z)
   have b:atKey (q::qs) k=atKey qs k:=by simp[atKey,List.find?_cons,e']
   rw[Zhg e,b]; exact ih
theorem KT.repl {H:Hp} {kvs:List (List Key×V)} {xs:List (List Key×Addr×Value)} (r:KT H kvs xs) (k:List Key) {y:V} {u:Value} (ry:RelV y u) :
  KT H (kvs.map fun kv=>if kv.1=k then(kv.1,y) else kv) (xs.map (putAt k u)):=by
 induction r with
 | nil=>exact .nil
 | @cons p q ps qs h t ih=>
  rw[List.map_cons,List.map_cons];refine .cons ?_ ih;obtain⟨h1,h2,h3⟩:=h;unfold putAt
  by_cases e:p.1=k
  ·rw[if_pos e,if_pos (h1.symm.trans e)]; exact⟨h1,h2,ry⟩
  ·rw[if_neg e,if_neg (fun z=>e (h1.trans z))]; exact⟨h1,h2,h3⟩
theorem KT.put {H:Hp} {kvs:List (List Key×V)} {xs:List (List Key×Addr×Value)} (r:KT H kvs xs) (k:List Key) {b:Addr} {y:V} {u:Value} (hb:H b=some (.tup (k.map kV))) (ry:RelV y u) :
  KT H (putK kvs k y) (storedH xs k b u):=by
 have e:(kvs.any fun kv=>decide (kv.1=k))=(atKey xs k).isSome:=by
  rw[ZmJ,(r.val k).isSome_eq,Option.isSome_map]
 unfold putK storedH;rw[e]
 by_cases q:(atKey xs k).isSome=true
 ·rw[if_pos q,if_pos q]; exact r.repl k ry
 ·rw[if_neg q,if_neg q]; exact Paired.snoc r ⟨rfl,hb,ry⟩
theorem KT.keeps {H H':Hp} {kvs:List (List Key×V)} {xs:List (List Key×Addr×Value)} (r:KT H kvs xs) (ht:∀b ys,H b=some (.tup ys)→H' b=some (.tup ys)):KT H' kvs xs:=
 Paired.mapP r fun _ _ z=>⟨z.1,ht _ _ z.2.1,z.2.2⟩
section
variable {P:Program} {w:World} {H:Hp} {h:Heap} {a:Addr}
theorem Zve {u:HO} (ok:HOk P w H h) (e:Rd H a u):ZaT P w H h a u:=e.ok ok
theorem Zqp {kvs:List (Key×V)} (ok:HOk P w H h) (e:Rd H a (.dK kvs)):kvs.length≤sizeLine∧(a == sysModules)=false∧∃vs,KV kvs vs∧h.DictOf (Zb2 P w) a vs:=
 show ZaT P w H h a (.dK kvs) from Zve ok e
theorem ZvM {kvs:List (Key×V)} (ok:HOk P w H h) (e:H a=some (.dK kvs)):kvs.length≤sizeLine∧(a == sysModules)=false∧∃vs,KV kvs vs∧h.DictOf (Zb2 P w) a vs:=Zqp ok (.inl e)
theorem Zmb {ks:List Key} (ok:HOk P w H h) (e:H a=some (.tup (ks.map kV))):(tupleKind (Zb2 P w)).is h ks a:=by
 obtain⟨_,its,r,o,h1,h2,n,h3⟩:=(show ZaT P w H h a (.tup (ks.map kV)) from ok a _ e);exact⟨o,its.toArray,n,h1,h2,h3,by simpa using Zkv r⟩
theorem Zqs {kvs:List (List Key×V)} (ok:HOk P w H h) (e:Rd H a (.dT kvs)):kvs.length≤sizeLine∧(a == sysModules)=false∧
  ∃xs,KT H kvs xs∧h.DictOfH (tupleKind (Zb2 P w)) a xs:=by
 obtain⟨z,y,xs,r,o,es,ep,h1,h2,h3,h4,h5⟩:=(show ZaT P w H h a (.dT kvs) from Zve ok e);refine⟨z,y,xs,r,o,es,ep,h1,h2,h3,h4,fun x hx=>?_,h5⟩
 have all:∀{l:List (List Key×V)} {m:List (List Key×Addr×Value)},KT H l m→∀x∈m,(tupleKind (Zb2 P w)).is h x.1 x.2.1:=by
  intro l m q
  induction q with
  | nil=>intro x hx; exact nomatch hx
  | @cons p q ps qs hq t ih=>
   intro x hx
   rcases List.mem_cons.mp hx with e | hx
   ·subst e
    exact Zmb ok (by rw[←hq.1]; exact hq.2.1)
   ·exact ih x hx
 exact all r x hx
theorem Zt9 {kvs:List (List Key×V)} (ok:HOk P w H h) (e:H a=some (.dT kvs)):kvs.length≤sizeLine∧(a == sysModules)=false∧
  ∃xs,KT H kvs xs∧h.DictOfH (tupleKind (Zb2 P w)) a xs:=Zqs ok (.inl e)
end
def DGet (H:Hp) (a:Addr) (y:V) (r:Option V):Prop:=
 (∃kvs k,Rd H a (.dK kvs)∧y=kV k∧r=valV kvs k)∨∃kvs k b,Rd H a (.dT kvs)∧y=.ref b∧H b=some (.tup (k.map kV))∧r=valV kvs k
def DPut (H:Hp) (a:Addr) (y v:V) (H':Hp):Prop:=
 (∃kvs k,H a=some (.dK kvs)∧y=kV k∧kvs.length < sizeLine∧H'=upd H a (.dK (putK kvs k v)))∨
 ∃kvs k b,H a=some (.dT kvs)∧y=.ref b∧H b=some (.tup (k.map kV))∧kvs.length < sizeLine∧H'=upd H a (.dT (putK kvs k v))
theorem DPut.t {H:Hp} {a b:Addr} {kvs:List (List Key×V)} {k:List Key} {v:V} (e:H a=some (.dT kvs)) (eb:H b=some (.tup (k.map kV))) (hl:kvs.length < sizeLine) :
  DPut H a (.ref b) v (upd H a (.dT (putK kvs k v))):=.inr ⟨kvs,k,b,e,rfl,eb,hl,rfl⟩
section
variable {X:Cx} {pins:List (Addr×Obj)} {σ:St} {H:Hp} {s:Shared} {a:Addr} {y v:V} {u r:Value} {o:Option V} {A:Around} {E:Value→Shared→Prop}
theorem Inv.big (I:Inv X pins σ H s):sysModules < s.heap.objs.size:=by
 have h:mainGlobals < s.heap.objs.size:=(I.mod.glob.keeps I.bk).lt;exact Nat.lt_trans (by decide) h
theorem Zn8 {Q:Value→Shared→Prop} (hu:A.units+1 < cLine) (I:Inv X pins σ H s) (g:DGet H a y (some v)) (ry:RelV y u) (h:∀w' s',Inv X pins σ H s'→RelV v w'→Q w' s') :
  wpAny (model X.prog X.w) A (getItem (.ref a) u) Q E s:=by
 rcases g with⟨kvs,k,e,ey,l⟩ | ⟨kvs,k,b,e,ey,eb,l⟩
 ·subst ey
  obtain⟨z,hd,vs,rel,dd⟩:=Zqp I.hok e;obtain⟨w',hw,rw'⟩:=RelO.some_of (v:=v) (o:=valueAt vs k) (by rw[l]; exact rel.val k);exact wpAny_getItem_of (Zs6 ry) dd.mapOf hw (h w' _ (I.tok _) rw')
 ·subst ey
  cases (show u=Value.ref b from ry)
  obtain⟨z,hd,xs,rel,dd⟩:=Zqs I.hok e;obtain⟨w',hw,rw'⟩:=RelO.some_of (v:=v) (o:=(atKey xs k).map (·.2)) (by rw[l]; exact rel.val k);obtain⟨p,hp,hp2⟩:=Option.map_eq_some_iff.mp hw;refine wpAny_getItem_heap (tupleKind_room_in1 hu) (Zmb I.hok eb) dd hp ?_;rw[hp2];exact h w' _ (I.tok _) rw'
theorem Zlg {h':Heap} {t':Nat} {ob:HO} (I:Inv X pins σ H s) (mu:Mut (H a)) (hs:Heap.SameBut a s.heap h') (he:∃q,h'.get? a=some q) (new:ZaT X.prog X.w (upd H a ob) h' a ob) :
  Inv X pins σ (upd H a ob) { s with heap:=h',toks:=t' }:=
 I.write (x:=a) (e:=a) mu (.inl rfl) (fun b q hb z=>(hs.2 b hb).trans z) he new
theorem Zt8 {P:Program} {w:World} {H':Hp} {h':Heap} {kvs:List (Key×V)} {vs:List (Key×Value)} (z:kvs.length≤sizeLine) (hd:(a == sysModules)=false) (rel:KV kvs vs) (dd:h'.DictOf (Zb2 P w) a vs) :
  ZaT P w H' h' a (.dK kvs):=⟨z,hd,vs,rel,dd⟩
theorem Zn9 {H':Hp} {Q:Unit→Shared→Prop} (hu:A.units+1 < cLine) (I:Inv X pins σ H s) (g:DPut H a y v H') (ry:RelV y u) (rv:RelV v r) (h:∀s',Inv X pins σ H' s'→Q () s') :
  wpAny (model X.prog X.w) A (setItem (.ref a) u r) Q E s:=by
 rcases g with⟨kvs,k,e,ey,l,eH⟩ | ⟨kvs,k,b,e,ey,eb,l,eH⟩
 ·subst ey eH
  obtain⟨z,hd,vs,rel,dd⟩:=ZvM I.hok e
  have hz:vs.length≤sizeLine:=by rw[←rel.length]; exact z
  have hl:(putK kvs k v).length≤sizeLine:=by have:=ZhG kvs k v; omega
  refine wpAny_setItem_pairs (hsz:=hz) (Zs6 ry) dd fun h' dd' hs=>h _ ?_;have he:∃q,h'.get? a=some q:=let ⟨q,_,_,hq,_⟩:=dd'; ⟨q,hq⟩;exact Zlg I (by rw[e]; exact True.intro) hs he (Zt8 hl hd (rel.put k rv) dd')
 ·subst ey eH
  cases (show u=Value.ref b from ry)
  obtain⟨z,hd,xs,rel,dd⟩:=Zt9 I.hok e
  have hz:xs.length≤sizeLine:=by rw[←Paired.length rel]; exact z
  have hl:(putK kvs k v).length≤sizeLine:=by have:=ZhG kvs k v; omega
  refine wpAny_setItem_heap (hsz:=hz) (tupleKind_room_in1 hu) (Zmb I.hok eb) dd fun h' dd' hs=>h _ ?_;obtain⟨q,es,ep,hq,h2,h3,h4,_,h5⟩:=dd';refine Zlg I (by rw[e]; exact True.intro) hs ⟨q,hq⟩ ⟨hl,hd,_,(rel.put k eb rv).keeps fun c ys ec=>?_,q,es,ep,hq,h2,h3,h4,h5⟩;rw[Zal (ZaK ec e (fun z=>nomatch z))];exact ec
end
section
variable {X:Cx} {pins:List (Addr×Obj)} {σ:St} {H:Hp} {s:Shared} {a:Addr} {kvs:List (Key×V)} {k:Key} {u:Value} {A:Around} {E:Value→Shared→Prop}
end
def NoSl (i:Expr):Prop:=∀ov iv,subscripted i false ov iv=operate [ov,iv] (getItem ov iv)
theorem ZtH {prog:Program} {w:World} {A:Around} {E:Value→Shared→Prop} {s:Shared} {env:Env} {value slice:Expr} {pos:Pos} {T id:String} {Q:Value→Shared→Prop}
  (hl:typeLookup (.type T) "__getitem__" = pure (some (.builtin id))) (hs:NoSl slice)
  (h:wpAny (model prog w) A (eval value env) (fun o s₁=>wpAny (model prog w) A (eval slice env) (fun i s₂=>s₂.TypeIs o T∧wpAny (model prog w) A (getItem o i) Q E s₂) E s₁) E s) :
  wpAny (model prog w) A (eval (.Subscript value slice pos) env) Q E s:=by
 refine Subscript_ (wpAny_mono h (fun o s₁ h₁=>wpAny_mono h₁ (fun i s₂ h₂=>?_) fun _ _ x=>x) fun _ _ x=>x);obtain⟨hT,h₂⟩:=h₂;unfold subscriptTail;refine wpAny_bind ?_;rw[getitemInPython_of_ne hT.not_modules];refine wpAny_bind (wpAny_specialOf hT hl ?_)
 have fin:wpAny (model prog w) A (subscripted slice false o i) (fun r s₃=>wpAny (model prog w) A (letTemporaryGo value o r >>= fun _=>pure r) Q E s₃) E s₂:=by
  rw[hs o i];exact wpAny_operating (wpAny_mono h₂ (fun r s₃ h₃=>wpAny_bind (wpAny_letTemporaryGo (wpAny_pure h₃))) fun _ _ x=>x)
 first
  | exact wpAny_pure (wpAny_bind fin)
  | exact wpAny_bind (wpAny_pure (wpAny_bind fin))
  | exact wpAny_bind fin
theorem Zlh {X:Cx} {pins:List (Addr×Obj)} {σ:St} {H:Hp} {s:Shared} {a:Addr} {y:V} {o:Option V} (I:Inv X pins σ H s) (g:DGet H a y o):s.TypeIs (.ref a) "dict":=by
 rcases g with⟨kvs,k,e,_,_⟩ | ⟨kvs,k,b,e,_,_,_⟩
 ·obtain⟨_,_,vs,_,dd⟩:=Zqp I.hok e
  exact dd.typeIs
 ·obtain⟨_,_,xs,_,dd⟩:=Zqs I.hok e
  exact dd.typeIs
def Zvy (td ty:TE):TE:=fun σ H Q=>td σ H fun x H1=>ty σ H1 fun y H2=>∃a v,x=.ref a∧DGet H2 a y (some v)∧Q v H2
def Zvg (td ty tv:TE):TS:=fun D σ H=>tv σ H fun v H1=>td σ H1 fun x H2=>ty σ H2 fun y H3=>∃a H4,x=.ref a∧DPut H3 a y v H4∧D.nx σ H4
section
variable {X:Cx} {o i e value:Expr} {pos pos' tpos:Pos} {td ty tv:TE}
theorem Zpc (hu:X.A.units+1 < cLine) (ho:PE X o td) (hi:PE X i ty) (hs:NoSl i):PE X (.Subscript o i pos) (Zvy td ty):=by
 intro pins s σ H Q I h;refine ZtH PySem.F.slot_dict_getitem.lookup hs (thn (ho pins s σ H _ I h) fun u s1 ⟨x,H1,I1,rx,q1⟩=>thn (hi pins s1 σ H1 _ I1 q1) fun iv s2 ⟨y,H2,I2,ry,a,v,ex,g,q2⟩=>?_);subst ex;obtain rfl:u=Value.ref a:=rx;exact⟨Zlh I2 g,Zn8 hu I2 g ry fun w' s3 I3 rw'=>⟨v,H2,I3,rw',q2⟩⟩
theorem ZhX (hu:X.A.units+1 < cLine) (ho:PE X o td) (hi:PE X i ty) (hv:PE X value tv) (hs:swapsWith value (some (.Subscript o i pos')) pos.line X.env=pure false) :
  PS X (.Assign [.Subscript o i pos'] value pos) (Zvg td ty tv):=by
 intro pins s σ H D I h;refine wpAny_Assign_Subscript (thn (hv pins s σ H _ I h) fun r s1 ⟨v,H1,I1,rv,q1⟩=>thn (ho pins s1 σ H1 _ I1 q1) fun u s2 ⟨x,H2,I2,rx,q2⟩=>thn (hi pins s2 σ H2 _ I2 q2) fun iv s3 ⟨y,H3,I3,ry,a,H4,ex,g,q3⟩=>?_) hs;subst ex;obtain rfl:u=Value.ref a:=rx;exact Zn9 hu I3 g ry rv fun s4 I4=>⟨σ,H4,I4,q3⟩
end
theorem Zqr {P:Program} {w:World} {H:Hp} (h:Heap) (hb:sysModules < h.objs.size):ZaT P w H (h.push { cls:=.type "dict",data:=.dict #[] }) h.objs.size (.dT []):=
 ⟨Nat.zero_le _,beq_eq_false_iff_ne.mpr (Ne.symm (Nat.ne_of_lt hb)),[],.nil,_,#[],0,Heap.get?_push_size _ rfl,⟨rfl,rfl,rfl⟩,rfl,rfl,List.nodup_nil⟩
def Zso:TE:=fun _ H Q=>∀p,H p=none→Q (.ref p) (upd H p (.dT []))
section
variable {X:Cx} {pos:Pos}
theorem ZjP:PE X (.Dict [] [] pos) Zso:=fun pins s σ H Q I h=>
 wpAny_Dict_empty ⟨.ref s.heap.objs.size,_,I.laid (a:=s.heap.objs.size) (o:=.dT []) (t':=s.toks) (fun _ _ q=>Heap.get?_push_of_some _ q) (Nat.le_refl _) (Zqr s.heap I.big),rfl,h _ (I.hok.fresh (Nat.le_refl _))⟩
end
structure M1 (X:Cx) (o:Expr) (m:Str) (apos:Pos) (e:Expr) (cpos:Pos):Prop where
 base:attributeBase o m X.env (eval o X.env)=eval o X.env
 few:((backTo cpos (starEach [e] X.env)).all (fun x=>!x.1) && (backToKw cpos (keywordEach [] X.env)).all (fun x=>x.1.isSome)
  && decide (([e]:List Expr).length+([]:List Keyword).length+(if ([]:List Keyword).isEmpty then 0 else 1) < 30))=true
 line:(apos.endLine == cpos.line)=true
 trees:backTo cpos (starEach [e] X.env)=[(false,eval e X.env)]
def IsD (H:Hp) (a:Addr):Prop:=(∃kvs,Rd H a (.dK kvs))∨∃kvs,Rd H a (.dT kvs)
theorem Zuy {X:Cx} {pins:List (Addr×Obj)} {σ:St} {H:Hp} {s:Shared} {a:Addr} (I:Inv X pins σ H s) (d:IsD H a) :
  s.TypeIs (.ref a) "dict"∧(∀b,Value.ref a=.ref b→∃ob,s.heap.get? b=some ob∧ob.dict=none)∧(a == sysModules)=false:=by
 rcases d with⟨kvs,e⟩ | ⟨kvs,e⟩
 ·obtain⟨_,hd,vs,_,dd⟩:=Zqp I.hok e
  refine⟨dd.typeIs,fun b q=>?_,hd⟩
  cases q
  obtain⟨ob,_,_,h1,h2,_⟩:=dd;exact⟨ob,h1,h2.2.1⟩
 ·obtain⟨_,hd,xs,_,dd⟩:=Zqs I.hok e
  refine⟨dd.typeIs,fun b q=>?_,hd⟩
  cases q
  obtain⟨ob,_,_,h1,h2,_⟩:=dd;exact⟨ob,h1,h2.2.1⟩
section
variable {X:Cx} {pins:List (Addr×Obj)} {σ:St} {H:Hp} {s:Shared} {a:Addr} {y d:V} {u r:Value} {o:Option V} {A:Around} {E:Value→Shared→Prop}
end
section
variable {X:Cx} {o e f:Expr} {apos cpos:Pos} {td ty tx:TE}
end
section
variable {X:Cx} {pins:List (Addr×Obj)} {σ:St} {H:Hp} {s:Shared} {a:Addr} {kvs:List (Key×V)} {A:Around} {E:Value→Shared→Prop}
end
section
variable {X:Cx} {pins:List (Addr×Obj)} {σ:St} {H:Hp} {s:Shared} {a:Addr} {y:V} {u:Value} {A:Around} {E:Value→Shared→Prop}
end
end L2
namespace Att
open PySem PySem.W PySem.Calls PyProof.Rows
theorem ZhA {P:Params} {h:Heap}:∀(ns:List Int) (vs:List Value),WellAll P h vs (ns.map WData.int)→IntsAre vs ns:=by
 intro ns
 induction ns with
 | nil=>
  intro vs w;rw[List.map_nil]at w
  cases w
  exact .nil
 | cons n ns ih=>
  intro vs w;rw[List.map_cons]at w
  cases w with
  | cons a b=>
   cases a
   exact .cons _ _ (ih _ b)
theorem Zpz {l:OpenLaw} {n:Nat} (hn:l.most=some n) {P:Params} {h:Heap} {args:List WData} {vals:List Value}
  (hpre:l.row.toRowW.claim.pre args=true) (hwl:WellAll P h vals args) :
  ∃a vs ns,vals=[Value.ref a]∧args=[WData.list (ns.map WData.int)]∧h.get? a=some { cls:=.type "list",data:=.seq vs.toArray }∧IntsAre vs ns∧ns.length≤n:=by
 have hsh:WShape.hasAll [] args [.list .int]=true:=(pre_splitW hpre).1;have hc:l.pre.holds [] { args:=args } = true:=(pre_splitW hpre).2;obtain⟨d,r,rfl,h1,h2⟩:=hasAllW_cons hsh;obtain rfl:=hasAllW_nil h2;obtain⟨xs,rfl,h3⟩:=hasW_list h1;obtain⟨ns,rfl⟩:=items_int h3
 have hlen:ns.length≤n:=by
  unfold OpenLaw.pre at hc
  have h4:(WTm.not (.lt (.lit (.int (n:Int))) (.len (.arg 0)))).holds [] { args:=[.list (ns.map .int)] } = true:=by
   have h4:=(holds_andW hc).1;rw[hn]at h4;exact h4
  have h5:=condW_of h4 (w_not (w_lt w_lit (w_len_list (w_arg rfl))));rw[List.length_map]at h5;refine Nat.le_of_not_lt fun q=>?_
  have q':(n:Int) < ((ns.length:Nat):Int):=by omega
  first
   | (rw[decide_eq_true q']at h5; exact absurd h5 (by decide))
   | (simp at h5; omega)
 cases hwl with
 | cons w1 w2=>
  cases w2
  cases w1 with
  | list ho hall=>exact⟨_,_,ns,rfl,rfl,ho,ZhA ns _ hall,hlen⟩
theorem Zpg (l:OpenLaw) (args:List WData):l.row.toRowW.claim.post args (.bool true) args=true:=
 postW_of (r:=l.row.toRowW) (X:=(true == true))
  (show WShape.has [] (.bool true) .bool=true by first | rfl | decide | simp[WShape.has,WShape.arms,WShape.armsAll])
  (show(WTm.eq .res (.lit (.bool true))).value [] { args:=args,res:=some (.bool true),after:=args } = some (.bool (true == true)) from w_eq_bool (w_res rfl) w_lit) rfl
theorem attach_call {l:OpenLaw} {n:Nat} {q:Program} {loose:List Str} {XP:(Str→Option Value)→Heap→Prop} {YP:World→Heap→Prop} {d:DefRec}
  (hn:l.most=some n) (hdf:d.params.defaults=[])
  (call:∀(w:World) (s₀ s₁:Shared) (mg mb:Str→Option Value) (fa:Addr) (o:Obj) (pm cd doc:Value) (a:Addr) (vs:List Value) (ns:List Int),
   Ground q loose [] XP w s₀ mg mb s₁.heap→YP w s₁.heap→
   s₁.heap.get? fa=some o→o.data=.func (docDef d.name d.params d.body d.scope pm cd doc)→s₁.heap.CodeRec cd d.name→mg d.name=some (.ref fa)→
   s₁.heap.get? a=some { cls:=.type "list",data:=.seq vs.toArray }→IntsAre vs ns→ns.length≤n→s₁.gens = #[]→
   codeAny (model l.prog w) callerA (.call (.ref fa) ⟨[.ref a],[]⟩) (fun r s'=>r=.ok (.ret (.bool true))∧OldK s₁.heap s'.heap∧s'.os=s₁.os∧AllBare s'.gens) s₁) :
  WalkO q loose XP YP l.row.toRowW d [] (fun f vs=>PySem.call f vs):=by
 intro w s₀ s₁ mg mb G Y fa o pm cd doc dV kV ho hd hcd hD hmg hg args vals as hpre hlay hrd hwl hlo;obtain rfl:dV=.none:=Dflts.none hD hdf;obtain rfl:kV=.none:=Dflts.noKw hD;obtain⟨a,vs,ns,rfl,rfl,hobj,hints,hlen⟩:=Zpz hn hpre hwl;refine enter_call (codeAny_mono (call w s₀ s₁ mg mb fa o pm cd doc a vs ns G Y ho (fd_plain hd) hcd hmg hobj hints hlen hg) fun r s' hq=>?_);obtain⟨rfl,h2,h3,h4⟩:=hq;exact⟨.inl ⟨.bool true,.bool true,[],rfl,fun _=>rfl,.bool true,Zpg l _,fun _=>⟨List.Pairwise.nil,fun _ hm=>(nomatch hm)⟩⟩,h2,h3,h4⟩
section
variable {prog:Program} {w:World} {A:Around} {E:Value→Shared→Prop} {s:Shared} {K:Frag}
end
end Att
namespace L2
open PySem PySem.Spec PyProof.Rows
theorem Zk3:∀{vs:List Value} {ns:List Int},IntsAre vs ns→Vals (ns.map V.int) vs
 | _,_,.nil=>.nil
 | _,_,.cons n t h=>.cons ⟨t,rfl⟩ (Zk3 h)
def Only (H:Hp):Prop:=∀b,H b=none∨∃o xs,H b=some (.frz o (.lst xs))
theorem ZqL {P:Program} {w:World} {K:PySem.W.Frag} {mg mb:Str→Option Value} {CX:CXT} {k:Nat} {fa a:Addr} {fd:FuncData} {x:Str} {sp:Sp} {s₁:Shared} {vs:List Value} {ns:List Int}
  (KX:K.In s₁.heap) (hns:s₁.heap.Ns mainGlobals mg) (hb:s₁.heap.Ns builtinsNs mb) (hbb:∀x:Str,x≠"__name__"→mb x=bootBuiltins x) (hlim:s₁.heap.NoLimit) (hg:s₁.gens = #[])
  (ha:s₁.heap.get? a=some { cls:=.type "list",data:=.seq vs.toArray }) (hi:IntsAre vs ns) (hl:ns.length≤sizeLine) (hr:Room k callerA)
  (F:∀base:Heap,K.In base→base.Ns mainGlobals mg→FnOk P w K mg base CX k fa fd [x] sp) (hbind:∀(s:Shared) (u:Value),BindsTo s fd ⟨[u],[]⟩ [(x,u)])
  (hsp:∀H:Hp,Only H→SqL K H a (ns.map V.int)→sp [.ref a] H (fun v _=>v=.bl true) fun _ _ _=>False)
  (hCX:∀H e s',CX [] H s₁ (fun _ _ _=>False) e s'→False) :
  codeAny (model P w) callerA (.call (.ref fa) ⟨[.ref a],[]⟩) (fun r s'=>r=.ok (.ret (.bool true))∧OldK s₁.heap s'.heap∧s'.os=s₁.os∧AllBare s'.gens) s₁:=by
 have rv:=Zk3 hi;have lenV:=hi.length
 have core:∀H:Hp,Only H→SqL K H a (ns.map V.int)→HOk P w H s₁.heap→(∀b,H b≠none→b=a)→(H a≠none→K.lookup a=none)→
   codeAny (model P w) callerA (.call (.ref fa) ⟨[.ref a],[]⟩) (fun r s'=>r=.ok (.ret (.bool true))∧OldK s₁.heap s'.heap∧s'.os=s₁.os∧AllBare s'.gens) s₁:=by
  intro H hO hS hok hA hK;have base_of:∀{b:Addr} {o:Obj},s₁.heap.get? b=some o→H b=none→(hidT s₁.heap H).get? b=some o:=fun e n=>Zqz e n
  have noA:∀{b:Addr} {o:Obj} {es:Array DictEntry} {ep:Nat},s₁.heap.get? b=some o→o.data=.dict es ep→H b=none:=fun {b o es ep} e d=>by
   cases q:H b with
   | none=>rfl
   | some u=>
    have e':b=a:=hA b (by rw[q]; simp);subst e';rw[ha]at e; cases e;have d':Data.seq vs.toArray _=Data.dict es ep:=d
    cases d'
  have nsK:∀{b:Addr} {m:Str→Option Value},s₁.heap.Ns b m→(hidT s₁.heap H).Ns b m:=fun {b m} ⟨o,es,ep,e,d,r⟩=>⟨o,es,ep,base_of e (noA e d),d,r⟩
  have hKb:K.In (hidT s₁.heap H):=fun b o e=>base_of (KX b o e) (by
   cases q:H b with
   | none=>rfl
   | some u=>
    have e':b=a:=hA b (by rw[q]; simp);subst e'
    rw[hK (by rw[q]; simp)]at e; cases e)
  have hM:Mod K mg (hidT s₁.heap H):=⟨hKb,nsK hns,⟨mb,nsK hb,hbb⟩,let ⟨mc,h1,h2⟩:=hlim; ⟨mc,nsK h1,h2⟩⟩;have e0:Env0 P w K mg (hidT s₁.heap H) callerA [] s₁ H:=⟨rfl,hM,fun b o e=>Zti e,Nat.le_of_eq (Zol _ _),trivial,fun b hb=>absurd (show b∈([]:List Addr) from hb) (by simp),hok,.of_eq hg⟩;refine codeAny_mono ((F _ hKb (nsK hns)).run callerA [] s₁ H ⟨[.ref a],[]⟩ [.ref a] [.ref a] _ _ hr e0 (hbind s₁ (.ref a)) (.cons rfl .nil) (hsp H hO hS)) fun r s' h=>?_
  cases r with
  | error e=>exact(hCX H e s' h).elim
  | ok fl=>
   cases fl with
   | next=>exact False.elim h
   | brk=>exact False.elim h
   | cont=>exact False.elim h
   | ret u=>
    obtain⟨v,H',os,bare,un,hok',r',q⟩:=h;have q':v=.bl true:=q;subst q';obtain rfl:u=Value.bool true:=r';refine⟨rfl,OldK.of_keep fun b o e=>?_,os,bare⟩
    cases q:H b with
    | none=>exact un.keep b o e q (by intro z; exact absurd (show b∈([]:List Addr) from z) (by simp)) (by simp)
    | some u=>
     rcases hO b with z | ⟨ob,xs,z⟩
     ·rw[q]at z; cases z
     ·have z2:=un.frzs b ob _ z
      obtain⟨e1,_⟩:=hok b _ z;obtain⟨e2,_⟩:=hok' b _ z2;rw[e]at e1; cases e1;exact e2
 cases hk:K.lookup a with
 | some o=>
  have e:=KX a o hk;rw[ha]at e
  cases e
  refine core (fun _=>none) (fun _=>.inl rfl) (.inr ⟨_,vs.toArray,_,hk,rfl,rfl,rfl,by rw[List.size_toArray,lenV]; exact hl,by simpa using rv⟩) (fun b u z=>by have z':(none:Option HO)=some u:=z; cases z') (fun b z=>absurd rfl z) fun z=>absurd rfl z
 | none=>
  refine core (fun b=>if b=a then some (.frz { cls:=.type "list",data:=.seq vs.toArray } (.lst (ns.map V.int))) else none) (fun b=>?_) (.inl (.inr ⟨{ cls:=.type "list",data:=.seq vs.toArray },if_pos rfl⟩)) (fun b u z=>?_) (fun b z=>?_) fun _=>hk
  ·by_cases hb:b=a
   ·exact .inr ⟨_,_,if_pos hb⟩
   ·exact .inl (if_neg hb)
  ·by_cases hb:b=a
   ·have z':=(if_pos hb).symm.trans z
    cases z'
    subst hb;exact⟨ha,by rw[List.length_map]; exact hl,vs,_,rv,ha⟩
   ·have z':=(if_neg hb).symm.trans z
    cases z'
  ·by_cases hb:b=a
   ·exact hb
   ·exact absurd (if_neg hb) z
end L2
namespace L2
open PySem PySem.Spec PyProof.Rows
abbrev KOf {K:PySem.W.Frag} {h:Heap} (_:K.In h):PySem.W.Frag:=K
theorem ZtP {l:PySem.W.OpenLaw} {n k:Nat} {q:Program} {loose:List Str} {XP:(Str→Option Value)→Heap→Prop} {YP:World→Heap→Prop} {d:DefRec} {K:Params→PySem.W.Frag} {CX:World→CXT} {sp:World→Sp} {x:Str}
  (hn:l.most=some n) (hn2:n≤sizeLine) (hdf:d.params.defaults=[]) (hr:Room k callerA)
  (hY:∀(w:World) (h:Heap),YP w h→(K w.params).In h)
  (F:∀(w:World) (mg:Str→Option Value) (fa:Addr) (h:Heap),(K w.params).In h→h.Ns mainGlobals mg→mg d.name=some (.ref fa)→
   ∃fd:FuncData,(∀(s:Shared) (u:Value),BindsTo s fd ⟨[u],[]⟩ [(x,u)])∧
    ∀base:Heap,(K w.params).In base→base.Ns mainGlobals mg→FnOk l.prog w (K w.params) mg base (CX w) k fa fd [x] (sp w))
  (hsp:∀(w:World) (H:Hp) (a:Addr) (ns:List Int),ns.length≤n→Only H→SqL (K w.params) H a (ns.map V.int)→sp w [.ref a] H (fun v _=>v=.bl true) fun _ _ _=>False)
  (hCX:∀(w:World) (H:Hp) (s:Shared) (e:Value) (s':Shared),CX w [] H s (fun _ _ _=>False) e s'→False) :
  PySem.W.WalkO q loose XP YP l.row.toRowW d [] (fun f vs=>PySem.call f vs):=by
 refine Att.attach_call hn hdf fun w s₀ s₁ mg mb fa o pm cd doc a vs ns G Y ho hd hcd hmg hobj hints hlen hg=>?_;have KX:=hY w _ Y;obtain⟨fd,hb,hF⟩:=F w mg fa _ KX G.T.g hmg;exact ZqL KX G.T.g G.T.b G.T.builtins G.T.nolimit hg hobj hints (Nat.le_trans hlen hn2) hr hF hb (fun H hO hS=>hsp w H a ns hlen hO hS) fun H e s'=>hCX w H s₁ e s'
theorem walk_ofK {l:PySem.W.OpenLaw} {n k:Nat} {q:Program} {loose:List Str} {XP:(Str→Option Value)→Heap→Prop} {YP:World→Heap→Prop} {d:DefRec} {K:Params→PySem.W.Frag} {CX:CXT} {sp:PySem.W.Frag→Sp} {x:Str}
  (hn:l.most=some n) (hn2:n≤sizeLine) (hdf:d.params.defaults=[]) (hr:Room k callerA)
  (hY:∀(w:World) (h:Heap),YP w h→(K w.params).In h)
  (F:∀(w:World) (mg:Str→Option Value) (fa:Addr) (h:Heap),(K w.params).In h→h.Ns mainGlobals mg→mg d.name=some (.ref fa)→
   ∃fd:FuncData,(∀(s:Shared) (u:Value),BindsTo s fd ⟨[u],[]⟩ [(x,u)])∧
    ∀base:Heap,(K w.params).In base→base.Ns mainGlobals mg→FnOk l.prog w (K w.params) mg base CX k fa fd [x] (sp (K w.params)))
  (hsp:∀(K:PySem.W.Frag) (H:Hp) (a:Addr) (ns:List Int),ns.length≤n→Only H→SqL K H a (ns.map V.int)→sp K [.ref a] H (fun v _=>v=.bl true) fun _ _ _=>False)
  (hCX:∀(H:Hp) (s:Shared) (e:Value) (s':Shared),CX [] H s (fun _ _ _=>False) e s'→False) :
  PySem.W.WalkO q loose XP YP l.row.toRowW d [] (fun f vs=>PySem.call f vs):=
 ZtP (K:=K) (CX:=fun _=>CX) (sp:=fun w=>sp (K w.params)) hn hn2 hdf hr hY F (fun w H a ns h1 h2 h3=>hsp (K w.params) H a ns h1 h2 h3) fun _ H s e s'=>hCX H s e s'
end L2
namespace L2
open PySem PySem.Spec PyProof.Rows
def ZcD (s:Stmt) (j:Nat):Stmt:=match s with
 | .ClassDef _ _ _ body _ _ _ _ _ _ _=>body.getD j (.Pass ⟨0,0,0,0⟩)
 | _=>.Pass ⟨0,0,0,0⟩
def ZfC (s:Stmt):Arguments:=match s with
 | .FunctionDef _ a _ _ _ _ _ _ _ _=>a
 | _=>{ posonlyargs:=[],args:=[],vararg:=none,kwonlyargs:=[],kw_defaults:=[],kwarg:=none,defaults:=[] }
def Zek (s:Stmt):List Stmt:=match s with
 | .FunctionDef _ _ b _ _ _ _ _ _ _=>b
 | _=>[]
def Zah (s:Stmt):Scope:=match s with
 | .FunctionDef _ _ _ _ _ _ sc _ _ _=>sc
 | _=>{ kind:=.function,names:=[],isGenerator:=false,isCoroutine:=false }
abbrev CX0:CXT:=fun _ _ _ _ _ _=>False
abbrev E0:XK:=fun _ _ _=>False
theorem Zq0 {X:Cx}:ZiI CX0 X E0:=fun _ _ _ _ _ _ _ h=>h.elim
structure Fun (K:PySem.W.Frag) (x qual:Str) (st:Stmt) (f:Addr) (fd:FuncData):Prop where
 ex:∃(oc:Value) (od:Option Addr) (kV doc pm:Value) (an:Option Addr) (cdv ct:Value) (osl:Array (Option Value)),
  fd=PySem.W.fnOf x qual (ZfC st) (Zek st) (Zah st) .none kV doc pm an cdv ct∧K.lookup f=some ⟨oc,od,.func fd,osl⟩ ∧PySem.W.codeIn K cdv qual=true
 kp:PySem.W.keepIn K (.ref f)=true
section
variable {P:Program} {w:World} {K:PySem.W.Frag} {mg:Str→Option Value} {base:Heap}
theorem Fun.ok {x qual:Str} {st:Stmt} {f:Addr} {fd:FuncData} {N ps:List Str} {k:Nat} {sp:Sp} (F:Fun K x qual st f fd) (S:FnScope N ps (Zah st)) (len:∀vs H Q E,sp vs H Q E→vs.length=ps.length)
  (hbody:∀(cdv:Value) (A:Around) (outer:List Env) (s:Shared) (H:Hp) (vs:List V) (Q:VK) (E:XK),Room k (A.deeper (envOfC qual (Zah st) s.heap.objs.size f cdv))→sp vs H Q E→
   ∃t,PSs (cxOf CX0 P w K mg base N qual (Zah st) f cdv A outer s H E).nox (Zek st) t∧t { nx:=fun _ H'=>Q .non H',rt:=Q } (start N vs) H):FnOk P w K mg base CX0 (k+1) f fd ps sp:=by
 obtain⟨oc,od,kV,doc,pm,an,cdv,ct,osl,rfl,lk,hcd⟩:=F.ex;refine Zud lk hcd S len fun A outer s H vs Q E hr hsp=>?_;obtain⟨t,h,q⟩:=hbody cdv A outer s H vs Q E hr hsp;exact⟨t,h.nox,q⟩
theorem Fun.binds {x qual:Str} {st:Stmt} {f:Addr} {fd:FuncData} {ps:List Str} (F:Fun K x qual st f fd)
  (h:∀(kV doc pm:Value) (an:Option Addr) (cdv ct:Value) (us:List Value),us.length=ps.length→bindArgs (PySem.W.fnOf x qual (ZfC st) (Zek st) (Zah st) .none kV doc pm an cdv ct) ⟨us,[]⟩=pure (ps.zip us)):ZaS K fd ps []:=by
 obtain⟨oc,od,kV,doc,pm,an,cdv,ct,osl,rfl,lk,hcd⟩:=F.ex;exact .all (h kV doc pm an cdv ct)
theorem ZrB {x qual:Str} {st:Stmt} {f:Addr} {oc:Value} {od an:Option Addr} {osl:Array (Option Value)} {kV doc pm cdv ct:Value} (l:K.lookup f=some ⟨oc,od,.func (PySem.W.fnOf x qual (ZfC st) (Zek st) (Zah st) .none kV doc pm an cdv ct),osl⟩)
  (c:PySem.W.codeIn K cdv qual=true) (k:PySem.W.keepIn K (.ref f)=true):Fun K x qual st f (PySem.W.fnOf x qual (ZfC st) (Zek st) (Zah st) .none kV doc pm an cdv ct):=⟨⟨oc,od,kV,doc,pm,an,cdv,ct,osl,rfl,l,c⟩,k⟩
end
section
variable {X:Cx}
theorem pv (i:Nat) {x:Str} {pos:Pos} (hN:X.N[i]?=some x:=by rfl) (hv:Vis X.env.scope x:=by first | exact Or.inl rfl | exact Or.inr (Or.inl rfl) | exact Or.inr (Or.inr rfl)) (hd:(x == ("__debug__" : Str))=false:=by decide)
  (hcd:(x == ("__classdict__" : Str))=false:=by decide):PE X (.Name x pos) (tVar i):=Zu6 hN hv hd hcd
end
abbrev Same (H H':Hp):Prop:=∀b o,H b=some o→H' b=some o
theorem Same.refl (H:Hp):Same H H:=fun _ _ h=>h
theorem Same.trans {H H1 H2:Hp} (a:Same H H1) (b:Same H1 H2):Same H H2:=fun c o h=>b c o (a c o h)
theorem Same.free {H H':Hp} (e:Same H H') {l:Addr} (h:H' l=Option.none):H l=Option.none:=by
 cases q:H l with
 | none=>rfl
 | some o=>
  rw[e l o q]at h
  cases h
theorem Same.seq {K:PySem.W.Frag} {H H':Hp} {a:Addr} {xs:List V} (e:Same H H') (h:SqL K H a xs):SqL K H' a xs:=by
 rcases h with(h | ⟨o,h⟩) | h
 ·exact .inl (.inl (e _ _ h))
 ·exact .inl (.inr ⟨o,e _ _ h⟩)
 ·exact .inr h
section
variable {X:Cx}
end
section
variable {κ:Type} [DecidableEq κ]
theorem Zoe {p:κ×V} {r:List (κ×V)} {k:κ} (e : ¬p.1=k):ZfD (p::r) k=p::ZfD r k:=by
 unfold ZfD;rw[List.filter_cons,if_pos (by simp[e])]
theorem Zl0:∀{kvs:List (κ×V)} {k:κ},¬k∈kvs.map (·.1)→ZfD kvs k=kvs
 | [],_,_=>rfl
 | p::r,k,h=>by
  have h' : ¬k∈r.map (·.1):=fun m=>by
   obtain⟨q,hq,e⟩:=List.mem_map.mp m;exact h (List.mem_map.mpr ⟨q,List.mem_cons.mpr (Or.inr hq),e⟩)
  rw[Zoe fun e=>h (List.mem_map.mpr ⟨p,List.mem_cons.mpr (Or.inl rfl),e⟩),Zl0 h']
end
end L2
namespace EM
def bits (f:Nat→Bool):Nat→Nat
 | 0=>0
 | n+1=>bits f n+(if f n then 2 ^ n else 0)
theorem Zjd (f:Nat→Bool):∀n,bits f n < 2 ^ n
 | 0=>by simp[bits]
 | n+1=>by
  have h:=Zjd f n;simp only [bits]
  have e:(2:Nat) ^ (n+1)=2 ^ n+2 ^ n:=by rw[Nat.pow_succ]; omega
  split <;> omega
theorem ZaU (f:Nat→Bool) (i:Nat):∀n,(bits f n).testBit i=(decide (i < n) && f i)
 | 0=>by simp[bits]
 | n+1=>by
  have ih:=ZaU f i n;have hl:=Zjd f n;simp only [bits]
  by_cases hf:f n=true
  ·rw[if_pos hf,Nat.add_comm]
   rcases Nat.lt_trichotomy i n with h | h | h
   ·rw[Nat.testBit_two_pow_add_gt h,ih]
    simp[h,Nat.lt_succ_of_lt h]
   ·subst h
    rw[Nat.testBit_two_pow_add_eq,ih];simp[hf]
   ·have:(2:Nat) ^ n+bits f n < 2 ^ i:=by
     have e:(2:Nat) ^ (n+1)=2 ^ n+2 ^ n:=by rw[Nat.pow_succ]; omega
     have:(2:Nat) ^ (n+1)≤2 ^ i:=Nat.pow_le_pow_right (by decide) h;omega
    rw[Nat.testBit_lt_two_pow this]
    have : ¬i < n+1:=by omega
    simp[this]
  ·rw[if_neg hf,Nat.add_zero,ih]
   by_cases h:i=n
   ·subst h
    have:f i=false:=by simpa using hf
    simp[this]
   ·have:(i < n+1) ↔ (i < n):=by omega
    simp[this]
theorem ZeZ {f g:Nat→Bool} {n:Nat} (h:∀i,i < n→f i=g i):bits f n=bits g n:=by
 apply Nat.eq_of_testBit_eq;intro i;rw[ZaU,ZaU]
 by_cases hi:i < n
 ·simp[hi,h i hi]
 ·simp[hi]
theorem Zgq (n:Nat):bits (fun _=>false) n=0:=by
 apply Nat.eq_of_testBit_eq;intro i;rw[ZaU];simp
theorem Zld (f:Nat→Bool) (n:Nat) (h:f n=true):bits f n ||| 2 ^ n=bits f (n+1):=by
 have e:=Nat.two_pow_add_eq_or_of_lt (Zjd f n) 1;rw[Nat.mul_one]at e;rw[Nat.or_comm,←e];simp only [bits,h,if_true];omega
theorem ZnY (f:Nat→Bool) (n:Nat) (h:f n=false):bits f (n+1)=bits f n:=by
 simp[bits,h]
theorem Zta (s k:Nat):s.testBit k=decide (s / 2 ^ k % 2=1):=Nat.testBit_eq_decide_div_mod_eq
theorem Zmn:∀(n x y:Nat),x < n→(x ||| y)=(x &&& y)+(x ^^^ y)
 | 0,x,y,h=>absurd h (by omega)
 | n+1,x,y,h=>by
  by_cases hx:x=0
  ·subst hx; simp
  ·have ih:=Zmn n (x / 2) (y / 2) (by omega)
   have e1:=Nat.div_add_mod (x ||| y) 2;have e2:=Nat.div_add_mod (x &&& y) 2;have e3:=Nat.div_add_mod (x ^^^ y) 2;rw[Nat.or_div_two]at e1;rw[Nat.and_div_two]at e2;rw[Nat.xor_div_two]at e3;have m1:(x ||| y) % 2=(x % 2 ||| y % 2):=Nat.or_mod_two_pow (n:=1);have m2:(x &&& y) % 2=(x % 2 &&& y % 2):=Nat.and_mod_two_pow (n:=1);have m3:(x ^^^ y) % 2=(x % 2 ^^^ y % 2):=Nat.xor_mod_two_pow (n:=1)
   have m4:(x % 2 ||| y % 2)=(x % 2 &&& y % 2)+(x % 2 ^^^ y % 2):=by
    rcases Nat.mod_two_eq_zero_or_one x with a | a <;> rcases Nat.mod_two_eq_zero_or_one y with b | b <;> rw[a,b] <;> rfl
   omega
end EM
namespace EM
end EM
namespace L2
open PySem PySem.Spec PyProof.Rows
section
variable {σ:St} {H:Hp} {Q:VK} {D:Ends} {K:PySem.W.Frag} {BQ:Bool→Hp→Prop}
theorem ZqC {i:Nat} {v:V} (h:σ[i]?=some (some v)) (k:Q v H):tVar i σ H Q:=⟨v,h,k⟩
theorem i_c {v:V} (k:Q v H):tC v σ H Q:=k
theorem i_op {r:R2} {ta tb:TE} (h:ta σ H fun x H1=>tb σ H1 fun y H2=>r x y H2 Q):tOp r ta tb σ H Q:=h
theorem i_un {r:V→Hp→VK→Prop} {ta:TE} (h:ta σ H fun x H1=>r x H1 Q):tUn r ta σ H Q:=h
theorem Zut {g:Int→Int→V} {i j:Int} (h:Q (g i j) H):rI0 g (.int i) (.int j) H Q:=⟨i,j,rfl,rfl,h⟩
theorem i_rI {C:Int→Int→Prop} {g:Int→Int→V} {i j:Int} (c:C i j) (h:Q (g i j) H):rI C g (.int i) (.int j) H Q:=⟨i,j,rfl,rfl,c,h⟩
theorem i_rU {g:Int→V} {i:Int} (h:Q (g i) H):rU g (.int i) H Q:=⟨i,rfl,h⟩
theorem ZsX {i j:Int} (h:Q (.bl (decide (i=j))) H):rEq (.int i) (.int j) H Q:=by
 refine⟨rfl,?_⟩
 have e:decide (V.int i=V.int j)=decide (i=j):=by simp
 rw[e]; exact h
theorem ZsY {i j:Str} (h:Q (.bl (decide (i=j))) H):rEq (.str i) (.str j) H Q:=by
 refine⟨rfl,?_⟩
 have e:decide (V.str i=V.str j)=decide (i=j):=by simp
 rw[e]; exact h
theorem Zs0 {i j:Int} (h:Q (.bl (!decide (i=j))) H):rNe (.int i) (.int j) H Q:=by
 refine⟨rfl,?_⟩
 have e:decide (V.int i=V.int j)=decide (i=j):=by simp
 rw[e]; exact h
theorem Zs1 {i j:Str} (h:Q (.bl (!decide (i=j))) H):rNe (.str i) (.str j) H Q:=by
 refine⟨rfl,?_⟩
 have e:decide (V.str i=V.str j)=decide (i=j):=by simp
 rw[e]; exact h
theorem ZrZ {t:TE} (h:t σ H fun x H'=>∃k,x=.bl k∧BQ k H'):ZpV t σ H BQ:=h
theorem Zuk {b:Bool} {R:Bool→Prop} (h:R b):∃k,V.bl b=V.bl k∧R k:=⟨b,rfl,h⟩
theorem Zug {t u:TT} (h:t σ H fun c H1=>if c=true then u σ H1 BQ else BQ false H1):tAnd t u σ H BQ:=h
theorem i_or {t u:TT} (h:t σ H fun c H1=>if c=true then BQ true H1 else u σ H1 BQ):tOr t u σ H BQ:=h
theorem Zus {t:TT} (h:t σ H fun c H1=>BQ (!c) H1):tNot t σ H BQ:=h
theorem ZrE {t u:TE} (h:t σ H fun x H1=>∃c,x=.bl c∧if c=true then u σ H1 Q else Q (.bl false) H1):Zvx t u σ H Q:=h
theorem Zoy {t u:TS} (h:t { D with nx:=u D } σ H):tSeq t u D σ H:=h
theorem ZrT (h:D.nx σ H):ZvB D σ H:=h
theorem ZrG {te:TE} (h:te σ H fun _ H1=>D.nx σ H1):Zvz te D σ H:=h
theorem Zuu {te:TE} (h:te σ H D.rt):tRet te D σ H:=h
theorem ZrX (h:D.rt .non H):ZvF D σ H:=h
theorem Zun {c:TT} {t u:TS} (h:c σ H fun b H1=>if b=true then t D σ H1 else u D σ H1):tIfS c t u D σ H:=h
theorem Zuh {te:TE} {g:TG} (h:te σ H fun x H1=>g x σ H1 D.nx):tAsg te g D σ H:=h
theorem ZrQ {i:Nat} {v:V} {R:St→Hp→Prop} (h:R (σ.set i (some v)) H):Zhw i v σ H R:=h
theorem Zur {R:List V→Hp→Prop} (h:R [] H):tNil σ H R:=h
theorem ZrF {ta:TE} {tr:TA} {R:List V→Hp→Prop} (h:ta σ H fun x H1=>tr σ H1 fun xs H2=>R (x::xs) H2):ZlM ta tr σ H R:=h
theorem i_cb {r:List V→Hp→VK→Prop} {t:TA} (h:t σ H fun vs H1=>r vs H1 Q):tCB r t σ H Q:=h
abbrev NewL (xs:List V) (H:Hp) (Q:VK):Prop:=xs.length≤sizeLine∧∀p,H p=none→Q (.ref p) (upd H p (.lst xs))
abbrev NewT (xs:List V) (H:Hp) (Q:VK):Prop:=xs.length≤sizeLine∧∀p,H p=none→Q (.ref p) (upd H p (.tup xs))
theorem Zuv {t:TA} (h:t σ H fun xs H1=>NewT xs H1 Q):tTup t σ H Q:=h
theorem Zuo {t:TA} (h:t σ H fun xs H1=>NewL xs H1 Q):tLst t σ H Q:=h
theorem i_bm {T:String} {r:V→List V→Hp→VK→Prop} {to:TE} {t:TA} (h:to σ H fun x H1=>tyV K T x H1∧t σ H1 fun xs H2=>r x xs H2 Q):tBM K T r to t σ H Q:=h
theorem Zui {T:String} {r:V→List V→Hp→VK→Prop} {to:TE} (h:to σ H fun x H1=>tyV K T x H1∧r x [] H1 Q):tBM0 K T r to σ H Q:=h
theorem Zum {ta:TE} {f:Str} (h:ta σ H fun x H1=>∃a C dx fs v,x=.ref a∧H1 a=some (.ins C dx fs)∧Cls K C∧ZcQ K C f∧fs.lookup f=some v∧Q v H1):tFld K ta f σ H Q:=h
theorem ZrY {ta tv:TE} {f:Str} (h:tv σ H fun y H1=>ta σ H1 fun x H2=>∃a C dx fs,x=.ref a∧H2 a=some (.ins C dx fs)∧Cls K C∧ZcQ K C f∧fs.length < 1000∧D.nx σ (upd H2 a (.ins C dx (putF f y fs)))):sFld K ta tv f D σ H:=h
theorem i_sl {r:V→Option Int→Option Int→Hp→VK→Prop} {te:TE} {tl th:TO} (h:te σ H fun x H1=>tl σ H1 fun l H2=>th σ H2 fun u H3=>r x l u H3 Q):tSl r te tl th σ H Q:=h
theorem ZrW {t:TE} {R:Option Int→Hp→Prop} (h:t σ H fun x H1=>∃i,x=.int i∧R (some i) H1):ZvE t σ H R:=h
theorem Zul {b:Int} {R:Int→Prop} (h:R b):∃k,V.int b=V.int k∧R k:=⟨b,rfl,h⟩
theorem Zr0 {b:Bool} {R:Bool→Prop} (h:R b):∃k,TruV K (.bl b) H k∧R k:=⟨b,rfl,h⟩
theorem ZdA {c A B:Prop} [Decidable c] (h1:c→A) (h2 : ¬c→B):if decide c=true then A else B:=by
 by_cases h:c
 ·rw[if_pos (decide_eq_true h)]; exact h1 h
 ·rw[if_neg (by simp[h])]; exact h2 h
theorem Zov {c A B:Prop} [Decidable c] (h1 : ¬c→A) (h2:c→B):if (!decide c)=true then A else B:=by
 by_cases h:c
 ·rw[if_neg (by simp[h])]; exact h2 h
 ·rw[if_pos (by simp[h])]; exact h1 h
theorem Zm7 {b:Bool} {A B:Prop} (h1:b=true→A) (h2:b=false→B):if b=true then A else B:=by
 cases b
 ·rw[if_neg Bool.false_ne_true]; exact h2 rfl
 ·rw[if_pos rfl]; exact h1 rfl
theorem Zca {b:Bool} {A B:Prop} (h:b=true) (k:A):if b=true then A else B:=by rw[if_pos h]; exact k
theorem ZaF {b:Bool} {A B:Prop} (h:b=false) (k:B):if b=true then A else B:=by rw[if_neg (by rw[h]; exact Bool.false_ne_true)]; exact k
end
def Zqc (lo:Int) (n:Nat) (g:TG) (tb:TS) (D:Ends) (σ:St) (H:Hp):Prop:=
 ∃W:Nat→Nat→St→Hp→Prop,(∃m,W 0 m σ H)∧∀i m σ H,W i m σ H→
   ((Itr lo n).stop i H∧D.nx σ H)∨((Itr lo n).go i H∧∃N:St→Hp→Prop,(∀σ' H',N σ' H'→∃m',m' < m∧W (i+1) m' σ' H')∧∀x H',(Itr lo n).yld i H x H'→g x σ H' fun σ2 H2=>tb { D with nx:=N,ct:=N,bk:=D.nx } σ2 H2)
def ZtU (K:PySem.W.Frag) (a:Addr) (g:TG) (tb:TS) (D:Ends) (σ:St) (H:Hp):Prop:=
 ∃W:Nat→Nat→St→Hp→Prop,(∃m,W 0 m σ H)∧∀i m σ H,W i m σ H→
   ((Itl K a).stop i H∧D.nx σ H)∨((Itl K a).go i H∧∃N:St→Hp→Prop,(∀σ' H',N σ' H'→∃m',m' < m∧W (i+1) m' σ' H')∧∀x H',(Itl K a).yld i H x H'→g x σ H' fun σ2 H2=>tb { D with nx:=N,ct:=N,bk:=D.nx } σ2 H2)
def ZvK (K:PySem.W.Frag) (a:Addr) (g:TG) (tb:TS) (D:Ends) (σ:St) (H:Hp):Prop:=
 ∃W:Nat→Nat→St→Hp→Prop,(∃m,W 0 m σ H)∧∀i m σ H,W i m σ H→
   ((Itt K a).stop i H∧D.nx σ H)∨((Itt K a).go i H∧∃N:St→Hp→Prop,(∀σ' H',N σ' H'→∃m',m' < m∧W (i+1) m' σ' H')∧∀x H',(Itt K a).yld i H x H'→g x σ H' fun σ2 H2=>tb { D with nx:=N,ct:=N,bk:=D.nx } σ2 H2)
section
variable {σ:St} {H:Hp} {D:Ends} {K:PySem.W.Frag} {g:TG} {tb:TS}
theorem Zor {ta:TA} (h:ta σ H fun vs H1=>∃j:Int,vs=[.int j]∧-(2 ^ 62)≤j∧j < 2 ^ 62∧Zqc 0 j.toNat g tb D σ H1):tFor (ZsT ta) g tb D σ H:=h
theorem Zos {ta:TA} (h:ta σ H fun vs H1=>∃i j:Int,vs=[.int i,.int j]∧(-(2 ^ 62)≤i∧i < 2 ^ 62∧-(2 ^ 62)≤j∧j < 2 ^ 62)∧Zqc i (j - i).toNat g tb D σ H1):tFor (ZsU ta) g tb D σ H:=h
theorem Zv0 {lo:Int} {n:Nat} (Pv:Nat→St→Hp→Prop) (h0:Pv 0 σ H) (hs:∀i σ H,i < n→Pv i σ H→g (.int (lo+i)) σ H fun σ2 H2=>tb { D with nx:=Pv (i+1),ct:=Pv (i+1),bk:=D.nx } σ2 H2) (hd:∀σ H,Pv n σ H→D.nx σ H):Zqc lo n g tb D σ H:=ZeE Pv h0 hs hd
theorem ZhJ {n:Nat} (Pv:Nat→St→Hp→Prop) (h0:Pv 0 σ H) (hs:∀(i:Nat) σ H,i < n→Pv i σ H→g (.int (i:Int)) σ H fun σ2 H2=>tb { D with nx:=Pv (i+1),ct:=Pv (i+1),bk:=D.nx } σ2 H2) (hd:∀σ H,Pv n σ H→D.nx σ H):Zqc 0 n g tb D σ H:=ZeE Pv h0 (fun i σ H hi p=>by rw[Int.zero_add]; exact hs i σ H hi p) hd
theorem ZvZ {a:Addr} {xs:List V} (Pv:Nat→St→Hp→Prop) (h0:Pv 0 σ H) (hl:∀i σ H,i≤xs.length→Pv i σ H→SqL K H a xs) (hs:∀i x σ H,xs[i]?=some x→Pv i σ H→g x σ H fun σ2 H2=>tb { D with nx:=Pv (i+1),ct:=Pv (i+1),bk:=D.nx } σ2 H2) (hd:∀σ H,Pv xs.length σ H→D.nx σ H):ZtU K a g tb D σ H:=Zqt Pv h0 hl hs hd
end
def Its (x:Str):It:=⟨fun i _=>i < x.cps.size,fun i H v H'=>H'=H∧∃c,x.cps[i]?=some c∧v=.str ⟨#[c]⟩,fun i _=>x.cps.size≤i⟩
theorem Zp1 {P:Program} {w:World} {K:PySem.W.Frag} {tg:Expr} (x:Str) (t:Tok) (it:Addr):Turn P w K tg (Its x) [it] it (fun i h=>h.IsStrIter it "str_ascii_iterator" x t i) where
 mem:=by simp
 obj:=fun i h st b hb=>by
  have e:b=it:=by simpa using hb
  subst e;obtain⟨o,e,c,d⟩:=st;exact⟨o,e,fun v z=>by rw[d]at z; cases z⟩
 keep:=fun i h h' st k=>let ⟨o,ho,r⟩:=st; ⟨o,k it (by simp) o ho,r⟩
 item:=by
  intro X hP hw hK hc i pins s σ H E I hf st hg;subst hP hw hK;obtain⟨f0,f1,f2,f3,f4,f5⟩:=hf it (by simp);have hg:i < x.cps.size:=hg;refine wpAny_pyNext_ascii_item st (c:=x.cps[i]) (by simp[hg]) fun h' st' sb=>?_;have I1:Inv X pins σ H { s with heap:=h',toks:=s.toks+1 }:=I.turned (fun b o hb e=>(sb.2 b hb).trans e) f0 f1 f3 f4 f5;obtain⟨o,e,c,d⟩:=id st';exact⟨_,rfl,Zm6 (s:={ s with heap:=h',toks:=s.toks+1 }) e c d (by decide) ⟨.str ⟨#[x.cps[i]]⟩,H,I1,⟨_,rfl⟩,⟨rfl,_,by simp[hg],rfl⟩,st',fun b hb=>(hf b hb).1⟩⟩
 done:=by
  intro X hP hw hK hc i pins s σ H E I hf st hg;subst hP hw hK;obtain⟨f0,f1,f2,f3,f4,f5⟩:=hf it (by simp);have hg:x.cps.size≤i:=hg;exact wpAny_pyNext_ascii_end (I.ok.hd hc) st (by simp[hg]) fun h' eb=>⟨rfl,I.turned (t':=s.toks) (fun b o hb e=>eb b o hb e) f0 f1 f3 f4 f5⟩
 self:=fun _ _ _ _ _ st h=>wpAny_pyIter_striter_ascii st h
theorem Zp2 {P:Program} {w:World} {K:PySem.W.Frag} {tg:Expr} (x:Str) (t:Tok) (it:Addr):Turn P w K tg (Its x) [it] it (fun i h=>h.IsStrIter it "str_iterator" x t i) where
 mem:=by simp
 obj:=fun i h st b hb=>by
  have e:b=it:=by simpa using hb
  subst e;obtain⟨o,e,c,d⟩:=st;exact⟨o,e,fun v z=>by rw[d]at z; cases z⟩
 keep:=fun i h h' st k=>let ⟨o,ho,r⟩:=st; ⟨o,k it (by simp) o ho,r⟩
 item:=by
  intro X hP hw hK hc i pins s σ H E I hf st hg;subst hP hw hK;obtain⟨f0,f1,f2,f3,f4,f5⟩:=hf it (by simp);have hg:i < x.cps.size:=hg;refine wpAny_pyNext_wide_item st (c:=x.cps[i]) (by simp[hg]) fun h' st' sb=>?_;have I1:Inv X pins σ H { s with heap:=h',toks:=s.toks+1 }:=I.turned (fun b o hb e=>(sb.2 b hb).trans e) f0 f1 f3 f4 f5;obtain⟨o,e,c,d⟩:=id st';exact⟨_,rfl,Zm6 (s:={ s with heap:=h',toks:=s.toks+1 }) e c d (by decide) ⟨.str ⟨#[x.cps[i]]⟩,H,I1,⟨_,rfl⟩,⟨rfl,_,by simp[hg],rfl⟩,st',fun b hb=>(hf b hb).1⟩⟩
 done:=by
  intro X hP hw hK hc i pins s σ H E I hf st hg;subst hP hw hK;obtain⟨f0,f1,f2,f3,f4,f5⟩:=hf it (by simp);have hg:x.cps.size≤i:=hg;exact wpAny_pyNext_wide_end (I.ok.hd hc) st (by simp[hg]) fun h' eb=>⟨rfl,I.turned (t':=s.toks) (fun b o hb e=>eb b o hb e) f0 f1 f3 f4 f5⟩
 self:=fun _ _ _ _ _ st h=>wpAny_pyIter_striter_wide st h
def iSeq (K:PySem.W.Frag) (tl:TE):TI:=fun σ H R=>tl σ H fun x H1=>(∃a xs,x=.ref a∧SqL K H1 a xs∧R (Itl K a) H1)∨(∃a xs,x=.ref a∧SqT K H1 a xs∧R (Itt K a) H1)∨(∃z,x=.str z∧R (Its z) H1)
theorem Zfx {X:Cx} {tg:Expr} {l:Expr} {tl:TE} (hl:PE X l tl):PI X tg l (iSeq X.K tl):=by
 intro pins s σ H R I h;refine thn (hl pins s σ H _ I h) fun v s1 ⟨x,H1,I1,r1,q1⟩=>?_
 have fp:∀b∈[s1.heap.objs.size],FpOk X pins H1 b:=fun b hb=>by
  have e:b=s1.heap.objs.size:=by simpa using hb
  subst e;exact I1.fpOk (Nat.le_refl _) (I1.hok.fresh (Nat.le_refl _))
 rcases q1 with⟨a,xs,e,hq,q⟩ | ⟨a,xs,e,hq,q⟩ | ⟨z,e,q⟩
 ·subst e
  cases r1
  obtain⟨its,rv,p,hz⟩:=I1.list hq;refine wpAny_pyIter_list p.isList ?_;exact⟨s1.heap.objs.size,[s1.heap.objs.size],_,_,H1,rfl,I1.kept (t':=s1.toks) fun b o e=>Heap.get?_push_of_some _ e,Zp0 a _,⟨_,Heap.get?_push_size _ rfl,rfl,rfl⟩,fp,q⟩
 ·subst e
  cases r1
  obtain⟨its,rv,p,hz⟩:=I1.tuple hq;refine wpAny_pyIter_tuple (show s1.heap.IsTuple a its.toArray from p) ?_;exact⟨s1.heap.objs.size,[s1.heap.objs.size],_,_,H1,rfl,I1.kept (t':=s1.toks) fun b o e=>Heap.get?_push_of_some _ e,ZnE a _,⟨_,Heap.get?_push_size _ rfl,rfl,rfl⟩,fp,q⟩
 ·subst e
  obtain⟨t,rfl⟩:=r1
  cases ha:z.cps.all (· < 128) with
  | false=>
   refine wpAny_pyIter_wide ha ?_;exact⟨s1.heap.objs.size,[s1.heap.objs.size],_,_,H1,rfl,I1.kept (t':=s1.toks) fun b o e=>Heap.get?_push_of_some _ e,Zp2 z t _,⟨_,Heap.get?_push_size _ rfl,rfl,rfl⟩,fp,q⟩
  | true=>
   refine wpAny_pyIter_ascii ha ?_;exact⟨s1.heap.objs.size,[s1.heap.objs.size],_,_,H1,rfl,I1.kept (t':=s1.toks) fun b o e=>Heap.get?_push_of_some _ e,Zp1 z t _,⟨_,Heap.get?_push_size _ rfl,rfl,rfl⟩,fp,q⟩
def ZvL (x:Str) (g:TG) (tb:TS) (D:Ends) (σ:St) (H:Hp):Prop:=
 ∃W:Nat→Nat→St→Hp→Prop,(∃m,W 0 m σ H)∧∀i m σ H,W i m σ H→
   ((Its x).stop i H∧D.nx σ H)∨((Its x).go i H∧∃N:St→Hp→Prop,(∀σ' H',N σ' H'→∃m',m' < m∧W (i+1) m' σ' H')∧∀x' H',(Its x).yld i H x' H'→g x' σ H' fun σ2 H2=>tb { D with nx:=N,ct:=N,bk:=D.nx } σ2 H2)
def SeqW (K:PySem.W.Frag) (x:V) (g:TG) (tb:TS) (D:Ends) (σ:St) (H1:Hp):Prop:=
 (∃a xs,x=.ref a∧SqL K H1 a xs∧ZtU K a g tb D σ H1)∨(∃a xs,x=.ref a∧SqT K H1 a xs∧ZvK K a g tb D σ H1)∨(∃z,x=.str z∧ZvL z g tb D σ H1)
section
variable {σ:St} {H:Hp} {D:Ends} {K:PySem.W.Frag} {g:TG} {tb:TS}
theorem ZrL {tl:TE} (h:tl σ H fun x H1=>SeqW K x g tb D σ H1):tFor (iSeq K tl) g tb D σ H:=h
theorem seqL {a:Addr} {xs:List V} (Pv:Nat→St→Hp→Prop) (h0:Pv 0 σ H) (hl:∀i σ H,i≤xs.length→Pv i σ H→SqL K H a xs) (hs:∀i x σ H,xs[i]?=some x→Pv i σ H→g x σ H fun σ2 H2=>tb { D with nx:=Pv (i+1),ct:=Pv (i+1),bk:=D.nx } σ2 H2) (hd:∀σ H,Pv xs.length σ H→D.nx σ H):SeqW K (.ref a) g tb D σ H:=.inl ⟨a,xs,rfl,hl 0 σ H (Nat.zero_le _) h0,ZvZ Pv h0 hl hs hd⟩
end
section
variable (P:Program) (w:World) (K:PySem.W.Frag) (mg:Str→Option Value) (base:Heap)
def FnS (k:Nat) (x:Str) (ps:List Str) (sp:Sp):Prop:=∃f fd,FnOk P w K mg base CX0 k f fd ps sp∧ZaS K fd ps []∧PySem.W.keepIn K (.ref f)=true∧mg x=some (.ref f)
def MeS (k:Nat) (C:Addr) (m:Str) (ps:List Str) (sp:Sp):Prop:=Cls K C∧∃f fd,FnOk P w K mg base CX0 k f fd ps sp∧ZaS K fd ps []∧Meth K C m f
def MkS (k:Nat) (x:Str) (C:Addr) (ps:List Str) (sp:Sp):Prop:=mg x=some (.ref C)∧∃f fd,Mk K C f∧FnOk P w K mg base CX0 k f fd ps sp∧ZaS K fd ps []
end
def tFn (sp:Sp) (t:TA):TE:=fun σ H Q=>t σ H fun vs H1=>sp vs H1 Q E0
def MkG (C:Addr) (sp:Sp) (vs:List V) (H1:Hp) (Q:VK):Prop:=∀x dx,H1 x=none→H1 dx=none→dx≠x→
 sp (.ref x::vs) (upd (upd H1 dx (.own x)) x (.ins C dx [])) (fun v H2=>v=.non∧Q (.ref x) H2) E0
def tMk (C:Addr) (sp:Sp) (t:TA):TE:=fun σ H Q=>t σ H fun vs H1=>MkG C sp vs H1 Q
def tDy (D:Addr→Prop) (m:Str) (sp:Sp) (ta:TE) (t:TA):TE:=fun σ H Q=>ta σ H fun x H1=>∃a C dx fs,x=.ref a∧H1 a=some (.ins C dx fs)∧D C∧fs.lookup m=none∧
 t σ H1 fun vs H2=>H2 a=some (.ins C dx fs)∧sp (x::vs) H2 Q E0
def spAt (sp:Sp) (C:Addr):Sp:=fun vs H Q E=>sp vs H Q E∧∃a dx fs r,vs=V.ref a::r∧H a=some (.ins C dx fs)
theorem i_fn {sp:Sp} {t:TA} {σ:St} {H:Hp} {Q:VK} (h:t σ H fun vs H1=>sp vs H1 Q E0):tFn sp t σ H Q:=h
theorem i_mk {C:Addr} {sp:Sp} {t:TA} {σ:St} {H:Hp} {Q:VK} (h:t σ H fun vs H1=>MkG C sp vs H1 Q):tMk C sp t σ H Q:=h
theorem i_dy {D:Addr→Prop} {m:Str} {sp:Sp} {ta:TE} {t:TA} {σ:St} {H:Hp} {Q:VK} (h:ta σ H fun x H1=>∃a C dx fs,x=.ref a∧H1 a=some (.ins C dx fs)∧D C∧fs.lookup m=none∧
 t σ H1 fun vs H2=>H2 a=some (.ins C dx fs)∧sp (x::vs) H2 Q E0):tDy D m sp ta t σ H Q:=h
theorem ZkZ (sp:Sp) (t:TA):ZtJ sp [] E0 t=tFn sp t:=by
 funext σ H Q
 unfold ZtJ tFn
 have e:(fun(vs:List V) (H1:Hp)=>sp (vs++[]) H1 Q E0)=fun vs H1=>sp vs H1 Q E0:=by
  funext vs H1; rw[List.append_nil]
 rw[e]
theorem ZpU (C:Addr) (sp:Sp) (t:TA):ZtL C sp [] E0 t=tMk C sp t:=by
 funext σ H Q
 unfold ZtL tMk MkG
 congr 1
 funext vs H1
 rw[List.append_nil]
section
variable {X:Cx} {k k':Nat} {x m:Str} {C:Addr} {ps:List Str} {sp:Sp} {e o:Expr} {es:List Expr} {ta:TE} {t:TA} {p pos apos:Pos}
theorem ZaY (G:FnS X.prog X.w X.K X.mg X.base k x ps sp) (hr:Room k' X.A) (ha:PA X (e::es) t) (hk:k≤k':=by omega) (hg:Gl X x:=by rfl) (hdb:(x == ("__debug__" : Str))=false:=by decide)
  (he:starEach (e::es) X.env=(false,eval e X.env)::starEach es X.env:=by rfl) (hpl:(backTo pos (starEach es X.env)).any (·.1)=false:=by rfl):PE X (.Call (.Name x p) (e::es) [] pos) (tFn sp t):=by
 obtain⟨f,fd,F,hb,kp,hm⟩:=G;rw[←ZkZ];exact Zpb F (hr.mono hk) hg hm kp hb .nil Zq0 ha hdb he hpl
theorem Zu5 (G:MkS X.prog X.w X.K X.mg X.base k x C ps sp) (hr:Room k' X.A) (ha:PA X (e::es) t) (hk:k+1≤k':=by omega) (hg:Gl X x:=by rfl) (hdb:(x == ("__debug__" : Str))=false:=by decide)
  (he:starEach (e::es) X.env=(false,eval e X.env)::starEach es X.env:=by rfl) (hpl:(backTo pos (starEach es X.env)).any (·.1)=false:=by rfl):PE X (.Call (.Name x p) (e::es) [] pos) (tMk C sp t):=by
 obtain⟨hm,f,fd,M,F,hb⟩:=G;rw[←ZpU];exact Zto M F (hr.mono hk) hg hm hb .nil Zq0 ha hdb he hpl
theorem Zfk {pl:Sem Bool} {D:Addr→Prop} (hD:∀C,D C→MeS X.prog X.w X.K X.mg X.base k C m ps (spAt sp C)) (hr:Room k' X.A) (ho:PE X o ta) (ha:PA X (e::es) t) (hk:k≤k':=by omega)
  (hst:starEach (e::es) X.env=(false,eval e X.env)::starEach es X.env:=by rfl) (hpl:(backTo pos (starEach es X.env)).any (·.1)=false:=by rfl)
  (ht:eval (.Call (.Attribute o m apos) (e::es) [] pos) X.env=(do
   let ov ←eval o X.env
   standAt apos.atName
   let (f,first) ←holding [ov] (getMethod ov m pl)
   callWith pos f first (backTo pos (starEach (e::es) X.env)) (backToKw pos (keywordEach [] X.env))):=by rfl) :
  PE X (.Call (.Attribute o m apos) (e::es) [] pos) (tDy D m sp ta t):=by
 intro pins s σ H Q I h;refine PySem.W.methodCall_KW (pl:=pl) (thn (ho pins s σ H _ I h) fun u s1 ⟨x,H1,I1,rx,a,C,dx,fs,ex,ea,hC,l,q⟩=>?_) ht;subst ex;obtain rfl:u=Value.ref a:=rx;obtain⟨c,f,fd,F,hb,hm⟩:=hD C hC;refine Zgx I1 ea c hm l ?_;refine PySem.W.callWith_K (first:=[.ref a]) (h₀:=X.base) I.ok.mod.kin hm.kp (thn (ha pos pins s1 σ H1 _ I1 q) fun us s2 ⟨vs,H2,I2,r,eb,q2⟩=>⟨I2.kIn,?_⟩) hst hpl;exact Zmv (us:=.ref a::us) (vs:=.ref a::vs) (dvs:=[]) (E:=E0) F (hr.mono hk) hb .nil Zq0 I2 (.cons rfl r) (by rw[List.append_nil]; exact⟨q2,a,dx,fs,vs,rfl,eb⟩)
theorem Zfv {pl:Sem Bool} {D:Addr→Prop} (hD:∀C,D C→MeS X.prog X.w X.K X.mg X.base k C m ps (spAt sp C)) (hr:Room k' X.A) (ho:PE X o ta) (hk:k≤k':=by omega)
  (ht:eval (.Call (.Attribute o m apos) [] [] pos) X.env=(do
   let ov ←eval o X.env
   standAt apos.atName
   let (f,first) ←holding [ov] (getMethod ov m pl)
   callWith pos f first (backTo pos (starEach [] X.env)) (backToKw pos (keywordEach [] X.env))):=by rfl) :
  PE X (.Call (.Attribute o m apos) [] [] pos) (tDy D m sp ta tNil):=by
 intro pins s σ H Q I h;refine PySem.W.methodCall_KW (pl:=pl) (thn (ho pins s σ H _ I h) fun u s1 ⟨x,H1,I1,rx,a,C,dx,fs,ex,ea,hC,l,eb,q⟩=>?_) ht;subst ex;obtain rfl:u=Value.ref a:=rx;obtain⟨c,f,fd,F,hb,hm⟩:=hD C hC;refine Zgx I1 ea c hm l ?_;exact PySem.W.callWith_K0 (first:=[.ref a]) I1.kIn hm.kp (Zmv (us:=[.ref a]) (vs:=[.ref a]) (dvs:=[]) (E:=E0) F (hr.mono hk) hb .nil Zq0 I1 (.cons rfl .nil) (by rw[List.append_nil]; exact⟨q,a,dx,fs,[],rfl,eb⟩))
theorem ss (i:Nat) {x:Str} {e:Expr} {te:TE} {pos pos':Pos} (hN:X.N.Nodup) (he:PE X e te) (hi:X.N[i]?=some x:=by rfl) (hx:Loc X.env.scope x:=by first | exact Or.inl rfl | exact Or.inr rfl)
  (hs:swapsWith e (some (.Name x pos')) pos.line X.env=pure false:=by rfl) (hf:X.fn x=true∨X.env.scope.names.lookup x=some .local:=by first | exact .inl rfl | exact .inr rfl):PS X (.Assign [.Name x pos'] e pos) (tAsg te (Zhw i)):=
 Zu7 hN hi hx he hs hf
theorem sg (i:Nat) {x:Str} {pos:Pos} (hN:X.N.Nodup) (hi:X.N[i]?=some x:=by rfl) (hx:Loc X.env.scope x:=by first | exact Or.inl rfl | exact Or.inr rfl) (hf:X.fn x=true∨X.env.scope.names.lookup x=some .local:=by first | exact .inl rfl | exact .inr rfl):PG X (.Name x pos) (Zhw i):=ZjR hN hi hx hf
def rIsi (K:PySem.W.Frag):List V→Hp→VK→Prop:=fun xs H Q=>∃x t b,TyOf K H x t∧((∃n,xs=[x,.ty n]∧PySem.W.kitOne K t (.type n)=some b)∨(∃c,xs=[x,.ref c]∧PySem.W.kitOne K t (.ref c)=some b))∧Q (.bl b) H
theorem Zcq:Zfz X (.builtin "isinstance") (rIsi X.K):=by
 intro pins s σ H xs us Q I r h;obtain⟨x,t,b,ty,h,q⟩:=h
 rcases h with⟨n,rfl,e⟩ | ⟨c,rfl,e⟩
 ·obtain⟨u,v,rfl,ru,rv⟩:=ZtN r
  obtain rfl:v=Value.type n:=rv;exact Zku I ru ty e fun tk=>⟨.bl b,H,I.tok tk,rfl,q⟩
 ·obtain⟨u,v,rfl,ru,rv⟩:=ZtN r
  obtain rfl:v=Value.ref c:=rv;exact Zku I ru ty e fun tk=>⟨.bl b,H,I.tok tk,rfl,q⟩
theorem ZrN {K:PySem.W.Frag} {x:V} {n:String} {t:Value} {b:Bool} {H:Hp} {Q:VK} (ty:TyOf K H x t) (e:PySem.W.kitOne K t (.type n)=some b) (h:Q (.bl b) H):rIsi K [x,.ty n] H Q:=⟨x,t,b,ty,.inl ⟨n,rfl,e⟩,h⟩
def Zpl:R2:=fun x y H Q=>rI0 (fun i j=>V.int (i+j)) x y H Q∨(∃i j,x=.str i∧y=.str j∧i.length+j.length≤sizeLine∧Q (.str (i++j)) H)∨rCat x y H Q
theorem ZaM:OpR X (binaryOp .Add) Zpl:=OpR.or ZuT (OpR.or Znp ZuU)
theorem ZrC {i j:Int} {H:Hp} {Q:VK} (h:Q (.int (i+j)) H):Zpl (.int i) (.int j) H Q:=.inl ⟨i,j,rfl,rfl,h⟩
theorem ZrD {l b:Addr} {xs zs:List V} {H:Hp} {Q:VK} (h1:H l=some (.lst xs)) (h2:H b=some (.lst zs)) (z:xs.length+zs.length≤sizeLine) (h:∀p,H p=none→Q (.ref p) (upd H p (.lst (xs++zs)))):Zpl (.ref l) (.ref b) H Q:=.inr (.inr ⟨l,b,xs,zs,rfl,rfl,h1,h2,z,h⟩)
end
section
variable {X:Cx} {K:PySem.W.Frag} {H:Hp} {Q:VK} {a:Expr} {ta:TE} {pos:Pos}
theorem Zd4:bootBuiltins "len" = some (.builtin "len"):=by decide +kernel
theorem ZaD:bootBuiltins "isinstance" = some (.builtin "isinstance"):=by decide +kernel
theorem Zt4:bootBuiltins "min" = some (.builtin "min"):=by decide +kernel
theorem Zhs:bootBuiltins "sorted" = some (.builtin "sorted"):=by decide +kernel
theorem Zt3:bootBuiltins "any" = some (.builtin "any"):=by decide +kernel
theorem Zt2:bootBuiltins "all" = some (.builtin "all"):=by decide +kernel
theorem Zrx:bootBuiltins "int" = some (.type "int"):=by decide +kernel
theorem Zje:bootBuiltins "bool" = some (.type "bool"):=by decide +kernel
theorem Zgs:bootBuiltins "list" = some (.type "list"):=by decide +kernel
theorem Zjf:bootBuiltins "tuple" = some (.type "tuple"):=by decide +kernel
theorem Zle:bootBuiltins "reversed" = some (.type "reversed"):=by decide +kernel
theorem Zkm:bootBuiltins "enumerate" = some (.type "enumerate"):=by decide +kernel
def ZvD (K:PySem.W.Frag) (ta:TE):TE:=fun σ H Q=>ta σ H fun x H1=>∃k,TruV K x H1 k∧Q (.bl (!k)) H1
theorem Ztp (ha:PE X a ta):PE X (.UnaryOp .Not a pos) (ZvD X.K ta):=by
 intro pins s σ H Q I h;refine UnaryOp_ (thn (ha pins s σ H _ I h) fun v s1 ⟨x,H1,I1,r1,q1⟩=>?_);exact not_of (thn (Zss pins s1 σ H1 x v (fun k H2=>Q (.bl (!k)) H2) I1 r1 q1) fun b s2 ⟨H2,I2,q2⟩=>⟨.bl (!b),H2,I2,rfl,q2⟩)
theorem ZrV {σ:St} (h:ta σ H fun x H1=>∃k,TruV K x H1 k∧Q (.bl (!k)) H1):ZvD K ta σ H Q:=h
def rLen (K:PySem.W.Frag):List V→Hp→VK→Prop:=fun xs H Q=>∃x n,xs=[x]∧LenV K x H n∧Q (.int n) H
theorem Zbq:Zfz X (.builtin "len") (rLen X.K):=Zql
theorem Zox {p:Addr} {xs:List V} (h:SqL K H p xs) (k:Q (.int xs.length) H):rLen K [.ref p] H Q:=⟨_,_,rfl,.inl ⟨xs,h,rfl⟩,k⟩
theorem ZrO {p:Addr} {xs:List V} (h:H p=some (.lst xs)) (k:Q (.int xs.length) H):rLen K [.ref p] H Q:=⟨_,_,rfl,.inl ⟨xs,SqL.of h,rfl⟩,k⟩
theorem ZrP {p:Addr} {xs:List V} (h:H p=some (.tup xs)) (k:Q (.int xs.length) H):rLen K [.ref p] H Q:=⟨_,_,rfl,.inr ⟨xs,SqT.of h,rfl⟩,k⟩
def Zvb:List V→Hp→VK→Prop:=fun xs H Q=>∃i j,xs=[.int i,.int j]∧Q (.int (if j < i then j else i)) H
theorem Zn3 (hc:X.calm=true):Zfz X (.builtin "min") Zvb:=Zn2 hc
theorem Zup {i j:Int} (h:Q (.int (min i j)) H):Zvb [.int i,.int j] H Q:=by
 refine⟨i,j,rfl,?_⟩
 have e:(if j < i then j else i)=min i j:=by split <;> omega
 rw[e]; exact h
def Zpm (K:PySem.W.Frag):List V→Hp→VK→Prop:=fun xs H Q=>∃p ys,xs=[.ref p]∧(SqL K H p ys∨SqT K H p ys)∧∀l,H l=none→Q (.ref l) (upd H l (.lst ys))
theorem ZmX:Zfz X (.type "list") (Zpm X.K):=Zkn
def Zsh (K:PySem.W.Frag):List V→Hp→VK→Prop:=fun xs H Q=>∃p ys,xs=[.ref p]∧((SqL K H p ys∧∀l,H l=none→Q (.ref l) (upd H l (.tup ys)))∨(SqT K H p ys∧Q (.ref p) H))
theorem Zlf:Zfz X (.type "tuple") (Zsh X.K):=Zji
theorem Zuw {p:Addr} {ys:List V} (h:H p=some (.lst ys)) (k:∀l,H l=none→Q (.ref l) (upd H l (.tup ys))):Zsh K [.ref p] H Q:=⟨p,ys,rfl,.inl ⟨SqL.of h,k⟩⟩
theorem ZvR {p:Addr} {xs:List V} {j:Nat} {v:V} (h:SqL K H p xs) (e:xs[j]?=some v) (k:Q v H):rIx K (.ref p) (.int (j:Int)) H Q:=.inl ⟨p,xs,j,v,rfl,rfl,h,Zlc e,k⟩
theorem Zfi {p:Addr} {xs:List V} {j:Nat} {v:V} (h:H p=some (.lst xs)) (e:xs[j]?=some v) (k:Q v H):rIx K (.ref p) (.int (j:Int)) H Q:=.inl ⟨p,xs,j,v,rfl,rfl,SqL.of h,Zlc e,k⟩
theorem Zow {p:Addr} {xs:List V} {i:Int} {v:V} (h:H p=some (.lst xs)) (e:atI xs i=some v) (k:Q v H):rIx K (.ref p) (.int i) H Q:=.inl ⟨p,xs,i,v,rfl,rfl,SqL.of h,e,k⟩
theorem Zbk {p:Addr} {xs:List V} {i:Int} {v:V} (h:H p=some (.tup xs)) (e:atI xs i=some v) (k:Q v H):rIx K (.ref p) (.int i) H Q:=.inr (.inl ⟨p,xs,i,v,rfl,rfl,SqT.of h,e,k⟩)
def rSlG (K:PySem.W.Frag):V→Option Int→Option Int→Hp→VK→Prop:=fun x lo hi H Q=>rSlL K x lo hi H Q∨rSlT K x lo hi H Q
theorem Zvl:SlR X (rSlG X.K):=SlR.or ZtA Zvn
theorem ZvT {p:Addr} {xs:List V} {lo hi:Option Int} (h:SqL K H p xs) (k:∀l,H l=none→Q (.ref l) (upd H l (.lst (cutV xs lo hi)))):rSlG K (.ref p) lo hi H Q:=.inl ⟨p,xs,rfl,h,k⟩
def Zvc:R2:=rI CMul fun i j=>V.int (i * j)
theorem ZjN:OpR X (binaryOp .Mult) Zvc:=ZuY
theorem ZiV {i j:Int} (c:CMul i j) (h:Q (.int (i * j)) H):Zvc (.int i) (.int j) H Q:=⟨i,j,rfl,rfl,c,h⟩
theorem ZqA {l:Addr} {xs:List V} {y:V} (h:H l=some (.lst xs)) (z:xs.length < sizeLine) (k:Q .non (upd H l (.lst (xs++[y])))):ZlD (.ref l) [y] H Q:=⟨l,xs,y,rfl,rfl,h,z,k⟩
theorem ZvS {l:Addr} {xs:List V} {y:V} (h:H l=some (.lst (xs++[y]))) (k:Q y (upd H l (.lst xs))):rPop (.ref l) [] H Q:=⟨l,xs++[y],y,rfl,rfl,h,by simp,by rw[List.dropLast_concat]; exact k⟩
theorem tyL {l:Addr} {xs:List V} (h:H l=some (.lst xs)):tyV K "list" (.ref l) H:=.inl ⟨rfl,xs,SqL.of h⟩
end
theorem Zrm {n:Nat} (h:n≤1000000):n≤sizeLine:=Nat.le_trans h (by decide)
theorem Zmz {n:Nat} (h:n < 1000000):n < sizeLine:=Nat.lt_of_lt_of_le h (by decide)
theorem Zmc (K:PySem.W.Frag) (n:String):PySem.W.kitOne K (.type n) (.type n)=some true:=by
 unfold PySem.W.kitOne;rw[if_pos (by simp)]
theorem Zbn {H:Hp} {p:Addr} (h:H p=none) (o:HO):Same H (upd H p o):=fun b u q=>by rw[Zal (Zai q h)]; exact q
theorem ZkU {H:Hp} {p q:Addr} (hp:H p=none) (hq:H q=none) (o u:HO):Same H (upd (upd H q u) p o):=fun b v e=>by rw[Zal (Zai e hp),Zal (Zai e hq)]; exact e
theorem ZqH {K:PySem.W.Frag} {t c:String} {b:Bool} (h1:t≠c) (h2:PySem.W.kitMeta c=true) (h3:(PySem.fastBuiltinMro t).map (·.contains (Value.type c))=some b):PySem.W.kitOne K (.type t) (.type c)=some b:=by
 unfold PySem.W.kitOne;rw[if_neg (by simp[h1])];unfold PySem.W.kitCls
 dsimp only
 rw[if_pos h2];exact h3
theorem ZgT (K:PySem.W.Frag):PySem.W.kitOne K (.type "int") (.type "bool")=some false:=ZqH (by decide) (by decide +kernel) (by decide +kernel)
structure Bt (mg:Str→Option Value):Prop where
 len:mg "len" = none
 range:mg "range" = none
 isinstance:mg "isinstance" = none
 int:mg "int" = none
 bool:mg "bool" = none
 str:mg "str" = none
 list:mg "list" = none
 tuple:mg "tuple" = none
 dict:mg "dict" = none
 set:mg "set" = none
 sorted:mg "sorted" = none
 max:mg "max" = none
 min:mg "min" = none
 sum:mg "sum" = none
 any:mg "any" = none
 all:mg "all" = none
 abs:mg "abs" = none
 reversed:mg "reversed" = none
 enumerate:mg "enumerate" = none
 zip:mg "zip" = none
def Ext (H H':Hp):Prop:=∀b o,H b=some o→(∀xs,o≠.lst xs)→H' b=some o
theorem Ext.of {H H':Hp} (a:Same H H'):Ext H H':=fun b o h _=>a b o h
theorem ZsG (xs:List V) (i j:Nat):cutV xs (some (i:Int)) (some (j:Int))=(xs.drop i).take (j - i):=by
 unfold cutV;rw[HT.sIx_nat,HT.sIx_nat]
 by_cases hi:i≤xs.length
 ·rw[Nat.min_eq_left hi]
  by_cases hj:j≤xs.length
  ·rw[Nat.min_eq_left hj]
  ·rw[Nat.min_eq_right (by omega),List.take_of_length_le (by rw[List.length_drop]; omega),List.take_of_length_le (by rw[List.length_drop]; omega)]
 ·rw[Nat.min_eq_right (show xs.length≤i by omega),List.drop_eq_nil_of_le (Nat.le_refl _),List.drop_eq_nil_of_le (show xs.length≤i by omega)]
  simp
theorem Zls (ns:List Int) (i j:Nat):((ns.map V.int).drop i).take j=((ns.drop i).take j).map V.int:=by
 rw[List.map_take,List.map_drop]
section
variable {K:PySem.W.Frag} {H:Hp} {Q:VK}
theorem Zjz {xs:List V} (z:xs.length≤1000000) (h:∀(p:Addr) (H':Hp),Same H H'→H p=none→H' p=some (.lst xs)→Q (.ref p) H'):NewL xs H Q:=
 ⟨Zrm z,fun p hp=>h p _ (Zbn hp _) hp Zak⟩
theorem Zg7 {xs:List V} (z:xs.length≤1000000) (h:∀(p:Addr) (H':Hp),Same H H'→H p=none→H' p=some (.tup xs)→Q (.ref p) H'):NewT xs H Q:=
 ⟨Zrm z,fun p hp=>h p _ (Zbn hp _) hp Zak⟩
theorem j_sl {p:Addr} {xs ys:List V} {lo hi:Option Int} (h:SqL K H p xs) (e:cutV xs lo hi=ys) (k:∀(l:Addr) (H':Hp),Same H H'→H l=none→H' l=some (.lst ys)→Q (.ref l) H'):rSlG K (.ref p) lo hi H Q:=
 ZvT h fun l hl=>by rw[e]; exact k l _ (Zbn hl _) hl Zak
theorem ZvU {l b:Addr} {xs zs:List V} (h1:H l=some (.lst xs)) (h2:H b=some (.lst zs)) (z:xs.length+zs.length≤1000000) (h:∀(p:Addr) (H':Hp),Same H H'→H p=none→H' p=some (.lst (xs++zs))→Q (.ref p) H'):Zpl (.ref l) (.ref b) H Q:=
 ZrD h1 h2 (Zrm z) fun p hp=>h p _ (Zbn hp _) hp Zak
theorem ZuB {p:Addr} {ys:List V} (h:SqL K H p ys∨SqT K H p ys) (k:∀(l:Addr) (H':Hp),Same H H'→H l=none→H' l=some (.lst ys)→Q (.ref l) H'):Zpm K [.ref p] H Q:=
 ⟨p,ys,rfl,h,fun l hl=>k l _ (Zbn hl _) hl Zak⟩
def But (l:Addr) (H H':Hp):Prop:=∀b o,b≠l→H b=some o→H' b=some o
theorem But.ext {l:Addr} {H H':Hp} {xs:List V} (h:H l=some (.lst xs)) (s:But l H H'):Ext H H':=fun b o e n=>s b o (ZaK e h (n xs)) e
theorem But.same {l:Addr} {H0 H H':Hp} (s:But l H H') (h0:H0 l=none) (s0:Same H0 H):Same H0 H':=fun b o e=>s b o (Zai e h0) (s0 b o e)
theorem Zeh {l:Addr} {H:Hp} {o:HO}:But l H (upd H l o):=fun b u n e=>by rw[Zal n]; exact e
theorem Zb7 {l:Addr} {xs:List V} {y:V} (h:H l=some (.lst xs)) (z:xs.length < 1000000) (k:∀H':Hp,But l H H'→H' l=some (.lst (xs++[y]))→Q .non H'):ZlD (.ref l) [y] H Q:=ZqA h (Zmz z) (k _ Zeh Zak)
theorem ZvV {l:Addr} {xs:List V} {y:V} (h:H l=some (.lst (xs++[y]))) (k:∀H':Hp,But l H H'→H' l=some (.lst xs)→Q y H'):rPop (.ref l) [] H Q:=ZvS h (k _ Zeh Zak)
end
theorem ZrM {to ti:TE} {t:TSet} {v:V} {σ:St} {H:Hp} {R:St→Hp→Prop} (h:to σ H fun o H1=>ti σ H1 fun i H2=>t o i v H2 fun H3=>R σ H3):gSub to ti t v σ H R:=h
theorem Zs4 {n j:Nat} (h:j < n):ixN n (j:Int)=some j:=by
 unfold ixN;rw[if_pos (by omega),if_pos (by omega)]; simp
theorem ZoI {H:Hp} {p:Addr} {xs:List V} {j:Nat} {v:V} {R:Hp→Prop} (h:H p=some (.lst xs)) (hj:j < xs.length) (k:∀H':Hp,But p H H'→H' p=some (.lst (xs.set j v))→R H'):Zvd (.ref p) (.int (j:Int)) v H R:=
 ⟨p,xs,j,j,rfl,rfl,h,Zs4 hj,k _ Zeh Zak⟩
end L2
namespace L2
open PySem PySem.Spec PyProof.Rows
def Zcy (X:Cx) (x:Str) (ns:List Str) (scope:Scope) (cl:List (Str×Addr)) (s:Shared) (H:Hp) (ex:List Addr):Cx where
 prog:=X.prog
 w:=X.w
 K:=X.K
 mg:=X.mg
 base:=X.base
 A:=X.A
 N:=x::ns
 s₀:=s
 H₀:=H
 env:=compEnvC scope cl s.heap.objs.size X.env
 outer:=X.stack
 stack:=X.stack
 ex:=ex
 fn:=fun _=>false
 calm:=X.calm
 pn:=[]
 xe:=fun _ _=>False
def subS (σ:St) (ix:List Nat):St:=ix.map fun k=>(σ[k]?).join
def Zj7 (sc:Scope) (N:List Str) (x:Str) (ns:List Str) (ix:List Nat) (scope:Scope):Prop:=
 scope.kind=.function∧(∀y∈scope.names,y.2≠.cell∧(y.2=.local→scope.names.lookup y.1=some .local)∧(y.2=.free→sc.names.lookup y.1=some .cell∨sc.names.lookup y.1=some .free))∧
 scope.names.lookup x=some .local∧(∀y∈ns,scope.names.lookup y=some .free)∧(ix.map fun k=>N[k]?)=ns.map some∧(x::ns).Nodup
instance (sc:Scope) (N:List Str) (x:Str) (ns:List Str) (ix:List Nat) (scope:Scope):Decidable (Zj7 sc N x ns ix scope):=by unfold Zj7; infer_instance
def Zih (J:It) (ix:List Nat) (tc:TT) (te:TE) (σ:St) (Q:VK) (H1:Hp):Prop:=∀acc,H1 acc=none→∃W:Nat→Nat→List V→Hp→Prop,(∃m,W 0 m [] (upd H1 acc (.lst [])))∧
 ∀i m ys H,W i m ys H→(J.stop i H∧Q (.ref acc) H)∨(J.go i H∧∀x H',J.yld i H x H'→tc (some x::subS σ ix) H' fun b H2=>
  if b=true then te (some x::subS σ ix) H2 fun y H3=>H3 acc=some (.lst ys)∧ys.length < sizeLine∧∃m',m' < m∧W (i+1) m' (ys++[y]) (upd H3 acc (.lst (ys++[y]))) else ∃m',m' < m∧W (i+1) m' ys H2)
def ZnB (wi:TI) (ix:List Nat) (tc:TT) (te:TE):TE:=fun σ H Q=>wi σ H fun J H1=>Zih J ix tc te σ Q H1
theorem ZbZ {α β:Type} [BEq α] [LawfulBEq α]:∀{l:List (α×β)} {a:α} {b:β},l.lookup a=some b→(a,b)∈l
 | [],_,_,h=>by simp at h
 | (k,v)::r,a,b,h=>by
  rw[List.lookup_cons]at h
  cases e:a == k with
  | true=>
   rw[e]at h
   have:a=k:=by simpa using e
   subst this
   cases h
   exact List.mem_cons_self
  | false=>
   rw[e]at h;exact List.mem_cons_of_mem _ (ZbZ h)
theorem Zgu {env:Env}:∀(names:List (Str×NameKind)) (acc:List (Str×Addr)),(∀y∈names,y.2=.free→∃c,env.cells.lookup y.1=some c)→(∀y c,acc.lookup y=some c→env.cells.lookup y=some c)→
  ∃cl,(forIn names acc fun x r=>match x with | (name,kind)=>if (kind == NameKind.free)=true then(do let a ←cellOf env name; pure (ForInStep.yield ((name,a)::r))) else pure (ForInStep.yield r):Sem (List (Str×Addr)))=pure cl∧
   (∀y c,cl.lookup y=some c→env.cells.lookup y=some c)∧(∀y,(∃c,acc.lookup y=some c)→∃c,cl.lookup y=some c)∧∀y∈names,y.2=.free→∃c,cl.lookup y.1=some c
 | [],acc,_,ha=>⟨acc,rfl,ha,fun _ h=>h,fun _ h=>nomatch h⟩
 | (name,kind)::r,acc,hn,ha=>by
  cases hk:kind == NameKind.free with
  | false=>
   obtain⟨cl,e,h1,h2,h3⟩:=Zgu r acc (fun y hy=>hn y (List.mem_cons_of_mem _ hy)) ha;refine⟨cl,?_,h1,h2,fun y hy hf=>?_⟩
   ·rw[List.forIn_cons]
    simp only [hk,Bool.false_eq_true,if_false];exact e
   ·rcases List.mem_cons.mp hy with rfl | hy
    ·have:kind=.free:=hf
     subst this;simp at hk
    ·exact h3 y hy hf
  | true=>
   have hkf:kind=.free:=by simpa using hk
   obtain⟨c,hc⟩:=hn (name,kind) List.mem_cons_self hkf;have hc:env.cells.lookup name=some c:=hc
   obtain⟨cl,e,h1,h2,h3⟩:=Zgu r ((name,c)::acc) (fun y hy=>hn y (List.mem_cons_of_mem _ hy)) (fun y c' hy=>by
    rw[List.lookup_cons]at hy
    cases e:y == name with
    | true=>
     rw[e]at hy
     have:y=name:=by simpa using e
     subst this
     cases hy
     exact hc
    | false=>
     rw[e]at hy
     exact ha y c' hy)
   refine⟨cl,?_,h1,fun y hy=>h2 y ?_,fun y hy hf=>?_⟩
   ·rw[List.forIn_cons]
    simp only [hk,if_true]
    have:cellOf env name=pure c:=by unfold cellOf; rw[hc]
    rw[this];exact e
   ·obtain⟨c',hc'⟩:=hy
    rw[List.lookup_cons]
    cases y == name
    ·exact⟨c',hc'⟩
    ·exact⟨c,rfl⟩
   ·rcases List.mem_cons.mp hy with rfl | hy
    ·exact h2 _ ⟨c,by rw[List.lookup_cons]; simp⟩
    ·exact h3 y hy hf
theorem ZiQ {env:Env} (scope:Scope) (h:∀y∈scope.names,y.2=.free→∃c,env.cells.lookup y.1=some c) :
  ∃cl,closureFor scope env=pure cl∧(∀y c,cl.lookup y=some c→env.cells.lookup y=some c)∧∀y∈scope.names,y.2=.free→∃c,cl.lookup y.1=some c:=by
 obtain⟨cl,e,h1,_,h3⟩:=Zgu (env:=env) scope.names [] h (fun _ _ z=>by simp at z);refine⟨cl,?_,h1,h3⟩;show((forIn scope.names [] fun x r=>match x with | (name,kind)=>if (kind == NameKind.free)=true then(do let a ←cellOf env name; pure (ForInStep.yield ((name,a)::r))) else pure (ForInStep.yield r):Sem (List (Str×Addr))) >>= fun s=>pure s)=pure cl;rw[e];rfl
theorem ZeP {env:Env}:∀(names:List (Str×NameKind)) (y:Str),(names.map fun(n,k)=>if (k == NameKind.free && env.scope.kind == .function && env.kindOf n == some .cell) then(n,NameKind.cell) else(n,k)).lookup y =
  (names.lookup y).map fun k=>if (k == NameKind.free && env.scope.kind == .function && env.kindOf y == some .cell)=true then NameKind.cell else k
 | [],y=>by simp
 | (n,k)::r,y=>by
  have ih:=ZeP (env:=env) r y;rw[List.map_cons,List.lookup_cons]
  cases e:y == n with
  | true=>
   have ey:y=n:=by simpa using e
   subst ey
   by_cases hc:(k == NameKind.free && env.scope.kind == .function && env.kindOf y == some .cell)=true
   ·simp only [hc,if_true,List.lookup_cons,beq_self_eq_true,Option.map_some]
   ·simp only [hc,if_false,List.lookup_cons,beq_self_eq_true,Option.map_some,Bool.false_eq_true]
  | false=>
   by_cases hc:(k == NameKind.free && env.scope.kind == .function && env.kindOf n == some .cell)=true
   ·simp only [hc,if_true,List.lookup_cons,e]; exact ih
   ·simp only [hc,if_false,List.lookup_cons,e,Bool.false_eq_true]; exact ih
section
variable {X:Cx} {pins:List (Addr×Obj)} {σ:St} {H:Hp} {s:Shared} {cl:List (Str×Addr)} {x:Str} {ns:List Str} {ix:List Nat} {sc scope:Scope} {N:List Str} {fp:List Addr}
theorem ZsK (I:Inv X pins σ H s) (f:∀b∈fp,FpOk X pins H b) (hlt:∀b∈fp,b < s.heap.objs.size) (hcl:∀y c,cl.lookup y=some c→X.env.cells.lookup y=some c) {H':Hp} (hn:∀b∈fp,H' b=none):∀b∈fp,FpOk (Zcy X x ns scope cl s H fp) [] H' b:=fun b hb=>by
 obtain⟨f0,f1,f2,f3,f4,f5⟩:=f b hb;refine⟨hn b hb,Nat.ne_of_lt (hlt b hb),fun z=>?_,.inl hb,fun y c e=>f4 y c (hcl y c e),fun p hp=>?_⟩
 ·rcases List.mem_cons.mp (I.stkSub b z) with z | z
  ·exact f1 z
  ·exact f2 z
 ·exact absurd (show p∈([]:List (Addr×Obj)) from hp) (by simp)
theorem ZqE {h1:Heap} {m:Str→Option Value} {t':Nat} (I:Inv X pins σ H s) (hsc:X.env.scope=sc) (hN:X.N=N) (C:Zj7 sc N x ns ix scope) (hcl:∀y c,cl.lookup y=some c→X.env.cells.lookup y=some c)
  (hcla:∀y∈scope.names,y.2=.free→∃c,cl.lookup y.1=some c) (f:∀b∈fp,FpOk X pins H b) (hlt:∀b∈fp,b < s.heap.objs.size) (hn:h1.Ns s.heap.objs.size m) (hk:∀b o,s.heap.get? b=some o→h1.get? b=some o) :
  Inv (Zcy X x ns scope cl s H fp) [] (none::subS σ ix) H { s with heap:=h1,toks:=t' }:=by
 obtain⟨c1,c2,c3,c4,c5,c6⟩:=C;have kind:∀y,(relabel scope X.env).names.lookup y=(scope.names.lookup y).map fun k=>if (k == NameKind.free && X.env.scope.kind == .function && X.env.kindOf y == some .cell)=true then NameKind.cell else k:=fun y=>ZeP scope.names y
 have fr:∀y,((relabel scope X.env).names.lookup y=some .cell∨(relabel scope X.env).names.lookup y=some .free)→scope.names.lookup y=some .free:=fun y h=>by
  rw[kind y]at h
  cases e:scope.names.lookup y with
  | none=>rw[e]at h; simp at h
  | some k=>
   rw[e]at h;have hm:=ZbZ e
   cases k with
   | free=>rfl
   | cell=>exact absurd rfl (c2 _ hm).1
   | «local»=>simp at h
   | globalExplicit=>simp at h
   | globalImplicit=>simp at h
 have fr':∀y,scope.names.lookup y=some .free→(relabel scope X.env).names.lookup y=some .cell∨(relabel scope X.env).names.lookup y=some .free:=fun y h=>by
  rw[kind y,h]
  by_cases hc:(NameKind.free == NameKind.free && X.env.scope.kind == .function && X.env.kindOf y == some .cell)=true
  ·left; rw[Option.map_some,if_pos hc]
  ·right; rw[Option.map_some,if_neg hc]
 have noC:∀p:Addr×Obj,p∉(Zcy X x ns scope cl s H fp).pn++[]:=fun p hp=>absurd (show p∈([]:List (Addr×Obj)) from hp) (by simp)
 have lenE:ix.length=ns.length:=by
  have:=congrArg List.length c5
  rwa [List.length_map,List.length_map]at this
 refine⟨⟨I.ok.mod,c1,I.ok.glob,I.ok.blt,Nat.le_refl _,fun y z c h1 h2=>I.ok.inj y z c (hcl y c h1) (hcl z c h2),fun y hy=>?_,fun y c hy=>absurd hy (by simp[Zcy]),I.ok.hd,I.ok.frames,.inl rfl,fun b hb=>?_,I.bs,
  Nat.le_trans I.ok.bsz I.sz,fun b o e hb=>?_,fun b hb=>?_,I.stack,I.stkFree⟩,rfl,I.bare,Un.kept hk,⟨m,hn,fun i y v e1 e2 e3=>?_⟩,fun y c e=>?_,I.hok.fresh (Nat.le_refl _),fun y c e=>I.freeC y c (hcl y c e),fun p hp=>absurd hp (noC p),I.hok.kept hk,?_⟩
 ·exact hcla _ (ZbZ (fr y hy)) rfl
 ·obtain⟨f0,f1,f2,f3,f4,f5⟩:=f b hb
  exact⟨Nat.ne_of_lt (hlt b hb),fun y c e=>f4 y c (hcl y c e)⟩
 ·obtain⟨f0,f1,f2,f3,f4,f5⟩:=f b hb
  rcases f3 with z | z
  ·exact I.ok.noex b o e z
  ·exact absurd (Nat.lt_of_lt_of_le (Heap.lt_size (I.ok.bs b o e).1) z) (Nat.lt_irrefl _)
 ·obtain⟨f0,f1,f2,f3,f4,f5⟩:=f b hb
  intro z
  rcases List.mem_cons.mp (I.stkSub b z) with z | z
  ·exact f1 z
  ·exact f2 z
 ·cases i with
  | zero=>cases e2
  | succ j=>
   have e1':ns[j]?=some y:=e1;have e2':(ix.map fun k=>(σ[k]?).join)[j]?=some (some v):=e2;have e5:=congrArg (fun l=>l[j]?) c5;simp only [List.getElem?_map,e1',Option.map_some]at e5 e2'
   cases ek:ix[j]? with
   | none=>rw[ek]at e5; cases e5
   | some k=>
    rw[ek]at e5 e2'
    have eN:N[k]?=some y:=by simpa using e5
    have eσ:(σ[k]?).join=some v:=by simpa using e2'
    have eσ':σ[k]?=some (some v):=by
     cases q:σ[k]? with
     | none=>rw[q]at eσ; cases eσ
     | some w=>rw[q]at eσ; have:w=some v:=eσ; rw[this]
    have hy:=c4 y (List.mem_of_getElem? e1');have hk':=(c2 _ (ZbZ hy)).2.2 rfl;rw[←hsc]at hk';obtain⟨m0,hn0,hl⟩:=I.loc;obtain⟨u,r,l⟩:=hl k y v (by rw[hN]; exact eN) eσ' (.inr hk');refine⟨u,r,?_⟩
    rcases l with⟨kl,_⟩ | ⟨_,c,ec,z⟩
    ·exfalso
     have kl:X.env.scope.names.lookup y=some .local:=kl;rw[kl]at hk'
     rcases hk' with z | z <;> cases z
    ·obtain⟨c',ec'⟩:=hcla _ (ZbZ hy) rfl
     have ee:c'=c:=by
      have:=hcl y c' ec';rw[ec]at this;exact(Option.some.inj this).symm
     subst ee;obtain⟨o,ho,hd⟩:=z;exact .inr ⟨fr' y hy,c',ec',⟨o,hk _ _ ho,hd⟩⟩
 ·obtain⟨v,o,ho,hd⟩:=I.cell y c (hcl y c e)
  exact⟨v,o,hk _ _ ho,hd⟩
 ·show(none::subS σ ix).length=(x::ns).length
  rw[List.length_cons,List.length_cons];unfold subS;rw[List.length_map,lenE]
end
theorem ZnG {α β:Type} {M:Model} {A:Around} {a:α} {P:α→Shared→Prop} {E E':Value→Shared→Prop} {s s':Shared} {t:Sem β} {Q:β→Shared→Prop} (h:wpAny M A (pure a) P E s) (k:P a s→wpAny M A t Q E' s'):wpAny M A t Q E' s':=
 fun Γ p hi=>k (h Γ p hi) Γ p hi
def PTs (X:Cx) (ifs:List Expr) (t:TT):Prop:=
 ∀(pins:List (Addr×Obj)) (s:Shared) (σ:St) (H:Hp) (Q:Bool→Hp→Prop),Inv X pins σ H s→t σ H Q→
  wpAny (model X.prog X.w) X.A (forIn ifs true fun c r=>if r=true then do let ok ←isTrue c X.env (eval c X.env); pure (ForInStep.yield ok) else pure (ForInStep.yield r)) (TP X pins σ Q) X.xe s
def ZvC:TT:=fun _ H Q=>Q true H
theorem ZjT {X:Cx}:PTs X [] ZvC:=fun _ _ _ H _ I h=>wpAny_tests_nil ⟨H,I,h⟩
theorem ZhY {X:Cx} {c:Expr} {t:TT} (h:PT X c t):PTs X [c] t:=fun pins s σ H Q I q=>wpAny_tests_one (h pins s σ H Q I q)
section
variable {X:Cx} {pins:List (Addr×Obj)} {σ:St} {H:Hp} {s:Shared} {cl:List (Str×Addr)} {x:Str} {ns:List Str} {ix:List Nat} {sc scope:Scope} {N:List Str} {fp:List Addr} {elt iter:Expr} {px pos:Pos} {ifs:List Expr} {tc:TT} {te:TE} {wi:TI}
theorem Zqm {E:Value→Shared→Prop} {J:It} {it:Addr} {tn:Nat→Heap→Prop} {Q:VK} {RR:Value→Addr→Result→Shared→Prop} (hsc:X.env.scope=sc) (hN:X.N=N) (C:Zj7 sc N x ns ix scope) (hc:X.calm=true)
  (ht:∀cl s H ex,PTs (Zcy X x ns scope cl s H ex) ifs tc) (he:∀cl s H ex,PE (Zcy X x ns scope cl s H ex) elt te) (I:Inv X pins σ H s) (hcl:∀y c,cl.lookup y=some c→X.env.cells.lookup y=some c)
  (hcla:∀y∈scope.names,y.2=.free→∃c,cl.lookup y.1=some c) (T:Turn X.prog X.w X.K (.Name x px) J fp it tn) (st:tn 0 s.heap) (f:∀b∈fp,FpOk X pins H b) (h:Zih J ix tc te σ Q H)
  (fin:∀D C m s' H',Inv X pins σ H' s'→s'.heap.Ns C m→FpOk X pins H' C→Q (.ref D) H'→RR (.ref D) C (.ok .next) s') :
  wpAny (model X.prog X.w) X.A (newList []) (fun ja s3=>wpAny (model X.prog X.w) X.A (newFunctionEnv scope X.env.globals cl [] X.env.qual none .none (some X.env)) (fun ce s4=>
   codeAny (model X.prog X.w) X.A (.compStart (.ListComp elt [⟨.Name x px,iter,ifs,0⟩] scope pos) 0 (.ref it) ja { ce with scope:=relabel scope X.env }) (RR ja ce.locals) s4) E s3) E s:=by
 have hC:=C;obtain⟨c1,c2,c3,c4,c5,c6⟩:=C;have hfr:H s.heap.objs.size=none:=I.hok.fresh (Nat.le_refl _);obtain⟨W,⟨m0,w0⟩,turn⟩:=h _ hfr;refine wpAny_newObj_type (wpAny_newFunctionEnv (fun y hy=>(c2 y hy).1) (by intro y hy; simp at hy) (fun h1 hn1 hs1=>?_) c1);have I3:=I.lnew (its:=[]) (ys:=[]) (t':=s.toks) .nil (Nat.zero_le _)
 have hlt0:∀b∈fp,b < s.heap.objs.size:=fun b hb=>by
  obtain⟨o,ho,_⟩:=T.obj _ _ st b hb;exact Heap.lt_size ho
 generalize hs3:({ s with heap:=s.heap.push { cls:=.type "list",data:=.seq ([]:List Value).toArray },toks:=s.toks }:Shared)=s3 at I3
 have e3:s3.heap=s.heap.push { cls:=.type "list",data:=.seq ([]:List Value).toArray }:=by rw[←hs3]
 have sz3:s3.heap.objs.size=s.heap.objs.size+1:=by rw[e3,Heap.size_push]
 have f3:∀b∈fp,FpOk X pins (upd H s.heap.objs.size (.lst [])) b:=fun b hb=>⟨by rw[Zal (Nat.ne_of_lt (hlt0 b hb))]; exact(f b hb).1,(f b hb).2⟩
 have hlt:∀b∈fp,b < s3.heap.objs.size:=fun b hb=>by rw[sz3]; exact Nat.lt_succ_of_lt (hlt0 b hb)
 have hk:∀b o,s3.heap.get? b=some o→h1.get? b=some o:=fun b o e=>by
  refine(hs1.2 b ?_).trans (Heap.get?_push_of_some _ ?_)
  ·have:=Heap.lt_size e
   rw[sz3]at this;show b≠(s.heap.push _).objs.size;rw[Heap.size_push];exact Nat.ne_of_lt this
  ·rw[e3]at e; exact e
 have hn3:h1.Ns s3.heap.objs.size (fun y=>([]:List (Str×Value)).reverse.lookup y):=by rw[e3]; exact hn1
 have I4:=ZqE (t':=s3.toks+([]:List (Str×Value)).length) I3 hsc hN hC hcl hcla f3 hlt hn3 hk;have st4:tn 0 h1:=T.keep _ _ _ st fun b hb o e=>hk b o (by rw[e3]; exact Heap.get?_push_of_some _ e);have stat:∀{H':Hp},(∀b∈fp,H' b=none)→∀b∈fp,FpOk (Zcy X x ns scope cl s3 (upd H s.heap.objs.size (.lst [])) fp) [] H' b:=fun {H'} hn=>ZsK I3 f3 hlt hcl hn
 have loop:∀s4:Shared,s4 = { s3 with heap:=h1,toks:=s3.toks+([]:List (Str×Value)).length }→
   codeAny (model X.prog X.w) X.A (.compLoop (.ListComp elt [⟨.Name x px,iter,ifs,0⟩] scope pos) 0 (.ref it) (.ref s.heap.objs.size) (compEnvC scope cl s3.heap.objs.size X.env)) (RR (.ref s.heap.objs.size) s3.heap.objs.size) s4:=by
  rintro s4 rfl;refine codeAny_compLoop_tests (fun n s'=>∃i v0 ys H',Inv (Zcy X x ns scope cl s3 (upd H s.heap.objs.size (.lst [])) fp) [] (v0::subS σ ix) H' s'∧tn i s'.heap∧(∀b∈fp,H' b=none)∧W i n ys H') ?_ m0 ⟨0,none,[],_,I4,st4,fun b hb=>(f3 b hb).1,w0⟩;rintro n s5 ⟨i,v0,ys,H5,I5,st5,fr5,w5⟩
  rcases turn i n ys H5 w5 with⟨stop,q⟩ | ⟨go,step⟩
  ·refine wpAny_mono (T.done (Zcy X x ns scope cl s3 (upd H s.heap.objs.size (.lst [])) fp) rfl rfl rfl hc i [] s5 _ H5 _ I5 (stat fr5) st5 stop) (fun r s6 hr=>?_) fun _ _ e=>e
   obtain⟨hr,I6⟩:=hr;subst hr;obtain⟨m6,hn6,_⟩:=id I6.loc;refine fin _ _ m6 s6 H5 (I3.call' I6.os I6.base I6.hok I6.bare fun b hb=>?_) hn6 (I3.fpOk (Nat.le_refl _) I6.free) q;obtain⟨g0,g1,g2,g3,g4,g5⟩:=f3 b hb;exact⟨g3,g1,g4,g5⟩
  ·refine wpAny_mono (T.item (Zcy X x ns scope cl s3 (upd H s.heap.objs.size (.lst [])) fp) rfl rfl rfl hc i [] s5 _ H5 _ I5 (stat fr5) st5 go) (fun r s6 hr=>?_) fun _ _ e=>e
   obtain⟨u,hr,h6⟩:=hr;subst hr;refine ZnG (a:=()) h6 fun q6=>?_;obtain⟨xv,H6,I6,r6,y6,st6,fr6⟩:=q6;have I6':=I6.pinned (stat fr6) (T.obj _ _ st6)
   have again:∀{m':Nat} {ys':List V} {H7:Hp} {s7:Shared},Inv (Zcy X x ns scope cl s3 (upd H s.heap.objs.size (.lst [])) fp) ([]++Zi6 fp s6.heap) (some xv::subS σ ix) H7 s7→W (i+1) m' ys' H7→
     ∃i v0 ys H',Inv (Zcy X x ns scope cl s3 (upd H s.heap.objs.size (.lst [])) fp) [] (v0::subS σ ix) H' s7∧tn i s7.heap∧(∀b∈fp,H' b=none)∧W i m' ys H':=fun {m' ys' H7 s7} I7 w7=>by
    refine⟨i+1,some xv,ys',H7,I7.unpinned,T.keep _ _ _ st6 fun b hb o e=>(I7.pin (b,o) (List.mem_append_right _ (List.mem_append_right _ (Zdq hb e)))).1,fun b hb=>?_,w7⟩;obtain⟨o,e,d⟩:=T.obj _ _ st6 b hb;exact(I7.pin (b,o) (List.mem_append_right _ (List.mem_append_right _ (Zdq hb e)))).2.1
   have lx:(relabel scope X.env).names.lookup x=some .local:=lookup_relabel_local c3;refine wpAny_mono (ZjR (X:=Zcy X x ns scope cl s3 (upd H s.heap.objs.size (.lst [])) fp) (i:=0) (x:=x) (pos:=px) c6 rfl (.inl lx) (.inr lx) _ s6 _ H6 xv u (fun σ' H'=>σ'=some xv::subS σ ix∧H'=H6) I6' r6 ⟨rfl,rfl⟩) (fun _ s7 h7=>?_) fun _ _ e=>e.elim;obtain⟨σ7,H7,I7,rfl,rfl⟩:=h7;refine wpAny_mono (ht cl s3 _ fp _ s7 _ _ _ I7 (step xv _ y6)) (fun b s8 h8=>?_) fun _ _ e=>e.elim;obtain⟨H8,I8,q8⟩:=h8
   cases b with
   | false=>
    rw[if_neg Bool.false_ne_true]at q8 ⊢;obtain⟨m',hm,w8⟩:=q8;exact⟨m',hm,again I8 w8⟩
   | true=>
    rw[if_pos rfl]at q8 ⊢;refine wpAny_mono (he cl s3 _ fp _ s8 _ _ _ I8 q8) (fun uy s9 h9=>?_) fun _ _ e=>e.elim;obtain⟨y,H9,I9,r9,hacc,hz,m',hm,w9⟩:=h9;refine wpAny_mono (Zb4 (X:=Zcy X x ns scope cl s3 (upd H s.heap.objs.size (.lst [])) fp) _ s9 _ H9 (.ref s.heap.objs.size) [y] _ [uy] (fun v H'=>H'=upd H9 s.heap.objs.size (.lst (ys++[y]))) I9 rfl (.cons r9 .nil) ⟨_,ys,y,rfl,rfl,hacc,hz,rfl⟩) (fun _ s10 h10=>?_) fun _ _ e=>e.elim;obtain⟨v,H10,I10,_,rfl⟩:=h10;exact⟨m',hm,again I10 w9⟩
 exact codeAny_compStart_list (loop _ rfl) (T.self _ 0 _ _ _ st4 (loop _ rfl))
theorem ZfK (hsc:X.env.scope=sc) (hN:X.N=N) (C:Zj7 sc N x ns ix scope) (hc:X.calm=true) (hi:PI X (.Name x px) iter wi) (ht:∀cl s H ex,PTs (Zcy X x ns scope cl s H ex) ifs tc) (he:∀cl s H ex,PE (Zcy X x ns scope cl s H ex) elt te)
  (hs:∀v,foldedSetIterable iter X.env v=pure v:=by intro _; rfl):PE X (.ListComp elt [⟨.Name x px,iter,ifs,0⟩] scope pos) (ZnB wi ix tc te):=by
 intro pins s σ H Q I h
 obtain⟨cl,hclos,hcl,hcla⟩:=ZiQ (env:=X.env) scope fun y hy hf=>I.ok.has y.1 (by
  have:=(C.2.1 y hy).2.2 hf;rw[←hsc]at this
  exact this)
 rw[eval_ListComp];refine wpAny_comprehension_free (use:=none) rfl hs hclos C.1 (fun y hy=>(C.2.1 y hy).2.1) (thn (hi pins s σ H _ I h) fun v s1 h1=>thn h1 fun itv s2 h2=>?_);obtain⟨it,fp,tn,J,H2,rfl,I2,T,st2,f2,hg⟩:=h2;refine Zqm (RR:=fun ja C=>compPost (model X.prog X.w) X.A X.xe none (EP X pins σ Q) ja C) hsc hN C hc ht he I2 hcl hcla T st2 f2 hg ?_;intro D C' m s' H' I' hn' fC q;obtain⟨g0,g1,g2,g3,g4,g5⟩:=fC;exact⟨m,hn',fun h' hs'=>⟨.ref D,H',I'.turned (t':=s'.toks) (fun b o hb e=>hs'.extBut b o hb e) g0 (Ne.symm (Ne.symm g1)) g3 g4 g5,rfl,q⟩⟩
end
section
variable {wi:TI} {ix:List Nat} {tc:TT} {te:TE} {σ:St} {H:Hp} {Q:VK} {K:PySem.W.Frag}
theorem Zl6 {ta:TA} (h:ta σ H fun vs H1=>∃j:Int,vs=[.int j]∧-(2 ^ 62)≤j∧j < 2 ^ 62∧Zih (Itr 0 j.toNat) ix tc te σ Q H1):ZnB (ZsT ta) ix tc te σ H Q:=h
theorem Zl7 {ta:TA} (h:ta σ H fun vs H1=>∃i j:Int,vs=[.int i,.int j]∧(-(2 ^ 62)≤i∧i < 2 ^ 62∧-(2 ^ 62)≤j∧j < 2 ^ 62)∧Zih (Itr i (j - i).toNat) ix tc te σ Q H1):ZnB (ZsU ta) ix tc te σ H Q:=h
def ZvJ (K:PySem.W.Frag) (x:V) (ix:List Nat) (tc:TT) (te:TE) (σ:St) (Q:VK) (H1:Hp):Prop:=
 (∃a xs,x=.ref a∧SqL K H1 a xs∧Zih (Itl K a) ix tc te σ Q H1)∨(∃a xs,x=.ref a∧SqT K H1 a xs∧Zih (Itt K a) ix tc te σ Q H1)∨(∃z,x=.str z∧Zih (Its z) ix tc te σ Q H1)
theorem Zoq {tl:TE} (h:tl σ H fun x H1=>ZvJ K x ix tc te σ Q H1):ZnB (iSeq K tl) ix tc te σ H Q:=h
theorem ZrU {BQ:Bool→Hp→Prop} (h:BQ true H):ZvC σ H BQ:=h
def Wk (J:It) (xs:List V) (H1:Hp):Prop:=∀H',Same H1 H'→(∀i,i < xs.length→J.go i H'∧∀x H2,J.yld i H' x H2→H2=H'∧xs[i]?=some x)∧J.stop xs.length H'
theorem Zj5 (lo:Int) (n:Nat) (H:Hp):Wk (Itr lo n) ((List.range n).map fun i:Nat=>V.int (lo+(i:Int))) H:=fun H' _=>by
 refine⟨fun i hi=>?_,?_⟩
 ·rw[List.length_map,List.length_range]at hi
  refine⟨hi,fun x H2 y=>?_⟩;obtain⟨e,y⟩:=y;refine⟨e,?_⟩;rw[List.getElem?_map,List.getElem?_range hi,y];rfl
 ·rw[List.length_map,List.length_range]
  exact Nat.le_refl n
theorem ZlN {a:Addr} {xs:List V} (h:SqL K H a xs):Wk (Itl K a) xs H:=fun H' s=>by
 have h':=s.seq h;refine⟨fun i hi=>⟨⟨xs,xs[i],h',by simp[hi]⟩,fun x H2 y=>?_⟩,⟨xs,h',Nat.le_refl _⟩⟩;obtain⟨e,y⟩:=y;exact⟨e,y xs h'⟩
theorem ZfB {J:It} {xs:List V} (Pv:Nat→List V→Prop) (hw:Wk J xs H) (hz:xs.length≤1000000) (h0:Pv 0 [])
  (hs:∀(i:Nat) (x:V) (ys:List V) (acc:Addr) (H':Hp),xs[i]?=some x→Same H H'→H acc=none→H' acc=some (.lst ys)→Pv i ys→ys.length≤i→
   ∀R:Bool→Hp→Prop,(∀b H2,Same H' H2→(b=false→Pv (i+1) ys)→(b=true→∀R2:V→Hp→Prop,(∀y H3,Same H2 H3→Pv (i+1) (ys++[y])→R2 y H3)→te (some x::subS σ ix) H2 R2)→R b H2)→tc (some x::subS σ ix) H' R)
  (hd:∀(acc:Addr) (ys:List V) (H':Hp),H acc=none→Same H H'→H' acc=some (.lst ys)→Pv xs.length ys→Q (.ref acc) H'):Zih J ix tc te σ Q H:=by
 intro acc hacc
 have sU:∀{H2:Hp} (o:HO),Same H H2→Same H (upd H2 acc o):=fun o s b u e=>by rw[Zal (Zai e hacc)]; exact s b u e
 refine⟨fun i m ys H'=>m=xs.length - i∧i≤xs.length∧Same H H'∧H' acc=some (.lst ys)∧Pv i ys∧ys.length≤i,⟨xs.length,by simp,Nat.zero_le _,Zbn hacc _,Zak,h0,Nat.le_refl _⟩,?_⟩;rintro i m ys H' ⟨rfl,hi,sm,ea,pv,hy⟩
 by_cases hlt:i < xs.length
 ·obtain⟨go,yl⟩:=(hw H' sm).1 i hlt
  refine .inr ⟨go,fun x H2 y=>?_⟩;obtain⟨rfl,hx⟩:=yl x H2 y;refine hs i x ys acc _ hx sm hacc ea pv hy _ fun b H3 s3 pf pt=>?_
  cases b with
  | false=>
   rw[if_neg Bool.false_ne_true];exact⟨xs.length - (i+1),by omega,rfl,hlt,sm.trans s3,s3 _ _ ea,pf rfl,Nat.le_succ_of_le hy⟩
  | true=>
   rw[if_pos rfl];refine pt rfl _ fun y H4 s4 py=>⟨s4 _ _ (s3 _ _ ea),Zmz (by omega),xs.length - (i+1),by omega,rfl,hlt,sU _ (sm.trans (s3.trans s4)),Zak,py,?_⟩;rw[List.length_append,List.length_singleton];omega
 ·have e:i=xs.length:=by omega
  subst e;exact .inl ⟨(hw H' sm).2,hd acc ys H' hacc sm ea pv⟩
end
section
variable {X:Cx} {K:PySem.W.Frag} {a o:Expr} {ta:TE} {pos:Pos}
theorem Zjy (hK:X.K=K):IxR X (rIx K):=by subst hK; exact Zav
theorem Zph (hK:X.K=K) (ha:PE X a ta) (he:∀whole,isTrue a X.env whole=(do let v ←whole; standAt a.pos; holding [v] (truthy v))):PT X a (fun σ H Q=>ta σ H fun x H'=>∃k,TruV K x H' k∧Q k H'):=by subst hK; exact Zay ha he
end
end L2
namespace EM
theorem ZtI (x y:Nat):x - (x &&& y)=(x &&& y) ^^^ x:=by
 have h:=Zmn (x+1) (x &&& y) x (by have:=Nat.and_le_left (n:=x) (m:=y); omega)
 have e1:(x &&& y) ||| x=x:=by
  apply Nat.eq_of_testBit_eq; intro i; rw[Nat.testBit_or,Nat.testBit_and]; cases x.testBit i <;> simp
 have e2:(x &&& y) &&& x=x &&& y:=by
  apply Nat.eq_of_testBit_eq; intro i; rw[Nat.testBit_and,Nat.testBit_and]; cases x.testBit i <;> simp
 rw[e1,e2]at h;omega
theorem ZaA (x y i:Nat):(x - (x &&& y)).testBit i=(x.testBit i && !y.testBit i):=by
 rw[ZtI,Nat.testBit_xor,Nat.testBit_and]
 cases x.testBit i <;> cases y.testBit i <;> rfl
abbrev Bar:=Nat×Nat
def Bar.good (b:Bar):Prop:=b.1 < 64∧b.2 &&& b.1=b.2
def lies (s:Nat) (b:Bar):Bool:=(List.range 6).all fun k=>!(b.1.testBit k && (b.2.testBit k != s.testBit k))
theorem Zhf {s:Nat} {b:Bar}:lies s b=true ↔ ∀k,k < 6→b.1.testBit k=true→b.2.testBit k=s.testBit k:=by
 unfold lies;rw[List.all_eq_true]
 constructor
 ·intro h k hk hb
  have:=h k (List.mem_range.mpr hk);rw[hb]at this
  simpa using this
 ·intro h k hk
  cases hb:b.1.testBit k with
  | false=>rfl
  | true=>
   have:=h k (List.mem_range.mp hk) hb;simp[this]
theorem ZjF {s:Nat} {b:Bar} (g:b.good):decide (s &&& b.1=b.2)=lies s b:=by
 obtain⟨g1,g2⟩:=g;have hi:∀k,6≤k→b.1.testBit k=false:=fun k hk=>Nat.testBit_lt_two_pow (Nat.lt_of_lt_of_le g1 (Nat.pow_le_pow_right (by decide) hk:2 ^ 6≤2 ^ k))
 have sub:∀k,b.2.testBit k=true→b.1.testBit k=true:=fun k h=>by
  rw[←g2,Nat.testBit_and]at h;simp at h; exact h.2
 rw[Bool.eq_iff_iff,decide_eq_true_iff,Zhf]
 constructor
 ·intro h k _ hb
  rw[←h,Nat.testBit_and,hb,Bool.and_true]
 ·intro h
  apply Nat.eq_of_testBit_eq;intro k;rw[Nat.testBit_and]
  cases hb:b.1.testBit k with
  | false=>
   rw[Bool.and_false]
   cases hl:b.2.testBit k with
   | false=>rfl
   | true=>rw[sub k hl]at hb; cases hb
  | true=>
   rw[Bool.and_true]
   have hk:k < 6:=by
    by_cases hk:k < 6
    ·exact hk
    ·rw[hi k (by omega)]at hb; cases hb
   exact(h k hk hb).symm
def Zaq (n:Nat) (b:Bar):Nat:=bits (fun s=>lies s b) n
theorem Zfg {x m k:Nat} (h:x < 2 ^ m) (hk:m≤k):x.testBit k=false:=Nat.testBit_lt_two_pow (Nat.lt_of_lt_of_le h (Nat.pow_le_pow_right (by decide) hk))
def clr (x k:Nat):Nat:=x - (x &&& 2 ^ k)
theorem Zid (x k i:Nat):(clr x k).testBit i=(x.testBit i && !decide (k=i)):=by
 unfold clr;rw[ZaA,Nat.testBit_two_pow]
def Bar.wo (b:Bar) (k:Nat):Bar:=(clr b.1 k,clr b.2 k)
theorem Zhv (p:Nat→Bool) (i:Nat):(List.range (i+1)).filter p=(List.range i).filter p++(if p i=true then [i] else []):=by
 rw[List.range_succ,List.filter_append,List.filter_cons,List.filter_nil]
def subB (b c:Bar):Bool:=(List.range 6).all fun k=>!c.1.testBit k || (b.1.testBit k && (b.2.testBit k == c.2.testBit k))
theorem Zj3 {b c:Bar}:subB b c=true ↔ ∀k,k < 6→c.1.testBit k=true→b.1.testBit k=true∧b.2.testBit k=c.2.testBit k:=by
 unfold subB;rw[List.all_eq_true]
 constructor
 ·intro h k hk hc
  have:=h k (List.mem_range.mpr hk);rw[hc]at this
  simpa using this
 ·intro h k hk
  cases hc:c.1.testBit k with
  | false=>rfl
  | true=>
   have:=h k (List.mem_range.mp hk) hc;simp[this.1,this.2]
theorem Zjr {b:Bar} (g:b.good) {k:Nat} (h:b.1.testBit k=false):b.2.testBit k=false:=by
 have:=g.2
 cases e:b.2.testBit k with
 | false=>rfl
 | true=>rw[←this,Nat.testBit_and,h,Bool.and_false]at e; cases e
theorem Zhz {b:Bar} (g:b.good) {k:Nat} (h:b.1.testBit k=true):k < 6:=by
 by_cases hk:k < 6
 ·exact hk
 ·rw[Zfg (m:=6) g.1 (by omega)]at h; cases h
end EM
namespace EM
open PySem PySem.W PyProof.Rows
section
variable {cmp:Nat→Nat→(Bool→Shared→Prop)→Shared→Prop} {Ok:Shared→Prop} {n:Nat} {lt:Nat→Nat→Bool} {R:Nat→Nat→Prop} {α β:Type}
structure Ga (n:Nat) (p:Array Nat):Prop where
 sz:p.size=n
 pm:p.Perm (List.toArray (List.range n))
theorem Ga.lo {p:Array Nat} (h:Ga n p) (h0:0 < n) (k:Nat):p.getD k 0 < n:=by
 rw[Array.getD_eq_getD_getElem?]
 cases e:p[k]? with
 | none=>exact h0
 | some v=>
  have hm:v∈p:=Array.mem_of_getElem? e;have:v∈(List.range n).toArray:=h.pm.mem_iff.mp hm
  simpa using this
theorem Zgf {p:Array Nat} {i j:Nat} (hj:j≤p.size) (hij:i≤j) (k:Nat):(kas_rev p i j).getD k 0=if i≤k∧k < j then p.getD (i+j - 1 - k) 0 else p.getD k 0:=by
 unfold kas_rev;rw[Array.getD_eq_getD_getElem?,getElem?_mirror hj _ (by omega),Array.getD_eq_getD_getElem?,Array.getD_eq_getD_getElem?]
 by_cases h1:(i≤k∧k < i+(j - i) / 2)∨(j - (j - i) / 2≤k∧k < j)
 ·rw[if_pos h1,if_pos (by omega)]
 ·rw[if_neg h1]
  by_cases h2:i≤k∧k < j
  ·rw[if_pos h2]
   have:i+j - 1 - k=k:=by omega
   rw[this]
  ·rw[if_neg h2]
theorem ZnZ {p:Array Nat} {k l:Nat} (hk:k < p.size) (hl:l≤k) (i:Nat):(bubble p k (k - l)).getD i 0=if i=l then p.getD k 0 else if l < i∧i≤k then p.getD (i - 1) 0 else p.getD i 0:=by
 rw[Array.getD_eq_getD_getElem?,getElem?_bubble hk _ (by omega),Array.getD_eq_getD_getElem?,Array.getD_eq_getD_getElem?,Array.getD_eq_getD_getElem?]
 have e:k - (k - l)=l:=by omega
 rw[e]
 split
 ·rfl
 ·split <;> rfl
theorem Ga.rev {p:Array Nat} (h:Ga n p) (i j:Nat):Ga n (kas_rev p i j):=⟨(mirror_size _ _ _ _).trans h.sz,(mirror_perm _ _ _ _).trans h.pm⟩
theorem Ga.bub {p:Array Nat} (h:Ga n p) (k d:Nat):Ga n (bubble p k d):=⟨(bubble_size _ _ _).trans h.sz,(bubble_perm _ _ _).trans h.pm⟩
end
end EM
namespace L2
open PySem PySem.Spec PyProof.Rows
section
variable {prog:Program} {w:World} {A:Around} {E:Value→Shared→Prop} {s:Shared}
theorem ZkX (ws:List Value):((ws.toArray.zip ws.toArray).map fun x=>x.2)=ws.toArray:=by
 apply Array.ext';rw[Array.toList_map,Array.toList_zip];exact List.map_snd_zip (Nat.le_refl _)
theorem Zro {a:Addr} {ws:List Value} {k:Nat} {Pq:PySem.Fin→Shared→Prop} (ho:s.heap.get? a=some (seqObj "list" ws.toArray k)) (few:ws.length < 2)
  (h:Pq (.done (.ret .none)) { s with heap:=sortedHeap s.heap a ws ws.toArray }):wpAny (model prog w) A (Builtin.«list.sort» ⟨[.ref a],[]⟩) Pq E s:=by
 have sm:ws.toArray.size < 2:=by rw[List.size_toArray]; exact few
 have fit:ws.toArray.size≤sizeLine:=Nat.le_trans (Nat.le_of_lt sm) (by decide);have ha:=Heap.lt_size ho;rw[list_sort_plain];refine wpAny_bind (listItems_at ho rfl (wpAny_bind (listUpdate_at ho rfl ?_ fit (Nat.zero_le _))));obtain⟨c1,hc1⟩ : ∃c,(s.heap.update a (Obj.mapSeq fun _=>#[])).get? a=some (seqObj "list" #[] c):=⟨_,get?_update_seq ho _⟩;refine wpAny_bind (seqEpoch_at hc1 rfl (wpAny_bind (wpAny_newTuple ?_ (by simpa using fit))));refine wpAny_bind (wpAny_newList ?_ (Nat.zero_le _));refine wpAny_holding ?_
 have hc2:(((s.heap.update a (Obj.mapSeq fun _=>#[])).push (seqObj "tuple" ws.toArray 0)).push (seqObj "list" #[] 0)).get? a=some (seqObj "list" #[] c1):=
  Heap.get?_push_of_some _ (Heap.get?_push_of_some _ hc1)
 show wpAny (model prog w) A _ Pq E { s with heap:=((s.heap.update a (Obj.mapSeq fun _=>#[])).push (seqObj "tuple" ws.toArray 0)).push (seqObj "list" #[] 0) }
 dsimp only
 rw[if_pos sm,if_pos sm];refine wpAny_bind (wpAny_pure ?_);rw[StateT.run_pure];refine wpAny_bind (wpAny_pure ?_)
 dsimp only
 have ez:(arrOf (SortSt.mk' general' (ws.toArray.zip ws.toArray) #[] 7 none)).map (·.2)=ws.toArray:=ZkX ws;rw[ez];refine wpAny_bind (seqEpoch_at hc2 rfl (wpAny_bind (listUpdate_at hc2 rfl ?_ (Nat.zero_le _) (Nat.le_succ_of_le fit))));simp only [bne_self_eq_false,Bool.false_eq_true,if_false];exact wpAny_pure h
theorem Znz {l:Addr} {ws:List Value} {Q:Value→Shared→Prop} (hl:s.heap.IsList l ws.toArray) (few:ws.length < 2)
  (h:Q (.ref (s.heap.objs.size+1)) { s with heap:=sortedAll s.heap ws ws.toArray }):wpAny (model prog w) A (call (.builtin "sorted") [.ref l]) Q E s:=by
 have fit:ws.length≤sizeLine:=Nat.le_trans (Nat.le_of_lt few) (by decide);refine Calls.call_function_entry kind_sorted plain_sorted entry_sorted (args_sorted1 _) ?_;unfold Builtin.«sorted»;refine wpAny_bind (m:=checkCount "sorted" 1 1 _) (wpAny_pure (wpAny_bind (collect_list hl ?_ (by rw[sizeLine_eq]; omega))));refine wpAny_bind (wpAny_newList ?_ fit)
 have z1:((s.heap.push (seqObj "list" #[] 0)).update s.heap.objs.size (Obj.mapSeq (· ++ ws.toArray))).objs.size=s.heap.objs.size+1:=by rw[Heap.size_update,size_push']
 have at1:(((s.heap.push (seqObj "list" #[] 0)).update s.heap.objs.size (Obj.mapSeq (· ++ ws.toArray))).push (seqObj "list" ws.toArray 0)).get? (s.heap.objs.size+1)=some (seqObj "list" ws.toArray 0):=by
  have:=Heap.get?_push_size ((s.heap.push (seqObj "list" #[] 0)).update s.heap.objs.size (Obj.mapSeq (· ++ ws.toArray))) (o:=seqObj "list" ws.toArray 0) rfl;rw[z1]at this;exact this
 show wpAny _ _ _ _ _ { s with heap:=((s.heap.push (seqObj "list" #[] 0)).update s.heap.objs.size (Obj.mapSeq (· ++ ws.toArray))).push (seqObj "list" ws.toArray 0) };rw[z1];refine wpAny_bind (wpAny_holding (wpAny_call_entry slot_list_sort ⟨_,at1,rfl⟩ entry_list_sort (Zro at1 few ⟨_,rfl,?_⟩) (args_list_sort _)));exact wpAny_pure ⟨_,rfl,h⟩
end
section
variable {X:Cx}
def ple (a b:Int×Int):Prop:=a.1 < b.1∨(a.1=b.1∧a.2≤b.2)
def Zes (H:Hp) (p:Addr) (k:Int×Int):Prop:=H p=some (.tup [.int k.1,.int k.2])
theorem Zk5:∀{ps:List Addr} {us:List Value},Vals (ps.map V.ref) us→us=ps.map Value.ref
 | [],_,r=>by cases r; rfl
 | p::ps,_,r=>by
  cases r with
  | cons r1 r2=>
   rw[Zk5 r2]
   cases r1
   rfl
theorem Zh1:∀ps:List Addr,Vals (ps.map V.ref) (ps.map Value.ref)
 | []=>.nil
 | p::ps=>.cons rfl (Zh1 ps)
theorem Zp5 {a b:Int} {us:List Value} (r:Vals [.int a,.int b] us):∃t u,us=[.int a t,.int b u]:=by
 cases r with
 | cons r1 r2=>
  cases r2 with
  | cons r3 r4=>
   cases r4
   obtain⟨t,rfl⟩:=r1;obtain⟨u,rfl⟩:=r3;exact⟨t,u,rfl⟩
theorem Zsc {a b c:Int×Int} (h:ple a b) (k:ple b c):ple a c:=by
 unfold ple at *;omega
def pltB (a b:Int×Int):Bool:=if a.1=b.1 then decide (a.2 < b.2) else decide (a.1 < b.1)
theorem Zq9 {a b:Int×Int} (h:pltB a b=true):ple a b:=by
 unfold pltB at h;unfold ple
 split at h
 ·have:=of_decide_eq_true h; omega
 ·have:=of_decide_eq_true h; omega
theorem Zts {a b:Int×Int} (h:pltB a b=false):ple b a:=by
 unfold pltB at h;unfold ple
 split at h
 ·have:=of_decide_eq_false h; omega
 ·have:=of_decide_eq_false h; omega
theorem Zfw {α:Type} (d:α) (l:List α) {ix:List Nat} (h:ix.Perm (List.range l.length)):(ix.map fun i=>l.getD i d).Perm l:=by
 have e:(List.range l.length).map (fun i=>l.getD i d)=l:=by
  apply List.ext_getElem
  ·simp
  ·intro i h1 h2
   simp[List.getD_eq_getElem?_getD,h2]
 have:=h.map fun i=>l.getD i d
 rwa [e]at this
theorem ZfJ {α β:Type} {F:α→β→Prop} {xs:List α} {ys:List β} (h:Paired F xs ys) (d:α) (e:β) {i:Nat} (hi:i < xs.length):F (xs.getD i d) (ys.getD i e):=by
 induction h generalizing i with
 | nil=>exact absurd hi (by simp)
 | cons r s ih=>
  cases i with
  | zero=>exact r
  | succ i=>simpa using ih (by simpa using hi)
theorem ZkN {α β:Type} {F:α→β→Prop} {xs:List α} {ys:List β} (h:Paired F xs ys) (d:α) (e:β):∀ix:List Nat,(∀i∈ix,i < xs.length)→Paired F (ix.map fun i=>xs.getD i d) (ix.map fun i=>ys.getD i e)
 | [],_=>.nil
 | i::r,hi=>.cons (ZfJ h d e (hi i List.mem_cons_self)) (ZkN h d e r fun j hj=>hi j (List.mem_cons_of_mem _ hj))
theorem Inv.tup_at {pins:List (Addr×Obj)} {σ:St} {H:Hp} {s:Shared} (I:Inv X pins σ H s) {p:Addr} {k:Int×Int} (h:Zes H p k):∃o t u c,s.heap.get? p=some o∧o.cls=.type "tuple"∧o.data=.seq #[.int k.1 t,.int k.2 u] c:=by
 obtain⟨_,its,r,o,e,hc,c,hd⟩:=I.hok p _ h;obtain⟨t,u,rfl⟩:=Zp5 r;exact⟨o,t,u,c,e,hc,hd⟩
end
end L2
namespace EM
open PySem PySem.W PyProof.Rows
def gal':Bool→Keyed→Array Keyed→Nat→Nat→Nat→StateT SortSt Sem (Option Nat):=sortPriv% PySem.Builtin.gallop
def mlo':Array Keyed→Array Keyed→StateT SortSt Sem (Array Keyed):=sortPriv% PySem.Builtin.mergeLo
def mhi':Array Keyed→Array Keyed→StateT SortSt Sem (Array Keyed):=sortPriv% PySem.Builtin.mergeHi
def bey' (l:Bool) (k:Keyed) (ar:Array Keyed) (b i:Nat):StateT SortSt Sem (Option Bool):=do
 let x ←elem' ar (b+i)
 if l then lt' x k else return (←lt' k x).map (!·)
def Zqv (l:Bool) (k:Keyed) (ar:Array Keyed) (b n:Nat) (u v:Nat):StateT SortSt Sem (Option Nat):=do
 let mut u:=u
 let mut v:=v
 for _ in [0:n] do
  if u ≥ v then break
  let m:=u+(v - u) / 2
  let some c ←bey' l k ar b m | return none
  if c then u:=m+1 else v:=m
 return some v
theorem Zue (l:Bool) (k:Keyed) (ar:Array Keyed) (b n h:Nat):gal' l k ar b n h=(do
  let mut s:=0
  let mut o:=1
  let some r ←bey' l k ar b h | return none
  if r then
   let M:=n - h
   for _ in [0:n] do
    if o ≥ M then break
    let some c ←bey' l k ar b (h+o) | return none
    if !c then break
    s:=o
    o:=2 * o+1
   Zqv l k ar b n (h+s+1) (h+min o M)
  else
   let M:=h+1
   for _ in [0:n] do
    if o ≥ M then break
    let some c ←bey' l k ar b (h - o) | return none
    if c then break
    s:=o
    o:=2 * o+1
   Zqv l k ar b n (h+1 - min o M) (h - s)):=by
 rfl
section
variable {prog:Program} {w:World} {A:Around} {E:Value→Shared→Prop} {κ:SortKind} {it:Array Keyed} {Ok:Shared→Prop} {N:Nat} {lt:Nat→Nat→Bool} {R:Nat→Nat→Prop} {α β:Type}
def Sq (prog:Program) (w:World) (A:Around) (E:Value→Shared→Prop) (Ok:Shared→Prop) {α:Type} (m:StateT SortSt Sem α) (st:SortSt) (Q:α→SortSt→Prop):Prop:=
 ∀(C:α→SortSt→Shared→Prop) s,Ok s→(∀a st' s',Ok s'→Q a st'→C a st' s')→kasC (model prog w) A E m C st s
theorem Sq.pure {a:α} {st:SortSt} {Q:α→SortSt→Prop} (h:Q a st):Sq prog w A E Ok (pure a) st Q:=fun C s o k=>kasC_pure (k a st s o h)
theorem Sq.bind {m:StateT SortSt Sem α} {f:α→StateT SortSt Sem β} {st:SortSt} {P1:α→SortSt→Prop} {Q:β→SortSt→Prop} (h:Sq prog w A E Ok m st P1) (h2:∀a st',P1 a st'→Sq prog w A E Ok (f a) st' Q):Sq prog w A E Ok (m >>= f) st Q:=fun C s o k=>
 kasC_bind (h _ s o fun a st' s' o' p=>h2 a st' p C s' o' k)
theorem Sq.get {st:SortSt} {Q:SortSt→SortSt→Prop} (h:Q st st):Sq prog w A E Ok (MonadState.get:StateT SortSt Sem SortSt) st Q:=fun C s o k=>kasC_get (k _ _ s o h)
theorem Sq.modify {f:SortSt→SortSt} {st:SortSt} {Q:PUnit→SortSt→Prop} (h:Q ⟨⟩ (f st)):Sq prog w A E Ok (_root_.modify f:StateT SortSt Sem PUnit) st Q:=fun C s o k=>kasC_modify (k _ _ s o h)
theorem Sq.rule {x:String} {st:SortSt} {Q:Unit→SortSt→Prop} (h:Q () st):Sq prog w A E Ok (liftM (PySem.rule x):StateT SortSt Sem Unit) st Q:=fun C s o k=>kasC_lift (wpAny_rule (k _ _ s o h))
theorem Sq.list {f:Nat→β→StateT SortSt Sem (ForInStep β)} {Q:β→SortSt→Prop} (I:Nat→β→SortSt→Prop) (m:Nat) (hs:∀i x c st,i < m→I i c st→Sq prog w A E Ok (f x c) st (fun r st'=>match r with | .done c'=>Q c' st' | .yield c'=>I (i+1) c' st')) (he:∀c st,I m c st→Q c st):∀(l:List Nat) (i:Nat) (c:β) (st:SortSt),i+l.length=m→I i c st→Sq prog w A E Ok (forIn l c f) st Q
 | [],i,c,st,hl,h=>by
  have e:i=m:=by simpa using hl
  subst e;exact fun C s o k=>kasC_nil (k _ _ s o (he c st h))
 | x::l,i,c,st,hl,h=>by
  rw[List.length_cons]at hl;refine fun C s o k=>kasC_cons (hs i x c st (by omega) h _ s o fun r st' s' o' p=>?_)
  cases r with
  | done c'=>exact k _ _ s' o' p
  | yield c'=>exact Sq.list I m hs he l (i+1) c' st' (by omega) p C s' o' k
theorem Sq.range {a b:Nat} {c:β} {f:Nat→β→StateT SortSt Sem (ForInStep β)} {st:SortSt} {Q:β→SortSt→Prop} (I:Nat→β→SortSt→Prop) (h0:I 0 c st) (hs:∀i x c st,i < b - a→I i c st→Sq prog w A E Ok (f x c) st (fun r st'=>match r with | .done c'=>Q c' st' | .yield c'=>I (i+1) c' st')) (he:∀c st,I (b - a) c st→Q c st):Sq prog w A E Ok (forIn [a:b] c f) st Q:=fun C s o k=>
 kasC_range (Sq.list I (b - a) hs he _ 0 c st (by simp) h0 C s o k)
def stt (κ:SortKind) (it:Array Keyed) (l:List Nat) (pd:Array (Nat×Nat×Nat)) (g:Nat):SortSt:=SortSt.mk' κ (l.map (kas_item it)).toArray pd g none
structure CmN (prog:Program) (w:World) (A:Around) (κ:SortKind) (it:Array Keyed) (Ok:Shared→Prop) (N:Nat) (lt:Nat→Nat→Bool) (R:Nat→Nat→Prop):Prop where
 ask:∀i j,i < N→j < N→∀(C:Bool→Shared→Prop) s,Ok s→(∀s',Ok s'→C (lt i j) s')→kas_cmp prog w A κ it i j C s
 yes:∀i j,lt i j=true→R i j
 no:∀i j,lt i j=false→R j i
 tr:∀i j k,R i j→R j k→R i k
theorem Sq.ask {i j:Nat} {l:List Nat} {pd:Array (Nat×Nat×Nat)} {g:Nat} {Q:Option Bool→SortSt→Prop} (M:CmN prog w A κ it Ok N lt R) (hi:i < N) (hj:j < N) (h:Q (some (lt i j)) (stt κ it l pd g)):Sq prog w A E Ok (lt' (kas_item it i) (kas_item it j)) (stt κ it l pd g) Q:=fun C s o k=>by
 rw[lt'_eq];refine kasC_bind (kasC_get ?_);refine kasC_bind (kasC_lift (wpAny_attempt (wpAny_mono (M.ask i j hi hj _ s o fun s' o'=>?_) (fun _ _ q=>q) fun _ _ hF=>hF.elim)));exact kasC_pure (k _ _ s' o' h)
theorem Sq.elem {ar:List Nat} {i:Nat} {x:Nat} {st:SortSt} {Q:Keyed→SortSt→Prop} (hx:ar[i]?=some x) (h:Q (kas_item it x) st):Sq prog w A E Ok (elem' (ar.map (kas_item it)).toArray i) st Q:=by
 rw[elem'_eq]
 have e:(ar.map (kas_item it)).toArray[i]?=some (kas_item it x):=by simp[hx]
 rw[e];exact Sq.pure h
def fB (lt:Nat→Nat→Bool) (l:Bool) (k x:Nat):Bool:=if l then lt x k else !(lt k x)
theorem Sq.bey {l:Bool} {k x b i:Nat} {ar:List Nat} {li:List Nat} {pd:Array (Nat×Nat×Nat)} {g:Nat} {Q:Option Bool→SortSt→Prop} (M:CmN prog w A κ it Ok N lt R) (hk:k < N) (hx:ar[b+i]?=some x) (hxn:x < N) (h:Q (some (fB lt l k x)) (stt κ it li pd g)):Sq prog w A E Ok (bey' l (kas_item it k) (ar.map (kas_item it)).toArray b i) (stt κ it li pd g) Q:=by
 unfold bey';refine Sq.bind (P1:=fun a st'=>a=kas_item it x∧st'=stt κ it li pd g) (Sq.elem hx ⟨rfl,rfl⟩) ?_;rintro a st' ⟨rfl,rfl⟩
 cases l with
 | true=>exact Sq.ask M hxn hk h
 | false=>
  rw[if_neg Bool.false_ne_true];refine Sq.bind (P1:=fun a st'=>a=some (lt k x)∧st'=stt κ it li pd g) (Sq.ask M hk hxn ⟨rfl,rfl⟩) ?_;rintro a st' ⟨rfl,rfl⟩;exact Sq.pure h
theorem Zog (M:CmN prog w A κ it Ok N lt R) {l:Bool} {k x:Nat} (h:fB lt l k x=true):R x k:=by
 unfold fB at h
 cases l with
 | true=>exact M.yes _ _ h
 | false=>exact M.no _ _ (by simpa using h)
theorem ZsJ (M:CmN prog w A κ it Ok N lt R) {l:Bool} {k x:Nat} (h:fB lt l k x=false):R k x:=by
 unfold fB at h
 cases l with
 | true=>exact M.no _ _ h
 | false=>exact M.yes _ _ (by simpa using h)
structure Gal (lt:Nat→Nat→Bool) (l:Bool) (k:Nat) (ar:List Nat) (b n u v:Nat):Prop where
 lo:u=0∨∃x,ar[b+(u - 1)]?=some x∧fB lt l k x=true
 hi:v=n∨∃x,ar[b+v]?=some x∧fB lt l k x=false
 le:u≤v
 vn:v≤n
theorem Sq.galR {l:Bool} {k b n u v:Nat} {ar:List Nat} {li:List Nat} {pd:Array (Nat×Nat×Nat)} {g:Nat} {Q:Option Nat→SortSt→Prop} (M:CmN prog w A κ it Ok N lt R) (hk:k < N) (ha:∀x∈ar,x < N) (hz:b+n≤ar.length) (hG:Gal lt l k ar b n u v) (h:∀v,Gal lt l k ar b n v v→Q (some v) (stt κ it li pd g)):Sq prog w A E Ok (Zqv l (kas_item it k) (ar.map (kas_item it)).toArray b n u v) (stt κ it li pd g) Q:=by
 unfold Zqv;refine Sq.bind (P1:=fun a st'=>∃v,a=(none,v,v)∧st'=stt κ it li pd g∧Gal lt l k ar b n v v) ?_ ?_
 ·refine Sq.range (fun i c st'=>∃u v,c=(none,u,v)∧st'=stt κ it li pd g∧Gal lt l k ar b n u v∧v - u≤n - i) ⟨u,v,rfl,rfl,hG,by have:=hG.vn; omega⟩ ?_ ?_
  ·rintro i x c st' hi ⟨u,v,rfl,rfl,G,hl⟩
   have g1:=G.le;have g2:=G.vn
   dsimp only
   by_cases huv:u ≥ v
   ·rw[if_pos huv]
    have:u=v:=by omega
    subst this;exact Sq.pure ⟨u,rfl,rfl,G⟩
   ·rw[if_neg huv]
    obtain⟨y,hy⟩ : ∃y,ar[b+(u+(v - u) / 2)]?=some y:=⟨_,List.getElem?_eq_getElem (by omega)⟩;have hyn:=ha y (List.mem_of_getElem? hy);refine Sq.bind (P1:=fun a st'=>a=some (fB lt l k y)∧st'=stt κ it li pd g) (Sq.bey M hk hy hyn ⟨rfl,rfl⟩) ?_;rintro a st' ⟨rfl,rfl⟩
    dsimp only
    cases hf:fB lt l k y with
    | true=>
     rw[if_pos rfl];exact Sq.pure ⟨_,_,rfl,rfl,⟨.inr ⟨y,by rw[Nat.add_sub_cancel]; exact hy,hf⟩,G.hi,by omega,G.vn⟩,by omega⟩
    | false=>
     rw[if_neg Bool.false_ne_true];exact Sq.pure ⟨_,_,rfl,rfl,⟨G.lo,.inr ⟨y,hy,hf⟩,by omega,by omega⟩,by omega⟩
  ·rintro c st' ⟨u,v,rfl,rfl,G,hl⟩
   have g1:=G.le
   have:u=v:=by omega
   subst this;exact⟨u,rfl,rfl,G⟩
 ·rintro a st' ⟨v,rfl,rfl,G⟩
  exact Sq.pure (h v G)
theorem Sq.gal {l:Bool} {k b n hn:Nat} {ar:List Nat} {li:List Nat} {pd:Array (Nat×Nat×Nat)} {g:Nat} {Q:Option Nat→SortSt→Prop} (M:CmN prog w A κ it Ok N lt R) (hk:k < N) (ha:∀x∈ar,x < N) (hz:b+n≤ar.length) (hh:hn < n) (h:∀v,Gal lt l k ar b n v v→Q (some v) (stt κ it li pd g)):Sq prog w A E Ok (gal' l (kas_item it k) (ar.map (kas_item it)).toArray b n hn) (stt κ it li pd g) Q:=by
 rw[Zue];obtain⟨y,hy⟩ : ∃y,ar[b+hn]?=some y:=⟨_,List.getElem?_eq_getElem (by omega)⟩;have hyn:=ha y (List.mem_of_getElem? hy);refine Sq.bind (P1:=fun a st'=>a=some (fB lt l k y)∧st'=stt κ it li pd g) (Sq.bey M hk hy hyn ⟨rfl,rfl⟩) ?_;rintro a st' ⟨rfl,rfl⟩
 dsimp only
 cases hf:fB lt l k y with
 | true=>
  rw[if_pos rfl];refine Sq.bind (P1:=fun a st'=>∃s o,a=(none,s,o)∧st'=stt κ it li pd g∧Gal lt l k ar b n (hn+s+1) (hn+min o (n - hn))) ?_ ?_
  ·refine Sq.range (fun i c st'=>∃s o,c=(none,s,o)∧st'=stt κ it li pd g∧s < o∧s < n - hn∧i < o∧∃x,ar[b+(hn+s)]?=some x∧fB lt l k x=true) ⟨0,1,rfl,rfl,by omega,by omega,by omega,y,hy,hf⟩ ?_ ?_
   ·rintro i x c st' hi ⟨s,o,rfl,rfl,h1,h2,h3,z,hz1,hz2⟩
    dsimp only
    by_cases ho:o ≥ n - hn
    ·rw[if_pos ho]
     exact Sq.pure ⟨s,o,rfl,rfl,.inr ⟨z,by rw[Nat.add_sub_cancel]; exact hz1,hz2⟩,.inl (by omega),by omega,by omega⟩
    ·rw[if_neg ho]
     obtain⟨q,hq⟩ : ∃q,ar[b+(hn+o)]?=some q:=⟨_,List.getElem?_eq_getElem (by omega)⟩;refine Sq.bind (P1:=fun a st'=>a=some (fB lt l k q)∧st'=stt κ it li pd g) (Sq.bey M hk hq (ha q (List.mem_of_getElem? hq)) ⟨rfl,rfl⟩) ?_;rintro a st' ⟨rfl,rfl⟩
     dsimp only
     cases hf2:fB lt l k q with
     | true=>
      rw[if_neg (by decide)];exact Sq.pure ⟨o,2 * o+1,rfl,rfl,by omega,by omega,by omega,q,hq,hf2⟩
     | false=>
      rw[if_pos (by decide)];exact Sq.pure ⟨s,o,rfl,rfl,.inr ⟨z,by rw[Nat.add_sub_cancel]; exact hz1,hz2⟩,.inr ⟨q,by rw[Nat.min_eq_left (by omega)]; exact hq,hf2⟩,by omega,by omega⟩
   ·rintro c st' ⟨s,o,rfl,rfl,h1,h2,h3,z,hz1,hz2⟩
    exact⟨s,o,rfl,rfl,.inr ⟨z,by rw[Nat.add_sub_cancel]; exact hz1,hz2⟩,.inl (by omega),by omega,by omega⟩
  ·rintro a st' ⟨s,o,rfl,rfl,G⟩
   exact Sq.galR M hk ha hz G h
 | false=>
  rw[if_neg Bool.false_ne_true];refine Sq.bind (P1:=fun a st'=>∃s o,a=(none,s,o)∧st'=stt κ it li pd g∧Gal lt l k ar b n (hn+1 - min o (hn+1)) (hn - s)) ?_ ?_
  ·refine Sq.range (fun i c st'=>∃s o,c=(none,s,o)∧st'=stt κ it li pd g∧s < o∧s < hn+1∧i < o∧∃x,ar[b+(hn - s)]?=some x∧fB lt l k x=false) ⟨0,1,rfl,rfl,by omega,by omega,by omega,y,hy,hf⟩ ?_ ?_
   ·rintro i x c st' hi ⟨s,o,rfl,rfl,h1,h2,h3,z,hz1,hz2⟩
    dsimp only
    by_cases ho:o ≥ hn+1
    ·rw[if_pos ho]
     exact Sq.pure ⟨s,o,rfl,rfl,.inl (by omega),.inr ⟨z,hz1,hz2⟩,by omega,by omega⟩
    ·rw[if_neg ho]
     obtain⟨q,hq⟩ : ∃q,ar[b+(hn - o)]?=some q:=⟨_,List.getElem?_eq_getElem (by omega)⟩;refine Sq.bind (P1:=fun a st'=>a=some (fB lt l k q)∧st'=stt κ it li pd g) (Sq.bey M hk hq (ha q (List.mem_of_getElem? hq)) ⟨rfl,rfl⟩) ?_;rintro a st' ⟨rfl,rfl⟩
     dsimp only
     cases hf2:fB lt l k q with
     | true=>
      rw[if_pos rfl];exact Sq.pure ⟨s,o,rfl,rfl,.inr ⟨q,by rw[Nat.min_eq_left (by omega),show hn+1 - o - 1=hn - o by omega]; exact hq,hf2⟩,.inr ⟨z,hz1,hz2⟩,by omega,by omega⟩
     | false=>
      rw[if_neg Bool.false_ne_true];exact Sq.pure ⟨o,2 * o+1,rfl,rfl,by omega,by omega,by omega,q,hq,hf2⟩
   ·rintro c st' ⟨s,o,rfl,rfl,h1,h2,h3,z,hz1,hz2⟩
    exact⟨s,o,rfl,rfl,.inl (by omega),.inr ⟨z,hz1,hz2⟩,by omega,by omega⟩
  ·rintro a st' ⟨s,o,rfl,rfl,G⟩
   exact Sq.galR M hk ha hz G h
end
end EM
namespace EM
open PySem PySem.W PyProof.Rows
abbrev ZkV (g:Nat) (s:SortSt):SortSt:=SortSt.mk' (kindOf s) (arrOf s) (pendingOf s) g (failedOf s)
abbrev T7:=Option (Array Keyed)×Array Keyed×Nat×Nat×Nat×Nat×Nat
def dN (a b o:Array Keyed) (i j:Nat):Array Keyed:=o++a.extract i a.size++b.extract j b.size
def loC (a b o:Array Keyed) (i j G p q:Nat):StateT SortSt Sem (ForInStep T7):=do
 let x ←elem' a i
 if i+1+1 == a.size then return .done (some (dN b a (o.push x) j (i+1)),o.push x,i+1,j,G,p,q)
 if p < 7 && q < 7 then return .done (none,o.push x,i+1,j,G,p,q)
 return .yield (none,o.push x,i+1,j,G,p,q)
def loB (a b o:Array Keyed) (i j G p q:Nat):StateT SortSt Sem (ForInStep T7):=do
 let y ←elem' b j
 if j+1 == b.size then return .done (some (dN a b (o.push y) i (j+1)),o.push y,i,j+1,G,p,q)
 let some k ←gal' true (←elem' a i) b (j+1) (b.size - (j+1)) 0 | return .done (some (dN a b (o.push y) i (j+1)),o.push y,i,j+1,G,p,q)
 if k > 0 then
  if j+1+k == b.size then return .done (some (dN a b (o.push y++b.extract (j+1) (j+1+k)) i (j+1+k)),o.push y++b.extract (j+1) (j+1+k),i,j+1+k,G,p,k)
  loC a b (o.push y++b.extract (j+1) (j+1+k)) i (j+1+k) G p k
 else loC a b (o.push y) i (j+1) G p k
def loA (a b o:Array Keyed) (i j G p q:Nat):StateT SortSt Sem (ForInStep T7):=do
 modify (ZkV G)
 let some k ←gal' false (←elem' b j) a i (a.size - i) 0 | return .done (some (dN a b o i j),o,i,j,G,p,q)
 if k > 0 then
  if i+k+1 == a.size then return .done (some (dN b a (o++a.extract i (i+k)) j (i+k)),o++a.extract i (i+k),i+k,j,G,k,q)
  if i+k == a.size then return .done (some (dN a b (o++a.extract i (i+k)) (i+k) j),o++a.extract i (i+k),i+k,j,G,k,q)
  loB a b (o++a.extract i (i+k)) (i+k) j G k q
 else loB a b o i j G k q
abbrev T6:=Option (Array Keyed)×Array Keyed×Nat×Nat×Nat×Nat
def loS (a b o:Array Keyed) (i j p q G:Nat):StateT SortSt Sem (ForInStep T6):=do
 let some c ←lt' (←elem' b j) (←elem' a i) | return .done (some (dN a b o i j),o,i,j,p,q)
 if c then
  let y ←elem' b j
  if j+1 == b.size then return .done (some (dN a b (o.push y) i (j+1)),o.push y,i,j+1,0,q+1)
  if q+1 ≥ G then return .done (none,o.push y,i,j+1,0,q+1)
  return .yield (none,o.push y,i,j+1,0,q+1)
 else
  let x ←elem' a i
  if i+1+1 == a.size then return .done (some (dN b a (o.push x) j (i+1)),o.push x,i+1,j,p+1,0)
  if p+1 ≥ G then return .done (none,o.push x,i+1,j,p+1,0)
  return .yield (none,o.push x,i+1,j,p+1,0)
abbrev T5:=Option (Array Keyed)×Array Keyed×Nat×Nat×Nat
def loT (a b:Array Keyed) (T:Nat) (s:T5):StateT SortSt Sem (ForInStep T5):=do
 let t:T6 ←forIn [0:T] (none,s.2.1,s.2.2.1,s.2.2.2.1,0,0) fun _ t=>loS a b t.2.1 t.2.2.1 t.2.2.2.1 t.2.2.2.2.1 t.2.2.2.2.2 s.2.2.2.2
 match t.1 with
 | some r=>return .done (some r,t.2.1,t.2.2.1,t.2.2.2.1,s.2.2.2.2)
 | none=>
  PySem.rule "list.sort.gallop"
  let u:T7 ←forIn [0:T] (none,t.2.1,t.2.2.1,t.2.2.2.1,s.2.2.2.2+1,t.2.2.2.2.1,t.2.2.2.2.2) fun _ u=>
   if u.2.2.2.2.1 > 1 then loA a b u.2.1 u.2.2.1 u.2.2.2.1 (u.2.2.2.2.1 - 1) u.2.2.2.2.2.1 u.2.2.2.2.2.2 else loA a b u.2.1 u.2.2.1 u.2.2.2.1 u.2.2.2.2.1 u.2.2.2.2.2.1 u.2.2.2.2.2.2
  match u.1 with
  | some r=>return .done (some r,u.2.1,u.2.2.1,u.2.2.2.1,u.2.2.2.2.1)
  | none=>
   modify (ZkV (u.2.2.2.2.1+1))
   return .yield (none,u.2.1,u.2.2.1,u.2.2.2.1,u.2.2.2.2.1+1)
theorem Ztg (a b:Array Keyed):mlo' a b=(do
  PySem.rule "list.sort.merge-lo"
  let T:=a.size+b.size
  let mut o:Array Keyed:=#[←elem' b 0]
  let mut i:=0
  let mut j:=1
  if j == b.size then return dN a b o i j
  if i+1 == a.size then return dN b a o j i
  let mut G:=gallopOf (←get)
  for _ in [0:T] do
   let mut p:=0
   let mut q:=0
   for _ in [0:T] do
    let some c ←lt' (←elem' b j) (←elem' a i) | return dN a b o i j
    if c then
     o:=o.push (←elem' b j); j:=j+1; q:=q+1; p:=0
     if j == b.size then return dN a b o i j
     if q ≥ G then break
    else
     o:=o.push (←elem' a i); i:=i+1; p:=p+1; q:=0
     if i+1 == a.size then return dN b a o j i
     if p ≥ G then break
   PySem.rule "list.sort.gallop"
   G:=G+1
   for _ in [0:T] do
    if G > 1 then G:=G - 1
    modify (ZkV G)
    let some k ←gal' false (←elem' b j) a i (a.size - i) 0 | return dN a b o i j
    p:=k
    if k > 0 then
     o:=o++a.extract i (i+k); i:=i+k
     if i+1 == a.size then return dN b a o j i
     if i == a.size then return dN a b o i j
    o:=o.push (←elem' b j); j:=j+1
    if j == b.size then return dN a b o i j
    let some k ←gal' true (←elem' a i) b j (b.size - j) 0 | return dN a b o i j
    q:=k
    if k > 0 then
     o:=o++b.extract j (j+k); j:=j+k
     if j == b.size then return dN a b o i j
    o:=o.push (←elem' a i); i:=i+1
    if i+1 == a.size then return dN b a o j i
    if p < 7 && q < 7 then break
   G:=G+1
   modify (ZkV G)
  unsupported "internal:list.sort.merge-bound"):=rfl
theorem ZuN (a b:Array Keyed):mlo' a b=(do
  PySem.rule "list.sort.merge-lo"
  let y ←elem' b 0
  if 1 == b.size then return dN a b #[y] 0 1
  if 0+1 == a.size then return dN b a #[y] 1 0
  let st ←get
  let s:T5 ←forIn [0:a.size+b.size] (none,#[y],0,1,gallopOf st) fun _ s=>loT a b (a.size+b.size) s
  match s.1 with
  | some r=>return r
  | none=>unsupported "internal:list.sort.merge-bound"):=by
 rw[Ztg];unfold loT loA loB loC loS
 dsimp only
 congr 1
 funext _
 congr 1
 funext y
 congr 1
 congr 1
 congr 1
 funext st
 congr 1
 congr 1
 funext _ s
 congr 1
 funext t
 obtain⟨t1,t2,t3,t4,t5,t6⟩:=t
 cases t1 with
 | some r=>rfl
 | none=>
  dsimp only
  congr 1
  funext _
  congr 1
  congr 1
  funext u
  obtain⟨u1,u2⟩:=u
  cases u1 with
  | some r=>rfl
  | none=>rfl
 funext s
 obtain⟨s1,s2⟩:=s
 cases s1 with
 | some r=>rfl
 | none=>rfl
section
variable {prog:Program} {w:World} {A:Around} {E:Value→Shared→Prop} {κ:SortKind} {it:Array Keyed} {Ok:Shared→Prop} {N:Nat} {lt:Nat→Nat→Bool} {R:Nat→Nat→Prop} {α β:Type}
abbrev ar (it:Array Keyed) (l:List Nat):Array Keyed:=(l.map (kas_item it)).toArray
theorem Zez (l:List Nat) (x:Nat):(ar it l).push (kas_item it x)=ar it (l++[x]):=by simp[ar]
theorem Zhm (l r:List Nat):ar it l++ar it r=ar it (l++r):=by simp[ar]
theorem Zdr (l:List Nat):(ar it l).size=l.length:=by simp[ar]
theorem Zhn (l:List Nat) (i j:Nat):(ar it l).extract i j=ar it ((l.drop i).take (j - i)):=by
 unfold ar;rw[List.extract_toArray,List.extract_eq_take_drop,List.map_take,List.map_drop]
theorem ZnW (l:List Nat) (i:Nat):(ar it l).extract i l.length=ar it (l.drop i):=by
 rw[Zhn,List.take_of_length_le (by rw[List.length_drop]; exact Nat.le_refl _)]
theorem CmN.refl (M:CmN prog w A κ it Ok N lt R) (i:Nat):R i i:=by
 cases h:lt i i with
 | true=>exact M.yes _ _ h
 | false=>exact M.no _ _ h
theorem Zlj (M:CmN prog w A κ it Ok N lt R) {xs:List Nat} {h:Nat} (hp:xs.Pairwise R) (h0:xs[0]?=some h):∀x∈xs,R h x:=by
 cases xs with
 | nil=>cases h0
 | cons y r=>
  have e:y=h:=by simpa using h0
  subst e;intro x hx
  rcases List.mem_cons.mp hx with rfl | hx
  ·exact M.refl _
  ·exact(List.pairwise_cons.mp hp).1 x hx
theorem ZqN (M:CmN prog w A κ it Ok N lt R) {xs:List Nat} {m z:Nat} (hp:xs.Pairwise R) (h0:xs[m]?=some z):∀x∈xs.take (m+1),R x z:=by
 intro x hx;obtain⟨i,hi,e⟩:=List.getElem_of_mem hx;rw[List.length_take]at hi;rw[List.getElem_take]at e;obtain⟨hm,ez⟩:=List.getElem?_eq_some_iff.mp h0
 by_cases c:i=m
 ·subst c
  rw[←e,←ez];exact M.refl _
 ·have:=List.pairwise_iff_getElem.mp hp i m (by omega) hm (by omega)
  rw[e,ez]at this;exact this
structure MI (R:Nat→Nat→Prop) (xa xb lo:List Nat) (i j:Nat):Prop where
 pa:(lo++xa.drop i).Pairwise R
 pb:(lo++xb.drop j).Pairwise R
 pm:(lo++(xa.drop i++xb.drop j)).Perm (xa++xb)
theorem MI.swap {xa xb lo:List Nat} {i j:Nat} (h:MI R xa xb lo i j):MI R xb xa lo j i:=
 ⟨h.pb,h.pa,((List.Perm.append_left lo List.perm_append_comm).trans h.pm).trans List.perm_append_comm⟩
theorem MI.bulk {xa xb lo:List Nat} {i j k:Nat} (h:MI R xa xb lo i j) (c:∀x∈(xa.drop i).take k,∀y∈xb.drop j,R x y):MI R xa xb (lo++(xa.drop i).take k) (i+k) j:=by
 have e:xa.drop i=(xa.drop i).take k++xa.drop (i+k):=by rw[←List.drop_drop,List.take_append_drop]
 obtain⟨h1,h2,h3⟩:=h;rw[e]at h1 h3;refine⟨by rw[List.append_assoc]; exact h1,?_,?_⟩
 ·rw[List.append_assoc,List.pairwise_append]
  rw[List.pairwise_append]at h2 h1;obtain⟨a1,a2,a3⟩:=h1;obtain⟨b1,b2,b3⟩:=h2;rw[List.pairwise_append]at a2;refine⟨a1,List.pairwise_append.mpr ⟨a2.1,b2,c⟩,fun x hx y hy=>?_⟩
  rcases List.mem_append.mp hy with hy | hy
  ·exact a3 x hx y (List.mem_append_left _ hy)
  ·exact b3 x hx y hy
 ·rw[List.append_assoc,←List.append_assoc (List.take k _)]
  exact h3
theorem ZeD {xs:List Nat} {i x:Nat} (h:xs[i]?=some x):(xs.drop i)[0]?=some x∧(xs.drop i).take 1=[x]:=by
 have h0:(xs.drop i)[0]?=some x:=by rw[List.getElem?_drop]; exact h
 refine⟨h0,?_⟩
 cases e:xs.drop i with
 | nil=>rw[e]at h0; cases h0
 | cons y r=>
  rw[e]at h0
  have:y=x:=by simpa using h0
  rw[this];rfl
theorem MI.one (M:CmN prog w A κ it Ok N lt R) {xa xb lo:List Nat} {i j x:Nat} (h:MI R xa xb lo i j) (hx:xa[i]?=some x) (c:∀y∈xb.drop j,R x y):MI R xa xb (lo++[x]) (i+1) j:=by
 have:=h.bulk (k:=1) (fun z hz=>by rw[(ZeD hx).2]at hz; rw[List.mem_singleton.mp hz]; exact c);rw[(ZeD hx).2]at this;exact this
theorem MI.headB (M:CmN prog w A κ it Ok N lt R) {xa xb lo:List Nat} {i j x y:Nat} (h:MI R xa xb lo i j) (hy:xb[j]?=some y) (c:R x y):∀z∈xb.drop j,R x z:=fun z hz=>
 M.tr _ _ _ c (Zlj M (List.pairwise_append.mp h.pb).2.1 (ZeD hy).1 z hz)
theorem MI.gal (M:CmN prog w A κ it Ok N lt R) {l:Bool} {xa xb lo:List Nat} {i j y k:Nat} (h:MI R xa xb lo i j) (hy:xb[j]?=some y) (G:Gal lt l y xa i (xa.length - i) k k):MI R xa xb (lo++(xa.drop i).take k) (i+k) j∧∀z∈xa.drop (i+k),R y z:=by
 have sa:=(List.pairwise_append.mp h.pa).2.1;refine⟨h.bulk fun x hx=>?_,?_⟩
 ·rcases G.lo with e | ⟨z,hz,hf⟩
  ·rw[e]at hx
   simp at hx
  ·have hk:(xa.drop i)[k - 1]?=some z:=by rw[List.getElem?_drop]; exact hz
   cases k with
   | zero=>simp at hx
   | succ k=>
    have:=ZqN M sa hk x (by simpa using hx);exact h.headB M hy (M.tr _ _ _ this (Zog M hf))
 ·rcases G.hi with e | ⟨z,hz,hf⟩
  ·intro z hz
   rw[List.drop_of_length_le (by have:=G.vn; omega)]at hz
   cases hz
  ·intro q hq
   have s2:(xa.drop (i+k)).Pairwise R:=by rw[←List.drop_drop]; exact sa.sublist (List.drop_sublist _ _)
   exact M.tr _ _ _ (ZsJ M hf) (Zlj M s2 (ZeD hz).1 q hq)
def Mrg (R:Nat→Nat→Prop) (it:Array Keyed) (xa xb:List Nat) (o:Array Keyed):Prop:=∃lo,o=ar it lo∧lo.Pairwise R∧lo.Perm (xa++xb)
theorem MI.doneA {xa xb lo:List Nat} {i j:Nat} (h:MI R xa xb lo i j) (e:xb.length≤j):Mrg R it xa xb (ar it lo++ar it (xa.drop i)++ar it (xb.drop j)):=by
 have e0:xb.drop j=[]:=List.drop_of_length_le e;have pm:=h.pm;rw[e0,List.append_nil]at pm;refine⟨lo++xa.drop i,by rw[e0,Zhm]; simp[ar],h.pa,pm⟩
theorem MI.doneB {xa xb lo:List Nat} {i j:Nat} (h:MI R xa xb lo i j) (e:xa.length≤i):Mrg R it xa xb (ar it lo++ar it (xa.drop i)++ar it (xb.drop j)):=by
 have e0:xa.drop i=[]:=List.drop_of_length_le e;have pm:=h.pm;rw[e0,List.nil_append]at pm;refine⟨lo++xb.drop j,by rw[e0]; simp[ar],h.pb,pm⟩
theorem MI.last {xa xb lo:List Nat} {i j z:Nat} (h:MI R xa xb lo i j) (hz:xa[i]?=some z) (e:i+1=xa.length) (c:∀y∈xb,R y z):Mrg R it xa xb (ar it lo++ar it (xb.drop j)++ar it (xa.drop i)):=by
 have e0:xa.drop i=[z]:=by
  have:=(ZeD hz).2;rw[List.take_of_length_le (by rw[List.length_drop]; omega)]at this;exact this
 have pm:=h.pm;have pa:=h.pa;rw[e0]at pm pa;refine⟨lo++xb.drop j++[z],by rw[e0,Zhm,Zhm],?_,?_⟩
 ·rw[List.pairwise_append]
  refine⟨h.pb,List.pairwise_singleton _ _,fun x hx y hy=>?_⟩;rw[List.mem_singleton.mp hy]
  rcases List.mem_append.mp hx with hx | hx
  ·exact(List.pairwise_append.mp pa).2.2 x hx z (by simp)
  ·exact c x (List.mem_of_mem_drop hx)
 ·rw[List.append_assoc]
  exact(List.Perm.append_left lo List.perm_append_comm).trans pm
end
end EM
namespace EM
open PySem PySem.W PyProof.Rows
section
variable {prog:Program} {w:World} {A:Around} {E:Value→Shared→Prop} {κ:SortKind} {it:Array Keyed} {Ok:Shared→Prop} {N:Nat} {lt:Nat→Nat→Bool} {R:Nat→Nat→Prop} {α β:Type}
theorem Sq.elemB {l:List Nat} {i x:Nat} {f:Keyed→StateT SortSt Sem β} {st:SortSt} {Q:β→SortSt→Prop} (hx:l[i]?=some x) (h:Sq prog w A E Ok (f (kas_item it x)) st Q):Sq prog w A E Ok (elem' (ar it l) i >>= f) st Q:=
 Sq.bind (P1:=fun a st'=>a=kas_item it x∧st'=st) (Sq.elem hx ⟨rfl,rfl⟩) (by rintro _ _ ⟨rfl,rfl⟩; exact h)
theorem Sq.askB {i j:Nat} {li:List Nat} {pd:Array (Nat×Nat×Nat)} {g:Nat} {f:Option Bool→StateT SortSt Sem β} {Q:β→SortSt→Prop} (M:CmN prog w A κ it Ok N lt R) (hi:i < N) (hj:j < N) (h:Sq prog w A E Ok (f (some (lt i j))) (stt κ it li pd g) Q):Sq prog w A E Ok (lt' (kas_item it i) (kas_item it j) >>= f) (stt κ it li pd g) Q:=
 Sq.bind (P1:=fun a st'=>a=some (lt i j)∧st'=stt κ it li pd g) (Sq.ask M hi hj ⟨rfl,rfl⟩) (by rintro _ _ ⟨rfl,rfl⟩; exact h)
theorem Sq.galB {l:Bool} {k b n hn:Nat} {xs:List Nat} {li:List Nat} {pd:Array (Nat×Nat×Nat)} {g:Nat} {f:Option Nat→StateT SortSt Sem β} {Q:β→SortSt→Prop} (M:CmN prog w A κ it Ok N lt R) (hk:k < N) (ha:∀x∈xs,x < N) (hz:b+n≤xs.length) (hh:hn < n) (h:∀v,Gal lt l k xs b n v v→Sq prog w A E Ok (f (some v)) (stt κ it li pd g) Q):Sq prog w A E Ok (gal' l (kas_item it k) (ar it xs) b n hn >>= f) (stt κ it li pd g) Q:=
 Sq.bind (P1:=fun a st'=>∃v,a=some v∧st'=stt κ it li pd g∧Gal lt l k xs b n v v) (Sq.gal M hk ha hz hh fun v G=>⟨v,rfl,rfl,G⟩) (by rintro _ _ ⟨v,rfl,rfl,G⟩; exact h v G)
theorem Sq.ruleB {x:String} {f:Unit→StateT SortSt Sem β} {st:SortSt} {Q:β→SortSt→Prop} (h:Sq prog w A E Ok (f ()) st Q):Sq prog w A E Ok ((liftM (PySem.rule x):StateT SortSt Sem Unit) >>= f) st Q:=
 Sq.bind (P1:=fun a st'=>st'=st) (Sq.rule rfl) (by rintro _ _ rfl; exact h)
theorem Sq.getB {f:SortSt→StateT SortSt Sem β} {st:SortSt} {Q:β→SortSt→Prop} (h:Sq prog w A E Ok (f st) st Q):Sq prog w A E Ok ((MonadState.get:StateT SortSt Sem SortSt) >>= f) st Q:=
 Sq.bind (P1:=fun a st'=>a=st∧st'=st) (Sq.get ⟨rfl,rfl⟩) (by rintro _ _ ⟨rfl,rfl⟩; exact h)
theorem Sq.modB {u:SortSt→SortSt} {f:PUnit→StateT SortSt Sem β} {st:SortSt} {Q:β→SortSt→Prop} (h:Sq prog w A E Ok (f ⟨⟩) (u st) Q):Sq prog w A E Ok ((_root_.modify u:StateT SortSt Sem PUnit) >>= f) st Q:=
 Sq.bind (P1:=fun a st'=>st'=u st) (Sq.modify rfl) (by rintro _ _ rfl; exact h)
structure Go (R:Nat→Nat→Prop) (it:Array Keyed) (xa xb:List Nat) (m:Nat) (o:Array Keyed) (i j:Nat):Prop where
 ex:∃lo,o=ar it lo∧MI R xa xb lo i j
 ia:i+1 < xa.length
 jb:j < xb.length
 mm:m≤i+j
def Got (R:Nat→Nat→Prop) (it:Array Keyed) (xa xb:List Nat) (m:Nat) (r:Option (Array Keyed)) (o:Array Keyed) (i j:Nat):Prop:=(∃r',r=some r'∧Mrg R it xa xb r')∨(r=none∧Go R it xa xb m o i j)
theorem Zm1 (xa xb lo:List Nat) (i j:Nat):dN (ar it xa) (ar it xb) (ar it lo) i j=ar it lo++ar it (xa.drop i)++ar it (xb.drop j):=by
 unfold dN;rw[Zdr,Zdr,ZnW,ZnW]
structure Two (R:Nat→Nat→Prop) (N:Nat) (xa xb:List Nat):Prop where
 ha:∀x∈xa,x < N
 hb:∀x∈xb,x < N
 sa:xa.Pairwise R
 sb:xb.Pairwise R
 hd:∃x0 y0,xa[0]?=some x0∧xb[0]?=some y0∧R y0 x0
 la:∃z,xa[xa.length - 1]?=some z∧∀y∈xb,R y z
theorem Two.last {xa xb lo:List Nat} {i j:Nat} (D:Two R N xa xb) (h:MI R xa xb lo i j) (e:i+1=xa.length):Mrg R it xa xb (dN (ar it xb) (ar it xa) (ar it lo) j i):=by
 obtain⟨z,hz,c⟩:=D.la;rw[Zm1];exact h.last (by rw[←hz]; congr 1; omega) e c
theorem Zho {xs:List Nat} {i:Nat} (h:i < xs.length):∃x,xs[i]?=some x∧x∈xs:=⟨_,List.getElem?_eq_getElem h,List.getElem_mem h⟩
theorem Zuc (xs:List Nat) (i k:Nat):(ar it xs).extract i (i+k)=ar it ((xs.drop i).take k):=by rw[Zhn,Nat.add_sub_cancel_left]
theorem Sq.loC (M:CmN prog w A κ it Ok N lt R) {xa xb lo:List Nat} {i j G p q m:Nat} (D:Two R N xa xb) (I:MI R xa xb lo i j) (hi:i+1 < xa.length) (hj:j < xb.length) (hm:m≤i+j+1) (hc:∃x,xa[i]?=some x∧∀y∈xb.drop j,R x y) {st:SortSt} {Q:ForInStep T7→SortSt→Prop} (h:∀r o i' j' G' p' q',Got R it xa xb m r o i' j'→Q (.done (r,o,i',j',G',p',q')) st) (h2:∀o i' j' G' p' q',Go R it xa xb m o i' j'→Q (.yield (none,o,i',j',G',p',q')) st):Sq prog w A E Ok (loC (ar it xa) (ar it xb) (ar it lo) i j G p q) st Q:=by
 obtain⟨x,hx,hxy⟩:=hc;have I1:=I.one M hx hxy;unfold EM.loC;refine Sq.elemB hx ?_;rw[Zdr,Zez]
 by_cases e:i+1+1=xa.length
 ·rw[if_pos (by rw[e]; exact beq_self_eq_true _)]
  exact Sq.pure (h _ _ _ _ _ _ _ (.inl ⟨_,rfl,D.last I1 e⟩))
 rw[if_neg (by simpa using e)];have g:Go R it xa xb m (ar it (lo++[x])) (i+1) j:=⟨⟨_,rfl,I1⟩,by omega,hj,by omega⟩
 split
 ·exact Sq.pure (h _ _ _ _ _ _ _ (.inr ⟨rfl,g⟩))
 ·exact Sq.pure (h2 _ _ _ _ _ _ g)
theorem Sq.loB (M:CmN prog w A κ it Ok N lt R) {xa xb lo:List Nat} {i j G p q m:Nat} (D:Two R N xa xb) (I:MI R xa xb lo i j) (hi:i+1 < xa.length) (hj:j < xb.length) (hm:m≤i+j+1) (hc:∃y,xb[j]?=some y∧∀x∈xa.drop i,R y x) {li:List Nat} {pd:Array (Nat×Nat×Nat)} {g:Nat} {Q:ForInStep T7→SortSt→Prop} (h:∀r o i' j' G' p' q',Got R it xa xb m r o i' j'→Q (.done (r,o,i',j',G',p',q')) (stt κ it li pd g)) (h2:∀o i' j' G' p' q',Go R it xa xb m o i' j'→Q (.yield (none,o,i',j',G',p',q')) (stt κ it li pd g)):Sq prog w A E Ok (loB (ar it xa) (ar it xb) (ar it lo) i j G p q) (stt κ it li pd g) Q:=by
 obtain⟨y,hy,hyx⟩:=hc;have I1:=(I.swap.one M hy hyx).swap;unfold EM.loB;refine Sq.elemB hy ?_;rw[Zdr,Zez]
 by_cases e:j+1=xb.length
 ·rw[if_pos (by rw[e]; exact beq_self_eq_true _)]
  exact Sq.pure (h _ _ _ _ _ _ _ (.inl ⟨_,rfl,by rw[Zm1]; exact I1.doneA (by omega)⟩))
 rw[if_neg (by simpa using e)];obtain⟨x,hx,hxm⟩:=Zho (xs:=xa) (i:=i) (by omega);refine Sq.elemB hx ?_;refine Sq.galB M (D.ha x hxm) D.hb (by omega) (by omega) fun k K=>?_
 dsimp only
 obtain⟨I2,hk2⟩:=I1.swap.gal M hx K;have I2:=I2.swap
 by_cases hk:k > 0
 ·rw[if_pos hk,Zuc,Zhm]
  by_cases e3:j+1+k=xb.length
  ·rw[if_pos (by rw[e3]; exact beq_self_eq_true _)]
   exact Sq.pure (h _ _ _ _ _ _ _ (.inl ⟨_,rfl,by rw[Zm1]; exact I2.doneA (by omega)⟩))
  rw[if_neg (by simpa using e3)];have:=K.vn;exact Sq.loC M D I2 hi (by omega) (by omega) ⟨x,hx,hk2⟩ h h2
 ·rw[if_neg hk]
  have:k=0:=by omega
  subst this;rw[List.take_zero,List.append_nil]at I2;exact Sq.loC M D I2 hi (by omega) (by omega) ⟨x,hx,hk2⟩ h h2
theorem Sq.loA (M:CmN prog w A κ it Ok N lt R) {xa xb lo:List Nat} {i j G p q m:Nat} (D:Two R N xa xb) (I:MI R xa xb lo i j) (hi:i+1 < xa.length) (hj:j < xb.length) (hm:m≤i+j+1) {li:List Nat} {pd:Array (Nat×Nat×Nat)} {g:Nat} {Q:ForInStep T7→SortSt→Prop} (h:∀r o i' j' G' p' q',Got R it xa xb m r o i' j'→Q (.done (r,o,i',j',G',p',q')) (stt κ it li pd G)) (h2:∀o i' j' G' p' q',Go R it xa xb m o i' j'→Q (.yield (none,o,i',j',G',p',q')) (stt κ it li pd G)):Sq prog w A E Ok (loA (ar it xa) (ar it xb) (ar it lo) i j G p q) (stt κ it li pd g) Q:=by
 unfold EM.loA;refine Sq.modB ?_;show Sq prog w A E Ok _ (stt κ it li pd G) Q;obtain⟨y,hy,hym⟩:=Zho (xs:=xb) (i:=j) hj;refine Sq.elemB hy ?_;rw[Zdr];refine Sq.galB M (D.hb y hym) D.ha (by omega) (by omega) fun k K=>?_
 dsimp only
 obtain⟨I2,hk2⟩:=I.gal M hy K
 by_cases hk:k > 0
 ·rw[if_pos hk,Zuc,Zhm]
  by_cases e3:i+k+1=xa.length
  ·rw[if_pos (by rw[e3]; exact beq_self_eq_true _)]
   exact Sq.pure (h _ _ _ _ _ _ _ (.inl ⟨_,rfl,D.last I2 e3⟩))
  rw[if_neg (by simpa using e3)]
  by_cases e4:i+k=xa.length
  ·rw[if_pos (by rw[e4]; exact beq_self_eq_true _)]
   exact Sq.pure (h _ _ _ _ _ _ _ (.inl ⟨_,rfl,by rw[Zm1]; exact I2.doneB (by omega)⟩))
  rw[if_neg (by simpa using e4)];have:=K.vn;exact Sq.loB M D I2 (by omega) hj (by omega) ⟨y,hy,hk2⟩ h h2
 ·rw[if_neg hk]
  have:k=0:=by omega
  subst this;rw[List.take_zero,List.append_nil]at I2;exact Sq.loB M D I2 hi hj (by omega) ⟨y,hy,hk2⟩ h h2
theorem Sq.loS (M:CmN prog w A κ it Ok N lt R) {xa xb:List Nat} {o:Array Keyed} {i j G p q m:Nat} (D:Two R N xa xb) (I:Go R it xa xb m o i j) {li:List Nat} {pd:Array (Nat×Nat×Nat)} {g:Nat} {Q:ForInStep T6→SortSt→Prop} (h:∀r o i' j' p' q',Got R it xa xb (m+1) r o i' j'→Q (.done (r,o,i',j',p',q')) (stt κ it li pd g)) (h2:∀o i' j' p' q',Go R it xa xb (m+1) o i' j'→Q (.yield (none,o,i',j',p',q')) (stt κ it li pd g)):Sq prog w A E Ok (loS (ar it xa) (ar it xb) o i j p q G) (stt κ it li pd g) Q:=by
 obtain⟨⟨lo,rfl,I⟩,hi,hj,hm⟩:=I;unfold EM.loS;obtain⟨y,hy,hym⟩:=Zho (xs:=xb) (i:=j) hj;obtain⟨x,hx,hxm⟩:=Zho (xs:=xa) (i:=i) (by omega);refine Sq.elemB hy (Sq.elemB hx (Sq.askB M (D.hb y hym) (D.ha x hxm) ?_))
 dsimp only
 cases hl:lt y x with
 | true=>
  rw[if_pos rfl];refine Sq.elemB hy ?_;have I1:=(I.swap.one M hy (I.swap.headB M hx (M.yes _ _ hl))).swap;rw[Zdr,Zez]
  by_cases e:j+1=xb.length
  ·rw[if_pos (by rw[e]; exact beq_self_eq_true _)]
   exact Sq.pure (h _ _ _ _ _ _ (.inl ⟨_,rfl,by rw[Zm1]; exact I1.doneA (by omega)⟩))
  rw[if_neg (by simpa using e)];have g:Go R it xa xb (m+1) (ar it (lo++[y])) i (j+1):=⟨⟨_,rfl,I1⟩,by omega,by omega,by omega⟩
  split
  ·exact Sq.pure (h _ _ _ _ _ _ (.inr ⟨rfl,g⟩))
  ·exact Sq.pure (h2 _ _ _ _ _ g)
 | false=>
  rw[if_neg Bool.false_ne_true];refine Sq.elemB hx ?_;have I1:=I.one M hx (I.headB M hy (M.no _ _ hl));rw[Zdr,Zez]
  by_cases e:i+1+1=xa.length
  ·rw[if_pos (by rw[e]; exact beq_self_eq_true _)]
   exact Sq.pure (h _ _ _ _ _ _ (.inl ⟨_,rfl,D.last I1 e⟩))
  rw[if_neg (by simpa using e)];have g:Go R it xa xb (m+1) (ar it (lo++[x])) (i+1) j:=⟨⟨_,rfl,I1⟩,by omega,by omega,by omega⟩
  split
  ·exact Sq.pure (h _ _ _ _ _ _ (.inr ⟨rfl,g⟩))
  ·exact Sq.pure (h2 _ _ _ _ _ g)
theorem Go.le {xa xb:List Nat} {m m':Nat} {o:Array Keyed} {i j:Nat} (h:Go R it xa xb m o i j) (e:m'≤m):Go R it xa xb m' o i j:=⟨h.ex,h.ia,h.jb,Nat.le_trans e h.mm⟩
theorem Sq.loT (M:CmN prog w A κ it Ok N lt R) {xa xb:List Nat} {T m:Nat} (D:Two R N xa xb) (hT:T=xa.length+xb.length) {s:T5} (I:Go R it xa xb m s.2.1 s.2.2.1 s.2.2.2.1) {li:List Nat} {pd:Array (Nat×Nat×Nat)} {g:Nat} {Q:ForInStep T5→SortSt→Prop} (h:∀r s' g',Mrg R it xa xb r→Q (.done (some r,s')) (stt κ it li pd g')) (h2:∀o i j G g',Go R it xa xb (m+1) o i j→Q (.yield (none,o,i,j,G)) (stt κ it li pd g')):Sq prog w A E Ok (loT (ar it xa) (ar it xb) T s) (stt κ it li pd g) Q:=by
 obtain⟨s0,o,i,j,G⟩:=s;have I:Go R it xa xb m o i j:=I;unfold EM.loT;refine Sq.bind (P1:=fun t st'=>st'=stt κ it li pd g∧Got R it xa xb (m+1) t.1 t.2.1 t.2.2.1 t.2.2.2.1) ?_ ?_
 ·refine Sq.range (fun n t st'=>st'=stt κ it li pd g∧t.1=none∧Go R it xa xb (m+n) t.2.1 t.2.2.1 t.2.2.2.1) ⟨rfl,rfl,I⟩ ?_ ?_
  ·rintro n _ ⟨t1,o,i,j,p,q⟩ st' hn ⟨rfl,rfl,I⟩
   exact Sq.loS M D I (fun r o i' j' p' q' h'=>⟨rfl,h'.imp id fun h=>⟨h.1,h.2.le (by omega)⟩⟩) fun o i' j' p' q' h'=>⟨rfl,rfl,h'⟩
  ·rintro⟨t1,o,i,j,p,q⟩ st' ⟨rfl,rfl,I⟩
   have a1:i+1 < xa.length:=I.ia;have a2:j < xb.length:=I.jb;have a3:m+(T - 0)≤i+j:=I.mm;omega
 rintro⟨t1,o,i,j,p,q⟩ st' ⟨rfl,h1⟩
 rcases h1 with⟨r,hr,h1⟩ | ⟨hr,h1⟩
 ·obtain rfl:t1=some r:=hr
  exact Sq.pure (h r _ _ h1)
 obtain rfl:t1=none:=hr
 dsimp only
 refine Sq.ruleB ?_;refine Sq.bind (P1:=fun u st'=>∃g',st'=stt κ it li pd g'∧Got R it xa xb (m+1) u.1 u.2.1 u.2.2.1 u.2.2.2.1) ?_ ?_
 ·refine Sq.range (fun n u st'=>∃g',st'=stt κ it li pd g'∧u.1=none∧Go R it xa xb (m+1+n) u.2.1 u.2.2.1 u.2.2.2.1) ⟨g,rfl,rfl,h1⟩ ?_ ?_
  ·rintro n _ ⟨t1,o,i,j,G,p,q⟩ st' hn ⟨g',rfl,rfl,⟨⟨lo,e,I⟩,hi,hj,hm⟩⟩
   obtain rfl:o=ar it lo:=e;have a3:m+1+n≤i+j:=hm
   dsimp only
   split
   ·exact Sq.loA (m:=m+1+(n+1)) M D I hi hj (by omega) (fun r o i' j' G' p' q' h'=>⟨_,rfl,h'.imp id fun h=>⟨h.1,h.2.le (by omega)⟩⟩) fun o i' j' G' p' q' h'=>⟨_,rfl,rfl,h'⟩
   ·exact Sq.loA (m:=m+1+(n+1)) M D I hi hj (by omega) (fun r o i' j' G' p' q' h'=>⟨_,rfl,h'.imp id fun h=>⟨h.1,h.2.le (by omega)⟩⟩) fun o i' j' G' p' q' h'=>⟨_,rfl,rfl,h'⟩
  ·rintro⟨t1,o,i,j,G,p,q⟩ st' ⟨g',rfl,rfl,I⟩
   exact⟨g',rfl,.inr ⟨rfl,I.le (by omega)⟩⟩
 rintro⟨t1,o,i,j,G,p,q⟩ st' ⟨g',rfl,h1⟩
 rcases h1 with⟨r,hr,h1⟩ | ⟨hr,h1⟩
 ·obtain rfl:t1=some r:=hr
  exact Sq.pure (h r _ _ h1)
 obtain rfl:t1=none:=hr
 dsimp only
 refine Sq.modB ?_;exact Sq.pure (h2 _ _ _ _ _ h1)
theorem Sq.mlo (M:CmN prog w A κ it Ok N lt R) {xa xb:List Nat} (D:Two R N xa xb) {li:List Nat} {pd:Array (Nat×Nat×Nat)} {g:Nat} {Q:Array Keyed→SortSt→Prop} (h:∀o g',Mrg R it xa xb o→Q o (stt κ it li pd g')):Sq prog w A E Ok (mlo' (ar it xa) (ar it xb)) (stt κ it li pd g) Q:=by
 rw[ZuN,Zdr,Zdr];obtain⟨x0,y0,hx0,hy0,hxy⟩:=D.hd;have la:0 < xa.length:=(List.getElem?_eq_some_iff.mp hx0).1;have lb:0 < xb.length:=(List.getElem?_eq_some_iff.mp hy0).1;refine Sq.ruleB ?_;refine Sq.elemB hy0 ?_;have e0:(#[kas_item it y0]:Array Keyed)=ar it [y0]:=rfl;rw[e0];have I00:MI R xa xb [] 0 0:=⟨by simpa using D.sa,by simpa using D.sb,by simp⟩;have I0:MI R xa xb [y0] 0 1:=(MI.one M I00.swap hy0 (fun x hx=>M.tr _ _ _ hxy (Zlj M D.sa hx0 x (by simpa using hx)))).swap
 by_cases e1:1=xb.length
 ·rw[if_pos (by rw[←e1]; rfl)]
  exact Sq.pure (h _ _ (by rw[Zm1]; exact I0.doneA (by omega)))
 rw[if_neg (by simpa using e1)]
 by_cases e2:0+1=xa.length
 ·rw[if_pos (by rw[←e2]; rfl)]
  exact Sq.pure (h _ _ (D.last I0 e2))
 rw[if_neg (by simpa using e2)];refine Sq.getB ?_;refine Sq.bind (P1:=fun s st'=>∃g' r,st'=stt κ it li pd g'∧s.1=some r∧Mrg R it xa xb r) ?_ ?_
 ·refine Sq.range (fun n s st'=>∃g',st'=stt κ it li pd g'∧s.1=none∧Go R it xa xb n s.2.1 s.2.2.1 s.2.2.2.1) ⟨g,rfl,rfl,⟨_,rfl,I0⟩,by show 0+1 < _; omega,by show 1 < _; omega,Nat.zero_le _⟩ ?_ ?_
  ·rintro n _ s st' hn ⟨g',rfl,hs,I⟩
   exact Sq.loT M D rfl I (fun r s' g' h'=>⟨g',r,rfl,rfl,h'⟩) fun o i j G g' h'=>⟨g',rfl,rfl,h'⟩
  ·rintro s st' ⟨g',rfl,hs,I⟩
   have a1:=I.ia;have a2:=I.jb;have a3:=I.mm;omega
 rintro⟨s1,s2⟩ st' ⟨g',r,rfl,rfl,h'⟩;exact Sq.pure (h r g' h')
end
end EM
namespace EM
open PySem PySem.W PyProof.Rows
abbrev U7:=Option (Array Keyed)×Nat×Nat×Array Keyed×Nat×Nat×Nat
def uN (a b o:Array Keyed) (i j:Nat):Array Keyed:=a.extract 0 i++b.extract 0 j++o.reverse
def hiC (a b o:Array Keyed) (i j G p q:Nat):StateT SortSt Sem (ForInStep U7):=do
 let x ←elem' a (i - 1)
 if i - 1 == 0 then return .done (some (uN a b (o.push x) (i - 1) j),i - 1,j,o.push x,G,p,q)
 if p < 7 && q < 7 then return .done (none,i - 1,j,o.push x,G,p,q)
 return .yield (none,i - 1,j,o.push x,G,p,q)
def hiB (a b o:Array Keyed) (i j G p q:Nat):StateT SortSt Sem (ForInStep U7):=do
 let y ←elem' b (j - 1)
 if j - 1 == 1 then return .done (some (uN b a (o.push y) (j - 1) i),i,j - 1,o.push y,G,p,q)
 let some k ←gal' true (←elem' a (i - 1)) b 0 (j - 1) (j - 1 - 1) | return .done (some (uN a b (o.push y) i (j - 1)),i,j - 1,o.push y,G,p,q)
 if j - 1 - k > 0 then
  if k == 1 then return .done (some (uN b a (o.push y++(b.extract k (j - 1)).reverse) k i),i,k,o.push y++(b.extract k (j - 1)).reverse,G,p,j - 1 - k)
  if k == 0 then return .done (some (uN a b (o.push y++(b.extract k (j - 1)).reverse) i k),i,k,o.push y++(b.extract k (j - 1)).reverse,G,p,j - 1 - k)
  hiC a b (o.push y++(b.extract k (j - 1)).reverse) i k G p (j - 1 - k)
 else hiC a b (o.push y) i (j - 1) G p (j - 1 - k)
def hiA (a b o:Array Keyed) (i j G p q:Nat):StateT SortSt Sem (ForInStep U7):=do
 modify (ZkV G)
 let some k ←gal' false (←elem' b (j - 1)) a 0 i (i - 1) | return .done (some (uN a b o i j),i,j,o,G,p,q)
 if i - k > 0 then
  if k == 0 then return .done (some (uN a b (o++(a.extract k i).reverse) k j),k,j,o++(a.extract k i).reverse,G,i - k,q)
  hiB a b (o++(a.extract k i).reverse) k j G (i - k) q
 else hiB a b o i j G (i - k) q
abbrev U6:=Option (Array Keyed)×Nat×Nat×Array Keyed×Nat×Nat
def hiS (a b o:Array Keyed) (i j p q G:Nat):StateT SortSt Sem (ForInStep U6):=do
 let some c ←lt' (←elem' b (j - 1)) (←elem' a (i - 1)) | return .done (some (uN a b o i j),i,j,o,p,q)
 if c then
  let x ←elem' a (i - 1)
  if i - 1 == 0 then return .done (some (uN a b (o.push x) (i - 1) j),i - 1,j,o.push x,p+1,0)
  if p+1 ≥ G then return .done (none,i - 1,j,o.push x,p+1,0)
  return .yield (none,i - 1,j,o.push x,p+1,0)
 else
  let y ←elem' b (j - 1)
  if j - 1 == 1 then return .done (some (uN b a (o.push y) (j - 1) i),i,j - 1,o.push y,0,q+1)
  if q+1 ≥ G then return .done (none,i,j - 1,o.push y,0,q+1)
  return .yield (none,i,j - 1,o.push y,0,q+1)
abbrev U5:=Option (Array Keyed)×Nat×Nat×Array Keyed×Nat
def hiT (a b:Array Keyed) (T:Nat) (s:U5):StateT SortSt Sem (ForInStep U5):=do
 let t:U6 ←forIn [0:T] (none,s.2.1,s.2.2.1,s.2.2.2.1,0,0) fun _ t=>hiS a b t.2.2.2.1 t.2.1 t.2.2.1 t.2.2.2.2.1 t.2.2.2.2.2 s.2.2.2.2
 match t.1 with
 | some r=>return .done (some r,t.2.1,t.2.2.1,t.2.2.2.1,s.2.2.2.2)
 | none=>
  PySem.rule "list.sort.gallop"
  let u:U7 ←forIn [0:T] (none,t.2.1,t.2.2.1,t.2.2.2.1,s.2.2.2.2+1,t.2.2.2.2.1,t.2.2.2.2.2) fun _ u=>
   if u.2.2.2.2.1 > 1 then hiA a b u.2.2.2.1 u.2.1 u.2.2.1 (u.2.2.2.2.1 - 1) u.2.2.2.2.2.1 u.2.2.2.2.2.2 else hiA a b u.2.2.2.1 u.2.1 u.2.2.1 u.2.2.2.2.1 u.2.2.2.2.2.1 u.2.2.2.2.2.2
  match u.1 with
  | some r=>return .done (some r,u.2.1,u.2.2.1,u.2.2.2.1,u.2.2.2.2.1)
  | none=>
   modify (ZkV (u.2.2.2.2.1+1))
   return .yield (none,u.2.1,u.2.2.1,u.2.2.2.1,u.2.2.2.2.1+1)
theorem Zte (a b:Array Keyed):mhi' a b=(do
  PySem.rule "list.sort.merge-hi"
  let T:=a.size+b.size
  let mut i:=a.size - 1
  let mut j:=b.size
  let mut o:Array Keyed:=#[←elem' a i]
  if i == 0 then return uN a b o i j
  if j == 1 then return uN b a o j i
  let mut G:=gallopOf (←get)
  for _ in [0:T] do
   let mut p:=0
   let mut q:=0
   for _ in [0:T] do
    let some c ←lt' (←elem' b (j - 1)) (←elem' a (i - 1)) | return uN a b o i j
    if c then
     i:=i - 1; o:=o.push (←elem' a i); p:=p+1; q:=0
     if i == 0 then return uN a b o i j
     if p ≥ G then break
    else
     j:=j - 1; o:=o.push (←elem' b j); q:=q+1; p:=0
     if j == 1 then return uN b a o j i
     if q ≥ G then break
   PySem.rule "list.sort.gallop"
   G:=G+1
   for _ in [0:T] do
    if G > 1 then G:=G - 1
    modify (ZkV G)
    let some t ←gal' false (←elem' b (j - 1)) a 0 i (i - 1) | return uN a b o i j
    let k:=i - t
    p:=k
    if k > 0 then
     o:=o++(a.extract t i).reverse; i:=t
     if i == 0 then return uN a b o i j
    j:=j - 1; o:=o.push (←elem' b j)
    if j == 1 then return uN b a o j i
    let some t ←gal' true (←elem' a (i - 1)) b 0 j (j - 1) | return uN a b o i j
    let k:=j - t
    q:=k
    if k > 0 then
     o:=o++(b.extract t j).reverse; j:=t
     if j == 1 then return uN b a o j i
     if j == 0 then return uN a b o i j
    i:=i - 1; o:=o.push (←elem' a i)
    if i == 0 then return uN a b o i j
    if p < 7 && q < 7 then break
   G:=G+1
   modify (ZkV G)
  unsupported "internal:list.sort.merge-bound"):=rfl
theorem ZuM (a b:Array Keyed):mhi' a b=(do
  PySem.rule "list.sort.merge-hi"
  let y ←elem' a (a.size - 1)
  if a.size - 1 == 0 then return uN a b #[y] (a.size - 1) b.size
  if b.size == 1 then return uN b a #[y] b.size (a.size - 1)
  let st ←get
  let s:U5 ←forIn [0:a.size+b.size] (none,a.size - 1,b.size,#[y],gallopOf st) fun _ s=>hiT a b (a.size+b.size) s
  match s.1 with
  | some r=>return r
  | none=>unsupported "internal:list.sort.merge-bound"):=by
 rw[Zte];unfold hiT hiA hiB hiC hiS
 dsimp only
 congr 1
 funext _
 congr 1
 funext y
 congr 1
 congr 1
 congr 1
 funext st
 congr 1
 congr 1
 funext _ s
 congr 1
 funext t
 obtain⟨t1,t2,t3,t4,t5,t6⟩:=t
 cases t1 with
 | some r=>rfl
 | none=>
  dsimp only
  congr 1
  funext _
  congr 1
  congr 1
  funext u
  obtain⟨u1,u2⟩:=u
  cases u1 with
  | some r=>rfl
  | none=>rfl
 funext s
 obtain⟨s1,s2⟩:=s
 cases s1 with
 | some r=>rfl
 | none=>rfl
end EM
namespace EM
open PySem PySem.W PyProof.Rows
section
variable {prog:Program} {w:World} {A:Around} {E:Value→Shared→Prop} {κ:SortKind} {it:Array Keyed} {Ok:Shared→Prop} {N:Nat} {lt:Nat→Nat→Bool} {R:Nat→Nat→Prop} {α β:Type}
structure HI (R:Nat→Nat→Prop) (xa xb lo:List Nat) (i j:Nat):Prop where
 pa:(xa.take i++lo.reverse).Pairwise R
 pb:(xb.take j++lo.reverse).Pairwise R
 pm:(xa.take i++(xb.take j++lo.reverse)).Perm (xa++xb)
theorem HI.swap {xa xb lo:List Nat} {i j:Nat} (h:HI R xa xb lo i j):HI R xb xa lo j i:=by
 refine⟨h.pb,h.pa,?_⟩
 have e:(xb.take j++(xa.take i++lo.reverse)).Perm (xa.take i++(xb.take j++lo.reverse)):=by
  rw[←List.append_assoc,←List.append_assoc];exact List.Perm.append_right _ List.perm_append_comm
 exact(e.trans h.pm).trans List.perm_append_comm
theorem Zrq (xs:List Nat) {t i:Nat} (h:t≤i):xs.take i=xs.take t++(xs.take i).drop t:=by
 have:=List.take_append_drop t (xs.take i);rw[List.take_take,Nat.min_eq_left h]at this;exact this.symm
theorem HI.bulk {xa xb lo:List Nat} {i j t:Nat} (h:HI R xa xb lo i j) (ht:t≤i) (c:∀x∈(xa.take i).drop t,∀y∈xb.take j,R y x):HI R xa xb (lo++((xa.take i).drop t).reverse) t j:=by
 have e:=Zrq xa ht;obtain⟨h1,h2,h3⟩:=h
 have er:(lo++((xa.take i).drop t).reverse).reverse=(xa.take i).drop t++lo.reverse:=by rw[List.reverse_append,List.reverse_reverse]
 generalize hd:(xa.take i).drop t=D at e c er ⊢;rw[e]at h1 h3;refine⟨by rw[er,←List.append_assoc]; exact h1,?_,?_⟩
 ·rw[er,List.pairwise_append]
  rw[List.append_assoc,List.pairwise_append]at h1;obtain⟨a1,a2,a3⟩:=h1;rw[List.pairwise_append]at h2;obtain⟨b1,b2,b3⟩:=h2;refine⟨b1,a2,fun y hy x hx=>?_⟩
  rcases List.mem_append.mp hx with hx | hx
  ·exact c x hx y hy
  ·exact b3 y hy x hx
 ·rw[er]
  refine List.Perm.trans ?_ h3;rw[List.append_assoc];refine List.Perm.append_left _ ?_;rw[←List.append_assoc,←List.append_assoc];exact List.Perm.append_right _ List.perm_append_comm
theorem ZpX {xs:List Nat} {i x:Nat} (hi:1≤i) (h:xs[i - 1]?=some x):(xs.take i).drop (i - 1)=[x]:=by
 obtain⟨hl,e⟩:=List.getElem?_eq_some_iff.mp h
 have:xs.take i=xs.take (i - 1)++[x]:=by
  have e1:xs.take (i - 1+1)=xs.take (i - 1)++[x]:=by
   rw[List.take_add_one,h];rfl
  rw[←e1]
  congr 1
  omega
 rw[this,List.drop_left' (by rw[List.length_take]; omega)]
theorem HI.one {xa xb lo:List Nat} {i j x:Nat} (h:HI R xa xb lo i j) (hi:1≤i) (hx:xa[i - 1]?=some x) (c:∀y∈xb.take j,R y x):HI R xa xb (lo++[x]) (i - 1) j:=by
 have:=h.bulk (t:=i - 1) (by omega) (fun z hz=>by rw[ZpX hi hx]at hz; rw[List.mem_singleton.mp hz]; exact c);rw[ZpX hi hx]at this;exact this
theorem upto (M:CmN prog w A κ it Ok N lt R) {xs:List Nat} {j x y:Nat} (sp:xs.Pairwise R) (hj:1≤j) (hy:xs[j - 1]?=some y) (c:R y x):∀z∈xs.take j,R z x:=fun z hz=>
 M.tr _ _ _ (ZqN M sp hy z (by rw[show j - 1+1=j by omega]; exact hz)) c
theorem HI.gal (M:CmN prog w A κ it Ok N lt R) {l:Bool} {xa xb lo:List Nat} {i j y k:Nat} (h:HI R xa xb lo i j) (sa:xa.Pairwise R) (hy:∀z∈xb.take j,R z y) (hi:i≤xa.length) (G:Gal lt l y xa 0 i k k):HI R xa xb (lo++((xa.take i).drop k).reverse) k j∧∀z∈xa.take k,R z y:=by
 refine⟨h.bulk G.vn fun x hx z hz=>?_,?_⟩
 ·rcases G.hi with e | ⟨q,hq,hf⟩
  ·rw[e,List.drop_of_length_le (by rw[List.length_take]; omega)]at hx
   cases hx
  ·refine M.tr _ _ _ (hy z hz) (M.tr _ _ _ (ZsJ M hf) ?_)
   rw[Nat.zero_add]at hq;have hx2:x∈xa.drop k:=(List.Sublist.drop (List.take_sublist i xa) k).subset hx;exact Zlj M (sa.sublist (List.drop_sublist k xa)) (ZeD hq).1 x hx2
 ·rcases G.lo with e | ⟨q,hq,hf⟩
  ·rw[e]
   intro z hz;simp at hz
  ·rw[Nat.zero_add]at hq
   cases k with
   | zero=>intro z hz; simp at hz
   | succ k=>exact upto M sa (by omega) hq (Zog M hf)
theorem ZtM (xa xb lo:List Nat) (i j:Nat):uN (ar it xa) (ar it xb) (ar it lo) i j=ar it (xa.take i++xb.take j++lo.reverse):=by
 unfold uN;rw[Zhn,Zhn];simp[ar]
theorem HI.doneA {xa xb lo:List Nat} {j:Nat} (h:HI R xa xb lo 0 j):Mrg R it xa xb (uN (ar it xa) (ar it xb) (ar it lo) 0 j):=by
 have pm:=h.pm;rw[List.take_zero,List.nil_append]at pm;exact⟨_,ZtM _ _ _ _ _,by rw[List.take_zero,List.nil_append]; exact h.pb,by rw[List.take_zero,List.nil_append]; exact pm⟩
theorem HI.doneB {xa xb lo:List Nat} {i:Nat} (h:HI R xa xb lo i 0):Mrg R it xa xb (uN (ar it xa) (ar it xb) (ar it lo) i 0):=by
 have pm:=h.pm;rw[List.take_zero,List.nil_append]at pm;exact⟨_,ZtM _ _ _ _ _,by rw[List.take_zero,List.append_nil]; exact h.pa,by rw[List.take_zero,List.append_nil]; exact pm⟩
theorem Two.first (M:CmN prog w A κ it Ok N lt R) {xa xb lo:List Nat} {i:Nat} (D:Two R N xa xb) (h:HI R xa xb lo i 1):Mrg R it xa xb (uN (ar it xb) (ar it xa) (ar it lo) 1 i):=by
 obtain⟨x0,y0,hx0,hy0,hxy⟩:=D.hd
 have e:xb.take 1=[y0]:=by
  have:=(ZeD hy0).2;rw[List.drop_zero]at this;exact this
 have pm:=h.swap.pm;have pb:=h.pb;rw[e]at pm pb;refine⟨_,ZtM _ _ _ _ _,?_,?_⟩
 ·rw[e,List.append_assoc,List.singleton_append,List.pairwise_cons]
  refine⟨fun x hx=>?_,h.pa⟩
  rcases List.mem_append.mp hx with hx | hx
  ·exact M.tr _ _ _ hxy (Zlj M D.sa hx0 x (List.mem_of_mem_take hx))
  ·exact(List.pairwise_append.mp pb).2.2 y0 (by simp) x hx
 ·rw[e,List.append_assoc]
  exact pm.trans List.perm_append_comm
structure Ho (R:Nat→Nat→Prop) (it:Array Keyed) (xa xb:List Nat) (m:Nat) (o:Array Keyed) (i j:Nat):Prop where
 ex:∃lo,o=ar it lo∧HI R xa xb lo i j
 i1:1≤i
 il:i≤xa.length
 j2:2≤j
 jl:j≤xb.length
 mm:m+i+j≤xa.length+xb.length
def Hot (R:Nat→Nat→Prop) (it:Array Keyed) (xa xb:List Nat) (m:Nat) (r:Option (Array Keyed)) (o:Array Keyed) (i j:Nat):Prop:=(∃r',r=some r'∧Mrg R it xa xb r')∨(r=none∧Ho R it xa xb m o i j)
theorem Zvf (xs:List Nat) (k i:Nat):((ar it xs).extract k i).reverse=ar it ((xs.take i).drop k).reverse:=by
 rw[Zhn,←List.drop_take];simp[ar]
theorem Sq.hiC (M:CmN prog w A κ it Ok N lt R) {xa xb lo:List Nat} {i j G p q m:Nat} (D:Two R N xa xb) (I:HI R xa xb lo i j) (h1:1≤i) (hi:i≤xa.length) (hj2:2≤j) (hj:j≤xb.length) (hm:m+i+j≤xa.length+xb.length+1) (hc:∃x,xa[i - 1]?=some x∧∀y∈xb.take j,R y x) {st:SortSt} {Q:ForInStep U7→SortSt→Prop} (h:∀r o i' j' G' p' q',Hot R it xa xb m r o i' j'→Q (.done (r,i',j',o,G',p',q')) st) (h2:∀o i' j' G' p' q',Ho R it xa xb m o i' j'→Q (.yield (none,i',j',o,G',p',q')) st):Sq prog w A E Ok (hiC (ar it xa) (ar it xb) (ar it lo) i j G p q) st Q:=by
 obtain⟨x,hx,hxy⟩:=hc;have I1:=I.one h1 hx hxy;unfold EM.hiC;refine Sq.elemB hx ?_;rw[Zez]
 by_cases e:i - 1=0
 ·rw[if_pos (by rw[e]; rfl)]
  refine Sq.pure (h _ _ _ _ _ _ _ (.inl ⟨_,rfl,?_⟩));rw[e]at I1 ⊢;exact I1.doneA
 rw[if_neg (by simpa using e)];have g:Ho R it xa xb m (ar it (lo++[x])) (i - 1) j:=⟨⟨_,rfl,I1⟩,by omega,by omega,hj2,hj,by omega⟩
 split
 ·exact Sq.pure (h _ _ _ _ _ _ _ (.inr ⟨rfl,g⟩))
 ·exact Sq.pure (h2 _ _ _ _ _ _ g)
theorem Sq.hiB (M:CmN prog w A κ it Ok N lt R) {xa xb lo:List Nat} {i j G p q m:Nat} (D:Two R N xa xb) (I:HI R xa xb lo i j) (h1:1≤i) (hi:i≤xa.length) (hj2:2≤j) (hj:j≤xb.length) (hm:m+i+j≤xa.length+xb.length+2) (hc:∃y,xb[j - 1]?=some y∧∀x∈xa.take i,R x y) {li:List Nat} {pd:Array (Nat×Nat×Nat)} {g:Nat} {Q:ForInStep U7→SortSt→Prop} (h:∀r o i' j' G' p' q',Hot R it xa xb m r o i' j'→Q (.done (r,i',j',o,G',p',q')) (stt κ it li pd g)) (h2:∀o i' j' G' p' q',Ho R it xa xb m o i' j'→Q (.yield (none,i',j',o,G',p',q')) (stt κ it li pd g)):Sq prog w A E Ok (hiB (ar it xa) (ar it xb) (ar it lo) i j G p q) (stt κ it li pd g) Q:=by
 obtain⟨y,hy,hyx⟩:=hc;have I1:=(I.swap.one (by omega) hy hyx).swap;unfold EM.hiB;refine Sq.elemB hy ?_;rw[Zez]
 by_cases e:j - 1=1
 ·rw[if_pos (by rw[e]; rfl)]
  refine Sq.pure (h _ _ _ _ _ _ _ (.inl ⟨_,rfl,?_⟩));rw[e]at I1 ⊢
  exact D.first M I1
 rw[if_neg (by simpa using e)];obtain⟨x,hx,hxm⟩:=Zho (xs:=xa) (i:=i - 1) (by omega);refine Sq.elemB hx ?_;refine Sq.galB M (D.ha x hxm) D.hb (by omega) (by omega) fun k K=>?_
 dsimp only
 have kv:=K.vn;obtain⟨I2,hk2⟩:=I1.swap.gal M D.sb (upto M D.sa h1 hx (M.refl _)) (by omega) K;have I2:=I2.swap
 by_cases hk:j - 1 - k > 0
 ·rw[if_pos hk,Zvf,Zhm]
  by_cases e3:k=1
  ·rw[if_pos (by rw[e3]; rfl)]
   refine Sq.pure (h _ _ _ _ _ _ _ (.inl ⟨_,rfl,?_⟩));subst e3
   exact D.first M I2
  rw[if_neg (by simpa using e3)]
  by_cases e4:k=0
  ·rw[if_pos (by rw[e4]; rfl)]
   refine Sq.pure (h _ _ _ _ _ _ _ (.inl ⟨_,rfl,?_⟩));subst e4;exact I2.doneB
  rw[if_neg (by simpa using e4)];exact Sq.hiC M D I2 h1 hi (by omega) (by omega) (by omega) ⟨x,hx,hk2⟩ h h2
 ·rw[if_neg hk]
  have e5:k=j - 1:=by omega
  rw[e5,List.drop_of_length_le (by rw[List.length_take]; omega),List.reverse_nil,List.append_nil]at I2;rw[e5]at hk2;exact Sq.hiC M D I2 h1 hi (by omega) (by omega) (by omega) ⟨x,hx,hk2⟩ h h2
theorem Sq.hiA (M:CmN prog w A κ it Ok N lt R) {xa xb lo:List Nat} {i j G p q m:Nat} (D:Two R N xa xb) (I:HI R xa xb lo i j) (h1:1≤i) (hi:i≤xa.length) (hj2:2≤j) (hj:j≤xb.length) (hm:m+i+j≤xa.length+xb.length+2) {li:List Nat} {pd:Array (Nat×Nat×Nat)} {g:Nat} {Q:ForInStep U7→SortSt→Prop} (h:∀r o i' j' G' p' q',Hot R it xa xb m r o i' j'→Q (.done (r,i',j',o,G',p',q')) (stt κ it li pd G)) (h2:∀o i' j' G' p' q',Ho R it xa xb m o i' j'→Q (.yield (none,i',j',o,G',p',q')) (stt κ it li pd G)):Sq prog w A E Ok (hiA (ar it xa) (ar it xb) (ar it lo) i j G p q) (stt κ it li pd g) Q:=by
 unfold EM.hiA;refine Sq.modB ?_;show Sq prog w A E Ok _ (stt κ it li pd G) Q;obtain⟨y,hy,hym⟩:=Zho (xs:=xb) (i:=j - 1) (by omega);refine Sq.elemB hy ?_;refine Sq.galB M (D.hb y hym) D.ha (by omega) (by omega) fun k K=>?_
 dsimp only
 have kv:=K.vn;obtain⟨I2,hk2⟩:=I.gal M D.sa (upto M D.sb (by omega) hy (M.refl _)) hi K
 by_cases hk:i - k > 0
 ·rw[if_pos hk,Zvf,Zhm]
  by_cases e3:k=0
  ·rw[if_pos (by rw[e3]; rfl)]
   refine Sq.pure (h _ _ _ _ _ _ _ (.inl ⟨_,rfl,?_⟩));subst e3;exact I2.doneA
  rw[if_neg (by simpa using e3)];exact Sq.hiB M D I2 (by omega) (by omega) hj2 hj (by omega) ⟨y,hy,hk2⟩ h h2
 ·rw[if_neg hk]
  have e5:k=i:=by omega
  rw[e5,List.drop_of_length_le (by rw[List.length_take]; omega),List.reverse_nil,List.append_nil]at I2;rw[e5]at hk2;exact Sq.hiB M D I2 h1 hi hj2 hj (by omega) ⟨y,hy,hk2⟩ h h2
theorem Sq.hiS (M:CmN prog w A κ it Ok N lt R) {xa xb:List Nat} {o:Array Keyed} {i j G p q m:Nat} (D:Two R N xa xb) (I:Ho R it xa xb m o i j) {li:List Nat} {pd:Array (Nat×Nat×Nat)} {g:Nat} {Q:ForInStep U6→SortSt→Prop} (h:∀r o i' j' p' q',Hot R it xa xb (m+1) r o i' j'→Q (.done (r,i',j',o,p',q')) (stt κ it li pd g)) (h2:∀o i' j' p' q',Ho R it xa xb (m+1) o i' j'→Q (.yield (none,i',j',o,p',q')) (stt κ it li pd g)):Sq prog w A E Ok (hiS (ar it xa) (ar it xb) o i j p q G) (stt κ it li pd g) Q:=by
 obtain⟨⟨lo,rfl,I⟩,h1,hi,hj2,hj,hm⟩:=I;unfold EM.hiS;obtain⟨y,hy,hym⟩:=Zho (xs:=xb) (i:=j - 1) (by omega);obtain⟨x,hx,hxm⟩:=Zho (xs:=xa) (i:=i - 1) (by omega);refine Sq.elemB hy (Sq.elemB hx (Sq.askB M (D.hb y hym) (D.ha x hxm) ?_))
 dsimp only
 cases hl:lt y x with
 | true=>
  rw[if_pos rfl];refine Sq.elemB hx ?_;have I1:=I.one h1 hx (upto M D.sb (by omega) hy (M.yes _ _ hl));rw[Zez]
  by_cases e:i - 1=0
  ·rw[if_pos (by rw[e]; rfl)]
   refine Sq.pure (h _ _ _ _ _ _ (.inl ⟨_,rfl,?_⟩));rw[e]at I1 ⊢;exact I1.doneA
  rw[if_neg (by simpa using e)];have g:Ho R it xa xb (m+1) (ar it (lo++[x])) (i - 1) j:=⟨⟨_,rfl,I1⟩,by omega,by omega,hj2,hj,by omega⟩
  split
  ·exact Sq.pure (h _ _ _ _ _ _ (.inr ⟨rfl,g⟩))
  ·exact Sq.pure (h2 _ _ _ _ _ g)
 | false=>
  rw[if_neg Bool.false_ne_true];refine Sq.elemB hy ?_;have I1:=(I.swap.one (by omega) hy (upto M D.sa h1 hx (M.no _ _ hl))).swap;rw[Zez]
  by_cases e:j - 1=1
  ·rw[if_pos (by rw[e]; rfl)]
   refine Sq.pure (h _ _ _ _ _ _ (.inl ⟨_,rfl,?_⟩));rw[e]at I1 ⊢
   exact D.first M I1
  rw[if_neg (by simpa using e)];have g:Ho R it xa xb (m+1) (ar it (lo++[y])) i (j - 1):=⟨⟨_,rfl,I1⟩,h1,hi,by omega,by omega,by omega⟩
  split
  ·exact Sq.pure (h _ _ _ _ _ _ (.inr ⟨rfl,g⟩))
  ·exact Sq.pure (h2 _ _ _ _ _ g)
theorem Ho.le {xa xb:List Nat} {m m':Nat} {o:Array Keyed} {i j:Nat} (h:Ho R it xa xb m o i j) (e:m'≤m):Ho R it xa xb m' o i j:=⟨h.ex,h.i1,h.il,h.j2,h.jl,by have:=h.mm; omega⟩
theorem Sq.hiT (M:CmN prog w A κ it Ok N lt R) {xa xb:List Nat} {T m:Nat} (D:Two R N xa xb) (hT:T=xa.length+xb.length) {s:U5} (I:Ho R it xa xb m s.2.2.2.1 s.2.1 s.2.2.1) {li:List Nat} {pd:Array (Nat×Nat×Nat)} {g:Nat} {Q:ForInStep U5→SortSt→Prop} (h:∀r s' g',Mrg R it xa xb r→Q (.done (some r,s')) (stt κ it li pd g')) (h2:∀o i j G g',Ho R it xa xb (m+1) o i j→Q (.yield (none,i,j,o,G)) (stt κ it li pd g')):Sq prog w A E Ok (hiT (ar it xa) (ar it xb) T s) (stt κ it li pd g) Q:=by
 obtain⟨s0,i,j,o,G⟩:=s;have I:Ho R it xa xb m o i j:=I;unfold EM.hiT;refine Sq.bind (P1:=fun t st'=>st'=stt κ it li pd g∧Hot R it xa xb (m+1) t.1 t.2.2.2.1 t.2.1 t.2.2.1) ?_ ?_
 ·refine Sq.range (fun n t st'=>st'=stt κ it li pd g∧t.1=none∧Ho R it xa xb (m+n) t.2.2.2.1 t.2.1 t.2.2.1) ⟨rfl,rfl,I⟩ ?_ ?_
  ·rintro n _ ⟨t1,i,j,o,p,q⟩ st' hn ⟨rfl,rfl,I⟩
   exact Sq.hiS M D I (fun r o i' j' p' q' h'=>⟨rfl,h'.imp id fun h=>⟨h.1,h.2.le (by omega)⟩⟩) fun o i' j' p' q' h'=>⟨rfl,rfl,h'⟩
  ·rintro⟨t1,i,j,o,p,q⟩ st' ⟨rfl,rfl,I⟩
   have a1:1≤i:=I.i1;have a3:m+(T - 0)+i+j≤xa.length+xb.length:=I.mm;omega
 rintro⟨t1,i,j,o,p,q⟩ st' ⟨rfl,h1⟩
 rcases h1 with⟨r,hr,h1⟩ | ⟨hr,h1⟩
 ·obtain rfl:t1=some r:=hr
  exact Sq.pure (h r _ _ h1)
 obtain rfl:t1=none:=hr
 dsimp only
 refine Sq.ruleB ?_;refine Sq.bind (P1:=fun u st'=>∃g',st'=stt κ it li pd g'∧Hot R it xa xb (m+1) u.1 u.2.2.2.1 u.2.1 u.2.2.1) ?_ ?_
 ·refine Sq.range (fun n u st'=>∃g',st'=stt κ it li pd g'∧u.1=none∧Ho R it xa xb (m+1+n) u.2.2.2.1 u.2.1 u.2.2.1) ⟨g,rfl,rfl,h1⟩ ?_ ?_
  ·rintro n _ ⟨t1,i,j,o,G,p,q⟩ st' hn ⟨g',rfl,rfl,⟨⟨lo,e,I⟩,hi1,hi,hj2,hj,hm⟩⟩
   obtain rfl:o=ar it lo:=e;have a3:m+1+n+i+j≤xa.length+xb.length:=hm
   dsimp only
   split
   ·exact Sq.hiA (m:=m+1+(n+1)) M D I hi1 hi hj2 hj (by omega) (fun r o i' j' G' p' q' h'=>⟨_,rfl,h'.imp id fun h=>⟨h.1,h.2.le (by omega)⟩⟩) fun o i' j' G' p' q' h'=>⟨_,rfl,rfl,h'⟩
   ·exact Sq.hiA (m:=m+1+(n+1)) M D I hi1 hi hj2 hj (by omega) (fun r o i' j' G' p' q' h'=>⟨_,rfl,h'.imp id fun h=>⟨h.1,h.2.le (by omega)⟩⟩) fun o i' j' G' p' q' h'=>⟨_,rfl,rfl,h'⟩
  ·rintro⟨t1,i,j,o,G,p,q⟩ st' ⟨g',rfl,rfl,I⟩
   exact⟨g',rfl,.inr ⟨rfl,I.le (by omega)⟩⟩
 rintro⟨t1,i,j,o,G,p,q⟩ st' ⟨g',rfl,h1⟩
 rcases h1 with⟨r,hr,h1⟩ | ⟨hr,h1⟩
 ·obtain rfl:t1=some r:=hr
  exact Sq.pure (h r _ _ h1)
 obtain rfl:t1=none:=hr
 dsimp only
 refine Sq.modB ?_;exact Sq.pure (h2 _ _ _ _ _ h1)
theorem Sq.mhi (M:CmN prog w A κ it Ok N lt R) {xa xb:List Nat} (D:Two R N xa xb) {li:List Nat} {pd:Array (Nat×Nat×Nat)} {g:Nat} {Q:Array Keyed→SortSt→Prop} (h:∀o g',Mrg R it xa xb o→Q o (stt κ it li pd g')):Sq prog w A E Ok (mhi' (ar it xa) (ar it xb)) (stt κ it li pd g) Q:=by
 rw[ZuM,Zdr,Zdr];obtain⟨x0,y0,hx0,hy0,hxy⟩:=D.hd;obtain⟨z,hz,hc⟩:=D.la;have la:0 < xa.length:=(List.getElem?_eq_some_iff.mp hx0).1;have lb:0 < xb.length:=(List.getElem?_eq_some_iff.mp hy0).1;refine Sq.ruleB ?_;refine Sq.elemB hz ?_;have e0:(#[kas_item it z]:Array Keyed)=ar it [z]:=rfl;rw[e0];have I00:HI R xa xb [] xa.length xb.length:=⟨by simpa using D.sa,by simpa using D.sb,by simp⟩;have I0:HI R xa xb [z] (xa.length - 1) xb.length:=I00.one (by omega) hz (fun y hy=>hc y (List.mem_of_mem_take hy))
 by_cases e1:xa.length - 1=0
 ·rw[if_pos (by rw[e1]; rfl)]
  rw[e1]at I0 ⊢;exact Sq.pure (h _ _ I0.doneA)
 rw[if_neg (by simpa using e1)]
 by_cases e2:xb.length=1
 ·rw[if_pos (by rw[e2]; rfl)]
  rw[e2]at I0 ⊢;exact Sq.pure (h _ _ (D.first M I0))
 rw[if_neg (by simpa using e2)];refine Sq.getB ?_;refine Sq.bind (P1:=fun s st'=>∃g' r,st'=stt κ it li pd g'∧s.1=some r∧Mrg R it xa xb r) ?_ ?_
 ·refine Sq.range (fun n s st'=>∃g',st'=stt κ it li pd g'∧s.1=none∧Ho R it xa xb n s.2.2.2.1 s.2.1 s.2.2.1) ⟨g,rfl,rfl,⟨_,rfl,I0⟩,by show 1≤_ - 1; omega,by show _ - 1≤_; omega,by show 2≤xb.length; omega,Nat.le_refl _,by show 0+(xa.length - 1)+xb.length≤xa.length+xb.length; omega⟩ ?_ ?_
  ·rintro n _ s st' hn ⟨g',rfl,hs,I⟩
   exact Sq.hiT M D rfl I (fun r s' g' h'=>⟨g',r,rfl,rfl,h'⟩) fun o i j G g' h'=>⟨g',rfl,rfl,h'⟩
  ·rintro s st' ⟨g',rfl,hs,I⟩
   have a1:=I.i1;have a3:=I.mm;omega
 rintro⟨s1,s2⟩ st' ⟨g',r,rfl,rfl,h'⟩;exact Sq.pure (h r g' h')
end
end EM
namespace EM
open PySem PySem.W PyProof.Rows
abbrev Zv5 (p:Array (Nat×Nat×Nat)) (s:SortSt):SortSt:=SortSt.mk' (kindOf s) (arrOf s) p (gallopOf s) (failedOf s)
abbrev Ztv (m:Array Keyed) (t:Nat) (s:SortSt):SortSt:=SortSt.mk' (kindOf s) (m.toList.zipIdx.foldl (fun a (x:Keyed×Nat)=>a.setIfInBounds (t+x.2) x.1) (arrOf s)) (pendingOf s) (gallopOf s) (failedOf s)
theorem ZuL (i:Nat):mergeAt' i=(do
  let s ←get
  let (some (a,m,p),some (b,n,_)):=((pendingOf s)[i]?,(pendingOf s)[i+1]?) | unsupported "internal:list.sort.pending"
  set (Zv5 (((pendingOf s).setIfInBounds i (a,m+n,p)).eraseIdxIfInBounds (i+1)) s)
  let some k ←gal' false (←elem' (arrOf s) b) (arrOf s) a m 0 | return false
  let (a,m):=(a+k,m - k)
  if m == 0 then return true
  let some n ←gal' true (←elem' (arrOf s) (a+m - 1)) (arrOf s) b n (n - 1) | return false
  if n == 0 then return true
  let x:=(arrOf s).extract a b
  let y:=(arrOf s).extract b (b+n)
  let z ←if m≤n then mlo' x y else mhi' x y
  modify (Ztv z a)
  return (failedOf (←get)).isNone):=rfl
end EM
namespace EM
open PySem PySem.W PyProof.Rows
abbrev V2:=Option (Option Nat)×Nat
abbrev V3:=Option (Option Nat)×Nat×Nat
def rnS (u n:Nat):StateT SortSt Sem (ForInStep V2):=do
 let some c ←ltAt' (u+n) (u+n - 1) | return .done (some none,n)
 if c then return .done (none,n)
 return .yield (none,n+1)
def rnD (u n q:Nat):StateT SortSt Sem (ForInStep V3):=do
 let some c ←ltAt' (u+n) (u+n - 1) | return .done (some none,n,q)
 if c then
  if q > 0 then
   reverseSlice' (u+n - (q+1)) (u+n)
   return .yield (none,n+1,0)
  else return .yield (none,n+1,0)
 else
  let some d ←ltAt' (u+n - 1) (u+n) | return .done (some none,n,q)
  if d then return .done (none,n,q)
  return .yield (none,n+1,q+1)
def rnT (u n m:Nat):StateT SortSt Sem (Option Nat):=do
 reverseSlice' u (u+n)
 let s:V2 ←forIn [n:m] (none,n) fun _ s=>rnS u s.2
 match s.1 with
 | some r=>return r
 | none=>return some s.2
def rnP (u n m:Nat):StateT SortSt Sem (Option Nat):=do
 PySem.rule "list.sort.descending-run"
 let s:V3 ←forIn [n+1:m] (none,n+1,0) fun _ s=>rnD u s.2.1 s.2.2
 match s.1 with
 | some r=>return r
 | none=>
  if s.2.2 > 0 then
   reverseSlice' (u+s.2.1 - (s.2.2+1)) (u+s.2.1)
   rnT u s.2.1 m
  else rnT u s.2.1 m
theorem Zt5 (u m:Nat):countRun' u m=(do
  let s:V2 ←forIn [1:m] (none,1) fun _ s=>rnS u s.2
  match s.1 with
  | some r=>return r
  | none=>
   if s.2 == m then return some s.2
   if s.2 > 1 then
    let some c ←ltAt' u (u+s.2 - 1) | return none
    if c then return some s.2
    reverseSlice' u (u+s.2)
    rnP u s.2 m
   else rnP u s.2 m):=by
 rw[countRun'_eq];unfold rnP rnT rnS rnD
 dsimp only
 congr 1
 funext s
 obtain⟨s1,n⟩:=s
 cases s1 with
 | some r=>rfl
 | none=>
  dsimp only
  split
  ·rfl
  ·split
   ·congr 1
    funext x
    cases x with
    | none=>rfl
    | some c=>
     dsimp only
     split
     ·rfl
     ·congr 1
      funext _
      congr 1
      funext _
      congr 1
      funext s2
      obtain⟨s1,n2,q2⟩:=s2
      cases s1 with
      | some r=>rfl
      | none=>
       dsimp only
       split
       ·congr 1
        funext _
        congr 1
        funext _
        congr 1
        funext s3
        obtain⟨s1,n3⟩:=s3
        cases s1 <;> rfl
       ·congr 1
        funext _
        congr 1
        funext s3
        obtain⟨s1,n3⟩:=s3
        cases s1 <;> rfl
   ·congr 1
    funext _
    congr 1
    funext s2
    obtain⟨s1,n2,q2⟩:=s2
    cases s1 with
    | some r=>rfl
    | none=>
     dsimp only
     split
     ·congr 1
      funext _
      congr 1
      funext _
      congr 1
      funext s3
      obtain⟨s1,n3⟩:=s3
      cases s1 <;> rfl
     ·congr 1
      funext _
      congr 1
      funext s3
      obtain⟨s1,n3⟩:=s3
      cases s1 <;> rfl
end EM
namespace EM
open PySem PySem.W PyProof.Rows
section
variable {prog:Program} {w:World} {A:Around} {E:Value→Shared→Prop} {κ:SortKind} {it:Array Keyed} {Ok:Shared→Prop} {N:Nat} {lt:Nat→Nat→Bool} {R:Nat→Nat→Prop} {α β:Type} {pd:Array (Nat×Nat×Nat)} {g:Nat}
def stA (κ:SortKind) (it:Array Keyed) (p:Array Nat) (pd:Array (Nat×Nat×Nat)) (g:Nat):SortSt:=SortSt.mk' κ (p.map (kas_item it)) pd g none
theorem ZmD (l:List Nat):stA κ it l.toArray pd g=stt κ it l pd g:=by unfold stA stt; rw[List.map_toArray]
theorem Sq.at {p:Array Nat} {i j:Nat} {f:Option Bool→StateT SortSt Sem β} {Q:β→SortSt→Prop} (M:CmN prog w A κ it Ok N lt R) (hG:Ga N p) (hi:i < N) (hj:j < N) (h:Sq prog w A E Ok (f (some (lt (p.getD i 0) (p.getD j 0)))) (stA κ it p pd g) Q):Sq prog w A E Ok (ltAt' i j >>= f) (stA κ it p pd g) Q:=by
 have h0:0 < N:=by omega
 have ge:∀k,k < N→(p.map (kas_item it))[k]?=some (kas_item it (p.getD k 0)):=fun k hk=>by
  have e:p.getD k 0=p[k]'(by rw[hG.sz]; exact hk):=by simp[Array.getD,hG.sz,hk]
  rw[e];simp[hG.sz,hk]
 refine Sq.bind (P1:=fun a st'=>a=some (lt (p.getD i 0) (p.getD j 0))∧st'=stA κ it p pd g) ?_ (by rintro _ _ ⟨rfl,rfl⟩; exact h);rw[ltAt'_eq];refine Sq.getB ?_;show Sq prog w A E Ok (do let x ←elem' (p.map (kas_item it)) i; let y ←elem' (p.map (kas_item it)) j; lt' x y) _ _;rw[elem'_eq,elem'_eq,ge i hi,ge j hj];refine Sq.bind (P1:=fun a st'=>a=kas_item it (p.getD i 0)∧st'=stA κ it p pd g) (Sq.pure ⟨rfl,rfl⟩) ?_;rintro _ _ ⟨rfl,rfl⟩;refine Sq.bind (P1:=fun a st'=>a=kas_item it (p.getD j 0)∧st'=stA κ it p pd g) (Sq.pure ⟨rfl,rfl⟩) ?_;rintro _ _ ⟨rfl,rfl⟩;have:=Sq.ask (E:=E) (l:=p.toList) (pd:=pd) (g:=g) (Q:=fun a st'=>a=some (lt (p.getD i 0) (p.getD j 0))∧st'=stA κ it p pd g) M (hG.lo h0 i) (hG.lo h0 j) ⟨rfl,by rw[←ZmD,Array.toArray_toList]⟩;rw[←ZmD,Array.toArray_toList]at this;exact this
theorem Sq.rev {p:Array Nat} {i j:Nat} {f:Unit→StateT SortSt Sem β} {Q:β→SortSt→Prop} (h:Sq prog w A E Ok (f ()) (stA κ it (kas_rev p i j) pd g) Q):Sq prog w A E Ok (reverseSlice' i j >>= f) (stA κ it p pd g) Q:=by
 refine Sq.bind (P1:=fun _ st'=>st'=stA κ it (kas_rev p i j) pd g) ?_ (by rintro _ _ rfl; exact h);rw[reverseSlice'_eq];refine Sq.modify ?_;show SortSt.mk' κ (mirror (p.map (kas_item it)) i j ((j - i) / 2)) pd g none=SortSt.mk' κ ((mirror p i j ((j - i) / 2)).map (kas_item it)) pd g none;have e1:mirror (p.map (kas_item it)) i j ((j - i) / 2)=(mirror p i j ((j - i) / 2)).map (kas_item it):=kas_swaps_map (kas_item it) (fun k=>i+k) (fun k=>j - 1 - k) _ p;rw[e1]
theorem Sq.down {p:Array Nat} {k l:Nat} {f:Unit→StateT SortSt Sem β} {Q:β→SortSt→Prop} (h:Sq prog w A E Ok (f ()) (stA κ it (bubble p k (k - l)) pd g) Q):Sq prog w A E Ok (moveDown' k l >>= f) (stA κ it p pd g) Q:=by
 refine Sq.bind (P1:=fun _ st'=>st'=stA κ it (bubble p k (k - l)) pd g) ?_ (by rintro _ _ rfl; exact h);rw[moveDown'_eq];refine Sq.modify ?_;show SortSt.mk' κ (bubble (p.map (kas_item it)) k (k - l)) pd g none=SortSt.mk' κ ((bubble p k (k - l)).map (kas_item it)) pd g none;have e1:bubble (p.map (kas_item it)) k (k - l)=(bubble p k (k - l)).map (kas_item it):=kas_swaps_map (kas_item it) (fun i=>k - i) (fun i=>k - i - 1) _ p;rw[e1]
def AscO (R:Nat→Nat→Prop) (p:Array Nat) (u m:Nat):Prop:=∀i,i+1 < m→R (p.getD (u+i) 0) (p.getD (u+i+1) 0)
def DscO (R:Nat→Nat→Prop) (p:Array Nat) (u m:Nat):Prop:=∀i,i+1 < m→R (p.getD (u+i+1) 0) (p.getD (u+i) 0)
def AlkO (R:Nat→Nat→Prop) (p:Array Nat) (u a m:Nat):Prop:=∀i,a≤i→i+1 < m→R (p.getD (u+i) 0) (p.getD (u+i+1) 0)
def PreO (p p':Array Nat) (u:Nat):Prop:=∀k,k < u→p'.getD k 0=p.getD k 0
theorem AscO.le (M:CmN prog w A κ it Ok N lt R) {p:Array Nat} {u m:Nat} (h:AscO R p u m) {i j:Nat} (hij:i≤j) (hj:j < m):R (p.getD (u+i) 0) (p.getD (u+j) 0):=by
 induction j with
 | zero=>
  have:i=0:=by omega
  subst this; exact M.refl _
 | succ j ih=>
  by_cases e:i=j+1
  ·subst e; exact M.refl _
  ·exact M.tr _ _ _ (ih (by omega) (by omega)) (h j hj)
theorem DscO.le (M:CmN prog w A κ it Ok N lt R) {p:Array Nat} {u m:Nat} (h:DscO R p u m) {i j:Nat} (hij:i≤j) (hj:j < m):R (p.getD (u+j) 0) (p.getD (u+i) 0):=by
 induction j with
 | zero=>
  have:i=0:=by omega
  subst this; exact M.refl _
 | succ j ih=>
  by_cases e:i=j+1
  ·subst e; exact M.refl _
  ·exact M.tr _ _ _ (h j hj) (ih (by omega) (by omega))
theorem PreO.rev {p p':Array Nat} {u i j:Nat} (h:PreO p p' u) (hui:u≤i) (hij:i≤j) (hj:j≤p'.size):PreO p (kas_rev p' i j) u:=fun k hk=>by
 rw[Zgf hj hij,if_neg (by omega)];exact h k hk
theorem Zl1 (M:CmN prog w A κ it Ok N lt R) {p:Array Nat} {u a m:Nat} (hs:u+m≤p.size) (ham:a≤m) (d:DscO R p u m) (k:AlkO R p u a m):DscO R (kas_rev p (u+a) (u+m)) u m:=fun i hi=>by
 rw[Zgf hs (by omega),Zgf hs (by omega)]
 by_cases h1:a≤i
 ·rw[if_pos (by omega),if_pos (by omega)]
  have:=k (a+m - 1 - (i+1)) (by omega) (by omega);rw[show u+(a+m - 1 - (i+1))+1=u+a+(u+m) - 1 - (u+i) by omega,show u+(a+m - 1 - (i+1))=u+a+(u+m) - 1 - (u+i+1) by omega]at this;exact this
 ·rw[if_neg (show ¬(u+a≤u+i∧u+i < u+m) by omega)]
  by_cases h2:a≤i+1
  ·rw[if_pos (by omega)]
   have e:i+1=a:=by omega
   have r1:=d.le M (i:=a) (j:=m - 1) (by omega) (by omega);have r2:=d i hi;rw[show u+i+1=u+a by omega]at r2;rw[show u+a+(u+m) - 1 - (u+i+1)=u+(m - 1) by omega];exact M.tr _ _ _ r1 r2
  ·rw[if_neg (by omega)]
   exact d i hi
theorem Sq.rnS (M:CmN prog w A κ it Ok N lt R) {p:Array Nat} {u m a:Nat} (hG:Ga N p) (hz:u+m≤N) (ha1:1≤a) (ham:a≤m) (hA:AscO R p u a) {f:V2→StateT SortSt Sem β} {Q:β→SortSt→Prop} (h:∀n,a≤n→n≤m→AscO R p u n→(n=m∨R (p.getD (u+n) 0) (p.getD (u+n - 1) 0))→Sq prog w A E Ok (f (none,n)) (stA κ it p pd g) Q):Sq prog w A E Ok (forIn [a:m] (none,a) (fun _ s=>EM.rnS u s.2) >>= f) (stA κ it p pd g) Q:=by
 refine Sq.bind (P1:=fun c st'=>∃n,c=(none,n)∧st'=stA κ it p pd g∧a≤n∧n≤m∧AscO R p u n∧(n=m∨R (p.getD (u+n) 0) (p.getD (u+n - 1) 0))) ?_ (by rintro _ _ ⟨n,rfl,rfl,b1,b2,b3,b4⟩; exact h n b1 b2 b3 b4);refine Sq.range (fun i c st'=>c=(none,a+i)∧st'=stA κ it p pd g∧AscO R p u (a+i)) ⟨rfl,rfl,hA⟩ ?_ ?_
 ·rintro i x c st' hi ⟨rfl,rfl,hA⟩
  unfold EM.rnS;refine Sq.at M hG (by show u+(a+i) < N; omega) (by show u+(a+i) - 1 < N; omega) ?_
  dsimp only
  cases hl:lt (p.getD (u+(a+i)) 0) (p.getD (u+(a+i) - 1) 0) with
  | true=>
   rw[if_pos rfl];exact Sq.pure ⟨_,rfl,rfl,by omega,by omega,hA,.inr (M.yes _ _ hl)⟩
  | false=>
   rw[if_neg Bool.false_ne_true];refine Sq.pure ⟨rfl,rfl,fun j hj=>?_⟩
   by_cases e:j+1 < a+i
   ·exact hA j e
   ·have:=M.no _ _ hl
    rw[show u+j=u+(a+i) - 1 by omega,show u+(a+i) - 1+1=u+(a+i) by omega];exact this
 ·rintro c st' ⟨rfl,rfl,hA⟩
  exact⟨_,rfl,rfl,by omega,by omega,hA,.inl (by omega)⟩
def Run (R:Nat→Nat→Prop) (N:Nat) (p0 p:Array Nat) (u m n:Nat):Prop:=Ga N p∧PreO p0 p u∧1≤n∧n≤m∧AscO R p u n
theorem Sq.rnT (M:CmN prog w A κ it Ok N lt R) {p0 p:Array Nat} {u m n:Nat} (hG:Ga N p) (hP:PreO p0 p u) (hz:u+m≤N) (hn1:1≤n) (hnm:n≤m) (d:DscO R p u n) {Q:Option Nat→SortSt→Prop} (h:∀n p',Run R N p0 p' u m n→Q (some n) (stA κ it p' pd g)):Sq prog w A E Ok (EM.rnT u n m) (stA κ it p pd g) Q:=by
 unfold EM.rnT
 have hs:u+n≤p.size:=by rw[hG.sz]; omega
 refine Sq.rev ?_;refine Sq.rnS M (hG.rev _ _) hz hn1 hnm (fun i hi=>?_) fun n' b1 b2 b3 _=>?_
 ·rw[Zgf hs (by omega),Zgf hs (by omega),if_pos (by omega),if_pos (by omega)]
  have:=d (n - 1 - (i+1)) (by omega);rw[show u+(n - 1 - (i+1))+1=u+(u+n) - 1 - (u+i) by omega,show u+(n - 1 - (i+1))=u+(u+n) - 1 - (u+i+1) by omega]at this;exact this
 ·exact Sq.pure (h n' _ ⟨hG.rev _ _,hP.rev (Nat.le_refl _) (by omega) hs,by omega,b2,b3⟩)
theorem Sq.rnP (M:CmN prog w A κ it Ok N lt R) {p0 p:Array Nat} {u m n:Nat} (hG:Ga N p) (hP:PreO p0 p u) (hz:u+m≤N) (hn1:1≤n) (hnm:n+1≤m) (d:DscO R p u (n+1)) {Q:Option Nat→SortSt→Prop} (h:∀n p',Run R N p0 p' u m n→Q (some n) (stA κ it p' pd g)):Sq prog w A E Ok (EM.rnP u n m) (stA κ it p pd g) Q:=by
 unfold EM.rnP;refine Sq.ruleB ?_;refine Sq.bind (P1:=fun c st'=>∃n q p,c=(none,n,q)∧st'=stA κ it p pd g∧Ga N p∧PreO p0 p u∧q+1≤n∧n≤m∧DscO R p u n∧AlkO R p u (n - (q+1)) n) ?_ ?_
 ·refine Sq.range (fun i c st'=>∃q p,c=(none,n+1+i,q)∧st'=stA κ it p pd g∧Ga N p∧PreO p0 p u∧q+1≤n+1+i∧DscO R p u (n+1+i)∧AlkO R p u (n+1+i - (q+1)) (n+1+i)) ⟨0,p,rfl,rfl,hG,hP,by omega,d,fun i h1 h2=>by omega⟩ ?_ ?_
  ·rintro i x c st' hi ⟨q,p,rfl,rfl,hG,hP,hq,d,al⟩
   generalize hk:n+1+i=k at hq d al
   have hk1:2≤k:=by omega
   have hkm:k < m:=by omega
   have em:u+(k - 1)+1=u+k:=by omega
   have em2:u+k - 1=u+(k - 1):=by omega
   have hs:u+k≤p.size:=by rw[hG.sz]; omega
   unfold EM.rnD
   dsimp only
   refine Sq.at M hG (by omega) (by omega) ?_
   dsimp only
   cases hl:lt (p.getD (u+k) 0) (p.getD (u+k - 1) 0) with
   | true=>
    rw[if_pos rfl];have rm:=M.yes _ _ hl
    by_cases hq0:q > 0
    ·rw[if_pos hq0]
     refine Sq.rev (Sq.pure ⟨0,_,by rw[←hk,Nat.add_assoc],rfl,hG.rev _ _,hP.rev (by omega) (by omega) hs,by omega,?_,fun j h1 h2=>by omega⟩);rw[show n+1+(i+1)=k+1 by omega,show u+k - (q+1)=u+(k - (q+1)) by omega];intro j hj
     by_cases e:j+1 < k
     ·exact Zl1 M hs (by omega) d al j e
     ·have ej:j=k - 1:=by omega
      subst ej;rw[em,Zgf hs (by omega),Zgf hs (by omega),if_neg (by omega),if_pos (by omega),show u+(k - (q+1))+(u+k) - 1 - (u+(k - 1))=u+(k - (q+1)) by omega];rw[em2]at rm;exact M.tr _ _ _ rm (d.le M (by omega) (by omega))
    ·rw[if_neg hq0]
     refine Sq.pure ⟨0,p,by rw[←hk,Nat.add_assoc],rfl,hG,hP,by omega,?_,fun j h1 h2=>by omega⟩;rw[show n+1+(i+1)=k+1 by omega];intro j hj
     by_cases e:j+1 < k
     ·exact d j e
     ·have ej:j=k - 1:=by omega
      subst ej;rw[em]; rw[em2]at rm; exact rm
   | false=>
    rw[if_neg Bool.false_ne_true];refine Sq.at M hG (by omega) (by omega) ?_
    dsimp only
    cases hl2:lt (p.getD (u+k - 1) 0) (p.getD (u+k) 0) with
    | true=>
     rw[if_pos rfl];exact Sq.pure ⟨k,q,p,rfl,rfl,hG,hP,hq,by omega,d,al⟩
    | false=>
     rw[if_neg Bool.false_ne_true];have r1:=M.no _ _ hl;have r2:=M.no _ _ hl2;rw[em2]at r1 r2;refine Sq.pure ⟨q+1,p,by rw[←hk,Nat.add_assoc],rfl,hG,hP,by omega,?_,?_⟩
     ·rw[show n+1+(i+1)=k+1 by omega]
      intro j hj
      by_cases e:j+1 < k
      ·exact d j e
      ·have ej:j=k - 1:=by omega
       subst ej;rw[em]; exact r2
     ·rw[show n+1+(i+1)=k+1 by omega]
      intro j h1 h2
      by_cases e:j+1 < k
      ·exact al j (by omega) e
      ·have ej:j=k - 1:=by omega
       subst ej;rw[em]; exact r1
  ·rintro c st' ⟨q,p,rfl,rfl,hG,hP,hq,d,al⟩
   exact⟨_,q,p,rfl,rfl,hG,hP,hq,by omega,d,al⟩
 rintro c st' ⟨n',q,p',rfl,rfl,hG',hP',hq,hn',d',al⟩
 dsimp only
 have hs:u+n'≤p'.size:=by rw[hG'.sz]; omega
 by_cases hq0:q > 0
 ·rw[if_pos hq0]
  refine Sq.rev ?_;rw[show u+n' - (q+1)=u+(n' - (q+1)) by omega];exact Sq.rnT M (hG'.rev _ _) (hP'.rev (by omega) (by omega) hs) hz (by omega) hn' (Zl1 M hs (by omega) d' al) h
 ·rw[if_neg hq0]
  exact Sq.rnT M hG' hP' hz (by omega) hn' d' h
theorem Sq.cnt (M:CmN prog w A κ it Ok N lt R) {p:Array Nat} {u m:Nat} (hG:Ga N p) (hz:u+m≤N) (hm1:1≤m) {Q:Option Nat→SortSt→Prop} (h:∀n p',Run R N p p' u m n→Q (some n) (stA κ it p' pd g)):Sq prog w A E Ok (countRun' u m) (stA κ it p pd g) Q:=by
 rw[Zt5];have hP:PreO p p u:=fun k _=>rfl;refine Sq.rnS M hG hz (Nat.le_refl 1) hm1 (fun i hi=>by omega) fun n b1 b2 b3 b4=>?_
 dsimp only
 have hs:u+n≤p.size:=by rw[hG.sz]; omega
 by_cases e:n=m
 ·rw[if_pos (by rw[e]; exact beq_self_eq_true _)]
  exact Sq.pure (h n p ⟨hG,hP,b1,b2,b3⟩)
 rw[if_neg (by simpa using e)];have rm:R (p.getD (u+n) 0) (p.getD (u+n - 1) 0):=b4.resolve_left e
 by_cases h1:n > 1
 ·rw[if_pos h1]
  refine Sq.at M hG (by omega) (by omega) ?_
  dsimp only
  cases hl:lt (p.getD u 0) (p.getD (u+n - 1) 0) with
  | true=>
   rw[if_pos rfl];exact Sq.pure (h n p ⟨hG,hP,b1,b2,b3⟩)
  | false=>
   rw[if_neg Bool.false_ne_true];refine Sq.rev ?_;refine Sq.rnP M (hG.rev _ _) (hP.rev (Nat.le_refl _) (by omega) hs) hz b1 (by omega) (fun i hi=>?_) h;rw[Zgf hs (by omega),Zgf hs (by omega)]
   by_cases e2:i+1 < n
   ·rw[if_pos (by omega),if_pos (by omega)]
    have:=b3 (n - 1 - (i+1)) (by omega);rw[show u+(n - 1 - (i+1))+1=u+(u+n) - 1 - (u+i) by omega,show u+(n - 1 - (i+1))=u+(u+n) - 1 - (u+i+1) by omega]at this;exact this
   ·have ei:i+1=n:=by omega
    rw[if_neg (by omega),if_pos (by omega),show u+i+1=u+n by omega,show u+(u+n) - 1 - (u+i)=u by omega];exact M.tr _ _ _ rm (M.no _ _ hl)
 ·rw[if_neg h1]
  refine Sq.rnP M hG hP hz b1 (by omega) (fun i hi=>?_) h
  have ei:i=0:=by omega
  have en:n=1:=by omega
  subst ei en;exact rm
end
end EM
namespace EM
open PySem PySem.W PyProof.Rows
section
variable {prog:Program} {w:World} {A:Around} {E:Value→Shared→Prop} {κ:SortKind} {it:Array Keyed} {Ok:Shared→Prop} {N:Nat} {lt:Nat→Nat→Bool} {R:Nat→Nat→Prop} {α β:Type} {pd:Array (Nat×Nat×Nat)} {g:Nat}
theorem Sq.listX {f:Nat→β→StateT SortSt Sem (ForInStep β)} {Q:β→SortSt→Prop} (I:Nat→β→SortSt→Prop) (b:Nat) (hs:∀x c st,x < b→I x c st→Sq prog w A E Ok (f x c) st (fun r st'=>match r with | .done c'=>Q c' st' | .yield c'=>I (x+1) c' st')) (he:∀c st,I b c st→Q c st):∀(n x:Nat) (c:β) (st:SortSt),x+n=b→I x c st→Sq prog w A E Ok (forIn (List.range' x n) c f) st Q
 | 0,x,c,st,hl,h=>by
  have e:x=b:=by omega
  subst e;exact fun C s o k=>kasC_nil (k _ _ s o (he c st h))
 | n+1,x,c,st,hl,h=>by
  rw[List.range'_succ];refine fun C s o k=>kasC_cons (hs x c st (by omega) h _ s o fun r st' s' o' p=>?_)
  cases r with
  | done c'=>exact k _ _ s' o' p
  | yield c'=>exact Sq.listX I b hs he n (x+1) c' st' (by omega) p C s' o' k
theorem Sq.rangeX {a b:Nat} {c:β} {f:Nat→β→StateT SortSt Sem (ForInStep β)} {st:SortSt} {Q:β→SortSt→Prop} (I:Nat→β→SortSt→Prop) (hab:a≤b) (h0:I a c st) (hs:∀x c st,x < b→I x c st→Sq prog w A E Ok (f x c) st (fun r st'=>match r with | .done c'=>Q c' st' | .yield c'=>I (x+1) c' st')) (he:∀c st,I b c st→Q c st):Sq prog w A E Ok (forIn [a:b] c f) st Q:=fun C s o k=>
 kasC_range (Sq.listX I b hs he _ a c st (by omega) h0 C s o k)
theorem PreO.bub {p p':Array Nat} {u k l:Nat} (h:PreO p p' u) (hul:u≤l) (hlk:l≤k) (hk:k < p'.size):PreO p (bubble p' k (k - l)) u:=fun i hi=>by
 rw[ZnZ hk hlk,if_neg (by omega),if_neg (by omega)];exact h i hi
theorem Sq.bin (M:CmN prog w A κ it Ok N lt R) {p0 p:Array Nat} {u m ok:Nat} (hG:Ga N p) (hP:PreO p0 p u) (hz:u+m≤N) (h1:1≤ok) (hok:ok≤m) (hA:AscO R p u ok) {Q:Bool→SortSt→Prop} (h:∀p',Ga N p'→PreO p0 p' u→AscO R p' u m→Q true (stA κ it p' pd g)):Sq prog w A E Ok (binarySort' u m ok) (stA κ it p pd g) Q:=by
 rw[binarySort'_eq,show max ok 1=ok by omega];refine Sq.bind (P1:=fun c st'=>∃p,c=(none,())∧st'=stA κ it p pd g∧Ga N p∧PreO p0 p u∧AscO R p u m) ?_ (by rintro _ _ ⟨p,rfl,rfl,b1,b2,b3⟩; exact Sq.pure (h p b1 b2 b3));refine Sq.rangeX (fun k c st'=>∃p,c=(none,())∧st'=stA κ it p pd g∧Ga N p∧PreO p0 p u∧1≤k∧AscO R p u k) hok ⟨p,rfl,rfl,hG,hP,h1,hA⟩ ?_ (by rintro c st' ⟨p,rfl,rfl,b1,b2,_,b3⟩; exact⟨p,rfl,rfl,b1,b2,b3⟩);clear hG hP hA;rintro k c st' hk ⟨p,rfl,rfl,hG,hP,hk1,a⟩
 have hks:u+k < p.size:=by rw[hG.sz]; omega
 dsimp only
 refine Sq.bind (P1:=fun c st'=>∃l,c=(none,l,l)∧st'=stA κ it p pd g∧l≤k∧(∀i,i < l→R (p.getD (u+i) 0) (p.getD (u+k) 0))∧∀i,l≤i→i < k→R (p.getD (u+k) 0) (p.getD (u+i) 0)) ?_ ?_
 ·refine Sq.range (fun i c st'=>∃l r,c=(none,l,r)∧st'=stA κ it p pd g∧l≤r∧r≤k∧r - l≤k - i∧(∀i,i < l→R (p.getD (u+i) 0) (p.getD (u+k) 0))∧∀i,r≤i→i < k→R (p.getD (u+k) 0) (p.getD (u+i) 0)) ⟨0,k,rfl,rfl,by omega,by omega,by omega,fun i z=>by omega,fun i z1 z2=>by omega⟩ ?_ ?_
  ·rintro i x c st' hi ⟨l,r,rfl,rfl,b1,b2,b3,b4,b5⟩
   dsimp only
   by_cases hlr:l ≥ r
   ·rw[if_pos hlr]
    have e:l=r:=by omega
    subst e;exact Sq.pure ⟨l,rfl,rfl,b2,b4,b5⟩
   ·rw[if_neg hlr]
    refine Sq.at M hG (by omega) (by omega) ?_
    dsimp only
    cases hl:lt (p.getD (u+k) 0) (p.getD (u+(l+r) / 2) 0) with
    | true=>
     rw[if_pos rfl];exact Sq.pure ⟨_,_,rfl,rfl,by omega,by omega,by omega,b4,fun i h4 h5=>M.tr _ _ _ (M.yes _ _ hl) (a.le M h4 h5)⟩
    | false=>
     rw[if_neg Bool.false_ne_true];exact Sq.pure ⟨_,_,rfl,rfl,by omega,by omega,by omega,fun i h4=>M.tr _ _ _ (a.le M (i:=i) (j:=(l+r) / 2) (by omega) (by omega)) (M.no _ _ hl),b5⟩
  ·rintro c st' ⟨l,r,rfl,rfl,b1,b2,b3,b4,b5⟩
   have e:l=r:=by omega
   subst e;exact⟨l,rfl,rfl,b2,b4,b5⟩
 rintro c st' ⟨l,rfl,rfl,y1,y2,y3⟩
 dsimp only
 refine Sq.down ?_;refine Sq.pure ⟨_,rfl,rfl,hG.bub _ _,hP.bub (by omega) (by omega) hks,by omega,fun i hi=>?_⟩;rw[ZnZ hks (by omega),ZnZ hks (by omega)]
 by_cases c1:i=l
 ·rw[if_pos (by omega),if_neg (by omega),if_pos (by omega),show u+i+1 - 1=u+l by omega]
  exact y3 l (Nat.le_refl _) (by omega)
 ·rw[if_neg (by omega)]
  by_cases c2:l < i
  ·rw[if_pos (by omega),if_neg (by omega),if_pos (by omega)]
   have:=a (i - 1) (by omega);rw[show u+(i - 1)+1=u+i+1 - 1 by omega,show u+(i - 1)=u+i - 1 by omega]at this;exact this
  ·rw[if_neg (by omega)]
   by_cases c3:i+1=l
   ·rw[if_pos (by omega)]
    exact y2 i (by omega)
   ·rw[if_neg (by omega),if_neg (by omega)]
    exact a i (by omega)
theorem Zoi (M:CmN prog w A κ it Ok N lt R) {l:Bool} {k v:Nat} {P X T:List Nat} (sx:X.Pairwise R) (G:Gal lt l k (P++(X++T)) P.length X.length v v):v≤X.length∧(∀x∈X.take v,R x k)∧∀x∈X.drop v,R k x:=by
 have ge:∀i,i < X.length→(P++(X++T))[P.length+i]?=X[i]?:=fun i hi=>by
  rw[List.getElem?_append_right (by omega),Nat.add_sub_cancel_left,List.getElem?_append_left hi]
 have vn:=G.vn;refine⟨vn,?_,?_⟩
 ·rcases G.lo with e | ⟨z,hz,hf⟩
  ·rw[e]
   intro x hx;simp at hx
  ·cases v with
   | zero=>intro x hx; simp at hx
   | succ v=>
    rw[Nat.add_sub_cancel,ge v (by omega)]at hz;exact fun x hx=>M.tr _ _ _ (ZqN M sx hz x hx) (Zog M hf)
 ·rcases G.hi with e | ⟨z,hz,hf⟩
  ·rw[e,List.drop_length]
   intro x hx
   cases hx
  ·by_cases hv:v < X.length
   ·rw[ge v hv]at hz
    exact fun x hx=>M.tr _ _ _ (ZsJ M hf) (Zlj M (sx.sublist (List.drop_sublist _ _)) (ZeD hz).1 x hx)
   ·rw[List.drop_of_length_le (by omega)]
    intro x hx
    cases hx
theorem Zu9 {α:Type}:∀(z pre old suf:List α) (t:Nat),old.length=z.length→pre.length=t→(z.zipIdx.foldl (fun(a:Array α) (x:α×Nat)=>a.setIfInBounds (t+x.2) x.1) (pre++(old++suf)).toArray)=(pre++(z++suf)).toArray:=by
 have key:∀(z:List α) (n:Nat) (pre old suf:List α) (t:Nat),old.length=z.length→pre.length=t+n→((z.zipIdx n).foldl (fun(a:Array α) (x:α×Nat)=>a.setIfInBounds (t+x.2) x.1) (pre++(old++suf)).toArray)=(pre++(z++suf)).toArray:=by
  intro z
  induction z with
  | nil=>
   intro n pre old suf t h1 h2;have:old=[]:=List.length_eq_zero_iff.mp h1;subst this;rfl
  | cons x z ih=>
   intro n pre old suf t h1 h2
   cases old with
   | nil=>simp at h1
   | cons y old=>
    rw[List.zipIdx_cons,List.foldl_cons]
    have e:(pre++(y::old++suf)).toArray.setIfInBounds (t+n) x=((pre++[x])++(old++suf)).toArray:=by
     rw[List.setIfInBounds_toArray,List.set_append_right _ _ (by omega),h2,Nat.sub_self];simp
    show List.foldl _ ((pre++(y::old++suf)).toArray.setIfInBounds (t+n) x) _=_;rw[e,ih (n+1) (pre++[x]) old suf t (by simpa using h1) (by rw[List.length_append,List.length_singleton]; omega)];simp
 intro z pre old suf t h1 h2;exact key z 0 pre old suf t h1 (by omega)
theorem Sq.setB {s':SortSt} {f:PUnit→StateT SortSt Sem β} {st:SortSt} {Q:β→SortSt→Prop} (h:Sq prog w A E Ok (f ⟨⟩) s' Q):Sq prog w A E Ok ((MonadStateOf.set s':StateT SortSt Sem PUnit) >>= f) st Q:=fun C s o k=>by
 have:=h C s o k;unfold kasC at this ⊢;rw[StateT.run_bind,StateT.run_set];exact wpAny_bind (wpAny_pure this)
theorem Sq.mat (M:CmN prog w A κ it Ok N lt R) {P X Y S:List Nat} {i p p2:Nat} (hn:∀x∈P++(X++(Y++S)),x < N) (sx:X.Pairwise R) (sy:Y.Pairwise R) (x1:X≠[]) (y1:Y≠[]) (ha:pd[i]?=some (P.length,X.length,p)) (hb:pd[i+1]?=some (P.length+X.length,Y.length,p2)) {Q:Bool→SortSt→Prop} (h:∀Z g',Z.Pairwise R→Z.Perm (X++Y)→Q true (stt κ it (P++(Z++S)) ((pd.setIfInBounds i (P.length,X.length+Y.length,p)).eraseIdxIfInBounds (i+1)) g')):Sq prog w A E Ok (mergeAt' i) (stt κ it (P++(X++(Y++S))) pd g) Q:=by
 rw[ZuL];refine Sq.getB ?_;have e1:pendingOf (stt κ it (P++(X++(Y++S))) pd g)=pd:=rfl;have e2:arrOf (stt κ it (P++(X++(Y++S))) pd g)=ar it (P++(X++(Y++S))):=rfl;rw[e1,ha,hb]
 dsimp only
 refine Sq.setB ?_;generalize ((pd.setIfInBounds i (P.length,X.length+Y.length,p)).eraseIdxIfInBounds (i+1))=pd' at h ⊢;show Sq prog w A E Ok _ (stt κ it (P++(X++(Y++S))) pd' g) Q;have lx:0 < X.length:=List.length_pos_iff.mpr x1;have ly:0 < Y.length:=List.length_pos_iff.mpr y1;obtain⟨y0,hy0,hy0m⟩:=Zho (xs:=Y) (i:=0) ly;obtain⟨xl,hxl,hxlm⟩:=Zho (xs:=X) (i:=X.length - 1) (by omega);have hnx:∀x∈X,x < N:=fun x hx=>hn x (by simp[hx]);have hny:∀x∈Y,x < N:=fun x hx=>hn x (by simp[hx])
 have gy0:(P++(X++(Y++S)))[P.length+X.length]?=some y0:=by
  rw[List.getElem?_append_right (by omega),List.getElem?_append_right (by omega),show P.length+X.length - P.length - X.length=0 by omega,List.getElem?_append_left ly];exact hy0
 rw[e2];refine Sq.elemB gy0 ?_;refine Sq.galB M (hny y0 hy0m) hn (by simp only [List.length_append]; omega) lx fun k K=>?_;obtain⟨kx,f1,f2⟩:=Zoi M sx K
 dsimp only
 have aY:∀y∈Y,R y0 y:=Zlj M sy hy0;have aX:∀x∈X,R x xl:=fun x hx=>ZqN M sx hxl x (by rw[show X.length - 1+1=X.length by omega,List.take_length]; exact hx)
 have same:(∀x∈X,∀y∈Y,R x y)→Q true (stt κ it (P++(X++(Y++S))) pd' g):=fun c=>by
  have:=h (X++Y) g (List.pairwise_append.mpr ⟨sx,sy,c⟩) (List.Perm.refl _);rw[List.append_assoc]at this;exact this
 by_cases e3:X.length - k=0
 ·rw[if_pos (by rw[e3]; rfl)]
  refine Sq.pure (same fun x hx y hy=>M.tr _ _ _ (f1 x ?_) (aY y hy));rw[List.take_of_length_le (by omega)];exact hx
 rw[if_neg (by simpa using e3)]
 have gxl:(P++(X++(Y++S)))[P.length+k+(X.length - k) - 1]?=some xl:=by
  rw[List.getElem?_append_right (by omega),List.getElem?_append_left (by omega),←hxl]
  congr 1
  omega
 refine Sq.elemB gxl ?_
 have eb:P++(X++(Y++S))=(P++X)++(Y++S):=by rw[List.append_assoc]
 have lb:P.length+X.length=(P++X).length:=by rw[List.length_append]
 refine Sq.galB M (hnx xl hxlm) hn (by simp only [List.length_append]; omega) (by omega) fun k2 K2=>?_;rw[eb,lb]at K2;obtain⟨ky,f3,f4⟩:=Zoi M sy K2
 dsimp only
 by_cases e4:k2=0
 ·rw[if_pos (by rw[e4]; rfl)]
  refine Sq.pure (same fun x hx y hy=>M.tr _ _ _ (aX x hx) (f4 y ?_));rw[e4];exact hy
 rw[if_neg (by simpa using e4)]
 have ex:(ar it (P++(X++(Y++S)))).extract (P.length+k) (P.length+X.length)=ar it (X.drop k):=by
  rw[Zhn,List.drop_append,List.drop_of_length_le (by omega),List.nil_append,show P.length+k - P.length=k by omega,List.drop_append_of_le_length kx,List.take_append_of_le_length (by rw[List.length_drop]; omega),List.take_of_length_le (by rw[List.length_drop]; omega)]
 have ey:(ar it (P++(X++(Y++S)))).extract (P.length+X.length) (P.length+X.length+k2)=ar it (Y.take k2):=by
  rw[Zhn,eb,lb,List.drop_left,Nat.add_sub_cancel_left,List.take_append_of_le_length ky]
 rw[ex,ey]
 have D:Two R N (X.drop k) (Y.take k2):=by
  refine⟨fun x hx=>hnx x (List.mem_of_mem_drop hx),fun y hy=>hny y (List.mem_of_mem_take hy),sx.sublist (List.drop_sublist _ _),sy.sublist (List.take_sublist _ _),?_,xl,?_,f3⟩
  ·obtain⟨x0,hx0,hx0m⟩:=Zho (xs:=X.drop k) (i:=0) (by rw[List.length_drop]; omega)
   exact⟨x0,y0,hx0,by rw[List.getElem?_take_of_lt (by omega)]; exact hy0,f2 x0 hx0m⟩
  ·rw[List.getElem?_drop,List.length_drop,←hxl]
   congr 1
   omega
 have fin:∀(o:Array Keyed) (g':Nat),Mrg R it (X.drop k) (Y.take k2) o→Sq prog w A E Ok ((do
   _root_.modify (Ztv o (P.length+k))
   let s ←MonadState.get
   Pure.pure (failedOf s).isNone:StateT SortSt Sem Bool)) (stt κ it (P++(X++(Y++S))) pd' g') Q:=by
  rintro o g' ⟨zl,rfl,sz,pz⟩;refine Sq.modB ?_
  have est:Ztv (ar it zl) (P.length+k) (stt κ it (P++(X++(Y++S))) pd' g')=stt κ it (P++((X.take k++(zl++Y.drop k2))++S)) pd' g':=by
   have hz:(X.drop k++Y.take k2).length=zl.length:=pz.length_eq.symm
   have e5:P++(X++(Y++S))=(P++X.take k)++((X.drop k++Y.take k2)++(Y.drop k2++S)):=by
    simp only [List.append_assoc];rw[←List.append_assoc (Y.take k2),List.take_append_drop,←List.append_assoc (X.take k),List.take_append_drop]
   have e6:P++((X.take k++(zl++Y.drop k2))++S)=(P++X.take k)++(zl++(Y.drop k2++S)):=by simp only [List.append_assoc]
   show SortSt.mk' κ (List.foldl (fun(a:Array Keyed) (x:Keyed×Nat)=>a.setIfInBounds (P.length+k+x.2) x.1) ((P++(X++(Y++S))).map (kas_item it)).toArray (ar it zl).toList.zipIdx) pd' g' none=SortSt.mk' κ ((P++((X.take k++(zl++Y.drop k2))++S)).map (kas_item it)).toArray pd' g' none;have:=Zu9 (zl.map (kas_item it)) ((P++X.take k).map (kas_item it)) ((X.drop k++Y.take k2).map (kas_item it)) ((Y.drop k2++S).map (kas_item it)) (P.length+k) (by rw[List.length_map,List.length_map,hz]) (by rw[List.length_map,List.length_append,List.length_take]; omega);rw[e5,e6,List.map_append,List.map_append (l₁:=X.drop k++Y.take k2),List.map_append (l₁:=P++X.take k),List.map_append (l₁:=zl)];exact congrArg (fun a=>SortSt.mk' κ a pd' g' none) this
  rw[est];refine Sq.getB ?_;refine Sq.pure (h _ g' ?_ ?_)
  ·have mz:∀z∈zl,z∈X.drop k∨z∈Y.take k2:=fun z hz=>List.mem_append.mp (pz.mem_iff.mp hz)
   rw[List.pairwise_append,List.pairwise_append];refine⟨sx.sublist (List.take_sublist _ _),⟨sz,sy.sublist (List.drop_sublist _ _),fun z hz y hy=>?_⟩,fun x hx z hz=>?_⟩
   ·rcases mz z hz with hz | hz
    ·exact M.tr _ _ _ (aX z (List.mem_of_mem_drop hz)) (f4 y hy)
    ·have:=sy
     rw[←List.take_append_drop k2 Y,List.pairwise_append]at this;exact this.2.2 z hz y hy
   ·rcases List.mem_append.mp hz with hz | hz
    ·rcases mz z hz with hz | hz
     ·have:=sx
      rw[←List.take_append_drop k X,List.pairwise_append]at this;exact this.2.2 x hx z hz
     ·exact M.tr _ _ _ (f1 x hx) (aY z (List.mem_of_mem_take hz))
    ·exact M.tr _ _ _ (f1 x hx) (aY z (List.mem_of_mem_drop hz))
  ·have q1:(X.take k++(zl++Y.drop k2)).Perm (X.take k++((X.drop k++Y.take k2)++Y.drop k2)):=List.Perm.append_left _ (List.Perm.append_right _ pz)
   refine q1.trans ?_;rw[List.append_assoc,List.take_append_drop,←List.append_assoc,List.take_append_drop]
 split
 ·refine Sq.bind (P1:=fun o st'=>∃g',Mrg R it (X.drop k) (Y.take k2) o∧st'=stt κ it (P++(X++(Y++S))) pd' g') (Sq.mlo M D fun o g' hM=>⟨g',hM,rfl⟩) ?_
  rintro o st' ⟨g',hM,rfl⟩;exact fin o g' hM
 ·refine Sq.bind (P1:=fun o st'=>∃g',Mrg R it (X.drop k) (Y.take k2) o∧st'=stt κ it (P++(X++(Y++S))) pd' g') (Sq.mhi M D fun o g' hM=>⟨g',hM,rfl⟩) ?_
  rintro o st' ⟨g',hM,rfl⟩;exact fin o g' hM
end
end EM
namespace EM
open PySem PySem.W PyProof.Rows
def srF:StateT SortSt Sem (ForInStep (Option Unit×Unit)):=do
 let p:=pendingOf (←get)
 if p.size≤1 then return .done (none,())
 let i:=p.size - 2
 let b:=if i > 0 then p[i - 1]?.map (·.2.1) else none
 let i:=if b.any (· < (p[i+1]?.elim 0 (·.2.1))) then i - 1 else i
 if !(←mergeAt' i) then return .done (some (),())
 return .yield (none,())
def srM (o:Nat):StateT SortSt Sem (ForInStep (Option Unit×Unit)):=do
 let p:=pendingOf (←get)
 let some (_,_,c):=(if p.size > 1 then p[p.size - 2]? else none) | return .done (none,())
 if c≤o then return .done (none,())
 if !(←mergeAt' (p.size - 2)) then return .done (some (),())
 return .yield (none,())
def srQ (u n:Nat):StateT SortSt Sem (ForInStep (Option Unit×Nat)):=do
 modify fun s=>setPending s ((pendingOf s).push (u,n,0))
 return .yield (none,u+n)
def srP (z u n:Nat):StateT SortSt Sem (ForInStep (Option Unit×Nat)):=do
 if let some (a,b,_):=(pendingOf (←get)).back? then
  let t:Option Unit×Unit ←forIn [0:z] (none,()) fun _ _=>srM (power' z (2 * a+b) (2 * a+b+b+n) z)
  match t.1 with
  | some r=>return .done (some r,u)
  | none=>
   modify fun s=>setPending s ((pendingOf s).modify ((pendingOf s).size - 1) fun(x,y,_)=>(x,y,power' z (2 * a+b) (2 * a+b+b+n) z))
   srQ u n
 else srQ u n
def srA (z r u:Nat):StateT SortSt Sem (ForInStep (Option Unit×Nat)):=do
 if u ≥ z then return .done (none,u)
 let some n ←countRun' u (z - u) | return .done (some (),u)
 if n < r then
  PySem.rule "list.sort.binary-insertion"
  if !(←binarySort' u (min (z - u) r) n) then return .done (some (),u)
  srP z u (min (z - u) r)
 else srP z u n
theorem Zja:sortRuns'=(do
  let st ←get
  let s:Option Unit×Nat ←forIn [0:(arrOf st).size] (none,0) fun _ s=>srA (arrOf st).size (minRun' (arrOf st).size (arrOf st).size 0) s.2
  match s.1 with
  | some r=>return r
  | none=>
   let t:Option Unit×Unit ←forIn [0:(arrOf st).size] (none,()) fun _ _=>srF
   match t.1 with
   | some r=>return r
   | none=>return ()):=by
 rw[sortRuns'_eq];unfold srA srP srQ srM srF
 dsimp only
 congr 1
 funext st
 congr 1
 ·congr 1
  funext _ s
  split
  ·rfl
  ·congr 1
   funext x
   cases x with
   | none=>rfl
   | some n=>
    dsimp only
    split
    ·congr 1
     funext _
     congr 1
     funext b
     split
     ·rfl
     ·congr 1
      funext st2
      cases hb:(pendingOf st2).back? with
      | none=>rfl
      | some t=>
       obtain⟨a,b,c⟩:=t
       dsimp only
       congr 1
       funext t
       obtain⟨t1,t2⟩:=t
       cases t1 <;> rfl
    ·congr 1
     funext st2
     cases hb:(pendingOf st2).back? with
     | none=>rfl
     | some t=>
      obtain⟨a,b,c⟩:=t
      dsimp only
      congr 1
      funext t
      obtain⟨t1,t2⟩:=t
      cases t1 <;> rfl
 ·funext s
  obtain⟨s1,s2⟩:=s
  cases s1 with
  | some r=>rfl
  | none=>
   dsimp only
   congr 1
   funext t
   obtain⟨t1,t2⟩:=t
   cases t1 <;> rfl
end EM
namespace EM
open PySem PySem.W PyProof.Rows
inductive Cov (R:Nat→Nat→Prop):Nat→List (List Nat)→List (Nat×Nat×Nat)→Prop
 | nil {a:Nat}:Cov R a [] []
 | cons {a p:Nat} {X:List Nat} {Xs:List (List Nat)} {q:List (Nat×Nat×Nat)}:X≠[]→X.Pairwise R→Cov R (a+X.length) Xs q→Cov R a (X::Xs) ((a,X.length,p)::q)
section
variable {prog:Program} {w:World} {A:Around} {E:Value→Shared→Prop} {κ:SortKind} {it:Array Keyed} {Ok:Shared→Prop} {N:Nat} {lt:Nat→Nat→Bool} {R:Nat→Nat→Prop} {α β:Type} {g:Nat}
theorem Cov.len:∀{Xs:List (List Nat)} {a:Nat} {q:List (Nat×Nat×Nat)},Cov R a Xs q→Xs.length=q.length∧q.length≤Xs.flatten.length
 | _,_,_,.nil=>⟨rfl,Nat.le_refl _⟩
 | _,_,_,.cons (X:=X) h _ r=>by
  obtain⟨a,b⟩:=r.len;have:=List.length_pos_iff.mpr h;simp only [List.length_cons,List.flatten_cons,List.length_append];omega
theorem Cov.two {X Y:List Nat}:∀{Us Vs:List (List Nat)} {a:Nat} {q:List (Nat×Nat×Nat)},Cov R a (Us++X::Y::Vs) q→∃qu qv p p2,q=qu++(a+Us.flatten.length,X.length,p)::(a+Us.flatten.length+X.length,Y.length,p2)::qv∧qu.length=Us.length∧X≠[]∧Y≠[]∧X.Pairwise R∧Y.Pairwise R∧∀Z:List Nat,Z.Pairwise R→Z.length=X.length+Y.length→Cov R a (Us++Z::Vs) (qu++(a+Us.flatten.length,X.length+Y.length,p)::qv)
 | [],Vs,a,q,h=>by
  cases h with
  | cons h1 h2 r=>
   rename_i p q1
   cases r with
   | cons h3 h4 r=>
    rename_i p2 qv
    refine⟨[],qv,p,p2,by simp,rfl,h1,h3,h2,h4,fun Z hZ hl=>?_⟩
    have hz:Z≠[]:=fun e=>by rw[e]at hl; have:=List.length_pos_iff.mpr h1; simp at hl; omega
    have:=Cov.cons (a:=a) (p:=p) (X:=Z) hz hZ (by rw[hl,←Nat.add_assoc]; exact r);rw[hl]at this
    simpa using this
 | U::Us,Vs,a,_,.cons (p:=p0) (q:=q1) h1 h2 r=>by
  obtain⟨qu,qv,p,p2,e,el,x1,x2,x3,x4,k⟩:=Cov.two (Us:=Us) (Vs:=Vs) r;refine⟨(a,U.length,p0)::qu,qv,p,p2,?_,by simp[el],x1,x2,x3,x4,fun Z hZ hl=>?_⟩
  ·rw[e]
   simp only [List.flatten_cons,List.length_append,List.cons_append,Nat.add_assoc]
  ·have:=Cov.cons (p:=p0) h1 h2 (k Z hZ hl)
   simp only [List.flatten_cons,List.length_append,List.cons_append,Nat.add_assoc]at this ⊢;exact this
theorem Cov.snoc {X:List Nat} (h1:X≠[]) (h2:X.Pairwise R) {p:Nat}:∀{Xs:List (List Nat)} {a:Nat} {q:List (Nat×Nat×Nat)},Cov R a Xs q→Cov R a (Xs++[X]) (q++[(a+Xs.flatten.length,X.length,p)])
 | _,a,_,.nil=>by simpa using Cov.cons (a:=a) (p:=p) h1 h2 .nil
 | _,a,_,.cons (X:=Y) (Xs:=Xs) h3 h4 r=>by
  have:=Cov.snoc h1 h2 (p:=p) r;rw[Nat.add_assoc,←List.length_append,←List.flatten_cons]at this;exact .cons h3 h4 this
theorem Cov.pow (f:Nat→Nat):∀{Xs:List (List Nat)} {a:Nat} {q:List (Nat×Nat×Nat)} (i:Nat),Cov R a Xs q→Cov R a Xs (q.modify i fun x=>(x.1,x.2.1,f x.2.2))
 | _,a,_,0,.nil=>.nil
 | _,a,_,i+1,.nil=>.nil
 | _,a,_,0,.cons h3 h4 r=>.cons h3 h4 r
 | _,a,_,i+1,.cons h3 h4 r=>by
  rw[List.modify_succ_cons];exact .cons h3 h4 (Cov.pow f i r)
structure SrI (R:Nat→Nat→Prop) (N:Nat) (l:List Nat) (Xs:List (List Nat)) (T:List Nat) (q:List (Nat×Nat×Nat)):Prop where
 el:l=Xs.flatten++T
 pm:l.Perm (List.range N)
 cv:Cov R 0 Xs q
theorem SrI.lo {l:List Nat} {Xs:List (List Nat)} {T:List Nat} {q:List (Nat×Nat×Nat)} (h:SrI R N l Xs T q):∀x∈l,x < N:=fun x hx=>by simpa using h.pm.mem_iff.mp hx
theorem Sq.matC (M:CmN prog w A κ it Ok N lt R) {l:List Nat} {Xs:List (List Nat)} {T:List Nat} {q:List (Nat×Nat×Nat)} {i:Nat} (I:SrI R N l Xs T q) (hi:i+1 < q.length) {Q:Bool→SortSt→Prop} (h:∀l' Xs' q' g',SrI R N l' Xs' T q'→q'.length+1=q.length→Xs'.flatten.length=Xs.flatten.length→Q true (stt κ it l' q'.toArray g')):Sq prog w A E Ok (mergeAt' i) (stt κ it l q.toArray g) Q:=by
 have hxl:=I.cv.len.1
 obtain⟨Us,X,Y,Vs,rfl,rfl⟩ : ∃Us X Y Vs,Xs=Us++X::Y::Vs∧i=Us.length:=by
  refine⟨Xs.take i,Xs[i],Xs[i+1],Xs.drop (i+2),?_,by rw[List.length_take]; omega⟩
  conv=>lhs; rw[←List.take_append_drop i Xs]
  rw[List.drop_eq_getElem_cons (by omega),List.drop_eq_getElem_cons (by omega)]
 obtain⟨qu,qv,p,p2,rfl,elq,x1,x2,x3,x4,k⟩:=I.cv.two;rw[Nat.zero_add]at k ⊢
 have el:l=Us.flatten++(X++(Y++(Vs.flatten++T))):=by rw[I.el]; simp
 have pd1:(qu++(Us.flatten.length,X.length,p)::(Us.flatten.length+X.length,Y.length,p2)::qv).toArray[Us.length]?=some (Us.flatten.length,X.length,p):=by
  rw[List.getElem?_toArray,List.getElem?_append_right (by omega),elq,Nat.sub_self]; rfl
 have pd2:(qu++(Us.flatten.length,X.length,p)::(Us.flatten.length+X.length,Y.length,p2)::qv).toArray[Us.length+1]?=some (Us.flatten.length+X.length,Y.length,p2):=by
  rw[List.getElem?_toArray,List.getElem?_append_right (by omega),elq,Nat.add_sub_cancel_left]; rfl
 have hN:=I.lo;have pm:=I.pm;rw[el]at hN pm ⊢;refine Sq.mat M hN x3 x4 x1 x2 pd1 pd2 fun Z g' sz pz=>?_;have hzl:=pz.length_eq;rw[List.length_append]at hzl
 have e5:((qu++(Us.flatten.length,X.length,p)::(Us.flatten.length+X.length,Y.length,p2)::qv).toArray.setIfInBounds Us.length (Us.flatten.length,X.length+Y.length,p)).eraseIdxIfInBounds (Us.length+1)=(qu++(Us.flatten.length,X.length+Y.length,p)::qv).toArray:=by
  rw[List.setIfInBounds_toArray,List.eraseIdxIfInBounds_toArray,List.set_append_right _ _ (by omega),elq,Nat.sub_self,List.set_cons_zero,List.eraseIdx_append_of_length_le (by omega),elq,Nat.add_sub_cancel_left];rfl
 rw[e5];refine h _ (Us++Z::Vs) _ g' ⟨by simp,?_,k Z sz hzl⟩ (by simp only [List.length_append,List.length_cons]; omega) (by simp[hzl]; omega);refine List.Perm.trans (List.Perm.append_left _ ?_) pm;rw[←List.append_assoc X];exact List.Perm.append_right _ pz
theorem Sq.srF (M:CmN prog w A κ it Ok N lt R) {l:List Nat} {Xs:List (List Nat)} {q:List (Nat×Nat×Nat)} (I:SrI R N l Xs [] q) {Q:ForInStep (Option Unit×Unit)→SortSt→Prop} (h1:q.length≤1→Q (.done (none,())) (stt κ it l q.toArray g)) (h2:∀l' Xs' q' g',SrI R N l' Xs' [] q'→q'.length+1=q.length→Q (.yield (none,())) (stt κ it l' q'.toArray g')):Sq prog w A E Ok EM.srF (stt κ it l q.toArray g) Q:=by
 unfold EM.srF;refine Sq.getB ?_;have e1:pendingOf (stt κ it l q.toArray g)=q.toArray:=rfl;rw[e1]
 dsimp only
 by_cases hz:q.toArray.size≤1
 ·rw[if_pos hz]
  exact Sq.pure (h1 (by simpa using hz))
 rw[if_neg hz]
 have hz : ¬q.length≤1:=by simpa using hz
 have hsz:q.toArray.size=q.length:=by simp
 rw[hsz];refine Sq.bind (P1:=fun b st'=>b=true∧∃l' Xs' q' g',st'=stt κ it l' q'.toArray g'∧SrI R N l' Xs' [] q'∧q'.length+1=q.length) (Sq.matC M I ?_ fun l' Xs' q' g' I' hl _=>⟨rfl,l',Xs',q',g',rfl,I',hl⟩) ?_
 ·(repeat' split) <;> omega
 rintro b st' ⟨rfl,l',Xs',q',g',rfl,I',hl⟩;exact Sq.pure (h2 l' Xs' q' g' I' hl)
theorem Sq.srM (M:CmN prog w A κ it Ok N lt R) {l:List Nat} {Xs:List (List Nat)} {T:List Nat} {q:List (Nat×Nat×Nat)} {o:Nat} (I:SrI R N l Xs T q) {Q:ForInStep (Option Unit×Unit)→SortSt→Prop} (h1:Q (.done (none,())) (stt κ it l q.toArray g)) (h2:∀l' Xs' q' g',SrI R N l' Xs' T q'→Xs'.flatten.length=Xs.flatten.length→Q (.yield (none,())) (stt κ it l' q'.toArray g')):Sq prog w A E Ok (EM.srM o) (stt κ it l q.toArray g) Q:=by
 unfold EM.srM;refine Sq.getB ?_;have e1:pendingOf (stt κ it l q.toArray g)=q.toArray:=rfl;rw[e1]
 dsimp only
 split
 ·rename_i x y c hc
  split
  ·exact Sq.pure h1
  ·have hz:1 < q.length:=by
    by_cases hz:q.toArray.size > 1
    ·simpa using hz
    ·rw[if_neg hz]at hc
     cases hc
   have hsz:q.toArray.size=q.length:=by simp
   rw[hsz];refine Sq.bind (P1:=fun b st'=>b=true∧∃l' Xs' q' g',st'=stt κ it l' q'.toArray g'∧SrI R N l' Xs' T q'∧Xs'.flatten.length=Xs.flatten.length) (Sq.matC M I (by omega) fun l' Xs' q' g' I' hl hf=>⟨rfl,l',Xs',q',g',rfl,I',hf⟩) ?_;rintro b st' ⟨rfl,l',Xs',q',g',rfl,I',hf⟩;exact Sq.pure (h2 l' Xs' q' g' I' hf)
 ·exact Sq.pure h1
theorem SrI.more {l:List Nat} {Xs:List (List Nat)} {X T:List Nat} {q:List (Nat×Nat×Nat)} (I:SrI R N l Xs (X++T) q) (h1:X≠[]) (h2:X.Pairwise R):SrI R N l (Xs++[X]) T (q++[(Xs.flatten.length,X.length,0)]):=by
 have:=I.cv.snoc h1 h2 (p:=0);rw[Nat.zero_add]at this;exact⟨by rw[I.el]; simp,I.pm,this⟩
theorem Sq.srP (M:CmN prog w A κ it Ok N lt R) {l:List Nat} {Xs:List (List Nat)} {X T:List Nat} {q:List (Nat×Nat×Nat)} {z u n:Nat} (I:SrI R N l Xs (X++T) q) (hu:Xs.flatten.length=u) (hn:X.length=n) (h1:X≠[]) (h2:X.Pairwise R) {Q:ForInStep (Option Unit×Nat)→SortSt→Prop} (h:∀l' Xs' q' g',SrI R N l' Xs' T q'→Xs'.flatten.length=u+n→Q (.yield (none,u+n)) (stt κ it l' q'.toArray g')):Sq prog w A E Ok (EM.srP z u n) (stt κ it l q.toArray g) Q:=by
 have fin:∀(l:List Nat) (Xs:List (List Nat)) (q:List (Nat×Nat×Nat)) (g:Nat),SrI R N l Xs (X++T) q→Xs.flatten.length=u→Sq prog w A E Ok (srQ u n) (stt κ it l q.toArray g) Q:=fun l Xs q g I hu=>by
  unfold srQ;refine Sq.modB ?_;have I2:=I.more h1 h2;rw[hu,hn]at I2;have:=h l _ _ g I2 (by simp[hu,hn]);refine Sq.pure ?_
  have e:setPending (stt κ it l q.toArray g) ((pendingOf (stt κ it l q.toArray g)).push (u,n,0))=stt κ it l (q++[(u,n,0)]).toArray g:=by
   show SortSt.mk' κ (l.map (kas_item it)).toArray (q.toArray.push (u,n,0)) g none=SortSt.mk' κ (l.map (kas_item it)).toArray (q++[(u,n,0)]).toArray g none;rw[List.push_toArray]
  rw[e];exact this
 unfold EM.srP;refine Sq.getB ?_
 dsimp only
 split
 ·rename_i a b c hc
  refine Sq.bind (P1:=fun t st'=>t.1=none∧∃l' Xs' q' g',st'=stt κ it l' q'.toArray g'∧SrI R N l' Xs' (X++T) q'∧Xs'.flatten.length=u) ?_ ?_
  ·refine Sq.range (fun i t st'=>t.1=none∧∃l' Xs' q' g',st'=stt κ it l' q'.toArray g'∧SrI R N l' Xs' (X++T) q'∧Xs'.flatten.length=u) ⟨rfl,l,Xs,q,g,rfl,I,hu⟩ ?_ (fun c st' h=>h)
   rintro i _ c st' hi ⟨_,l',Xs',q',g',rfl,I',hu'⟩;exact Sq.srM M I' ⟨rfl,l',Xs',q',g',rfl,I',hu'⟩ fun l2 Xs2 q2 g2 I2 h2=>⟨rfl,l2,Xs2,q2,g2,rfl,I2,h2.trans hu'⟩
  ·rintro⟨t1,t2⟩ st' ⟨rfl,l',Xs',q',g',rfl,I',hu'⟩
   dsimp only
   refine Sq.modB ?_
   have e:setPending (stt κ it l' q'.toArray g') ((pendingOf (stt κ it l' q'.toArray g')).modify ((pendingOf (stt κ it l' q'.toArray g')).size - 1) fun(x,y,_)=>(x,y,power' z (2 * a+b) (2 * a+b+b+n) z))=stt κ it l' (q'.modify (q'.length - 1) fun x=>(x.1,x.2.1,power' z (2 * a+b) (2 * a+b+b+n) z)).toArray g':=by
    show SortSt.mk' κ (l'.map (kas_item it)).toArray (q'.toArray.modify (q'.toArray.size - 1) fun x=>(x.1,x.2.1,power' z (2 * a+b) (2 * a+b+b+n) z)) g' none=SortSt.mk' κ (l'.map (kas_item it)).toArray _ g' none;rw[List.modify_toArray,List.size_toArray]
   rw[e];exact fin l' Xs' _ g' ⟨I'.el,I'.pm,I'.cv.pow (fun _=>power' z (2 * a+b) (2 * a+b+b+n) z) _⟩ hu'
 ·exact fin l Xs q g I hu
theorem Zrh (M:CmN prog w A κ it Ok N lt R) {F T:List Nat} {p':Array Nat} {n:Nat} (hz:(F++T).length=N) (hG:Ga N p') (hP:PreO (F++T).toArray p' F.length) (hn1:1≤n) (hn:F.length+n≤N) (a:AscO R p' F.length n):∃X T',p'.toList=F++(X++T')∧X.length=n∧X≠[]∧X.Pairwise R:=by
 have hs:=hG.sz
 have gd:∀(p:Array Nat) (k:Nat),p.getD k 0=p.toList.getD k 0:=fun p k=>by
  rw[Array.getD_eq_getD_getElem?,List.getD_eq_getElem?_getD,Array.getElem?_toList]
 have hl:p'.toList.length=N:=by rw[Array.length_toList]; exact hs
 have e1:p'.toList.take F.length=F:=by
  apply List.ext_getElem
  ·rw[List.length_take]; omega
  ·intro k h1 h2
   have:=hP k h2;rw[gd,gd,List.getD_eq_getElem?_getD,List.getD_eq_getElem?_getD,List.getElem?_eq_getElem (by omega)]at this
   have e2:(F++T).toArray.toList[k]?=some F[k]:=by simp[List.getElem?_append_left h2]
   rw[e2]at this;rw[List.getElem_take];exact this
 refine⟨(p'.toList.drop F.length).take n,(p'.toList.drop F.length).drop n,?_,?_,?_,?_⟩
 ·rw[List.take_append_drop]
  conv=>lhs; rw[←List.take_append_drop F.length p'.toList,e1]
 ·rw[List.length_take,List.length_drop]; omega
 ·intro e
  have:=congrArg List.length e;rw[List.length_take,List.length_drop]at this;simp at this;omega
 ·rw[List.pairwise_iff_getElem]
  intro i j hi hj hij;rw[List.length_take,List.length_drop]at hi hj;have:=a.le M (i:=i) (j:=j) (by omega) (by omega);rw[gd,gd,List.getD_eq_getElem?_getD,List.getD_eq_getElem?_getD,List.getElem?_eq_getElem (by omega),List.getElem?_eq_getElem (by omega)]at this;rw[List.getElem_take,List.getElem_take,List.getElem_drop,List.getElem_drop];exact this
theorem ZvN {l:List Nat} (h:l.Perm (List.range N)):Ga N l.toArray:=⟨by have:=h.length_eq; simpa using this,by rw[Array.perm_iff_toList_perm]; simpa using h⟩
theorem Sq.srA (M:CmN prog w A κ it Ok N lt R) {l:List Nat} {Xs:List (List Nat)} {T:List Nat} {q:List (Nat×Nat×Nat)} {r u:Nat} (I:SrI R N l Xs T q) (hu:Xs.flatten.length=u) {Q:ForInStep (Option Unit×Nat)→SortSt→Prop} (h1:N≤u→Q (.done (none,u)) (stt κ it l q.toArray g)) (h2:∀l' Xs' T' q' g' n,SrI R N l' Xs' T' q'→1≤n→Xs'.flatten.length=u+n→Q (.yield (none,u+n)) (stt κ it l' q'.toArray g')):Sq prog w A E Ok (EM.srA N r u) (stt κ it l q.toArray g) Q:=by
 unfold EM.srA
 by_cases hz:u ≥ N
 ·rw[if_pos hz]
  exact Sq.pure (h1 hz)
 rw[if_neg hz]
 have hlN:l.length=N:=by have:=I.pm.length_eq; simpa using this
 have el:=I.el
 have hlu:u+T.length=N:=by rw[←hlN,el,List.length_append,hu]
 have hG:=ZvN I.pm;refine Sq.bind (P1:=fun a st'=>∃n p',a=some n∧st'=stA κ it p' q.toArray g∧Run R N l.toArray p' u (N - u) n) ?_ ?_
 ·rw[←ZmD]
  exact Sq.cnt M hG (by omega) (by omega) fun n p' hR=>⟨n,p',rfl,rfl,hR⟩
 rintro a st' ⟨n,p',rfl,rfl,hG',hP',n1,nm,hA⟩
 dsimp only
 have go:∀(p':Array Nat) (n:Nat),Ga N p'→PreO l.toArray p' u→1≤n→u+n≤N→AscO R p' u n→Sq prog w A E Ok (EM.srP N u n) (stA κ it p' q.toArray g) Q:=fun p' n hG hP n1 nm hA=>by
  subst hu;rw[el]at hP;obtain⟨X,T',e,hX,x1,x2⟩:=Zrh M (by rw[←el]; exact hlN) hG hP n1 nm hA
  have es:stA κ it p' q.toArray g=stt κ it (Xs.flatten++(X++T')) q.toArray g:=by rw[←e,←ZmD,Array.toArray_toList]
  rw[es]
  have pm:(Xs.flatten++(X++T')).Perm (List.range N):=by
   rw[←e];have:=Array.perm_iff_toList_perm.mp hG.pm
   simpa using this
  exact Sq.srP M ⟨rfl,pm,I.cv⟩ rfl hX x1 x2 fun l' Xs' q' g' I' hl=>h2 l' Xs' T' q' g' n I' n1 hl
 by_cases hr:n < r
 ·rw[if_pos hr]
  refine Sq.ruleB ?_;refine Sq.bind (P1:=fun b st'=>∃p',b=true∧st'=stA κ it p' q.toArray g∧Ga N p'∧PreO l.toArray p' u∧AscO R p' u (min (N - u) r)) (Sq.bin M hG' hP' (by omega) n1 (by omega) hA fun p2 b1 b2 b3=>⟨p2,rfl,rfl,b1,b2,b3⟩) ?_;rintro b st' ⟨p2,rfl,rfl,b1,b2,b3⟩;exact go p2 _ b1 b2 (by omega) (by omega) b3
 ·rw[if_neg hr]
  exact go p' n hG' hP' n1 (by omega) hA
theorem Sq.runs (M:CmN prog w A κ it Ok N lt R) {Q:Unit→SortSt→Prop} (h:∀l pd g,l.Perm (List.range N)→l.Pairwise R→Q () (stt κ it l pd g)):Sq prog w A E Ok sortRuns' (stt κ it (List.range N) #[] g) Q:=by
 rw[Zja];refine Sq.getB ?_
 have hz:(arrOf (stt κ it (List.range N) #[] g)).size=N:=by
  show((List.range N).map (kas_item it)).toArray.size=N;simp
 rw[hz];refine Sq.bind (P1:=fun s st'=>s.1=none∧∃l Xs q g',st'=stt κ it l q.toArray g'∧SrI R N l Xs [] q) ?_ ?_
 ·refine Sq.range (fun i s st'=>∃u l Xs T q g',s=(none,u)∧st'=stt κ it l q.toArray g'∧SrI R N l Xs T q∧Xs.flatten.length=u∧i≤u) ⟨0,_,[],List.range N,[],g,rfl,rfl,⟨rfl,List.Perm.refl _,.nil⟩,rfl,Nat.le_refl _⟩ ?_ ?_
  ·rintro i _ s st' hi ⟨u,l,Xs,T,q,g',rfl,rfl,I,hu,hiu⟩
   refine Sq.srA M I hu (fun hN=>?_) fun l' Xs' T' q' g' n I' n1 hl=>⟨u+n,l',Xs',T',q',g',rfl,rfl,I',hl,by omega⟩
   have hT:T=[]:=by
    have h1:=I.pm.length_eq;rw[I.el,List.length_append,hu,List.length_range]at h1;exact List.length_eq_zero_iff.mp (by omega)
   subst hT;exact⟨rfl,l,Xs,q,g',rfl,I⟩
  ·rintro s st' ⟨u,l,Xs,T,q,g',rfl,rfl,I,hu,hiu⟩
   have hT:T=[]:=by
    have h1:=I.pm.length_eq;rw[I.el,List.length_append,hu,List.length_range]at h1;exact List.length_eq_zero_iff.mp (by omega)
   subst hT;exact⟨rfl,l,Xs,q,g',rfl,I⟩
 rintro⟨s1,s2⟩ st' ⟨rfl,l,Xs,q,g',rfl,I⟩
 dsimp only
 refine Sq.bind (P1:=fun t st'=>t.1=none∧∃l Xs q g',st'=stt κ it l q.toArray g'∧SrI R N l Xs [] q∧q.length≤1) ?_ ?_
 ·refine Sq.range (fun i t st'=>t.1=none∧∃l Xs q g',st'=stt κ it l q.toArray g'∧SrI R N l Xs [] q∧(q.length+i≤N∨q.length≤1)) ⟨rfl,l,Xs,q,g',rfl,I,?_⟩ ?_ ?_
  ·have h1:=I.cv.len.2
   have h2:=I.pm.length_eq;rw[I.el,List.append_nil,List.length_range]at h2;exact .inl (by omega)
  ·rintro i _ t st' hi ⟨_,l,Xs,q,g',rfl,I,hq⟩
   exact Sq.srF M I (fun hl=>⟨rfl,l,Xs,q,g',rfl,I,hl⟩) fun l' Xs' q' g' I' hl=>⟨rfl,l',Xs',q',g',rfl,I',by omega⟩
  ·rintro t st' ⟨h0,l,Xs,q,g',rfl,I,hq⟩
   exact⟨h0,l,Xs,q,g',rfl,I,by omega⟩
 rintro⟨t1,t2⟩ st' ⟨rfl,l,Xs,q,g',rfl,I,hq⟩;refine Sq.pure (h l _ g' I.pm ?_);have el:=I.el;rw[List.append_nil]at el;have hc:=I.cv;have hl:=hc.len.1
 match Xs,q,hc,hl,hq,el with
 | [],_,_,_,_,el=>rw[el]; exact List.Pairwise.nil
 | [X],_,.cons _ h2 _,_,_,el=>rw[el]; simpa using h2
 | X::Y::Xs,q,_,hl,hq,_=>simp only [List.length_cons]at hl; omega
end
end EM
namespace L2
open PySem PySem.Spec PyProof.Rows
section
variable {prog:Program} {w:World} {A:Around} {E:Value→Shared→Prop} {s:Shared}
def Zcb (h:Heap) (a:Addr) (ws:List Value):Heap:=((h.update a (Obj.mapSeq fun _=>#[])).push (seqObj "tuple" ws.toArray 0)).push (seqObj "list" #[] 0)
theorem ZpC {a:Addr} {ws:List Value} {k:Nat} {κ:SortKind} {lt:Nat→Nat→Bool} {R:Nat→Nat→Prop} {Pq:PySem.Fin→Shared→Prop} (ho:s.heap.get? a=some (seqObj "list" ws.toArray k)) (h2:2≤ws.length) (fit:ws.length≤100000)
  (hk:∀Q:SortKind→Shared→Prop,Q κ { s with heap:=Zcb s.heap a ws }→wpAny (model prog w) A (keyKind' ws.toArray) Q E { s with heap:=Zcb s.heap a ws })
  (M:EM.CmN prog w A κ (ws.toArray.zip ws.toArray) (fun s'=>s' = { s with heap:=Zcb s.heap a ws }) ws.length lt R)
  (h:∀l:List Nat,l.Perm (List.range ws.length)→l.Pairwise R→Pq (.done (.ret .none)) { s with heap:=sortedHeap s.heap a ws (l.map fun i=>ws.getD i Value.none).toArray }):wpAny (model prog w) A (Builtin.«list.sort» ⟨[.ref a],[]⟩) Pq E s:=by
 have sm : ¬ws.toArray.size < 2:=by rw[List.size_toArray]; omega
 have fz:ws.toArray.size≤sizeLine:=by rw[List.size_toArray,sizeLine_eq]; omega
 have ha:=Heap.lt_size ho;rw[list_sort_plain];refine wpAny_bind (listItems_at ho rfl (wpAny_bind (listUpdate_at ho rfl ?_ fz (Nat.zero_le _))));obtain⟨c1,hc1⟩ : ∃c,(s.heap.update a (Obj.mapSeq fun _=>#[])).get? a=some (seqObj "list" #[] c):=⟨_,get?_update_seq ho _⟩;refine wpAny_bind (seqEpoch_at hc1 rfl (wpAny_bind (wpAny_newTuple ?_ (by simpa using fz))));refine wpAny_bind (wpAny_newList ?_ (Nat.zero_le _));refine wpAny_holding ?_;have hc2:(Zcb s.heap a ws).get? a=some (seqObj "list" #[] c1):=Heap.get?_push_of_some _ (Heap.get?_push_of_some _ hc1);show wpAny (model prog w) A _ Pq E { s with heap:=Zcb s.heap a ws }
 dsimp only
 rw[if_neg sm,if_neg sm];refine wpAny_bind (hk _ ?_)
 have iz:(ws.toArray.zip ws.toArray).size=ws.length:=by simp
 have est:SortSt.mk' κ (ws.toArray.zip ws.toArray) #[] 7 none=EM.stt κ (ws.toArray.zip ws.toArray) (List.range ws.length) #[] 7:=by
  have e:=PySem.W.kas_range (ws.toArray.zip ws.toArray);rw[iz,List.map_toArray]at e;unfold EM.stt;rw[e]
 rw[est];refine wpAny_bind (EM.Sq.runs (E:=E) M (g:=7) (Q:=fun _ st'=>∃l pd g,l.Perm (List.range ws.length)∧l.Pairwise R∧st'=EM.stt κ (ws.toArray.zip ws.toArray) l pd g) (fun l pd g a b=>⟨l,pd,g,a,b,rfl⟩) (fun _ st' s'=>s' = { s with heap:=Zcb s.heap a ws }∧∃l pd g,l.Perm (List.range ws.length)∧l.Pairwise R∧st'=EM.stt κ (ws.toArray.zip ws.toArray) l pd g) _ rfl (fun _ st' s' e q=>⟨e,q⟩) |> fun z=>wpAny_mono z ?_ fun _ _ e=>e);rintro⟨⟨⟩,st'⟩ s' ⟨rfl,l,pd,g,pm,pw,rfl⟩
 dsimp only
 have ez:(arrOf (EM.stt κ (ws.toArray.zip ws.toArray) l pd g)).map (·.2)=(l.map fun i=>ws.getD i Value.none).toArray:=by
  show((l.map (PySem.W.kas_item (ws.toArray.zip ws.toArray))).toArray.map (·.2))=_;rw[List.map_toArray,List.map_map];exact congrArg List.toArray (List.map_congr_left fun i _=>by show(PySem.W.kas_item _ i).2=_; rw[PySem.W.kat_item rfl])
 rw[ez]
 have lz:l.length=ws.length:=by have:=pm.length_eq; simpa using this
 refine wpAny_bind (seqEpoch_at hc2 rfl (wpAny_bind (listUpdate_at hc2 rfl ?_ (Nat.zero_le _) (by rw[List.size_toArray,List.length_map,sizeLine_eq]; omega))));have ef:failedOf (EM.stt κ (ws.toArray.zip ws.toArray) l pd g)=none:=rfl;rw[ef];simp only [bne_self_eq_false,Bool.false_eq_true,if_false];exact wpAny_pure (h l pm pw)
def ZcW (h:Heap) (ws:List Value):Heap:=((h.push (seqObj "list" #[] 0)).update h.objs.size (Obj.mapSeq (· ++ ws.toArray))).push (seqObj "list" ws.toArray 0)
theorem Zse (h:Heap) (ws:List Value):(ZcW h ws).get? (h.objs.size+1)=some (seqObj "list" ws.toArray 0):=by
 have z1:((h.push (seqObj "list" #[] 0)).update h.objs.size (Obj.mapSeq (· ++ ws.toArray))).objs.size=h.objs.size+1:=by rw[Heap.size_update,size_push']
 have:=Heap.get?_push_size ((h.push (seqObj "list" #[] 0)).update h.objs.size (Obj.mapSeq (· ++ ws.toArray))) (o:=seqObj "list" ws.toArray 0) rfl;rw[z1]at this;exact this
theorem Ztt {h:Heap} {ws:List Value} {b:Addr} {o:Obj} (q:h.get? b=some o):(ZcW h ws).get? b=some o:=by
 have hlt:b < h.objs.size:=Heap.lt_size q
 have z1:((h.push (seqObj "list" #[] 0)).update h.objs.size (Obj.mapSeq (· ++ ws.toArray))).objs.size=h.objs.size+1:=by rw[Heap.size_update,size_push']
 unfold ZcW;rw[Heap.get?_push_ne _ _ _ (by rw[z1]; exact Nat.ne_of_lt (Nat.lt_succ_of_lt hlt)),Heap.get?_update_ne _ _ _ _ (Nat.ne_of_lt hlt),Heap.get?_push_ne _ _ _ (Nat.ne_of_lt hlt)];exact q
theorem Ztf {h:Heap} {a b:Addr} {ws:List Value} {o:Obj} (hb:b≠a) (q:h.get? b=some o):(Zcb h a ws).get? b=some o:=by
 unfold Zcb;refine Heap.get?_push_of_some _ (Heap.get?_push_of_some _ ?_);rw[Heap.get?_update_ne _ _ _ _ hb];exact q
theorem ZlK {l:Addr} {ws:List Value} {κ:SortKind} {lt:Nat→Nat→Bool} {R:Nat→Nat→Prop} {Q:Value→Shared→Prop} (hl:s.heap.IsList l ws.toArray) (h2:2≤ws.length) (fit:ws.length≤100000)
  (hk:∀Q:SortKind→Shared→Prop,Q κ { s with heap:=Zcb (ZcW s.heap ws) (s.heap.objs.size+1) ws }→wpAny (model prog w) A.in1.in1 (keyKind' ws.toArray) Q E { s with heap:=Zcb (ZcW s.heap ws) (s.heap.objs.size+1) ws })
  (M:EM.CmN prog w A.in1.in1 κ (ws.toArray.zip ws.toArray) (fun s'=>s' = { s with heap:=Zcb (ZcW s.heap ws) (s.heap.objs.size+1) ws }) ws.length lt R)
  (h:∀l:List Nat,l.Perm (List.range ws.length)→l.Pairwise R→Q (.ref (s.heap.objs.size+1)) { s with heap:=sortedAll s.heap ws (l.map fun i=>ws.getD i Value.none).toArray }):wpAny (model prog w) A (call (.builtin "sorted") [.ref l]) Q E s:=by
 have fz:ws.length≤sizeLine:=by rw[sizeLine_eq]; omega
 refine Calls.call_function_entry kind_sorted plain_sorted entry_sorted (args_sorted1 _) ?_;unfold Builtin.«sorted»;refine wpAny_bind (m:=checkCount "sorted" 1 1 _) (wpAny_pure (wpAny_bind (collect_list hl ?_ (by rw[sizeLine_eq]; omega))));refine wpAny_bind (wpAny_newList ?_ fz)
 have z1:((s.heap.push (seqObj "list" #[] 0)).update s.heap.objs.size (Obj.mapSeq (· ++ ws.toArray))).objs.size=s.heap.objs.size+1:=by rw[Heap.size_update,size_push']
 show wpAny _ _ _ _ _ { s with heap:=ZcW s.heap ws };rw[z1];refine wpAny_bind (wpAny_holding (wpAny_call_entry slot_list_sort ⟨_,Zse s.heap ws,rfl⟩ entry_list_sort (ZpC (s:={ s with heap:=ZcW s.heap ws }) (Zse s.heap ws) h2 fit hk M fun l a b=>⟨_,rfl,?_⟩) (args_list_sort _)));exact wpAny_pure ⟨_,rfl,h l a b⟩
end
section
variable {X:Cx}
def Zsg (K:PySem.W.Frag):List V→Hp→VK→Prop:=fun xs H Q=>∃l ps ks,xs=[.ref l]∧SqL K H l (ps.map V.ref)∧Paired (Zes H) ps ks∧ps.length≤100000∧
 ∀(l':Addr) (ps':List Addr) (ks':List (Int×Int)),Paired (Zes H) ps' ks'→ps'.Perm ps→ks'.Perm ks→ks'.Pairwise ple→H l'=none→Q (.ref l') (upd H l' (.lst (ps'.map V.ref)))
theorem Zgt:Zfz X (.builtin "sorted") (Zsg X.K):=by
 intro pins s σ H xs us Q I r h;obtain⟨l,ps,ks,rfl,hq,hp,hfit,q⟩:=h;obtain⟨u,rfl,rx⟩:=Zj4 r
 cases rx
 obtain⟨its,r',pl,hz⟩:=I.list hq;obtain rfl:=Zk5 r';have hkl:ps.length=ks.length:=Paired.length hp;have hvl:(ps.map Value.ref).length=ps.length:=List.length_map _
 by_cases few:ps.length < 2
 ·refine Znz pl.isList (by rw[hvl]; exact few) ?_
  obtain⟨c,hc⟩:=sortedAll_at s.heap (ps.map Value.ref) (ps.map Value.ref).toArray;have hf:H (s.heap.objs.size+1)=none:=I.hok.fresh (Nat.le_succ _);refine⟨.ref (s.heap.objs.size+1),_,I.laid (t':=s.toks) (o:=.lst (ps.map V.ref)) (fun b o e=>sortedAll_old e) (Nat.le_succ _) ⟨hz,_,c,Zh1 ps,hc⟩,rfl,q _ ps ks hp (List.Perm.refl _) (List.Perm.refl _) ?_ hf⟩
  match ks,hkl with
  | [],_=>exact .nil
  | [k],_=>exact List.pairwise_singleton _ _
  | a::b::r,e=>rw[e]at few; simp at few; omega
 ·have h0:0 < ps.length:=by omega
  have hlt:∀b o,s.heap.get? b=some o→b≠s.heap.objs.size+1:=fun b o e z=>absurd (Heap.lt_size e) (by rw[z]; exact Nat.not_lt.mpr (Nat.le_succ _))
  have tup1:∀p k,Zes H p k→∃o t u c,(Zcb (ZcW s.heap (ps.map Value.ref)) (s.heap.objs.size+1) (ps.map Value.ref)).get? p=some o∧o.cls=.type "tuple"∧o.data=.seq #[.int k.1 t,.int k.2 u] c:=fun p k hpk=>by
   obtain⟨o,t,u,c,e,hc,hd⟩:=I.tup_at hpk;exact⟨o,t,u,c,Ztf (hlt p o e) (Ztt e),hc,hd⟩
  have tups:∀(ps0:List Addr) (ks0:List (Int×Int)),Paired (Zes H) ps0 ks0→∃fs,PySem.W.KatTups (Zcb (ZcW s.heap (ps.map Value.ref)) (s.heap.objs.size+1) (ps.map Value.ref)) (ps0.map Value.ref) fs∧fs.length=ps0.length∧∀v∈fs,∃i t,v=Value.int i t:=by
   intro ps0 ks0 hp
   induction hp with
   | nil=>exact⟨[],.nil,rfl,fun v z=>nomatch z⟩
   | cons r _ ih=>
    obtain⟨fs,a1,a2,a3⟩:=ih;obtain⟨o,t,u,c,e,hc,hd⟩:=tup1 _ _ r;refine⟨_::fs,.cons e hc hd rfl a1,by simp[a2],fun v hv=>?_⟩
    rcases List.mem_cons.mp hv with rfl | hv
    ·exact⟨_,_,rfl⟩
    ·exact a3 v hv
  obtain⟨fs,ft,fl,fi⟩:=tups ps ks hp
  have at_:∀i,i < ps.length→(ps.map Value.ref).getD i Value.none=Value.ref (ps.getD i 0):=fun i hi=>by
   simp[List.getD_eq_getElem?_getD,hi]
  have M:EM.CmN X.prog X.w X.A.in1.in1 (tuples' (Value.type "int" != Value.type "tuple")) ((ps.map Value.ref).toArray.zip (ps.map Value.ref).toArray) (fun s'=>s' = { s with heap:=Zcb (ZcW s.heap (ps.map Value.ref)) (s.heap.objs.size+1) (ps.map Value.ref) }) (ps.map Value.ref).length (fun i j=>pltB (ks.getD i (0,0)) (ks.getD j (0,0))) (fun i j=>ple (ks.getD i (0,0)) (ks.getD j (0,0))):={
   ask:=fun i j hi hj C s' hs hC=>by
    subst hs;have hC:=hC _ rfl;rw[hvl]at hi hj;rw[←PySem.W.kat_ask_eq rfl];unfold PySem.W.kas_ask;rw[at_ i hi,at_ j hj];obtain⟨o1,t1,u1,c1,g1,_,d1⟩:=tup1 _ _ (ZfJ hp 0 (0,0) hi);obtain⟨o2,t2,u2,c2,g2,_,d2⟩:=tup1 _ _ (ZfJ hp 0 (0,0) hj);refine PySem.W.kat_lt g1 d1 g2 d2 ?_;refine PySem.W.kat_cons (wpAny_eqBool_int ?_);unfold pltB at hC;refine PySem.W.kat_go (fun e=>PySem.W.kat_yes ?_) (fun e=>PySem.W.kat_no ?_)
    ·have e:=eq_of_beq e
     rw[if_pos e]at hC;refine PySem.W.kat_cons (wpAny_eqBool_int (PySem.W.kat_go (fun e'=>PySem.W.kat_yes (PySem.W.kat_nil ?_)) (fun e'=>PySem.W.kat_no ?_)))
     ·have e':=eq_of_beq e'
      rw[e',decide_eq_false (Int.lt_irrefl _)]at hC;exact hC
     ·exact PySem.W.kat_one _ _ (lt_int hC)
    ·rw[if_neg (fun z=>by rw[z,beq_self_eq_true]at e; cases e)]at hC
     exact oneLt_int hC
   yes:=fun i j h=>Zq9 h
   no:=fun i j h=>Zts h
   tr:=fun i j k a b=>Zsc a b }
  refine ZlK pl.isList (by rw[hvl]; omega) (by rw[hvl]; exact hfit) (fun Q hQ=>?_) M fun ix pm pw=>?_
  ·refine PySem.W.kat_kind (T:=.type "int") (s:={ s with heap:=Zcb (ZcW s.heap (ps.map Value.ref)) (s.heap.objs.size+1) (ps.map Value.ref) }) ft (by omega) (fun v hv=>?_) (by decide) hQ
   obtain⟨i,t,rfl⟩:=fi v hv;exact PySem.W.Looks.of_pure rfl
  ·rw[hvl]at pm
   have hix:∀i∈ix,i < ps.length:=fun i hi=>by simpa using pm.mem_iff.mp hi
   have eo:(ix.map fun i=>(ps.map Value.ref).getD i Value.none)=(ix.map fun i=>ps.getD i 0).map Value.ref:=by
    rw[List.map_map];exact List.map_congr_left fun i hi=>at_ i (hix i hi)
   rw[eo];have hpp:=Zfw 0 ps pm;have hkk:(ix.map fun i=>ks.getD i (0,0)).Perm ks:=Zfw (0,0) ks (by rw[←hkl]; exact pm);have hpk:=ZkN hp 0 (0,0) ix hix;have hlen:(ix.map fun i=>ps.getD i 0).length=ps.length:=hpp.length_eq;obtain⟨c,hc⟩:=sortedAll_at s.heap (ps.map Value.ref) ((ix.map fun i=>ps.getD i 0).map Value.ref).toArray;have hf:H (s.heap.objs.size+1)=none:=I.hok.fresh (Nat.le_succ _);refine⟨.ref (s.heap.objs.size+1),_,I.laid (t':=s.toks) (o:=.lst ((ix.map fun i=>ps.getD i 0).map V.ref)) (fun b o e=>sortedAll_old e) (Nat.le_succ _) ⟨?_,_,c,Zh1 _,hc⟩,rfl,q _ _ _ hpk hpp hkk ?_ hf⟩
   ·rw[List.length_map,hlen,sizeLine_eq]; omega
   ·rw[List.pairwise_map]
    exact pw
end
end L2
namespace L2
open PySem PySem.Spec PyProof.Rows
section
variable {X:Cx} {K:PySem.W.Frag} {σ:St} {H:Hp} {Q:VK} {a:Expr} {ta:TE} {pos:Pos}
def rSlX:V→Option Int→Option Int→Hp→VK→Prop:=fun x lo hi H Q=>∃z,x=.str z∧z.length≤sizeLine∧Q (.str (Txt.slice z lo hi)) H
theorem Zvm:SlR X rSlX:=by
 intro pins s σ H x v vl vu lo hi sl Q I rx hs pl pu h;obtain⟨z,rfl,hz,q⟩:=h;obtain⟨t,rfl⟩:=rx;refine⟨"str",_,F.slot_str_getitem.lookup,typeIs_str _ _ _,?_⟩;obtain⟨o,ho,hc,hd⟩:=hs
 have fin:∀(l u:Option (Int×Tok)),vl=partValue l→vu=partValue u→l.map (·.1)=lo→u.map (·.1)=hi→wpAny (model X.prog X.w) X.A (getItem (.str z t) (.ref sl)) (EP X pins σ Q) X.xe s:=fun l u e1 e2 e3 e4=>by
  subst e1 e2 e3 e4
  exact wpAny_getItem_str_slice (l:=l) (u:=u) (st:=none) ⟨o,ho,hc,hd⟩ rfl
   (post_val_or_str ⟨Nat.le_trans (Txt.slice_le z _ _) hz,fun t' k=>⟨.str _,H,I.tok k,⟨t',rfl⟩,q⟩⟩)
 have pv:∀{v:Value} {o:Option Int},IsPart v o→∃l:Option (Int×Tok),v=partValue l∧l.map (·.1)=o:=fun {v o} h=>by
  cases h <;> first | exact⟨none,rfl,rfl⟩ | exact⟨some (_,_),rfl,rfl⟩
 obtain⟨l,e1,e3⟩:=pv pl;obtain⟨u,e2,e4⟩:=pv pu;exact fin l u e1 e2 e3 e4
def rSlA (K:PySem.W.Frag):V→Option Int→Option Int→Hp→VK→Prop:=fun x lo hi H Q=>rSlG K x lo hi H Q∨rSlX x lo hi H Q
theorem Zvj:SlR X (rSlA X.K):=SlR.or Zvl Zvm
theorem ZvW {p:Addr} {xs ys:List V} {lo hi:Option Int} (h:SqL K H p xs) (e:cutV xs lo hi=ys) (k:∀(l:Addr) (H':Hp),Same H H'→H l=none→H' l=some (.lst ys)→Q (.ref l) H'):rSlA K (.ref p) lo hi H Q:=.inl (j_sl h e k)
end
end L2
namespace L2
open PySem PySem.Spec PyProof.Rows
mutual
def DV (H:Hp):PyData→V→Prop
 | .none,v=>v=.non
 | .bool b,v=>v=.bl b
 | .int i,v=>v=.int i
 | .str x,v=>v=.str x
 | .list ds,v=>∃p xs,v=.ref p∧H p=some (.lst xs)∧DVs H ds xs
 | .tuple ds,v=>∃p xs,v=.ref p∧H p=some (.tup xs)∧DVs H ds xs
 | .dict _,_=>False
def DVs (H:Hp):List PyData→List V→Prop
 | [],xs=>xs=[]
 | d::ds,xs=>∃v r,xs=v::r∧DV H d v∧DVs H ds r
end
section
variable {X:Cx} {pins:List (Addr×Obj)} {σ:St} {H:Hp} {s:Shared}
mutual
theorem Zeo (I:Inv X pins σ H s):∀(d:PyData) (v:V) (u:Value),DV H d v→RelV v u→∃as,Reads s.heap u d as
 | .none,v,u,h,r=>by
  rw[DV]at h; subst h; cases r; exact⟨_,.none⟩
 | .bool b,v,u,h,r=>by
  rw[DV]at h; subst h; cases r; exact⟨_,.bool b⟩
 | .int i,v,u,h,r=>by
  rw[DV]at h; subst h; obtain⟨t,rfl⟩:=r; exact⟨_,.int i t⟩
 | .str x,v,u,h,r=>by
  rw[DV]at h; subst h; obtain⟨t,rfl⟩:=r; exact⟨_,.str x t⟩
 | .list ds,v,u,h,r=>by
  rw[DV]at h;obtain⟨p,xs,rfl,e,hs⟩:=h
  cases r
  obtain⟨z,its,n,r',e'⟩:=I.hok p _ e;obtain⟨as,ra⟩:=Zh0 I ds xs its hs r';exact⟨_,.list e' rfl rfl (by simpa using ra)⟩
 | .tuple ds,v,u,h,r=>by
  rw[DV]at h;obtain⟨p,xs,rfl,e,hs⟩:=h
  cases r
  obtain⟨z,its,r',o,e',hc,n,hd⟩:=I.hok p _ e;obtain⟨as,ra⟩:=Zh0 I ds xs its hs r';exact⟨_,.tuple e' hc hd (by simpa using ra)⟩
 | .dict _,v,u,h,r=>by rw[DV]at h; exact h.elim
theorem Zh0 (I:Inv X pins σ H s):∀(ds:List PyData) (xs:List V) (us:List Value),DVs H ds xs→Vals xs us→∃as,ReadsAll s.heap us ds as
 | [],xs,us,h,r=>by
  rw[DVs]at h; subst h; cases r; exact⟨_,.nil⟩
 | d::ds,xs,us,h,r=>by
  rw[DVs]at h;obtain⟨v,r0,rfl,h1,h2⟩:=h
  cases r with
  | cons r1 r2=>
   obtain⟨a1,q1⟩:=Zeo I d v _ h1 r1;obtain⟨a2,q2⟩:=Zh0 I ds r0 _ h2 r2;exact⟨_,.cons q1 q2⟩
end
def rEqD:R2:=fun x y H Q=>∃d1 d2,DV H d1 x∧DV H d2 y∧d1.canLay0=true∧d2.canLay0=true∧d1.depth≤60∧Q (.bl (PyData.eqv d1 d2)) H
theorem ZuV (hu:X.A.units+64 < cLine):OpR X (compareOp .Eq) rEqD:=by
 intro pins s σ H x y v u Q I rx ry h;obtain⟨d1,d2,h1,h2,c1,c2,hd,q⟩:=h;obtain⟨a1,q1⟩:=Zeo I d1 x v h1 rx;obtain⟨a2,q2⟩:=Zeo I d2 y u h2 ry;exact SeqAt.compareEq_reads q1 q2 c1 c2 (Nat.lt_of_le_of_lt (Nat.add_le_add_left (Nat.le_trans (Nat.min_le_left _ _) hd) _) (by omega)) ⟨.bl _,H,I,rfl,q⟩
def rEqA:R2:=fun x y H Q=>rEq x y H Q∨rEqD x y H Q
theorem ZaN (hu:X.A.units+64 < cLine):OpR X (compareOp .Eq) rEqA:=OpR.or Zv2 (ZuV hu)
def rNeD:R2:=fun x y H Q=>∃d1 d2,DV H (.list d1) x∧DV H (.list d2) y∧PyData.canLayAll0 d1=true∧PyData.canLayAll0 d2=true∧PyData.depthAll d1≤60∧Q (.bl (!PyData.eqvAll d1 d2)) H
theorem ZuZ (hu:X.A.units+64 < cLine):OpR X (compareOp .NotEq) rNeD:=by
 intro pins s σ H x y v u Q I rx ry h;obtain⟨d1,d2,h1,h2,c1,c2,hd,q⟩:=h;obtain⟨a1,q1⟩:=Zeo I (.list d1) x v h1 rx;obtain⟨a2,q2⟩:=Zeo I (.list d2) y u h2 ry
 cases q1 with
 | @list b1 o vs n _ as1 g1 g2 g3 g4=>
  cases q2 with
  | @list b2 o' vs' n' _ as2 k1 k2 k3 k4=>
   have hl:s.heap.IsList _ vs:=⟨_,g1,g2,_,g3⟩;have hl':s.heap.IsList _ vs':=⟨_,k1,k2,_,k3⟩
   have n1:vs.size=d1.length:=by simpa using SeqAt.ReadsAll.length _ _ _ g4
   have n2:vs'.size=d2.length:=by simpa using SeqAt.ReadsAll.length _ _ _ k4
   have fin:EP X pins σ Q (.bool (!PyData.eqvAll d1 d2)) s:=⟨.bl _,H,I,rfl,q⟩
   by_cases hz:vs.size=vs'.size
   ·refine SeqAt.RcNeAt.lists hl hl' hz (by omega) (e:=SeqAt.pairEq d1 d2) (fun j j1 j2=>?_) _ _ _ _ ?_
    ·have:=SeqAt.eqAt_readsAll d1 d2 X.A.in1 s vs.toList vs'.toList _ _ g4 k4 c1 c2 (by
      have:X.A.in1.units=X.A.units+1∨X.A.in1.units=X.A.units:=by first | exact .inl rfl | exact .inr rfl
      have h3:=Nat.min_le_left (PyData.depthAll d1) (PyData.depthAll d2)
      omega) j (by simpa using j1) (by simpa using j2)
     simpa using this
    ·have e:=SeqAt.eqvAll_eq d1 d2
     rw[←n1,←n2,←hz,Nat.min_self,beq_self_eq_true,Bool.and_true]at e;rw[e]; exact fin
   ·refine SeqAt.RcNeAt.lists_lengths hl hl' (by simpa using hz) (by omega) _ _ _ _ ?_
    have e:=SeqAt.eqvAll_eq d1 d2
    have hb:(d1.length == d2.length)=false:=by
     rw[←n1,←n2]; simpa using hz
    rw[hb,Bool.and_false]at e;rw[←e]at fin;exact fin
def rNeT:R2:=fun x y H Q=>∃d1 d2,DV H (.tuple d1) x∧DV H (.tuple d2) y∧PyData.canLayAll0 d1=true∧PyData.canLayAll0 d2=true∧PyData.depthAll d1≤60∧Q (.bl (!PyData.eqvAll d1 d2)) H
theorem Zu0 (hu:X.A.units+64 < cLine):OpR X (compareOp .NotEq) rNeT:=by
 intro pins s σ H x y v u Q I rx ry h;obtain⟨d1,d2,h1,h2,c1,c2,hd,q⟩:=h;obtain⟨a1,q1⟩:=Zeo I (.tuple d1) x v h1 rx;obtain⟨a2,q2⟩:=Zeo I (.tuple d2) y u h2 ry
 cases q1 with
 | @tuple b1 o vs n _ as1 g1 g2 g3 g4=>
  cases q2 with
  | @tuple b2 o' vs' n' _ as2 k1 k2 k3 k4=>
   have hl:s.heap.IsTuple _ vs:=⟨_,g1,g2,_,g3⟩;have hl':s.heap.IsTuple _ vs':=⟨_,k1,k2,_,k3⟩
   have n1:vs.size=d1.length:=by simpa using SeqAt.ReadsAll.length _ _ _ g4
   have n2:vs'.size=d2.length:=by simpa using SeqAt.ReadsAll.length _ _ _ k4
   refine SeqAt.RcNeAt.tuples hl hl' (by omega) (e:=SeqAt.pairEq d1 d2) (fun j j1 j2=>?_) _ _ _ _ ?_
   ·have:=SeqAt.eqAt_readsAll d1 d2 X.A.in1 s vs.toList vs'.toList _ _ g4 k4 c1 c2 (by
     have:X.A.in1.units=X.A.units+1∨X.A.in1.units=X.A.units:=by first | exact .inl rfl | exact .inr rfl
     have h3:=Nat.min_le_left (PyData.depthAll d1) (PyData.depthAll d2)
     omega) j (by simpa using j1) (by simpa using j2)
    simpa using this
   ·rw[n1,n2,SeqAt.eqvAll_eq d1 d2]
    exact⟨.bl _,H,I,rfl,q⟩
def rNeA:R2:=fun x y H Q=>rNe x y H Q∨rNeD x y H Q∨rNeT x y H Q
theorem ZgZ (hu:X.A.units+64 < cLine):OpR X (compareOp .NotEq) rNeA:=OpR.or Zv3 (OpR.or (ZuZ hu) (Zu0 hu))
end
def pd (k:Int×Int):PyData:=.tuple [.int k.1,.int k.2]
theorem Zua (x y:Int×Int):PyData.eqv (pd x) (pd y)=decide (x=y):=by
 obtain⟨a,b⟩:=x;obtain⟨c,d⟩:=y;simp only [pd,PyData.eqv,PyData.eqvAll,Bool.and_true,Prod.mk.injEq]
 by_cases h:a=c
 ·subst h; by_cases h':b=d
  ·subst h'; simp
  ·simp[h']
 ·simp[h]
theorem ZgR:∀a b:List (Int×Int),PyData.eqvAll (a.map pd) (b.map pd)=decide (a=b)
 | [],[]=>rfl
 | [],_::_=>by simp[PyData.eqvAll]
 | _::_,[]=>by simp[PyData.eqvAll]
 | x::a,y::b=>by
  simp only [List.map_cons,PyData.eqvAll,Zua,ZgR a b,List.cons.injEq]
  by_cases h:x=y
  ·subst h; simp
  ·simp[h]
theorem ZhE:∀a:List (Int×Int),PyData.canLayAll0 (a.map pd)=true
 | []=>rfl
 | _::a=>by simp[PyData.canLayAll0,PyData.canLay0,pd,ZhE a]
theorem Zko:∀a:List (Int×Int),PyData.depthAll (a.map pd)≤60
 | []=>by simp[PyData.depthAll]
 | _::a=>by
  have:=Zko a;simp only [List.map_cons,PyData.depthAll,pd,PyData.depth]; omega
theorem Zl2 (H:Hp):∀a:List Int,DVs H (a.map .int) (a.map V.int)
 | []=>by rw[List.map_nil,DVs]; rfl
 | x::a=>by
  rw[List.map_cons,DVs];exact⟨.int x,a.map V.int,rfl,by rw[DV],Zl2 H a⟩
theorem ZsI {H:Hp} {p:Addr} {k:Int×Int} (h:Zes H p k):DV H (pd k) (.ref p):=by
 unfold pd;rw[DV];exact⟨p,_,rfl,h,Zl2 H [k.1,k.2]⟩
theorem Zhu {H:Hp}:∀{ps:List Addr} {ks:List (Int×Int)},Paired (Zes H) ps ks→DVs H (ks.map pd) (ps.map V.ref)
 | _,_,.nil=>by rw[List.map_nil,DVs]; rfl
 | _,_,.cons r q=>by
  rw[List.map_cons,DVs];exact⟨_,_,rfl,ZsI r,Zhu q⟩
section
variable {K:PySem.W.Frag} {H:Hp} {Q:VK}
theorem Zuq {l l':Addr} {ps ps':List Addr} {ks ks':List (Int×Int)} (h:H l=some (.lst (ps.map V.ref))) (h':H l'=some (.lst (ps'.map V.ref))) (p:Paired (Zes H) ps ks) (p':Paired (Zes H) ps' ks') (q:Q (.bl (!decide (ks=ks'))) H):rNeA (.ref l) (.ref l') H Q:=by
 refine .inr (.inl ⟨ks.map pd,ks'.map pd,?_,?_,ZhE ks,ZhE ks',Zko ks,?_⟩)
 ·rw[DV]; exact⟨l,_,rfl,h,Zhu p⟩
 ·rw[DV]; exact⟨l',_,rfl,h',Zhu p'⟩
 ·rw[ZgR]; exact q
theorem ZrH {i j:Int} (h:Q (.bl (decide (i=j))) H):rEqA (.int i) (.int j) H Q:=.inl (ZsX h)
theorem ZrI {i j:Str} (h:Q (.bl (decide (i=j))) H):rEqA (.str i) (.str j) H Q:=.inl (ZsY h)
theorem ZrR {i j:Int} (h:Q (.bl (!decide (i=j))) H):rNeA (.int i) (.int j) H Q:=.inl (Zs0 h)
theorem ZrS {i j:Str} (h:Q (.bl (!decide (i=j))) H):rNeA (.str i) (.str j) H Q:=.inl (Zs1 h)
end
end L2
namespace PySem
open Sem (wp)
theorem ZoV:typeLookup (.type "list_reverseiterator") "__len__" = pure none:=by rw[typeLookup_type,builtinLookup_eq_fast]; kernel_rfl
theorem ZqR:typeLookup (.type "list_reverseiterator") "__length_hint__" = pure (some (.builtin "list_reverseiterator.__length_hint__")):=by rw[typeLookup_type,builtinLookup_eq_fast]; kernel_rfl
section
variable {prog:Program} {w:World} {A:Around} {s:Shared} {R:Result→Shared→Prop}
variable {I:Addr} {fp wr:List Addr} {G:Array GenState→Array GenState→Prop} {n:Nat} {P:Nat→Value→Prop} {St:Nat→Shared→Prop}
theorem Zm4 (W:WalksS prog w A.in1 I fp wr G n P St) (hT:∀i s,St i s→s.TypeIs (.ref I) "list_reverseiterator") (S:Addr) (res:Value) (c₀:Nat) (hst:St 0 s) (hSf:S∉fp) (hI:I∈fp)
  (hS:s.heap.get? S=some { cls:=.type "list",data:=.seq #[] c₀ })
  (hR:∀s' acc' c',Moved (S::wr) G s s'→s'.heap.get? S=some { cls:=.type "list",dict:=none,data:=.seq acc' c',slots:=#[] }→ItemsOf P acc' n→R (.ok (.ret res)) s') (hn:n≤sizeLine) :
  wpAny (model prog w) A.in1 (Builtin.List.listExtendWith (.ref S) (.ref I) res)
   (fun fin s'=>match fin with | .done f=>R (.ok f) s' | .again c'=>c'.quiet=true∧codeAny (model prog w) A c' R s') (fun e s'=>R (.error e) s') s:=by
 have hSI:S≠I:=fun e=>hSf (e ▸ hI)
 have h1:Builtin.List.listSameRef (.ref S) (.ref I)=false:=by simp[Builtin.List.listSameRef,hSI]
 unfold Builtin.List.listExtendWith;refine wpAny_bind (wpAny_typeOf (hT 0 _ hst) ?_);rw[if_neg (by rw[h1]; decide)];refine wpAny_bind (W.self 0 _ _ _ hst ?_);refine wpAny_bind (wpAny_holding ?_);unfold Builtin.List.listLengthHint;refine wpAny_bind (wpAny_specialOf (hT 0 _ hst) ZoV ?_);show wpAny _ A.in1 (specialOf (Value.ref I) (Str.ofString "__length_hint__") >>= _) _ _ _;refine wpAny_bind (wpAny_specialOf (hT 0 _ hst) ZqR ?_)
 (generalize hid:("list_reverseiterator.__length_hint__" : String)=id0; (fail_if_success (clear hid id0)); wp_delta; rw[show splitId id0=some ("list_reverseiterator","__length_hint__") from by subst hid; decide +kernel]; subst hid)
 refine wpAny_bind (wpAny_isInstance (b:=true) (hT 0 _ hst) (by rw[isSubtype_type]; kernel_rfl) ?_);refine wpAny_pure ?_;rw[if_neg (by decide)];exact wpAny_pure ⟨plainId_quiet F.plain_extend_loop _,codeAny_extend_loopS W hn _ hSf _ n 0 _ _ _ rfl (Nat.zero_le _) hst hS (ItemsOf.nil P) fun s' acc' c' hm hS' hacc=>hR s' acc' c' hm hS' hacc⟩
theorem ZqD (W:WalksS prog w A.in1 I fp wr G n P St) (hT:∀i s,St i s→s.TypeIs (.ref I) "list_reverseiterator") (S:Addr) (hst:St 0 s) (hSf:S∉fp) (hI:I∈fp)
  (hS:s.heap.get? S=some { cls:=.type "list",data:=.seq #[] })
  (hR:∀s' acc' c',Moved (S::wr) G s s'→s'.heap.get? S=some { cls:=.type "list",dict:=none,data:=.seq acc' c',slots:=#[] }→ItemsOf P acc' n→R (.ok (.ret .none)) s') (hn:n≤sizeLine) :
  wpAny (model prog w) A.in1 (Builtin.«list.__init__» ⟨[.ref S,.ref I],[]⟩)
   (fun fin s'=>match fin with | .done f=>R (.ok f) s' | .again c'=>c'.quiet=true∧codeAny (model prog w) A c' R s') (fun e s'=>R (.error e) s') s:=by
 show wpAny _ A.in1 (do let old ←Builtin.List.listItems (.ref S); Builtin.List.listUpdate (.ref S) (fun _=>#[]); letGo old.toList.reverse; Builtin.List.listExtendWith (.ref S) (.ref I) .none) _ _ s;refine wpAny_bind ?_;unfold Builtin.List.listItems;refine wpAny_bind (wpAny_seqItems hS rfl (wpAny_pure ?_));show wpAny _ A.in1 (updateSeq S (fun _=>#[]) >>= fun _=>letGo (#[]:Array Value).toList.reverse >>= fun _=>Builtin.List.listExtendWith (.ref S) (.ref I) .none) _ _ s;refine wpAny_bind (wpAny_updateSeq hS rfl ?_);have hS₂:=Heap.get?_update_self (Obj.mapSeq (fun _=>(#[]:Array Value))) hS rfl
 have oth:∀b o,b≠S→s.heap.get? b=some o→(s.heap.update S (Obj.mapSeq (fun _=>(#[]:Array Value)))).get? b=some o:=
  fun b o hb e=>(Heap.get?_update_other _ _ (Ne.symm hb)).trans e
 refine wpAny_bind (wpAny_letGo ?_);refine Zm4 (hn:=hn) W hT S .none _ (W.frame 0 s _ s.toks hst (Nat.le_refl _) fun b hb o e=>oth b o (fun h=>hSf (h ▸ hb)) e) hSf hI hS₂ fun s' acc' c' hm hS' hacc=>?_;exact hR s' acc' c' (Moved.trans W.gtrans ((Moved.refl W.grefl).then_heap (Nat.le_refl _) fun b o hb e=>oth b o (fun h=>hb (h ▸ List.mem_cons_self)) e) hm) hS' hacc
end
section
variable {prog:Program} {w:World} {A:Around} {E:Value→Shared→Prop} {s:Shared}
variable {I:Addr} {fp wr:List Addr} {G:Array GenState→Array GenState→Prop} {n:Nat} {P:Nat→Value→Prop} {St:Nat→Shared→Prop}
theorem Zjh {Q:Value→Shared→Prop} (W:WalksS prog w A.in1.in1 I fp wr G n P St) (hT:∀i s,St i s→s.TypeIs (.ref I) "list_reverseiterator") (hst:St 0 s) (hfp:∀b∈fp,b < s.heap.objs.size) (hI:I∈fp)
  (hQ:∀s' acc' c',Moved (s.heap.objs.size::wr) G { s with heap:=s.heap.push { cls:=.type "list",data:=.seq #[] } } s'→
   s'.heap.get? s.heap.objs.size=some { cls:=.type "list",dict:=none,data:=.seq acc' c',slots:=#[] }→ItemsOf P acc' n→Q (.ref s.heap.objs.size) s') (hn:n≤sizeLine) :
  wpAny (model prog w) A (call (.type "list") [.ref I]) Q E s:=by
 have hSf:s.heap.objs.size∉fp:=fun hm=>Nat.lt_irrefl _ (hfp _ hm)
 refine callType_codes (Q₁:=fun obj s₁=>obj=.ref s.heap.objs.size∧s₁ = { s with heap:=s.heap.push { cls:=.type "list",data:=.seq #[] } }) F.called_list (F.typeCall_list_1 _) F.entry_list_init
  (code_list_new _ ⟨rfl,rfl⟩) fun obj s₁ h₁=>?_
 obtain⟨rfl,rfl⟩:=h₁;have hS:(s.heap.push { cls:=.type "list",data:=.seq #[] }).get? s.heap.objs.size=some { cls:=.type "list",data:=.seq #[] }:=Heap.get?_push_size _ rfl;refine⟨⟨_,hS,rfl⟩,F.args_list_init_2 _ _,ZqD (hn:=hn) W hT _ (W.frame 0 s _ s.toks hst (Nat.le_refl _) fun b _ o e=>Heap.get?_push_of_some _ e) hSf hI hS fun s' acc' c' hm hS' hacc=>?_⟩;exact⟨rfl,hQ s' acc' c' hm hS' hacc⟩
end
end PySem
namespace L2
open PySem PySem.Spec PyProof.Rows
section
variable {X:Cx} {tg:Expr}
def ZmH (K:PySem.W.Frag) (te:TE):TE:=fun σ H Q=>te σ H fun x H1=>∃p ys,x=.ref p∧SqL K H1 p ys∧∀l,H1 l=none→Q (.ref l) (upd H1 l (.lst ys.reverse))
theorem ZoE {its:List Value} {acc:Array Value} (h:ItemsOf (fun i v=>its.toArray[its.toArray.size - 1 - i]?=some v) acc its.toArray.size):acc.toList=its.reverse:=by
 obtain⟨h1,h2⟩:=h
 have h1:acc.size=its.length:=by rw[h1]; simp
 apply List.ext_getElem?;intro i
 by_cases hi:i < its.length
 ·have e:acc[i]?=some (acc[i]'(by omega)):=Array.getElem?_eq_getElem (by omega)
  have:=h2 i _ e;rw[List.size_toArray,List.getElem?_toArray]at this;rw[Array.getElem?_toList,e,←this,List.getElem?_reverse hi]
 ·rw[Array.getElem?_toList,Array.getElem?_eq_none (by omega),List.getElem?_eq_none (by rw[List.length_reverse]; omega)]
theorem Zif:∀{xs xs':List V} {us us':List Value},Vals xs us→Vals xs' us'→Vals (xs++xs') (us++us')
 | _,_,_,_,.nil,r=>r
 | _,_,_,_,.cons h r,r'=>.cons h (Zif r r')
theorem Zg3:∀{xs:List V} {us:List Value},Vals xs us→Vals xs.reverse us.reverse
 | _,_,.nil=>.nil
 | _,_,.cons h r=>by
  rw[List.reverse_cons,List.reverse_cons];exact Zif (Zg3 r) (.cons h .nil)
theorem Zns {e:Expr} {te:TE} {p p2 pos pos2:Pos} (hc:X.calm=true) (hg:Gl X "list") (hm:X.mg "list" = none) (hg2:Gl X "reversed") (hm2:X.mg "reversed" = none) (ha:PE X e te)
  (he:starEach [e] X.env=(false,eval e X.env)::starEach [] X.env:=by rfl) :
  PE X (.Call (.Name "list" p) [.Call (.Name "reversed" p2) [e] [] pos2] [] pos) (ZmH X.K te):=by
 intro pins s σ H Q I h;refine wpAny_Call_Name_kw (ZgU I hg hm Zgs ?_);refine PyProof.Rows.callWith_type1 ?_ rfl rfl;show wpAny _ _ (spliced ((false,eval (.Call (.Name "reversed" p2) [e] [] pos2) X.env)::backTo pos (starEach [] X.env))) _ _ s;refine Calls.spliced_cons ?_;refine wpAny_Call_Name_kw (ZgU I hg2 hm2 Zle ?_)
 let R:List V→Hp→Prop:=fun vs H1=>match vs with | [x]=>(∃p ys,x=V.ref p∧SqL X.K H1 p ys∧∀l,H1 l=none→Q (.ref l) (upd H1 l (.lst ys.reverse))) | _=>False
 have h':ZlM te tNil σ H R:=h;refine PyProof.Rows.callWith_type1 (thn (Zaa ha Zae he pos2 pins s σ H R I h') fun us s1 ⟨vs,H1,I1,r1,q1⟩=>?_) he rfl
 match vs,r1,q1 with
 | [x],r1,q1=>
  obtain⟨p,ys,rfl,hq,q⟩:=q1;obtain⟨u,rfl,rx⟩:=Zj4 r1
  cases rx
  obtain⟨its,rv,pl,hz⟩:=I1.list hq;have hlen:=rv.length;have pl0:s1.heap.IsList p its.toArray:=pl.isList
  have hpl:p < s1.heap.objs.size:=by obtain⟨o,ho,_⟩:=id pl0; exact Heap.lt_size ho
  refine call_reversed_list pl0 ?_;refine Calls.spliced_nil ?_;have I2:Inv X pins σ H1 { s1 with heap:=s1.heap.push (revObj p ((its.toArray.size:Int) - 1)) }:=I1.kept (t':=s1.toks) fun b o e=>Heap.get?_push_of_some _ e;have pl2:(s1.heap.push (revObj p ((its.toArray.size:Int) - 1))).IsList p its.toArray:=pl0.at fun o e=>Heap.get?_push_of_some _ e;have W:=(Walks.listRev (prog:=X.prog) (w:=X.w) (A:=X.A.in1.in1) (I.ok.hd hc) s1.heap.objs.size p (Nat.ne_of_lt hpl) its.toArray).toS;refine Zjh (s:={ s1 with heap:=s1.heap.push (revObj p ((its.toArray.size:Int) - 1)) }) W (fun i s st=>st.2.1.typeIs) ⟨Nat.zero_le _,⟨_,Heap.get?_push_size _ rfl,rfl,by simp[revObj]⟩,pl2⟩ (fun b hb=>?_) (by simp) (fun s' acc c' hm hS hacc=>?_) (by simp only [List.size_toArray]; omega)
  ·have hs:(s1.heap.push (revObj p ((its.toArray.size:Int) - 1))).objs.size=s1.heap.objs.size+1:=by simp[Heap.push]
   show b < (s1.heap.push (revObj p ((its.toArray.size:Int) - 1))).objs.size;rw[hs];simp at hb
   rcases hb with rfl | rfl
   ·exact Nat.lt_succ_self _
   ·exact Nat.lt_succ_of_lt hpl
  ·rw[Moved.eq_with hm]
   have hf:H1 (s1.heap.push (revObj p ((its.toArray.size:Int) - 1))).objs.size=none:=I2.hok.fresh (Nat.le_refl _);have ea:=ZoE hacc
   have ea':acc=its.reverse.toArray:=by rw[←ea]
   have hz':ys.reverse.length≤sizeLine:=by rw[List.length_reverse]; exact hz
   have kp:∀b o,s1.heap.get? b=some o→s'.heap.get? b=some o:=fun b o e=>by
    have hb:=Heap.lt_size e;refine hm.heap b o (fun hmem=>?_) (Heap.get?_push_of_some _ (Heap.get?_push_of_some _ e))
    rcases List.mem_cons.mp hmem with e' | e'
    ·have hs:(s1.heap.push (revObj p ((its.toArray.size:Int) - 1))).objs.size=s1.heap.objs.size+1:=by simp[Heap.push]
     have e'':b=(s1.heap.push (revObj p ((its.toArray.size:Int) - 1))).objs.size:=e';rw[hs]at e'';exact absurd hb (by rw[e'']; exact Nat.not_lt.mpr (Nat.le_succ _))
    ·exact absurd hb (by rw[List.mem_singleton.mp e']; exact Nat.lt_irrefl _)
   refine⟨.ref _,upd H1 _ (.lst ys.reverse),I1.laid (t':=s'.toks) kp ?_ (show ZaT X.prog X.w _ s'.heap _ (.lst ys.reverse) from⟨hz',its.reverse,c',Zg3 rv,by rw[←ea']; exact hS⟩),rfl,q _ hf⟩;simp[Heap.push]
end
section
variable {σ:St} {H:Hp} {Q:VK} {D:Ends} {K:PySem.W.Frag} {g:TG} {tb:TS} {ix:List Nat} {tc:TT} {te:TE}
def Zrr (K:PySem.W.Frag) (x:V) (H1:Hp) (Q:VK):Prop:=∃p ys,x=.ref p∧SqL K H1 p ys∧∀l,H1 l=none→Q (.ref l) (upd H1 l (.lst ys.reverse))
theorem Zkt (h:te σ H fun x H1=>Zrr K x H1 Q):ZmH K te σ H Q:=h
theorem ZoH {p:Addr} {ys:List V} (h:SqL K H p ys) (k:∀(l:Addr) (H':Hp),Same H H'→H l=none→H' l=some (.lst ys.reverse)→Q (.ref l) H'):Zrr K (.ref p) H Q:=
 ⟨p,ys,rfl,h,fun l hl=>k l _ (Zbn hl _) hl Zak⟩
end
end L2
namespace PySem
open Sem (wp)
open AutoSeq1 (wpAny_loadPart')
theorem ZkK (a:Addr) (vs:Array Value) (m:Nat) (dc:Option Addr) (sc:Array (Option Value)):Meets (Builtin.«enumerate.__new__» ⟨[.type "enumerate",.ref a],[]⟩) (fun _ R z=>
    z.heap.get? a=some { cls:=.type "tuple",dict:=dc,data:=.seq vs m,slots:=sc }∧
    R (.ok (.ret (.ref (z.heap.push { cls:=.type "tuple_iterator",data:=.fields #[.ref a,.int 0 0] }).objs.size)))
      { z with heap:=(z.heap.push { cls:=.type "tuple_iterator",data:=.fields #[.ref a,.int 0 0] }).push { cls:=.type "enumerate",data:=.fields #[.none,.bool false,.ref z.heap.objs.size,rawInt 0,.none,.none] } }):=
  .of_wp fun pr wo ar R z hz=>by
    obtain⟨hp,gg,dd,tt,ss⟩:=z;obtain⟨ha,hR⟩:=hz;have hsubE:=sub_enumerate;have hT:Heap.IsTuple (Shared.heap ⟨hp,gg,dd,tt,ss⟩) a vs:=⟨_,ha,rfl,m,rfl⟩
    wp_walk using wpAny_loadPart' ha
    refine wpAny_stack_any fun stk=>wpAny_pure ?_
    split
    · rename_i cc _ _ _ _ _
      cases (cc == Value.type "enumerate") <;>
        (wp_walk using wpAny_loadPart' ha,wpAny_pyIter_tuple hT
         exact⟨_,rfl,hR⟩)
    · wp_walk using wpAny_loadPart' ha,wpAny_pyIter_tuple hT
      exact⟨_,rfl,hR⟩
section
variable {prog:Program} {w:World} {A:Around} {E:Value→Shared→Prop} {s:Shared}
theorem Zjg {a:Addr} {vs:Array Value} {Q:Value→Shared→Prop} (hT:s.heap.IsTuple a vs)
  (q:∀h',IsEnum h' (s.heap.objs.size+1) s.heap.objs.size 0 .none→h'.IsTupleIter s.heap.objs.size a 0→(∀b o,s.heap.get? b=some o→h'.get? b=some o)→Q (.ref (s.heap.objs.size+1)) { s with heap:=h' }) :
  wpAny (model prog w) A (call (.type "enumerate") [.ref a]) Q E s:=by
 obtain⟨⟨c,dc,dt,sc⟩,ha,hc,m,hd⟩:=hT
 replace hc:c=.type "tuple":=hc
 replace hd:dt=.seq vs m:=hd
 subst hc hd;refine callType_new F.called_enumerate (by decide) (F.typeCall_enumerate_1 _) (F.newCall_enumerate_1 _) (fun z=>F.args_object_init_2 z _) F.entry_enumerate_new (ZkK a vs m dc sc) ⟨ha,?_⟩;have hz:(s.heap.push { cls:=.type "tuple_iterator",data:=.fields #[.ref a,.int 0 0] }).objs.size=s.heap.objs.size+1:=Heap.size_push ..;show _∧_;rw[hz]
 have he:IsEnum ((s.heap.push { cls:=.type "tuple_iterator",data:=.fields #[.ref a,.int 0 0] }).push { cls:=.type "enumerate",data:=.fields #[.none,.bool false,.ref s.heap.objs.size,rawInt 0,.none,.none] }) (s.heap.objs.size+1) s.heap.objs.size 0 .none:=by
  have e:=Heap.get?_push_size (s.heap.push { cls:=.type "tuple_iterator",data:=.fields #[.ref a,.int 0 0] }) (o:={ cls:=.type "enumerate",data:=.fields #[.none,.bool false,.ref s.heap.objs.size,rawInt 0,.none,.none] }) rfl;rw[hz]at e;exact e
 exact⟨⟨_,he,rfl⟩,q _ he ⟨_,Heap.get?_push_of_some _ (Heap.get?_push_size _ rfl),rfl,rfl⟩ fun b o e=>Heap.get?_push_of_some _ (Heap.get?_push_of_some _ e)⟩
theorem ZhN {it t:Addr} {i:Nat} {vs} {x:Value} {Q:Value→Shared→Prop} (hi:s.heap.IsTupleIter it t i) (ht:s.heap.IsTuple t vs) (hx:vs[i]?=some x)
  (q:∀h',h'.IsTupleIter it t (i+1)→Heap.SameBut it s.heap h'→Q x { s with heap:=h' }):wpAny (model prog w) A (Builtin.SmallTypes.nextOf (.ref it)) Q E s:=by
 obtain⟨o,ho,hc,hd⟩:=id hi;obtain⟨ot,hot,_,nt,hdt⟩:=ht;unfold Builtin.SmallTypes.nextOf;refine wpAny_bind (wpAny_callSpecial?_slot (name:=Str.ofString "__next__") hi.typeIs F.slot_tuple_iterator_next (wpAny_call_entry F.slot_tuple_iterator_next hi.typeIs F.entry_tuple_iterator_next ?_ (F.args_tuple_iterator_next_1 _)));show wpAny _ _ (field (.ref it) 0 >>= _) _ _ s;refine wpAny_bind (wpAny_field ho hd (x:=.ref t) rfl ?_);show wpAny _ _ (if (Value.ref t == Value.none)=true then _ else _) _ _ s;rw[if_neg (show ¬((Value.ref t == Value.none)=true) from Bool.false_ne_true)];show wpAny _ _ (field (.ref it) 1 >>= _) _ _ s;refine wpAny_bind (wpAny_field ho hd (x:=.int i 0) rfl ?_);show wpAny _ _ (seqItems? (.ref t) >>= _) _ _ s;refine wpAny_bind (wpAny_seqItems hot hdt ?_);simp only [Int.toNat_natCast,hx];refine wpAny_bind (wpAny_setField ho hd (by simp) (wpAny_pure ⟨x,rfl,wpAny_pure (q _ ?_ (Heap.SameBut.update ..))⟩));exact⟨_,Heap.get?_update_self _ ho (Obj.isFreed_of_fields (Obj.data_mapFields hd _)),(Obj.cls_mapFields ..).trans hc,by rw[Obj.data_mapFields hd]; simp[rawInt]⟩
theorem Ziy {it t:Addr} {i:Nat} {vs} {Q:Value→Shared→Prop} (hh:A.handled=none) (hi:s.heap.IsTupleIter it t i) (ht:s.heap.IsTuple t vs) (hx:vs[i]?=none)
  (q:∀h' e,Heap.ExtBut it s.heap h'→(∃o,h'.get? e=some o∧o.cls=.type "StopIteration")→E (.ref e) { s with heap:=h' }):wpAny (model prog w) A (Builtin.SmallTypes.nextOf (.ref it)) Q E s:=by
 obtain⟨o,ho,hc,hd⟩:=id hi;obtain⟨ot,hot,_,nt,hdt⟩:=ht;unfold Builtin.SmallTypes.nextOf;refine wpAny_bind (wpAny_callSpecial?_slot (name:=Str.ofString "__next__") hi.typeIs F.slot_tuple_iterator_next (wpAny_call_entry F.slot_tuple_iterator_next hi.typeIs F.entry_tuple_iterator_next ?_ (F.args_tuple_iterator_next_1 _)));show wpAny _ _ (field (.ref it) 0 >>= _) _ _ s;refine wpAny_bind (wpAny_field ho hd (x:=.ref t) rfl ?_);show wpAny _ _ (if (Value.ref t == Value.none)=true then _ else _) _ _ s;rw[if_neg (show ¬((Value.ref t == Value.none)=true) from Bool.false_ne_true)];show wpAny _ _ (field (.ref it) 1 >>= _) _ _ s;refine wpAny_bind (wpAny_field ho hd (x:=.int i 0) rfl ?_);show wpAny _ _ (seqItems? (.ref t) >>= _) _ _ s;refine wpAny_bind (wpAny_seqItems hot hdt ?_);simp only [Int.toNat_natCast,hx];refine wpAny_bind (wpAny_rule (wpAny_bind (wpAny_setField ho hd (by simp) ?_)));show wpAny _ _ (newExc (.type "StopIteration") [] >>= _) _ _ _;refine wpAny_bind ?_;simp only [newExc,newTuple];refine wpAny_bind (wpAny_newObj_type ?_ (by size_fits));refine wpAny_bind (m:=firstArgMember _ _) (wpAny_of_eq (a:=Value.none) (by first | rfl | (simp only [firstArgMember]; rfl)) ?_);refine wpAny_newObj_type ?_ (by size_fits);simp only [raiseNew];refine wpAny_bind (wpAny_handled ?_)
 first | rw[show A.in1.handled=none from hh] | rw[hh]
 refine wpAny_bind (wpAny_pure (wpAny_throw ?_));exact q _ _ (((Heap.SameBut.update ..).extBut.push _).push _) ⟨_,Heap.get?_push_size _ rfl,rfl⟩
end
theorem Draws.tup {prog:Program} {w:World} {A:Around} (hh:A.handled=none) (it t:Addr) (hne:t≠it) (vs:Array Value):Draws prog w A it [it,t] vs.size (fun i v=>vs[i]?=some v) (fun i h=>h.IsTupleIter it t i∧h.IsTuple t vs) where
 live:=fun _ _ z=>let ⟨o,ho,_⟩:=z.1; ⟨o,ho⟩
 frame:=fun _ _ _ z hk=>⟨(let ⟨o,ho,r⟩:=z.1; ⟨o,hk it (by simp) o ho,r⟩),(let ⟨o,ho,r⟩:=z.2; ⟨o,hk t (by simp) o ho,r⟩)⟩
 item:=fun i s Q E hi z q=>ZhN z.1 z.2 (x:=vs[i]) (by simp[hi]) fun h' hi' hs'=>q _ h' s.toks (by simp[hi]) ⟨hi',z.2.extBut hs'.extBut hne⟩ hs'
 done:=fun s Q E z q=>Ziy hh z.1 z.2 (by simp) q
theorem Zrd {h:Heap} {o o':Obj} {b:Addr} (e:(h.push o).get? b=some o'):b=h.objs.size∧o'=o∨h.get? b=some o':=by
 obtain⟨e1,e2⟩:=Heap.get?_some_iff.mp e
 have e1:(h.objs.push o)[b]?=some o':=by simpa [Heap.push] using e1
 rw[Array.getElem?_push]at e1
 split at e1
 ·rename_i z
  exact .inl ⟨z,(Option.some.inj e1).symm⟩
 ·exact .inr (Heap.get?_some_iff.mpr ⟨e1,e2⟩)
end PySem
namespace L2
open PySem PySem.Spec PyProof.Rows
section
variable {X:Cx} {pins:List (Addr×Obj)} {σ:List (Option V)} {H:Hp} {s:Shared} {h':Heap}
theorem Inv.turnedL {t':Nat} {ch:List Addr} (I:Inv X pins σ H s) (k:∀b o,b∉ch→s.heap.get? b=some o→h'.get? b=some o) (hf:∀b∈ch,FpOk X pins H b):Inv X pins σ H { s with heap:=h',toks:=t' }:=by
 have nit:∀b u,H b=some u→b∉ch:=fun b u e z=>by rw[(hf b z).1]at e; cases e
 have hL:X.env.locals∉ch:=fun z=>(hf _ z).2.1 rfl;refine I.step (g':=s.gens) (d':=s.drawn) (ch:=ch) (fun b hb=>?_) (fun b o _ _ hc e _=>k b o hc e) (fun b o _ _ hc e _=>⟨o.slots,k b o hc e⟩) (fun _ _ _ _ n=>n) (fun b o hc e=>⟨o,k b o hc e⟩) (fun _ _ e=>e) (fun _ _ _ e=>e) (fun b ps e=>⟨#[],by rw[e]; simp⟩) (fun m hm=>?_) (fun b u e=>?_) I.bare
 ·obtain⟨f0,f1,f2,f3,f4,f5⟩:=hf b hb
  exact⟨f3,f1,f4,f5⟩
 ·obtain⟨o,es,ep,ho,r⟩:=hm
  exact⟨o,es,ep,k _ o hL ho,r⟩
 ·refine(I.hok b u e).stay (fun c v hc q=>k c v ?_ q) (fun _ q=>q) fun _ _ q=>q
  rcases hc with z | z
  ·rw[z]; exact nit b u e
  ·exact nit c _ z
theorem Inv.pairTurn {t':Nat} {ch:List Addr} {x y:V} {u v:Value} (I:Inv X pins σ H s) (rx:RelV x u) (ry:RelV y v) (hf:∀b∈ch,FpOk X pins H b) (hch:∀b∈ch,b≠s.heap.objs.size)
  (k:∀b o,b∉ch→s.heap.get? b=some o→h'.get? b=some o) (hT:h'.get? s.heap.objs.size=some { cls:=.type "tuple",data:=.seq #[u,v] }) :
  Inv X pins σ (upd H s.heap.objs.size (.tup [x,y])) { s with heap:=h',toks:=t' }:=by
 have I1:Inv X pins σ (upd H s.heap.objs.size (.tup [x,y])) { s with heap:=s.heap.push { cls:=.type "tuple",data:=.seq #[u,v] } }:=
  I.laid (t':=s.toks) (fun b o e=>Heap.get?_push_of_some _ e) (Nat.le_refl _) (show ZaT X.prog X.w _ _ _ (.tup [x,y]) from⟨Nat.le_of_ble_eq_true rfl,[u,v],.cons rx (.cons ry .nil),IsTup.new _ _⟩)
 refine Inv.turnedL (s:={ s with heap:=s.heap.push { cls:=.type "tuple",data:=.seq #[u,v] } }) (ch:=ch) I1 (fun b o hb e=>?_) fun b hb=>?_
 ·rcases Zrd e with⟨e1,e2⟩ | e
  ·rw[e1,e2]; exact hT
  ·exact k b o hb e
 ·obtain⟨f0,f1,f2,f3,f4,f5⟩:=hf b hb
  exact⟨by rw[Zal (hch b hb)]; exact f0,f1,f2,f3,f4,f5⟩
end
def Ite (sq:Hp→Prop) (xs:List V):It:=⟨fun i H=>i < xs.length∧sq H,fun i H x H'=>∃T v,xs[i]?=some v∧H T=none∧x=.ref T∧H'=upd H T (.tup [.int (i:Int),v]),fun i H=>i=xs.length∧sq H⟩
theorem Zk1 {P:Program} {w:World} {K:PySem.W.Frag} {elts:List Expr} {kk:Nat} {ps:Pos} {sq:Hp→Prop} {xs:List V} {e it:Addr} {stI:Nat→Heap→Prop} (hei:e≠it)
  (hobj:∀i h,stI i h→∃o,h.get? it=some o∧∀v,o.data≠.cell v) (hkeep:∀i h h',stI i h→(∀o,h.get? it=some o→h'.get? it=some o)→stI i h')
  (hD:∀(X:Cx),X.prog=P→X.w=w→X.K=K→X.calm=true→∀(pins:List (Addr×Obj)) (σ:St) (H:Hp) (s:Shared) (i:Nat),Inv X pins σ H s→sq H→(∃old,IsEnum s.heap e it i old)→stI i s.heap→
   ∃(its:List Value) (fp:List Addr) (S:Nat→Heap→Prop),Vals xs its∧Draws P w X.A.in1 it fp its.length (fun j v=>its[j]?=some v) S∧S i s.heap∧(∀j h,S j h→stI j h)∧e∉fp) :
  Turn P w K (.Tuple elts kk ps) (Ite sq xs) [e,it] e (fun i h=>(∃old,IsEnum h e it i old)∧stI i h) where
 mem:=by simp
 obj:=fun i h st b hb=>by
  obtain⟨⟨old,he⟩,hs⟩:=st
  rcases List.mem_cons.mp hb with rfl | hb
  ·exact⟨_,he,fun v z=>by cases z⟩
  ·rw[List.mem_singleton.mp hb]; exact hobj i h hs
 keep:=fun i h h' st k=>by
  obtain⟨⟨old,he⟩,hs⟩:=st;exact⟨⟨old,k e (by simp) _ he⟩,hkeep i h h' hs fun o z=>k it (by simp) o z⟩
 item:=by
  intro X hP hw hK hc i pins s σ H E I hf st hg;obtain⟨⟨old,he⟩,hs⟩:=st;obtain⟨its,fp,S,rv,D,hS,hst,hef⟩:=hD X hP hw hK hc pins σ H s i I hg.2 ⟨old,he⟩ hs;subst hP hw hK
  have hi:i < its.length:=by rw[←rv.length]; exact hg.1
  refine wpAny_pyNext_enum_itemD D he hS hi hei hef fun u h1 tk hu ho hs1 hT hsz hk=>?_;have hel:e < s.heap.objs.size:=Heap.lt_size he
  have hil:it < s.heap.objs.size:=by obtain⟨o,q,_⟩:=hobj i _ hs; exact Heap.lt_size q
  refine⟨_,rfl,wpAny_letOwnedTupleGo_enum ho fun h2 he2 hs2=>?_⟩;obtain⟨v,hv⟩ : ∃v,xs[i]?=some v:=⟨xs[i]'hg.1,List.getElem?_eq_getElem hg.1⟩;obtain⟨u',hu',ru⟩:=rv.get hv;have eu:u'=u:=Option.some.inj (hu'.symm.trans hu);subst eu
  have I2:Inv X pins σ (upd H s.heap.objs.size (.tup [.int (i:Int),v])) { s with heap:=h2,toks:=tk+1 }:=
   I.pairTurn (ch:=[e,it]) (u:=.int i tk) ⟨tk,rfl⟩ ru hf (fun b hb=>by
    rcases List.mem_cons.mp hb with rfl | hb
    ·exact Nat.ne_of_lt hel
    ·rw[List.mem_singleton.mp hb]; exact Nat.ne_of_lt hil) (fun b o hb z=>by
    have hb1:b≠e:=fun q=>hb (by simp[q]);have hb2:b≠it:=fun q=>hb (by simp[q])
    exact(hs2.2 b hb1).trans (hk b o hb1 hb2 z)) ((hs2.2 _ (Nat.ne_of_gt hel)).trans hT)
  refine⟨.ref s.heap.objs.size,_,I2,rfl,⟨_,v,hv,I.hok.fresh (Nat.le_refl _),rfl,rfl⟩,⟨⟨_,by simpa using he2⟩,hst _ _ (D.frame _ _ _ hs1 fun b hb o z=>(hs2.2 b fun q=>hef (q ▸ hb)).trans z)⟩,fun b hb=>?_⟩
  have hne:b≠s.heap.objs.size:=by
   rcases List.mem_cons.mp hb with rfl | hb
   ·exact Nat.ne_of_lt hel
   ·rw[List.mem_singleton.mp hb]; exact Nat.ne_of_lt hil
  rw[Zal hne];exact(hf b hb).1
 done:=by
  intro X hP hw hK hc i pins s σ H E I hf st hg;obtain⟨⟨old,he⟩,hs⟩:=st;obtain⟨its,fp,S,rv,D,hS,hst,hef⟩:=hD X hP hw hK hc pins σ H s i I hg.2 ⟨old,he⟩ hs;subst hP hw hK
  have hi:i=its.length:=by rw[←rv.length]; exact hg.1
  rw[hi]at hS;obtain⟨f0,f1,f2,f3,f4,f5⟩:=hf it (by simp);exact wpAny_pyNext_enum_endD D he hS fun h1 eb=>⟨rfl,I.turned (t':=s.toks) (fun b o hb z=>eb b o hb z) f0 f1 f3 f4 f5⟩
 self:=fun _ _ _ _ _ st h=>by
  obtain⟨⟨old,he⟩,_⟩:=st;exact wpAny_pyIter_enum he h
section
variable {X:Cx}
def Zuf (K:PySem.W.Frag) (tl:TE):TI:=fun σ H R=>tl σ H fun x H1=>(∃a xs,x=.ref a∧SqL K H1 a xs∧R (Ite (fun H=>SqL K H a xs) xs) H1)∨(∃a xs,x=.ref a∧SqT K H1 a xs∧R (Ite (fun H=>SqT K H a xs) xs) H1)
theorem Ztq {elts:List Expr} {kk:Nat} {ps:Pos} {l:Expr} {tl:TE} {p pos:Pos} (hg:Gl X "enumerate") (hm:X.mg "enumerate" = none) (ha:PE X l tl) (he:starEach [l] X.env=(false,eval l X.env)::starEach [] X.env:=by rfl) :
  PI X (.Tuple elts kk ps) (.Call (.Name "enumerate" p) [l] [] pos) (Zuf X.K tl):=by
 intro pins s σ H R I h;refine wpAny_Call_Name_kw (ZgU I hg hm Zkm ?_)
 let R':List V→Hp→Prop:=fun vs H1=>match vs with | [x]=>((∃a xs,x=V.ref a∧SqL X.K H1 a xs∧R (Ite (fun H=>SqL X.K H a xs) xs) H1)∨(∃a xs,x=V.ref a∧SqT X.K H1 a xs∧R (Ite (fun H=>SqT X.K H a xs) xs) H1)) | _=>False
 have h':ZlM tl tNil σ H R':=h;refine PyProof.Rows.callWith_type1 (thn (Zaa ha Zae he pos pins s σ H R' I h') fun us s1 ⟨vs,H1,I1,r1,q1⟩=>?_) he rfl
 have fpk:∀b∈[s1.heap.objs.size+1,s1.heap.objs.size],FpOk X pins H1 b:=fun b hb=>by
  rcases List.mem_cons.mp hb with rfl | hb
  ·exact I1.fpOk (Nat.le_succ _) (I1.hok.fresh (Nat.le_succ _))
  ·rw[List.mem_singleton.mp hb]; exact I1.fpOk (Nat.le_refl _) (I1.hok.fresh (Nat.le_refl _))
 match vs,r1,q1 with
 | [x],r1,q1=>
  obtain⟨u,rfl,rx⟩:=Zj4 r1
  rcases q1 with⟨a,xs,rfl,hq,q⟩ | ⟨a,xs,rfl,hq,q⟩
  ·cases rx
   obtain⟨its,rv,pl,hz⟩:=I1.list hq;refine call_enumerate_list pl.isList fun h2 he2 hi2 hsz hk=>?_;refine wpAny_pyIter_enum he2 ⟨s1.heap.objs.size+1,_,_,_,H1,rfl,I1.kept (t':=s1.toks) hk,Zk1 (e:=s1.heap.objs.size+1) (it:=s1.heap.objs.size) (stI:=fun i h=>h.IsListIter s1.heap.objs.size a i) (Nat.succ_ne_self _) ?_ ?_ ?_,⟨⟨_,he2⟩,hi2⟩,fpk,q⟩
   ·rintro i h ⟨o,e,c,d⟩
    exact⟨o,e,fun v z=>by rw[d]at z; cases z⟩
   ·exact fun i h h' z k=>z.at k
   ·intro Y hP hw hK hc pins' σ' H' s' i I' hs ⟨old,hen⟩ hit
    have hs:SqL Y.K H' a xs:=by rw[hK]; exact hs
    obtain⟨its',rv',pl',hz'⟩:=I'.list hs
    have na:a≠s1.heap.objs.size:=fun z=>by
     obtain⟨o,e,c,d⟩:=hit;obtain⟨o',e',c',d'⟩:=pl'.isList;rw[z,e]at e'
     cases e'
     rw[c]at c';exact absurd c' (by decide)
    have nb:s1.heap.objs.size+1∉[s1.heap.objs.size,a]:=fun z=>by
     rcases List.mem_cons.mp z with z | z
     ·exact Nat.succ_ne_self _ z
     ·obtain⟨o',e',c',d'⟩:=pl'.isList
      rw[←List.mem_singleton.mp z,hen]at e'
      cases e'
      have c2:Value.type "enumerate" = Value.type "list":=c';exact absurd c2 (by decide)
    have D:=Draws.list (prog:=Y.prog) (w:=Y.w) (A:=Y.A.in1) (I'.ok.hd hc) s1.heap.objs.size a na its'.toArray;rw[hP,hw]at D;exact⟨its',[s1.heap.objs.size,a],fun i h=>h.IsListIter s1.heap.objs.size a i∧h.IsList a its'.toArray,rv',by simpa using D,⟨hit,pl'.isList⟩,fun j h z=>z.1,nb⟩
  ·cases rx
   obtain⟨its,rv,pl,hz⟩:=I1.tuple hq;refine Zjg (show s1.heap.IsTuple a its.toArray from pl) fun h2 he2 hi2 hk=>?_;refine wpAny_pyIter_enum he2 ⟨s1.heap.objs.size+1,_,_,_,H1,rfl,I1.kept (t':=s1.toks) hk,Zk1 (e:=s1.heap.objs.size+1) (it:=s1.heap.objs.size) (stI:=fun i h=>h.IsTupleIter s1.heap.objs.size a i) (Nat.succ_ne_self _) ?_ ?_ ?_,⟨⟨_,he2⟩,hi2⟩,fpk,q⟩
   ·rintro i h ⟨o,e,c,d⟩
    exact⟨o,e,fun v z=>by rw[d]at z; cases z⟩
   ·exact fun i h h' z k=>let ⟨o,e,r⟩:=z; ⟨o,k o e,r⟩
   ·intro Y hP hw hK hc pins' σ' H' s' i I' hs ⟨old,hen⟩ hit
    have hs:SqT Y.K H' a xs:=by rw[hK]; exact hs
    obtain⟨its',rv',pl',hz'⟩:=I'.tuple hs
    have na:a≠s1.heap.objs.size:=fun z=>by
     obtain⟨o,e,c,d⟩:=hit;obtain⟨o',e',c',d'⟩:=pl';rw[z,e]at e'
     cases e'
     rw[c]at c';exact absurd c' (by decide)
    have nb:s1.heap.objs.size+1∉[s1.heap.objs.size,a]:=fun z=>by
     rcases List.mem_cons.mp z with z | z
     ·exact Nat.succ_ne_self _ z
     ·obtain⟨o',e',c',d'⟩:=pl'
      rw[←List.mem_singleton.mp z,hen]at e'
      cases e'
      have c2:Value.type "enumerate" = Value.type "tuple":=c';exact absurd c2 (by decide)
    have D:=Draws.tup (prog:=Y.prog) (w:=Y.w) (A:=Y.A.in1) (I'.ok.hd hc) s1.heap.objs.size a na its'.toArray;rw[hP,hw]at D;exact⟨its',[s1.heap.objs.size,a],fun i h=>h.IsTupleIter s1.heap.objs.size a i∧h.IsTuple a its'.toArray,rv',by simpa using D,⟨hit,pl'⟩,fun j h z=>z.1,nb⟩
def Zva:V→List V→Hp→VK→Prop:=fun x vs H Q=>∃i:Int,x=.int i∧vs=[]∧Q (.int ((Builtin.Int.intBits i:Nat):Int)) H
theorem Zgb:MtR X "int.bit_length" Zva:=by
 intro pins s σ H x xs v us Q I r rs h;obtain⟨i,rfl,rfl,q⟩:=h;obtain⟨t,rfl⟩:=r
 cases rs
 exact call_int_bit_length ⟨.int _,H,I.tok _,⟨_,rfl⟩,q⟩
def rAll (K:PySem.W.Frag):List V→Hp→VK→Prop:=fun xs H Q=>∃(p:Addr) (bs:List Bool),xs=[.ref p]∧SqL K H p (bs.map V.bl)∧Q (.bl (bs.all id)) H
def rAny (K:PySem.W.Frag):List V→Hp→VK→Prop:=fun xs H Q=>∃(p:Addr) (bs:List Bool),xs=[.ref p]∧SqL K H p (bs.map V.bl)∧Q (.bl (bs.any id)) H
theorem Zgr:∀{bs:List Bool} {us:List Value},Vals (bs.map V.bl) us→us=bs.map Value.bool
 | [],_,r=>by cases r; rfl
 | b::bs,_,r=>by
  cases r with
  | cons r rr=>
   cases r
   rw[Zgr rr];rfl
theorem Zpn (bs:List Bool):(List.range bs.length).all (fun i=>bs.getD i false)=bs.all id:=by
 apply Bool.eq_iff_iff.mpr;rw[List.all_eq_true,List.all_eq_true]
 constructor
 ·intro h x hx
  obtain⟨i,hi,rfl⟩:=List.mem_iff_getElem.mp hx;have:=h i (List.mem_range.mpr hi);rw[List.getD_eq_getElem?_getD,List.getElem?_eq_getElem hi]at this;exact this
 ·intro h i hi
  have hi:=List.mem_range.mp hi;rw[List.getD_eq_getElem?_getD,List.getElem?_eq_getElem hi];exact h _ (List.getElem_mem hi)
theorem Zpo (bs:List Bool):(List.range bs.length).any (fun i=>bs.getD i false)=bs.any id:=by
 apply Bool.eq_iff_iff.mpr;rw[List.any_eq_true,List.any_eq_true]
 constructor
 ·rintro⟨i,hi,h⟩
  have hi:=List.mem_range.mp hi;rw[List.getD_eq_getElem?_getD,List.getElem?_eq_getElem hi]at h;exact⟨_,List.getElem_mem hi,h⟩
 ·rintro⟨x,hx,h⟩
  obtain⟨i,hi,rfl⟩:=List.mem_iff_getElem.mp hx;refine⟨i,List.mem_range.mpr hi,?_⟩;rw[List.getD_eq_getElem?_getD,List.getElem?_eq_getElem hi];exact h
theorem Zie {prog:Program} {w:World} {A:Around} (bs:List Bool):TruthOf prog w A (fun i v=>(bs.map Value.bool).toArray[i]?=some v) (fun i=>bs.getD i false):=by
 intro i v s Q E hP hQ;rw[List.getElem?_toArray,List.getElem?_map]at hP
 cases e:bs[i]? with
 | none=>rw[e]at hP; cases hP
 | some b=>
  rw[e]at hP
  cases hP
  simp only [List.getD_eq_getElem?_getD,e]at hQ;exact wpAny_truthy_bool hQ
theorem Zn0 (hc:X.calm=true):Zfz X (.builtin "all") (rAll X.K):=by
 intro pins s σ H xs us Q I r h;obtain⟨p,bs,rfl,hq,q⟩:=h;obtain⟨u,rfl,rx⟩:=Zj4 r
 cases rx
 obtain⟨its,rv,pl,hz⟩:=I.list hq;have e:=Zgr rv;subst e
 have hpl:p < s.heap.objs.size:=by obtain⟨o,ho,_⟩:=pl.isList; exact Heap.lt_size ho
 have W:=Walks.list (prog:=X.prog) (w:=X.w) (A:=X.A.in1) (I.ok.hd hc) s.heap.objs.size p (Nat.ne_of_lt hpl) (bs.map Value.bool).toArray;refine call_all_walk (wpAny_pyIter_list pl.isList ⟨s.heap.objs.size,_,_,_,_,_,_,rfl,W,⟨⟨_,Heap.get?_push_size _ rfl,rfl,rfl⟩,pl.isList.push _⟩,Zie bs,fun h' tk k=>?_⟩);rw[List.size_toArray,List.length_map,Zpn];refine⟨.bl (bs.all id),H,I.kept (t':=tk) (fun b o z=>k b o ?_ (Heap.get?_push_of_some _ z)),rfl,q⟩;exact fun hm=>absurd (Heap.lt_size z) (by rw[List.mem_singleton.mp hm]; exact Nat.lt_irrefl _)
theorem Zn1 (hc:X.calm=true):Zfz X (.builtin "any") (rAny X.K):=by
 intro pins s σ H xs us Q I r h;obtain⟨p,bs,rfl,hq,q⟩:=h;obtain⟨u,rfl,rx⟩:=Zj4 r
 cases rx
 obtain⟨its,rv,pl,hz⟩:=I.list hq;have e:=Zgr rv;subst e
 have hpl:p < s.heap.objs.size:=by obtain⟨o,ho,_⟩:=pl.isList; exact Heap.lt_size ho
 have W:=Walks.list (prog:=X.prog) (w:=X.w) (A:=X.A.in1) (I.ok.hd hc) s.heap.objs.size p (Nat.ne_of_lt hpl) (bs.map Value.bool).toArray;refine call_any_walk (wpAny_pyIter_list pl.isList ⟨s.heap.objs.size,_,_,_,_,_,_,rfl,W,⟨⟨_,Heap.get?_push_size _ rfl,rfl,rfl⟩,pl.isList.push _⟩,Zie bs,fun h' tk k=>?_⟩);rw[List.size_toArray,List.length_map,Zpo];refine⟨.bl (bs.any id),H,I.kept (t':=tk) (fun b o z=>k b o ?_ (Heap.get?_push_of_some _ z)),rfl,q⟩;exact fun hm=>absurd (Heap.lt_size z) (by rw[List.mem_singleton.mp hm]; exact Nat.lt_irrefl _)
end
section
variable {σ:St} {H:Hp} {Q:VK} {D:Ends} {K:PySem.W.Frag} {g:TG} {tb:TS}
def Zsx (sq:Hp→Prop) (xs:List V) (g:TG) (tb:TS) (D:Ends) (σ:St) (H:Hp):Prop:=
 ∃W:Nat→Nat→St→Hp→Prop,(∃m,W 0 m σ H)∧∀i m σ H,W i m σ H→
   ((Ite sq xs).stop i H∧D.nx σ H)∨((Ite sq xs).go i H∧∃N:St→Hp→Prop,(∀σ' H',N σ' H'→∃m',m' < m∧W (i+1) m' σ' H')∧∀x H',(Ite sq xs).yld i H x H'→g x σ H' fun σ2 H2=>tb { D with nx:=N,ct:=N,bk:=D.nx } σ2 H2)
def SeqE (K:PySem.W.Frag) (x:V) (g:TG) (tb:TS) (D:Ends) (σ:St) (H1:Hp):Prop:=(∃a xs,x=.ref a∧SqL K H1 a xs∧Zsx (fun H=>SqL K H a xs) xs g tb D σ H1)∨(∃a xs,x=.ref a∧SqT K H1 a xs∧Zsx (fun H=>SqT K H a xs) xs g tb D σ H1)
theorem ZrK {tl:TE} (h:tl σ H fun x H1=>SeqE K x g tb D σ H1):tFor (Zuf K tl) g tb D σ H:=h
theorem ZvY {sq:Hp→Prop} {xs:List V} (Pv:Nat→St→Hp→Prop) (h0:Pv 0 σ H) (hl:∀i σ H,i≤xs.length→Pv i σ H→sq H)
  (hs:∀(i:Nat) (v:V) (T:Addr) σ H H',xs[i]?=some v→Pv i σ H→Same H H'→H T=none→H' T=some (.tup [.int (i:Int),v])→g (.ref T) σ H' fun σ2 H2=>tb { D with nx:=Pv (i+1),ct:=Pv (i+1),bk:=D.nx } σ2 H2) (hd:∀σ H,Pv xs.length σ H→D.nx σ H):Zsx sq xs g tb D σ H:=by
 refine⟨fun i m σ H=>m=xs.length - i∧i≤xs.length∧Pv i σ H,⟨xs.length,by simp,Nat.zero_le _,h0⟩,?_⟩;rintro i m σ H ⟨rfl,hi,p⟩
 by_cases hlt:i < xs.length
 ·refine .inr ⟨⟨hlt,hl i σ H hi p⟩,Pv (i+1),fun σ' H' p'=>⟨xs.length - (i+1),by omega,rfl,hlt,p'⟩,fun x H' y=>?_⟩
  obtain⟨T,v,hv,hT,rfl,rfl⟩:=y;exact hs i v T σ H _ hv p (Zbn hT _) hT Zak
 ·have e:i=xs.length:=by omega
  subst e;exact .inl ⟨⟨rfl,hl _ σ H hi p⟩,hd σ H p⟩
theorem Zv4 {a:Addr} {xs:List V} (Pv:Nat→St→Hp→Prop) (h0:Pv 0 σ H) (hl:∀i σ H,i≤xs.length→Pv i σ H→SqT K H a xs)
  (hs:∀(i:Nat) (v:V) (T:Addr) σ H H',xs[i]?=some v→Pv i σ H→Same H H'→H T=none→H' T=some (.tup [.int (i:Int),v])→g (.ref T) σ H' fun σ2 H2=>tb { D with nx:=Pv (i+1),ct:=Pv (i+1),bk:=D.nx } σ2 H2) (hd:∀σ H,Pv xs.length σ H→D.nx σ H):SeqE K (.ref a) g tb D σ H:=.inr ⟨a,xs,rfl,hl 0 σ H (Nat.zero_le _) h0,ZvY Pv h0 hl hs hd⟩
theorem Zou {T:Addr} {x y:V} {i j:Nat} {R:St→Hp→Prop} (e:H T=some (.tup [x,y])) (h:R ((σ.set i (some x)).set j (some y)) H):gTup K 2 (ZsM (Zhw i) (ZsM (Zhw j) gNil)) (.ref T) σ H R:=
 ⟨T,[x,y],rfl,SqT.of e,rfl,x,[y],rfl,y,[],rfl,rfl,h⟩
theorem Zl5 {i:Int} (h:Q (.int ((Builtin.Int.intBits i:Nat):Int)) H):tyV K "int" (.int i) H∧Zva (.int i) [] H Q:=⟨rfl,i,rfl,rfl,h⟩
theorem Zr1 {i:Int} {R:Bool→Prop} (h:R (!decide (i=0))):∃k,TruV K (.int i) H k∧R k:=⟨_,rfl,h⟩
theorem Zon {r r':R2} {ta tb tc:TE} (h:ta σ H fun x H1=>tb σ H1 fun y H2=>r x y H2 fun z H3=>∃k,z=.bl k∧(if k=true then tc σ H3 fun w' H4=>r' y w' H4 Q else Q (.bl false) H3)):ZpT r r' ta tb tc σ H Q:=h
theorem ZvO {p:Addr} {bs:List Bool} (h:SqL K H p (bs.map V.bl)) (q:Q (.bl (bs.all id)) H):rAll K [.ref p] H Q:=⟨p,bs,rfl,h,q⟩
theorem ZvP {p:Addr} {bs:List Bool} (h:SqL K H p (bs.map V.bl)) (q:Q (.bl (bs.any id)) H):rAny K [.ref p] H Q:=⟨p,bs,rfl,h,q⟩
end
end L2
namespace L2
open PySem PySem.Spec PyProof.Rows
section
variable {X:Cx}
end
section
open PySem.SeqAt
open PySem.AutoSeq1 (wpAny_loadPart')
open PySem.MeetsSeq PySem.MeetsSeq2 PySem.MeetsSeq3
end
def ZvI (i j:Int):Prop:=0 < j∧j≤18446744073709551616
theorem Zb0 {X:Cx}:OpR X (binaryOp .FloorDiv) (rI ZvI fun i j=>.int (i / j)):=opI fun i j _ _ _ _ _ hc q=>by
 have h1:(0:Int) < j:=hc.1;have h2:j≤18446744073709551616:=hc.2;refine floordiv_int (by omega) (by rw[Int.fdiv_eq_ediv_of_nonneg i (by omega)]; exact q) (.inl (PyProof.noPylong_of_log2 ?_));have h3:j.natAbs.log2 < 65:=(Nat.log2_lt (by omega)).mpr (by omega);omega
section
variable {σ:St} {H:Hp} {Q:VK} {D:Ends} {K:PySem.W.Frag} {g:TG} {tb:TS}
end
end L2
namespace PySem
open Sem (wp)
theorem Obj.dict_mapFields (o:Obj) (f:Array Value→Array Value):(Obj.mapFields f o).dict=o.dict:=by unfold Obj.mapFields; split <;> rfl
def ZsL (l:List Env):List Addr:=l.filterMap (·.frame)
def Heap.Tr (h:Heap) (e:Addr) (cls:Value) (T:Addr):Prop:=∃oe vs oT ts,h.get? e=some oe∧oe.cls=cls∧oe.dict=none∧oe.data=.fields vs∧vs[1]?=some (.ref T)∧T≠e∧h.get? T=some oT∧oT.data=.fields ts∧ts[3]?=some .none
structure Heap.Gone (fs own:List Addr) (h h':Heap):Prop where
 kept:∀b o,b∉fs→b∉own→h.get? b=some o→h'.get? b=some o
 slot:∀b o,b∈fs→b∉own→h.get? b=some o→∃sl,h'.get? b=some { o with slots:=sl }
section
variable {M:Model} {A:Around} {E:Value→Shared→Prop} {s:Shared}
theorem Zln {base:Heap} {env:Env} {outer:List Env} {L e:Addr} {oe:Obj} {vs:Array Value} {head:Value} {nx:Bool} {Q:Unit→Shared→Prop} (hfr:A.frames=some (env::outer)) (hl:s.heap.FunFrames base (env::outer)) (hf:env.frame=some L)
  (he:s.heap.get? e=some oe) (hdi:oe.dict=none) (hd:oe.data=.fields vs) (hsz:1 < vs.size)
  (q:∀h' T,Heap.Gone (ZsL (env::outer)) [e] s.heap h'→s.heap.get? T=none→s.heap.objs.size≤T→h'.Tr e oe.cls T→Q () { s with heap:=h' }) :
  wpAny M A (do let a ←frameOf env; let pl ←entryPlaceOf L nx; let b ←EntryCells.newEntry head a .none (rawInt L) .none pl; setField (.ref e) 1 b) (fun _ s'=>wpAny M A (setFlight (.ref e) none) Q E s') E s:=by
 have hene:e∉ZsL (env::outer):=fun hm=>by
  obtain⟨_,o,ho,hnf⟩:=hl.mem hm
  rw[he]at ho; injection ho with ho; subst ho; exact hnf vs hd
 refine wpAny_bind (wpAny_frameOf_fun hfr hl hf fun h₁ hs₁=>?_);refine wpAny_bind (wpAny_entryPlaceOf fun pl hpl=>?_);unfold EntryCells.newEntry newFields;refine wpAny_bind (wpAny_newObj_type ?_ (hpl.sizeOk5 _ _ _ _ _));have he₁:h₁.get? e=some oe:=(hs₁.2.1 e hene).trans he;generalize hrec:({ cls:=.type "traceback",dict:=none,data:=.fields ([head,.ref L,.none,rawInt L,.none]++(if pl.isEmpty then List.replicate 6 Value.none else pl)).toArray }:Obj)=rec
 have hfree:rec.isFreed=false:=by subst hrec; rfl
 have hrd:rec.data=.fields ([head,.ref L,.none,rawInt L,.none]++(if pl.isEmpty then List.replicate 6 Value.none else pl)).toArray:=by subst hrec; rfl
 have he₂:=Heap.get?_push_of_some (h:=h₁) rec he₁;refine wpAny_setField he₂ hd hsz ?_;have hTe:h₁.objs.size≠e:=Nat.ne_of_gt (Heap.lt_size he₁);have hd₃:=Obj.data_mapFields hd (·.setIfInBounds 1 (Value.ref h₁.objs.size));have he₃:=Heap.get?_update_self (Obj.mapFields (·.setIfInBounds 1 (Value.ref h₁.objs.size))) he₂ (Obj.isFreed_of_fields hd₃);have hT₃:=(Heap.get?_update_other (h₁.push rec) (Obj.mapFields (·.setIfInBounds 1 (Value.ref h₁.objs.size))) (Ne.symm hTe)).trans (Heap.get?_push_size h₁ hfree);unfold setFlight;refine wpAny_bind (wpAny_field he₃ hd₃ (x:=.ref h₁.objs.size) (by simp[hsz]) ?_);rw[if_pos (show(Value.ref h₁.objs.size != Value.none)=true from by simp)];refine wpAny_setField hT₃ hrd (by simp only [List.size_toArray,List.length_append,List.length_cons,List.length_nil] <;> omega) ?_
 have keep:∀b o,b≠e→h₁.get? b=some o→(((h₁.push rec).update e (Obj.mapFields (·.setIfInBounds 1 (Value.ref h₁.objs.size)))).update h₁.objs.size (Obj.mapFields (·.setIfInBounds 3 ((none:Option Addr).elim Value.none fun f=>rawInt f)))).get? b=some o:=fun b o hbe hb=>by
  have hbT:h₁.objs.size≠b:=Nat.ne_of_gt (Heap.lt_size hb);rw[Heap.get?_update_other _ _ hbT,Heap.get?_update_other _ _ (Ne.symm hbe)];exact Heap.get?_push_of_some _ hb
 refine q _ h₁.objs.size ⟨fun b o hb ho e'=>?_,fun b o hb ho e'=>?_⟩ (Heap.get?_none_of_le (by rw[hs₁.1]; exact Nat.le_refl _)) (by rw[hs₁.1]; exact Nat.le_refl _) ?_
 ·exact keep b o (fun z=>ho (by rw[z]; exact List.mem_singleton.mpr rfl)) ((hs₁.2.1 b hb).trans e')
 ·obtain⟨sl,e2⟩:=hs₁.2.2 b o e'
  exact⟨sl,keep b _ (fun z=>ho (by rw[z]; exact List.mem_singleton.mpr rfl)) e2⟩
 ·refine⟨_,_,_,_,?_,Obj.cls_mapFields _ _,(Obj.dict_mapFields _ _).trans hdi,hd₃,by simp[hsz],hTe,Heap.get?_update_self _ hT₃ (Obj.isFreed_of_fields (Obj.data_mapFields hrd _)),Obj.data_mapFields hrd _,by first | (simp; done) | (rcases hpl with rfl | ⟨_,_,_,_,_,_,_,rfl⟩ <;> simp)⟩
  rw[Heap.get?_update_other _ _ hTe]; exact he₃
theorem Zlo {base:Heap} {env:Env} {outer:List Env} {L e:Addr} {oe:Obj} {vs:Array Value} {Q:Unit→Shared→Prop} (hfr:A.frames=some (env::outer)) (hl:s.heap.FunFrames base (env::outer)) (hf:env.frame=some L)
  (he:s.heap.get? e=some oe) (hdi:oe.dict=none) (hd:oe.data=.fields vs) (h1:vs[1]?=some .none)
  (q:∀h' T,Heap.Gone (ZsL (env::outer)) [e] s.heap h'→s.heap.get? T=none→s.heap.objs.size≤T→h'.Tr e oe.cls T→Q () { s with heap:=h' }):wpAny M A (leaving env (.ref e)) Q E s:=by
 unfold leaving noteFrame;simp only [hf];refine wpAny_bind (wpAny_bind (wpAny_field he hd h1 ?_));rw[if_neg (by decide)];exact Zln hfr hl hf he hdi hd (Array.getElem?_eq_some_iff.mp h1).1 q
end
end PySem
namespace L2
open PySem PySem.Spec PyProof.Rows
section
variable {P:Program} {w:World} {H H':Hp} {h h' h1 h2:Heap} {a:Addr} {o:HO} {fs own:List Addr}
theorem ZaT.at (x:ZaT P w H h a o):∃u,h.get? a=some u:=by
 cases o with
 | lst xs=>obtain⟨_,_,_,_,e⟩:=x; exact⟨_,e⟩
 | tup xs=>obtain⟨_,_,_,⟨_,e,_⟩⟩:=x; exact⟨_,e⟩
 | dK kvs=>obtain⟨_,_,_,_,o,_,_,e,_⟩:=x; exact⟨_,e⟩
 | dT kvs=>obtain⟨_,_,_,_,o,_,_,e,_⟩:=x; exact⟨_,e⟩
 | set S n=>obtain⟨o,_,_,_,e,_⟩:=x; exact⟨_,e⟩
 | ins C dx fs=>obtain⟨_,_,_,e,_⟩:=x; exact⟨_,e⟩
 | own y=>obtain⟨_,e⟩:=x; exact⟨_,e⟩
 | xd fs=>obtain⟨_,⟨_,_,_,e,_⟩,_⟩:=x; exact⟨_,e⟩
 | rng lo hi=>obtain⟨_,_,_,e⟩:=x; exact⟨_,e⟩
 | frz ob u=>obtain⟨e,_⟩:=x; exact⟨_,e⟩
 | tbl ps=>exact⟨_,(show h.get? a=some _ from x)⟩
 | met f y=>exact⟨_,(show h.get? a=some _ from x)⟩
 | ext φ=>obtain⟨_,⟨_,e⟩,_⟩:=x; exact⟨_,e⟩
theorem HOk.out (x:HOk P w H h) (e:h.get? a=none):H a=none:=by
 cases q:H a with
 | none=>rfl
 | some u=>obtain⟨v,z⟩:=ZaT.at (x a u q); rw[e]at z; cases z
theorem ZsR (u:Un fs [] H H' h h1) (g:Heap.Gone fs own h1 h2) (hn:∀b∈own,h.get? b=none):Un fs [] H H' h h2:=by
 have no:∀b o,h.get? b=some o→b∉own:=fun b o e z=>by rw[hn b z]at e; cases e
 refine⟨fun b o e n hf hx=>g.kept b o hf (no b o e) (u.keep b o e n hf hx),fun b o e n hf hx=>?_,u.free,fun b o e hx=>?_,u.tups,u.frzs,u.tbls⟩
 ·obtain⟨sl,q⟩:=u.slot b o e n hf hx
  obtain⟨sl',q'⟩:=g.slot b _ hf (no b o e) q;exact⟨sl',q'⟩
 ·obtain⟨o',q⟩:=u.there b o e hx
  by_cases hf:b∈fs
  ·obtain⟨sl',q'⟩:=g.slot b _ hf (no b o e) q
   exact⟨_,q'⟩
  ·exact⟨_,g.kept b _ hf (no b o e) q⟩
theorem Zqx (x:HOk P w H h) (g:Heap.Gone fs own h h2) (hf:∀b∈fs,H b=none) (ho:∀b∈own,H b=none):HOk P w H h2:=fun b u e=>by
 refine(x b u e).stay (fun c v hc q=>?_) (fun _ q=>q) fun _ _ q=>q
 have hs:∃z,H c=some z:=by
  rcases hc with z | z
  ·rw[z]; exact⟨_,e⟩
  ·exact⟨_,z⟩
 obtain⟨z,hz⟩:=hs;exact g.kept c v (fun m=>by rw[hf c m]at hz; cases hz) (fun m=>by rw[ho c m]at hz; cases hz) q
end
def CX1 (P:Program) (w:World):CXT:=fun outer H s E e s'=>∃ea T C H',e=.ref ea∧s'.os=s.os∧AllBare s'.gens∧Un (frs outer) [] H H' s.heap s'.heap∧HOk P w H' s'.heap∧H' ea=none∧H' T=none∧
 s.heap.get? ea=none∧s.heap.get? T=none∧s'.heap.Tr ea (.ref C) T∧E (.ref C) none H'
def Lets (X:Cx) (E:XK):Prop:=∀(pins:List (Addr×Obj)) (σ:St) (H:Hp) (s:Shared) (h':Heap) (e C:Addr) (args:List Value),Inv X pins σ H s→Heap.MadeExcOf s.heap h' e (.ref C) args→E (.ref C) none H→X.xe (.ref e) { s with heap:=h' }
section
variable {P:Program} {w:World} {K:PySem.W.Frag} {mg:Str→Option Value} {base:Heap} {N:List Str} {qual:Str} {scope:Scope} {f:Addr} {cd:Value} {A:Around} {outer:List Env} {s:Shared} {H:Hp} {E:XK}
theorem ZuJ:Lets (cxOf (CX1 P w) P w K mg base N qual scope f cd A outer s H E) E:=by
 intro pins σ H1 s1 h' e C args I hm hE;obtain⟨t,ho,_,_⟩:=hm.there;have I1:Inv (cxOf (CX1 P w) P w K mg base N qual scope f cd A outer s H E) pins σ H1 { s1 with heap:=h' }:=I.kept (t':=s1.toks) hm.keeps;show wpAny _ _ (leaving _ _) _ _ _;refine Zlo (s:={ s1 with heap:=h' }) I.ok.frames I1.stack rfl ho rfl rfl (by simp) fun h2 T g nT _ tr=>?_;have He:H1 e=none:=I.hok.out hm.new;have HT:H1 T=none:=I1.hok.out nT;have un:Un (frs (cxOf (CX1 P w) P w K mg base N qual scope f cd A outer s H E).stack) [] H1 H1 s1.heap h2:=ZsR (Un.kept hm.keeps) g (fun b hb=>by rw[List.mem_singleton.mp hb]; exact hm.new);have hk:HOk P w H1 h2:=Zqx I1.hok g I1.stkFree (fun b hb=>by rw[List.mem_singleton.mp hb]; exact He);have I2:Inv (cxOf (CX1 P w) P w K mg base N qual scope f cd A outer s H E) pins σ H1 { s1 with heap:=h2 }:=I.call (g':=s1.gens) (t':=s1.toks) (d':=s1.drawn) (ch:=[]) un hk I.bare (fun b z=>absurd z (by simp))
 have back:∀b,s1.heap.get? b=none→s.heap.get? b=none:=fun b hb=>by
  cases q:s.heap.get? b with
  | none=>rfl
  | some o=>
   obtain⟨o',z⟩:=I.base.there b o q (by show b∉[]; simp);rw[hb]at z; cases z
 have nT1:s1.heap.get? T=none:=by
  cases q:s1.heap.get? T with
  | none=>rfl
  | some o=>have z:=hm.keeps T o q; rw[show h'.get? T=none from nT]at z; cases z
 exact⟨e,T,C,H1,rfl,I.os,I.bare,I2.base,hk,He,HT,back e hm.new,back T nT1,tr,hE⟩
end
theorem Fun.ok1 {P:Program} {w:World} {K:PySem.W.Frag} {mg:Str→Option Value} {base:Heap} {x qual:Str} {st:Stmt} {f:Addr} {fd:FuncData} {N ps:List Str} {k:Nat} {sp:Sp} (F:Fun K x qual st f fd) (S:FnScope N ps (Zah st)) (len:∀vs H Q E,sp vs H Q E→vs.length=ps.length)
  (hbody:∀(cdv:Value) (A:Around) (outer:List Env) (s:Shared) (H:Hp) (vs:List V) (Q:VK) (E:XK),Room k (A.deeper (envOfC qual (Zah st) s.heap.objs.size f cdv))→sp vs H Q E→
   ∃t,PSs (cxOf (CX1 P w) P w K mg base N qual (Zah st) f cdv A outer s H E) (Zek st) t∧t { nx:=fun _ H'=>Q .non H',rt:=Q } (start N vs) H):FnOk P w K mg base (CX1 P w) (k+1) f fd ps sp:=by
 obtain⟨oc,od,kV,doc,pm,an,cdv,ct,osl,rfl,lk,hcd⟩:=F.ex;exact Zud lk hcd S len fun A outer s H vs Q E hr hsp=>hbody cdv A outer s H vs Q E hr hsp
end L2
namespace L2
open PySem PySem.Spec PyProof.Rows
abbrev vErr:List Value:=[.type "ValueError",.type "Exception",.type "BaseException",.type "object"]
abbrev ZlQ (K:PySem.W.Frag) (C:Addr):Prop:=PySem.W.excIn K C vErr "ValueError.__new__" = true
theorem Zub {K:PySem.W.Frag} {h:Heap} {C:Addr} (X:K.In h) (q:ZlQ K C):∃bm N nm qn bs hdct sn sub ab col dd k0 k1 k2 k3 k5 mN,
  h.get? C=some (excClassObj nm qn C N bs bm hdct sn sub ab col dd k0 k1 k2 k3 k5 "ValueError.__new__")∧h.Ns N mN∧mN "__init__" = none∧OwnTail h vErr bm:=by
 unfold ZlQ PySem.W.excIn at q
 split at q
 ·rename_i dd cd sl ho
  split at q
  ·rename_i C' bm k0 k1 k2 k3 n k5 hm hs
   simp only [Bool.and_eq_true,beq_iff_eq,Bool.not_eq_true']at q;obtain⟨⟨⟨⟨⟨rfl,rfl⟩,hdel⟩,ht⟩,hok⟩,hni⟩:=q;obtain⟨nm,bs,mro,ns,qn,hd,sn,sub,ab,col,del⟩:=cd
   dsimp only at hm hdel hok hni
   subst hm hdel
   have hsl:sl = #[k0,k1,k2,k3,some (.builtin "ValueError.__new__"),k5]:=by
    obtain⟨l⟩:=sl;simp only at hs;rw[hs]
   subst hsl;exact⟨bm,ns,nm,qn,bs,hd,sn,sub,ab,col,dd,k0,k1,k2,k3,k5,_,X _ _ ho,.of_isNs (PySem.W.isNs_of_in X hok),PySem.W.nsMap_none_of_in X hok hni,PySem.W.tail_of_in X ht⟩
  ·cases q
 ·cases q
section
variable {X:Cx} {E:XK} {C:Addr} {x:Str} {np cpos pos:Pos} {e:Expr} {es:List Expr} {t:TA}
def Zsq (C:Addr) (E:XK) (t:TA):TS:=fun _ σ H=>t σ H fun vs H1=>vs.length≤9∧E (.ref C) none H1
theorem Zmq (hc:X.calm=true) (hl:Lets X E) (q:ZlQ X.K C) (hg:Gl X x) (hm:X.mg x=some (.ref C)) (ha:PA X (e::es) t) (hdb:(x == ("__debug__" : Str))=false:=by decide)
  (he:starEach (e::es) X.env=(false,eval e X.env)::starEach es X.env:=by rfl) (hpl:(backTo cpos (starEach es X.env)).any (·.1)=false:=by rfl) :
  PS X (.Raise (some (.Call (.Name x np) (e::es) [] cpos)) none pos) (Zsq C E t):=by
 intro pins s σ H D I h;obtain⟨tl,N,nm,qn,bs,hdct,sn,sub,ab,col,dd,k0,k1,k2,k3,k5,mN,hC,hN,hni,T⟩:=Zub I.mod.kin q;have F:=PySem.F.excBase_ValueError
 refine wpAny_Raise_call_subU (C:=C) (nm:=nm) (q:=qn) (N:=N) (bs:=bs) (bm:=tl) (hdct:=hdct) (sn:=sn) (sub:=sub) (ab:=ab) (col:=col) (dd:=dd) (k0:=k0) (k1:=k1) (k2:=k2) (k3:=k3) (k5:=k5)
  F F.hasB F (mN:=mN) (T.hasType F.hasBase) (I.ok.hd hc) (by rw[he]; show(false || (backTo cpos (starEach es X.env)).any (·.1))=false; rw[hpl]; rfl) hni (Zlm I hg hm ⟨rfl,?_⟩ hdb)
 have h2:=ha cpos pins s σ H _ I h;rw[he]at h2 ⊢;refine Calls.evalArgs_plain (wpAny_mono h2 (fun vs s2 h3=>?_) fun _ _ y=>y);obtain⟨us,H2,I2,r,hlen,hE⟩:=h3;refine⟨rfl,?_,I2.bk _ _ hC,hN.keeps I2.bk,T.keeps I2.bk,fun h' e hm=>hl pins σ H2 s2 h' e C vs I2 hm hE⟩;show vs.length≤sizeLine;rw[←r.length]; exact Nat.le_trans hlen (by decide)
end
section
variable {X:Cx} {k:Nat} {f C:Addr} {fd:FuncData} {ps:List Str} {sp:Sp} {dvs:List V} {ds:List Value} {x m:Str} {p pos apos:Pos} {e o:Expr} {es:List Expr} {ta:TE} {t:TA}
end
section
variable {X:Cx} {pins:List (Addr×Obj)} {σ:St} {H:Hp} {s:Shared} {ea T T' C:Addr} {h':Heap}
end
section
variable {X:Cx} {b:List Stmt} {h₀:ExceptHandler} {hs:List ExceptHandler} {tb:TSx} {th:Addr→TS} {pos:Pos} {e:Expr} {te:TEx}
end
end L2
namespace L2
open PySem PySem.Spec PyProof.Rows
structure ExcK (K:PySem.W.Frag) (C:Addr):Prop where
 own:ZlQ K C
 cl:(PySem.W.clsIn K C).isSome=true
 ga:PySem.W.findIn K (.ref C) "__getattribute__" = some (some (.builtin "BaseException.__getattribute__"))
 gb:PySem.W.findIn K (.ref C) "__getattr__" = some none
 cc:PySem.W.findIn K (.ref C) "__class__" = some (some (.builtin "object.__class__"))
 mb:PySem.W.mroIn K C (.type "BaseException")=some true
 mo:PySem.W.mroIn K C (.type "object")=some true
section
variable {prog:Program} {w:World} {A:Around} {E:Value→Shared→Prop} {h:Heap} {g:Array GenState} {d:Drawn} {t:Nat} {os:OsState} {a C:Addr} {o:Obj} {K:PySem.W.Frag}
end
section
variable {X:Cx} {pins l:List (Addr×Obj)} {σ:St} {H:Hp} {s:Shared} {ea T C:Addr} {h':Heap} {oe:Obj}
end
section
variable {X:Cx} {N:Str} {C':Addr} {np pos:Pos} {b₀:Stmt} {suite:List Stmt} {rest:List ExceptHandler} {ts tr:Addr→TS}
end
theorem PS.nox {X:Cx} {st:Stmt} {t:TS} (h:PS X.nox st t):PS X st t:=fun pins s σ H D I hw=>
 wpAny_mono (h pins s σ H D (I.wish _) hw) (fun _ _ q=>q.unwish) fun _ _ z=>False.elim z
theorem PA.nox {X:Cx} {es:List Expr} {t:TA} (h:PA X.nox es t):PA X es t:=fun pos pins s σ H Q I hw=>
 wpAny_mono (h pos pins s σ H Q (I.wish _) hw) (fun _ _ ⟨v,H',I',r,q⟩=>⟨v,H',I'.unwish,r,q⟩) fun _ _ z=>False.elim z
def FnS1 (P:Program) (w:World) (K:PySem.W.Frag) (mg:Str→Option Value) (base:Heap) (k:Nat) (x:Str) (ps:List Str) (sp:Sp):Prop:=∃f fd,FnOk P w K mg base (CX1 P w) k f fd ps sp∧ZaS K fd ps []∧PySem.W.keepIn K (.ref f)=true∧mg x=some (.ref f)
section
variable {X:Cx} {k k':Nat} {x:Str} {ps:List Str} {sp:Sp} {e:Expr} {es:List Expr} {t:TA} {p pos:Pos}
theorem Zsb {X:Cx}:ZiI (CX1 X.prog X.w) X E0:=fun _ _ _ _ _ _ _ ⟨_,_,_,_,_,_,_,_,_,_,_,_,_,_,hE⟩=>hE.elim
theorem Zu4 (G:FnS1 X.prog X.w X.K X.mg X.base k x ps sp) (hr:Room k' X.A) (ha:PA X (e::es) t) (hk:k≤k':=by omega) (hg:Gl X x:=by rfl) (hdb:(x == ("__debug__" : Str))=false:=by decide)
  (he:starEach (e::es) X.env=(false,eval e X.env)::starEach es X.env:=by rfl) (hpl:(backTo pos (starEach es X.env)).any (·.1)=false:=by rfl):PE X (.Call (.Name x p) (e::es) [] pos) (tFn sp t):=by
 obtain⟨f,fd,F,hb,kp,hm⟩:=G;rw[←ZkZ];exact Zpb F (hr.mono hk) hg hm kp hb .nil Zsb ha hdb he hpl
end
section
variable {K:PySem.W.Frag} {D:Ends} {σ:St} {H:Hp} {Q:VK} {C C':Addr}
theorem Zs2 {E:XK} {t:TA} (h:t σ H fun vs H1=>vs.length≤9∧E (.ref C) none H1):Zsq C E t D σ H:=h
end
end L2
namespace PySem
open Sem (wp)
def Heap.RawD (h:Heap) (d:Addr) (es:Array DictEntry) (ep:Nat):Prop:=∃o,h.get? d=some o∧o.ExactDict∧o.data=.dict es ep
section
variable {prog:Program} {w:World} {A:Around} {E:Value→Shared→Prop} {s:Shared}
theorem Heap.RawD.ty {d:Addr} {es:Array DictEntry} {ep:Nat} (x:s.heap.RawD d es ep):s.TypeIs (.ref d) "dict":=let ⟨o,ho,hc,_⟩:=x; ⟨o,ho,hc.1⟩
theorem Zpp (d:Addr) (hsm:(d == sysModules)=false):MeetsIn prog w (Builtin.«dict.items» ⟨[.ref d],[]⟩) (fun _ R z=>(∃es ep,z.heap.RawD d es ep)∧
  R (.ok (.ret (.ref z.heap.objs.size))) { z with heap:=z.heap.push { cls:=.type "dict_items",data:=.fields #[.ref d] } }):=
 .of_wp fun A R z ⟨⟨es,ep,hm⟩,q⟩=>by
  unfold Builtin.«dict.items»;refine wpAny_bind ?_;unfold Builtin.Dict.noArgs;refine wpAny_bind (wpAny_notOrdered_dict (s:=z) hm.ty ?_);show wpAny _ _ (pure d) _ _ z;refine wpAny_pure ?_;show wpAny _ _ (Builtin.Dict.showsAll d >>= _) _ _ z;unfold Builtin.Dict.showsAll;rw[if_neg (by rw[hsm]; decide)];exact wpAny_bind (wpAny_pure (wpAny_bind (wpAny_newObj_type (wpAny_pure ⟨_,rfl,q⟩))))
theorem Zrf {v d:Addr} {es:Array DictEntry} {ep:Nat} {Q:Value→Shared→Prop} (hv:s.heap.IsItemsView v d) (hm:s.heap.RawD d es ep)
  (q:Q (.ref s.heap.objs.size) { s with heap:=s.heap.push { cls:=.type "dict_itemiterator",data:=.fields #[.none,.bool false,.ref d,.int 0 0,.int es.size 0,.int ep 0,.none,.none] } }) :
  wpAny (model prog w) A (pyIter (.ref v)) Q E s:=by
 obtain⟨vo,gv,cv,dv⟩:=id hv;obtain⟨o,go,co,da⟩:=id hm;refine wpAny_pyIter_slot hv.typeIs F.slot_dict_items_iter (wpAny_call_entry F.slot_dict_items_iter hv.typeIs F.entry_dict_items_iter ?_ (F.args_dict_items_iter_1 _));unfold Builtin.«dict_items.__iter__»;refine wpAny_bind (wpAny_pure (wpAny_bind ?_));unfold Builtin.Dict_items.dictOf;refine wpAny_bind (wpAny_field gv dv (x:=.ref d) rfl (wpAny_pure (wpAny_bind ?_)));unfold Builtin.Dict_items.newIterator;refine wpAny_bind (wpAny_dictEntries go da (wpAny_bind (wpAny_dictEpoch go da ?_)))
 have own:Builtin.Dict_items.ownsTuple "dict_itemiterator" = true:=by decide
 simp only [own,if_true];refine wpAny_newObj_type (wpAny_pure ⟨_,rfl,"dict_itemiterator",_,⟨_,Heap.get?_push_size _ rfl,rfl⟩,F.slot_dict_itemiterator_next.lookup,?_⟩) (by simp only [sizeOk,Builtin.Dict_items.ownedTupleFields,List.size_toArray,List.length_append,List.length_cons,List.length_nil,sizeLine_eq]; omega)
 simpa [rawInt,Builtin.Dict_items.ownedTupleFields] using q
theorem Zre {it d:Addr} {i ep:Nat} {es:Array DictEntry} {ok ov:Value} {Q:Option Value→Shared→Prop} (hit:IsItemIter s.heap it d i es.size ep ok ov) (hm:s.heap.RawD d es ep) (hi:i < es.size)
  (q:∀h',IsItemIterOut h' it d (i+1) es.size ep es[i].key es[i].val s.heap.objs.size→h'.get? s.heap.objs.size=some { cls:=.type "tuple",data:=.seq #[es[i].key,es[i].val] }→
   (∀b o,b≠it→s.heap.get? b=some o→h'.get? b=some o)→Q (some (.ref s.heap.objs.size)) { s with heap:=h' }) :
  wpAny (model prog w) A (pyNext (.ref it)) Q E s:=by
 obtain⟨hp,g,dr,tk,os⟩:=s;obtain⟨o,go,co,da⟩:=id hm;have ti:Shared.TypeIs ⟨hp,g,dr,tk,os⟩ (.ref it) "dict_itemiterator":=⟨_,hit,rfl⟩;unfold pyNext;refine wpAny_bind (wpAny_attempt (wpAny_callSpecial?_slot (name:=Str.ofString "__next__") ti F.slot_dict_itemiterator_next (wpAny_call_entry F.slot_dict_itemiterator_next ti F.entry_dict_itemiterator_next ?_ (F.args_dict_itemiterator_next_1 _))));refine wpAny_bind (wpAny_pure (wpAny_bind (wpAny_bind ?_)))
 first | refine wpAny_bind (wpAny_typeNameOfWhole_itemiter ti (wpAny_pure ?_)) | refine wpAny_bind (wpAny_typeNameOf_itemiter ti (wpAny_pure ?_))
 refine wpAny_bind (wpAny_fieldsOf hit rfl ?_)
 have own:Builtin.Dict_items.ownsTuple "dict_itemiterator" = true:=by decide
 simp only [own,if_true];show wpAny _ _ (if (Value.ref d == Value.none)=true then _ else _) _ _ _;rw[if_neg (show ¬((Value.ref d == Value.none)=true) from Bool.false_ne_true)];refine wpAny_bind (wpAny_pure (wpAny_bind (wpAny_dictEntries go da ?_)));rw[if_neg (by simp)];refine wpAny_bind (wpAny_pure (wpAny_bind (wpAny_dictEpoch go da ?_)));rw[if_neg (by simp)];refine wpAny_pure ?_;simp only [show ¬((i:Int) < 0) by omega,if_false,Int.toNat_natCast,Array.getElem?_eq_getElem hi];refine wpAny_bind ?_
 first | refine wpAny_bind (wpAny_typeNameOfWhole_itemiter ti (wpAny_pure ?_)) | refine wpAny_bind (wpAny_typeNameOf_itemiter ti (wpAny_pure ?_))
 refine wpAny_bind (wpAny_isOneOf_itemiter ti ?_);show wpAny _ _ (setField (.ref it) 3 (rawInt ((i:Int)+1)) >>= _) _ _ ⟨hp,g,dr,tk,os⟩;refine wpAny_bind (wpAny_setField_rec hit (by simp) fun a1 e1 s1=>?_)
 replace s1:Heap.SameBut it hp a1:=s1
 replace e1:IsItemIter a1 it d (i+1) es.size ep ok ov:=by
  unfold IsItemIter;rw[show((i+1:Nat):Int)=(i:Int)+1 by omega]
  simpa [rawInt] using e1
 have t1:Shared.TypeIs ⟨a1,g,dr,tk,os⟩ (.ref it) "dict_itemiterator":=⟨_,e1,rfl⟩;refine wpAny_bind (wpAny_holding (wpAny_bind (wpAny_isOneOf_itemiter t1 (wpAny_bind (wpAny_isOneOf_itemiter t1 ?_)))));show wpAny _ _ (Builtin.Dict_items.pairFromOwner (.ref it) 6 es[i].key es[i].val) _ _ ⟨a1,g,dr,tk,os⟩;unfold Builtin.Dict_items.pairFromOwner;refine wpAny_bind (wpAny_newTuple ?_);have e2:IsItemIter (a1.push { cls:=.type "tuple",data:=.seq #[es[i].key,es[i].val] }) it d (i+1) es.size ep ok ov:=Heap.get?_push_of_some _ e1;have z1:a1.objs.size=hp.objs.size:=s1.1;have il:it < hp.objs.size:=Heap.lt_size hit
 have p2:(a1.push { cls:=.type "tuple",data:=.seq #[es[i].key,es[i].val] }).get? hp.objs.size=some { cls:=.type "tuple",data:=.seq #[es[i].key,es[i].val] }:=by rw[←z1]; exact Heap.get?_push_size _ rfl
 have k2:∀b o,b≠it→hp.get? b=some o→(a1.push { cls:=.type "tuple",data:=.seq #[es[i].key,es[i].val] }).get? b=some o:=fun b o hb e=>Heap.get?_push_of_some _ (s1.extBut b o hb e);generalize a1.push { cls:=.type "tuple",data:=.seq #[es[i].key,es[i].val] } = a2 at e2 p2 k2;show wpAny _ _ (Builtin.Dict_items.ownedTupleIsFree (.ref it) >>= _) _ _ ⟨a2,g,dr,tk,os⟩;rw[z1];refine wpAny_bind ?_;unfold Builtin.Dict_items.ownedTupleIsFree;refine wpAny_bind (wpAny_field e2 rfl (x:=.none) rfl (wpAny_pure ?_));simp only [if_true];refine wpAny_bind (wpAny_field e2 rfl (x:=ok) rfl (wpAny_bind (wpAny_field e2 rfl (x:=ov) rfl ?_)));refine wpAny_bind (wpAny_setField_rec e2 (by simp) fun a3 e3 s3=>?_)
 replace s3:Heap.SameBut it a2 a3:=s3
 replace e3:IsItemIter a3 it d (i+1) es.size ep es[i].key ov:=e3
 refine wpAny_bind (wpAny_setField_rec e3 (by simp) fun a4 e4 s4=>?_)
 replace s4:Heap.SameBut it a3 a4:=s4
 replace e4:IsItemIter a4 it d (i+1) es.size ep es[i].key es[i].val:=e4
 refine wpAny_bind (wpAny_setField_rec e4 (by simp) fun a5 e5 s5=>?_)
 replace s5:Heap.SameBut it a4 a5:=s5
 replace e5:IsItemIterOut a5 it d (i+1) es.size ep es[i].key es[i].val hp.objs.size:=e5
 refine wpAny_bind (wpAny_setField_rec e5 (by simp) fun a6 e6 s6=>?_)
 replace s6:Heap.SameBut it a5 a6:=s6
 replace e6:IsItemIterOut a6 it d (i+1) es.size ep es[i].key es[i].val hp.objs.size:=e6
 refine wpAny_bind (wpAny_letGo (wpAny_pure (wpAny_pure ⟨_,rfl,wpAny_pure (q a6 e6 ?_ ?_)⟩)))
 ·exact s6.extBut _ _ (Nat.ne_of_gt il) (s5.extBut _ _ (Nat.ne_of_gt il) (s4.extBut _ _ (Nat.ne_of_gt il) (s3.extBut _ _ (Nat.ne_of_gt il) p2)))
 ·exact fun b o hb e=>s6.extBut b o hb (s5.extBut b o hb (s4.extBut b o hb (s3.extBut b o hb (k2 b o hb e))))
theorem Ztw {it d:Addr} {ep:Nat} {es:Array DictEntry} {ok ov:Value} {Q:Option Value→Shared→Prop} (hh:A.handled=none) (hit:IsItemIter s.heap it d es.size es.size ep ok ov) (hm:s.heap.RawD d es ep)
  (q:∀h',Heap.ExtBut it s.heap h'→Q none { s with heap:=h' }):wpAny (model prog w) A (pyNext (.ref it)) Q E s:=by
 obtain⟨o,go,co,da⟩:=id hm;have ti:s.TypeIs (.ref it) "dict_itemiterator":=⟨_,hit,rfl⟩;unfold pyNext;refine wpAny_bind (wpAny_attempt (wpAny_callSpecial?_slot (name:=Str.ofString "__next__") ti F.slot_dict_itemiterator_next (wpAny_call_entry F.slot_dict_itemiterator_next ti F.entry_dict_itemiterator_next ?_ (F.args_dict_itemiterator_next_1 _))));refine wpAny_bind (wpAny_pure (wpAny_bind (wpAny_bind ?_)))
 first | refine wpAny_bind (wpAny_typeNameOfWhole_itemiter ti (wpAny_pure ?_)) | refine wpAny_bind (wpAny_typeNameOf_itemiter ti (wpAny_pure ?_))
 refine wpAny_bind (wpAny_fieldsOf hit rfl ?_)
 have own:Builtin.Dict_items.ownsTuple "dict_itemiterator" = true:=by decide
 simp only [own,if_true];show wpAny _ _ (if (Value.ref d == Value.none)=true then _ else _) _ _ s;rw[if_neg (show ¬((Value.ref d == Value.none)=true) from Bool.false_ne_true)];refine wpAny_bind (wpAny_pure (wpAny_bind (wpAny_dictEntries go da ?_)));rw[if_neg (by simp)];refine wpAny_bind (wpAny_pure (wpAny_bind (wpAny_dictEpoch go da ?_)));rw[if_neg (by simp)];refine wpAny_pure ?_;simp only [show ¬((es.size:Int) < 0) by omega,if_false,Int.toNat_natCast,Array.getElem?_eq_none (Nat.le_refl es.size)];refine wpAny_bind ?_
 first | refine wpAny_bind (wpAny_typeNameOfWhole_itemiter ti (wpAny_pure ?_)) | refine wpAny_bind (wpAny_typeNameOf_itemiter ti (wpAny_pure ?_))
 show wpAny _ _ (setField (.ref it) 2 .none >>= _) _ _ s;refine wpAny_bind (wpAny_setField hit rfl (by simp) ?_);show wpAny _ _ (newExc (.type "StopIteration") [] >>= _) _ _ _;refine wpAny_bind ?_;simp only [newExc,newTuple];refine wpAny_bind (wpAny_newObj_type ?_ (by size_fits));refine wpAny_bind (m:=firstArgMember _ _) (wpAny_of_eq (a:=Value.none) (by first | rfl | (simp only [firstArgMember]; rfl)) ?_);refine wpAny_newObj_type ?_ (by size_fits);simp only [raiseNew];refine wpAny_bind (wpAny_handled ?_);rw[show A.in1.handled=none from hh];refine wpAny_bind (wpAny_pure (wpAny_throw ?_));refine wpAny_bind (wpAny_isInstance (T:="StopIteration") (b:=true) ⟨_,Heap.get?_push_size _ rfl,rfl⟩ isSubtype_stop ?_);exact wpAny_pure (q _ (((Heap.SameBut.update ..).extBut.push _).push _))
end
end PySem
namespace PySem
theorem Zg6:entryFor table "dict_itemiterator.__iter__" = some Builtin.«dict_keyiterator.__iter__»:=
 entryFor_alias (id':="dict_keyiterator.__iter__") (by kernel_rfl) rfl (by decide +kernel) (by kernel_rfl)
theorem ZoD {prog:Program} {w:World} {A:Around} {E:Value→Shared→Prop} {s:Shared} {it d:Addr} {i n ep:Nat} {ok ov:Value} {Q:Value→Shared→Prop} (hit:IsItemIter s.heap it d i n ep ok ov) (q:Q (.ref it) s):wpAny (model prog w) A (pyIter (.ref it)) Q E s:=by
 have ti:s.TypeIs (.ref it) "dict_itemiterator":=⟨_,hit,rfl⟩;refine wpAny_pyIter_slot ti F.slot_dict_itemiterator_iter (wpAny_call_entry F.slot_dict_itemiterator_iter ti Zg6 ?_ (F.args_dict_itemiterator_iter_1 _));show wpAny _ _ (ret (.ref it)) _ _ s;exact wpAny_pure ⟨_,rfl,"dict_itemiterator",_,ti,F.slot_dict_itemiterator_next.lookup,q⟩
end PySem
namespace L2
open PySem PySem.Spec PyProof.Rows
theorem Inv.freeze {X:Cx} {pins:List (Addr×Obj)} {σ:St} {H:Hp} {s:Shared} {a:Addr} {kvs:List (List Key×V)} (I:Inv X pins σ H s) (e:H a=some (.dT kvs)):∃o,s.heap.get? a=some o∧Inv X pins σ (upd H a (.frz o (.dT kvs))) s:=by
 have z:=I.hok a _ e;obtain⟨_,_,xs,r,o,es,ep,h1,h2,h3,h4,h5⟩:=(show ZaT X.prog X.w H s.heap a (.dT kvs) from z)
 have ne:∀{b:Addr} {u:HO},H b=some u→(∀k,u≠.dT k)→b≠a:=fun q n z=>by rw[z,e]at q; cases q; exact n _ rfl
 have nn:∀{b:Addr},H b=none→b≠a:=fun q z=>by rw[z,e]at q; cases q
 refine⟨o,h1,⟨I.ok,I.os,I.bare,⟨I.base.keep,I.base.slot,fun b u q n hx=>?_,I.base.there,fun b xs q=>?_,fun b u v q=>?_,fun b ps q=>?_⟩,I.loc,I.cell,?_,fun x c q=>?_,fun p hp=>?_,fun b u q=>?_,I.len⟩⟩
 ·have:=I.base.free b u q n hx
  rw[Zal (nn this)]; exact this
 ·have:=I.base.tups b xs q
  rw[Zal (ne this (by intro k h; cases h))]; exact this
 ·have:=I.base.frzs b u v q
  rw[Zal (ne this (by intro k h; cases h))]; exact this
 ·obtain⟨more,this⟩:=I.base.tbls b ps q
  exact⟨more,by rw[Zal (ne this (by intro k h; cases h))]; exact this⟩
 ·rw[Zal (nn I.free)]; exact I.free
 ·rw[Zal (nn (I.freeC x c q))]; exact I.freeC x c q
 ·obtain⟨p1,p2,p3⟩:=I.pin p hp
  exact⟨p1,by rw[Zal (nn p2)]; exact p2,p3⟩
 ·have stay:∀{b:Addr} {u:HO},ZaT X.prog X.w H s.heap b u→ZaT X.prog X.w (upd H a (.frz o (.dT kvs))) s.heap b u:=fun {b u} y=>
   y.stay (fun _ _ _ q=>q) (fun c q=>by rw[Zal (ne q (by intro k h; cases h))]; exact q) fun c xs q=>by rw[Zal (ne q (by intro k h; cases h))]; exact q
  by_cases hb:b=a
  ·subst hb
   rw[Zak]at q
   cases q
   exact⟨h1,stay z⟩
  ·rw[Zal hb]at q
   exact stay (I.hok b u q)
def Itd (a:Addr) (o:Obj) (kvs:List (List Key×V)):It:=⟨fun i H=>i < kvs.length∧H a=some (.frz o (.dT kvs)),fun i H x H'=>∃T b k v,kvs[i]?=some (k,v)∧H b=some (.tup (k.map kV))∧H T=none∧x=.ref T∧H'=upd H T (.tup [.ref b,v]),fun i H=>i=kvs.length∧H a=some (.frz o (.dT kvs))⟩
theorem ZfZ {P:Program} {w:World} {H:Hp} {h:Heap} {a:Addr} {kvs:List (List Key×V)} {o:Obj} {es:Array DictEntry} {ep:Nat} (x:ZaT P w H h a (.dT kvs)) (ho:h.get? a=some o) (hd:o.data=.dict es ep):h.RawD a es ep∧es.size=kvs.length∧
  ∀i k v,kvs[i]?=some (k,v)→∃b,∃hi:i < es.size,es[i].key=.ref b∧H b=some (.tup (k.map kV))∧RelV v es[i].val:=by
 obtain⟨z,y,xs,r,o',es',ep',h1,h2,h3,h4,h5⟩:=x;rw[ho]at h1
 cases h1
 rw[hd]at h3
 cases h3
 have ln:es.size=xs.length:=by rw[←Array.length_toList,h4,List.length_map]
 have pl:kvs.length=xs.length:=Paired.length r;refine⟨⟨o,ho,h2,hd⟩,by omega,fun i k v hk=>?_⟩
 have get:∀{l:List (List Key×V)} {m:List (List Key×Addr×Value)},Paired (fun(p:List Key×V) (q:List Key×Addr×Value)=>p.1=q.1∧H q.2.1=some (.tup (p.1.map kV))∧RelV p.2 q.2.2) l m→∀(i:Nat) (p:List Key×V),l[i]?=some p→
   ∃q:List Key×Addr×Value,m[i]?=some q∧p.1=q.1∧H q.2.1=some (.tup (p.1.map kV))∧RelV p.2 q.2.2:=by
  intro l m q
  induction q with
  | nil=>intro i p hp; cases hp
  | cons hq _ ih=>
   intro i p hp
   cases i with
   | zero=>cases hp; exact⟨_,rfl,hq⟩
   | succ i=>exact ih i p hp
 obtain⟨q,hq,e1,e2,e3⟩:=get r i _ hk
 have hi:i < es.size:=by rw[ln]; exact(List.getElem?_eq_some_iff.mp hq).1
 have he:es[i]?=some (entryOfKey (tupleKind (Zb2 P w)) q):=by
  rw[←Array.getElem?_toList,h4,List.getElem?_map,hq]; rfl
 have he':es[i]=entryOfKey (tupleKind (Zb2 P w)) q:=by
  rw[Array.getElem?_eq_getElem hi]at he;exact Option.some.inj he
 exact⟨q.2.1,hi,by rw[he']; rfl,e2,by rw[he']; exact e3⟩
theorem ZnC {P:Program} {w:World} {K:PySem.W.Frag} {elts:List Expr} {kk:Nat} {ps:Pos} {a it:Addr} {o:Obj} {kvs:List (List Key×V)} {ep:Nat} {es:Array DictEntry} (hd:o.data=.dict es ep) (hen:es.size=kvs.length) :
  Turn P w K (.Tuple elts kk ps) (Itd a o kvs) [it] it (fun i h=>∃ok ov,IsItemIter h it a i es.size ep ok ov) where
 mem:=by simp
 obj:=fun i h st b hb=>by
  rw[List.mem_singleton.mp hb];obtain⟨ok,ov,he⟩:=st;exact⟨_,he,fun v z=>by cases z⟩
 keep:=fun i h h' st k=>by
  obtain⟨ok,ov,he⟩:=st;exact⟨ok,ov,k it (by simp) _ he⟩
 item:=by
  intro X hP hw hK hc i pins s σ H E I hf st hg;obtain⟨ok,ov,he⟩:=st;subst hP hw hK;obtain⟨ho,hx⟩:=(show ZaT X.prog X.w H s.heap a (.frz o (.dT kvs)) from I.hok a _ hg.2);obtain⟨raw,_,get⟩:=ZfZ hx ho hd
  have hi:i < es.size:=by rw[hen]; exact hg.1
  refine Zre he raw hi fun h1 ho1 hT hk=>?_;have hil:it < s.heap.objs.size:=Heap.lt_size he;refine⟨_,rfl,wpAny_letOwnedTupleGo_items ho1 fun h2 he2 hs2=>?_⟩;obtain⟨⟨k,v⟩,hkv⟩ : ∃p,kvs[i]?=some p:=⟨kvs[i]'hg.1,List.getElem?_eq_getElem hg.1⟩;obtain⟨b,_,eb,hb,rv⟩:=get i k v hkv
  have I2:Inv X pins σ (upd H s.heap.objs.size (.tup [.ref b,v])) { s with heap:=h2,toks:=s.toks }:=
   I.pairTurn (ch:=[it]) (x:=.ref b) (y:=v) (u:=es[i].key) (v:=es[i].val) eb rv hf (fun c hc=>by rw[List.mem_singleton.mp hc]; exact Nat.ne_of_lt hil)
    (fun c u hc z=>by
     have hc1:c≠it:=fun q=>hc (by simp[q])
     exact(hs2.2 c hc1).trans (hk c u hc1 z)) ((hs2.2 _ (Nat.ne_of_gt hil)).trans hT)
  refine⟨.ref s.heap.objs.size,_,I2,rfl,⟨_,b,k,v,hkv,hb,I.hok.fresh (Nat.le_refl _),rfl,rfl⟩,⟨_,_,he2⟩,fun c hc=>?_⟩;rw[List.mem_singleton.mp hc,Zal (Nat.ne_of_lt hil)];exact(hf it (by simp)).1
 done:=by
  intro X hP hw hK hc i pins s σ H E I hf st hg;obtain⟨ok,ov,he⟩:=st;subst hP hw hK;obtain⟨ho,hx⟩:=(show ZaT X.prog X.w H s.heap a (.frz o (.dT kvs)) from I.hok a _ hg.2);obtain⟨raw,_,_⟩:=ZfZ hx ho hd
  have hi:i=es.size:=by rw[hen]; exact hg.1
  rw[hi]at he;obtain⟨f0,f1,f2,f3,f4,f5⟩:=hf it (by simp);exact Ztw (I.ok.hd hc) he raw fun h1 eb=>⟨rfl,I.turned (t':=s.toks) (fun b u hb z=>eb b u hb z) f0 f1 f3 f4 f5⟩
 self:=fun A i s Q E st h=>by
  obtain⟨ok,ov,he⟩:=st;exact ZoD he h
section
variable {X:Cx}
def Zom (td:TE):TI:=fun σ H R=>td σ H fun x H1=>∃a o kvs,x=.ref a∧H1 a=some (.frz o (.dT kvs))∧R (Itd a o kvs) H1
theorem ZjS {elts:List Expr} {kk:Nat} {ps:Pos} {o:Expr} {td:TE} {apos cpos:Pos} (ho:PE X o td) (hbase:attributeBase o "items" X.env (eval o X.env)=eval o X.env:=by rfl) (hline:(apos.endLine == cpos.line)=true:=by rfl) :
  PI X (.Tuple elts kk ps) (.Call (.Attribute o "items" apos) [] [] cpos) (Zom td):=by
 intro pins s σ H R I h;refine wpAny_Call_method0_late hbase hline (thn (ho pins s σ H _ I h) fun v s1 hv=>?_);obtain⟨x,H2,I2,r1,a,ob,kvs,rfl,e2,q⟩:=hv
 cases r1
 obtain⟨hob,hx⟩:=(show ZaT X.prog X.w H2 s1.heap a (.frz ob (.dT kvs)) from I2.hok a _ e2);obtain⟨_,hsm,xs,_,o',es,ep,h1,hex,hda,_⟩:=(show ZaT X.prog X.w H2 s1.heap a (.dT kvs) from hx);rw[hob]at h1
 cases h1
 obtain⟨raw,hen,_⟩:=ZfZ hx hob hda;refine⟨"dict","dict.items",F.plainAttrs_dict,F.slot_dict_items,F.type_dict_items,raw.ty,fun b e=>by cases e; exact⟨ob,hob,hex.2.1⟩,?_⟩;refine Calls.callWith_builtin rfl (PySem.evalArgs_none (call_meetsIn F.slot_dict_items raw.ty F.entry_dict_items (F.args_dict_items_1 _) (Zpp a hsm) ⟨⟨es,ep,raw⟩,?_⟩));have I3:Inv X pins σ H2 { s1 with heap:=s1.heap.push { cls:=.type "dict_items",data:=.fields #[.ref a] } }:=I2.kept (t':=s1.toks) fun b u e=>Heap.get?_push_of_some _ e;have raw3:(s1.heap.push { cls:=.type "dict_items",data:=.fields #[.ref a] }).RawD a es ep:=⟨ob,Heap.get?_push_of_some _ hob,hex,hda⟩;refine Zrf (s:={ s1 with heap:=s1.heap.push { cls:=.type "dict_items",data:=.fields #[.ref a] } }) ⟨_,Heap.get?_push_size _ rfl,rfl,rfl⟩ raw3 ?_;exact⟨_,[_],_,_,H2,rfl,I3.kept (t':=s1.toks) fun b u e=>Heap.get?_push_of_some _ e,ZnC hda hen,⟨_,_,Heap.get?_push_size _ rfl⟩,fun b hb=>by rw[List.mem_singleton.mp hb]; exact I3.fpOk (Nat.le_refl _) (I3.hok.fresh (Nat.le_refl _)),q⟩
end
section
variable {σ:St} {H:Hp} {Q:VK} {D:Ends} {K:PySem.W.Frag} {g:TG} {tb:TS}
def ZtT (a:Addr) (o:Obj) (kvs:List (List Key×V)) (g:TG) (tb:TS) (D:Ends) (σ:St) (H:Hp):Prop:=
 ∃W:Nat→Nat→St→Hp→Prop,(∃m,W 0 m σ H)∧∀i m σ H,W i m σ H→
   ((Itd a o kvs).stop i H∧D.nx σ H)∨((Itd a o kvs).go i H∧∃N:St→Hp→Prop,(∀σ' H',N σ' H'→∃m',m' < m∧W (i+1) m' σ' H')∧∀x H',(Itd a o kvs).yld i H x H'→g x σ H' fun σ2 H2=>tb { D with nx:=N,ct:=N,bk:=D.nx } σ2 H2)
def SeqD (x:V) (g:TG) (tb:TS) (D:Ends) (σ:St) (H1:Hp):Prop:=∃a o kvs,x=.ref a∧H1 a=some (.frz o (.dT kvs))∧ZtT a o kvs g tb D σ H1
theorem ZrJ {td:TE} (h:td σ H fun x H1=>SeqD x g tb D σ H1):tFor (Zom td) g tb D σ H:=h
theorem ZvX {a:Addr} {o:Obj} {kvs:List (List Key×V)} (Pv:Nat→St→Hp→Prop) (h0:Pv 0 σ H) (hl:∀i σ H,i≤kvs.length→Pv i σ H→H a=some (.frz o (.dT kvs)))
  (hs:∀(i:Nat) (k:List Key) (v:V) (T b:Addr) σ H H',kvs[i]?=some (k,v)→Pv i σ H→Same H H'→H b=some (.tup (k.map kV))→H T=none→H' T=some (.tup [.ref b,v])→g (.ref T) σ H' fun σ2 H2=>tb { D with nx:=Pv (i+1),ct:=Pv (i+1),bk:=D.nx } σ2 H2) (hd:∀σ H,Pv kvs.length σ H→D.nx σ H):ZtT a o kvs g tb D σ H:=by
 refine⟨fun i m σ H=>m=kvs.length - i∧i≤kvs.length∧Pv i σ H,⟨kvs.length,by simp,Nat.zero_le _,h0⟩,?_⟩;rintro i m σ H ⟨rfl,hi,p⟩
 by_cases hlt:i < kvs.length
 ·refine .inr ⟨⟨hlt,hl i σ H hi p⟩,Pv (i+1),fun σ' H' p'=>⟨kvs.length - (i+1),by omega,rfl,hlt,p'⟩,fun x H' y=>?_⟩
  obtain⟨T,b,k,v,hv,hb,hT,rfl,rfl⟩:=y;exact hs i k v T b σ H _ hv p (Zbn hT _) hb hT Zak
 ·have e:i=kvs.length:=by omega
  subst e;exact .inl ⟨⟨rfl,hl _ σ H hi p⟩,hd σ H p⟩
end
end L2
namespace PySem
theorem Zn6 {prog:Program} {w:World} {A:Around} {R:Result→Shared→Prop} {s:Shared} {elt target iter:Expr} {ifs:List Expr} {scope:Scope} {pos:Pos} {it acc:Value} {env:Env} (I:Nat→Shared→Prop)
  (turn:∀n s,I n s→wpAny (model prog w) A (pyNext it) (fun r s1=>match r with
   | none=>R (.ok .next) s1
   | some v=>wpAny (model prog w) A (letOwnedTupleGo target it v) (fun _ s2=>wpAny (model prog w) A (assign target env v) (fun _ s3=>
     wpAny (model prog w) A (forIn ifs true fun c r=>if r=true then do let ok ←isTrue c env (eval c env); pure (ForInStep.yield ok) else pure (ForInStep.yield r)) (fun ok s4=>
      if ok=true then wpAny (model prog w) A (eval elt env) (fun x s5=>
       wpAny (model prog w) A (call (.builtin "list.append") [acc,x]) (fun _ s6=>∃m,m < n∧I m s6) (notedBy (model prog w) A env fun e s'=>R (.error e) s') s5) (notedBy (model prog w) A env fun e s'=>R (.error e) s') s4
      else ∃m,m < n∧I m s4) (notedBy (model prog w) A env fun e s'=>R (.error e) s') s3) (notedBy (model prog w) A env fun e s'=>R (.error e) s') s2) (notedBy (model prog w) A env fun e s'=>R (.error e) s') s1) (notedBy (model prog w) A env fun e s'=>R (.error e) s') s)
  (n:Nat) (h:I n s):codeAny (model prog w) A (.compLoop (.ListComp elt [⟨target,iter,ifs,0⟩] scope pos) 0 it acc env) R s:=by
 refine codeAny_loop rfl I (fun n s hI=>?_) n h;show wpAny _ A ((compTurn (.ListComp elt [⟨target,iter,ifs,0⟩] scope pos) 0 it acc env).onRaise (fun x=>do noteFrame x env; theTreesLotGoes x)) _ _ s;refine wpAny_noted ?_;rw[compTurn_list];refine wpAny_bind (wpAny_standAt (wpAny_bind (wpAny_mono (turn n s hI) (fun r s1 h1=>?_) fun _ _ z=>z)))
 cases r with
 | none=>exact wpAny_pure h1
 | some v=>
  refine wpAny_bind (wpAny_mono h1 (fun _ s2 h2=>?_) fun _ _ z=>z);refine wpAny_bind (wpAny_mono h2 (fun _ s3 h3=>wpAny_bind (wpAny_mono h3 (fun ok s4 h4=>?_) fun _ _ z=>z)) fun _ _ z=>z)
  cases ok with
  | false=>exact wpAny_pure ⟨rfl,h4⟩
  | true=>
   exact wpAny_bind (wpAny_bind (wpAny_mono h4 (fun x s5 h5=>wpAny_bind (wpAny_mono h5 (fun _ s6 h6=>wpAny_pure (wpAny_pure ⟨rfl,h6⟩)) fun _ _ z=>z)) fun _ _ z=>z))
end PySem
namespace L2
open PySem PySem.Spec PyProof.Rows
def Zb1 (X:Cx) (x x':Str) (ns:List Str) (scope:Scope) (cl:List (Str×Addr)) (s:Shared) (H:Hp) (ex:List Addr):Cx:={ Zcy X x ns scope cl s H ex with N:=x::x'::ns }
def Zhi (sc:Scope) (N:List Str) (x x':Str) (ns:List Str) (ix:List Nat) (scope:Scope):Prop:=
 scope.kind=.function∧(∀y∈scope.names,y.2≠.cell∧(y.2=.local→scope.names.lookup y.1=some .local)∧(y.2=.free→sc.names.lookup y.1=some .cell∨sc.names.lookup y.1=some .free))∧
 scope.names.lookup x=some .local∧scope.names.lookup x'=some .local∧(∀y∈ns,scope.names.lookup y=some .free)∧(ix.map fun k=>N[k]?)=ns.map some∧(x::x'::ns).Nodup
instance (sc:Scope) (N:List Str) (x x':Str) (ns:List Str) (ix:List Nat) (scope:Scope):Decidable (Zhi sc N x x' ns ix scope):=by unfold Zhi; infer_instance
def ZlO (J:It) (ix:List Nat) (tc:TT) (te:TE) (σ:St) (Q:VK) (H1:Hp):Prop:=∀acc,H1 acc=none→∃W:Nat→Nat→List V→Hp→Prop,(∃m,W 0 m [] (upd H1 acc (.lst [])))∧
 ∀i m ys H,W i m ys H→(J.stop i H∧Q (.ref acc) H)∨(J.go i H∧∀x H',J.yld i H x H'→∃T va vb,x=.ref T∧H' T=some (.tup [va,vb])∧tc (some va::some vb::subS σ ix) H' fun b H2=>
  if b=true then te (some va::some vb::subS σ ix) H2 fun y H3=>H3 acc=some (.lst ys)∧ys.length < sizeLine∧∃m',m' < m∧W (i+1) m' (ys++[y]) (upd H3 acc (.lst (ys++[y]))) else ∃m',m' < m∧W (i+1) m' ys H2)
def Zsn (wi:TI) (ix:List Nat) (tc:TT) (te:TE):TE:=fun σ H Q=>wi σ H fun J H1=>ZlO J ix tc te σ Q H1
section
variable {X:Cx} {pins:List (Addr×Obj)} {σ:St} {H:Hp} {s:Shared} {cl:List (Str×Addr)} {x x':Str} {ns:List Str} {ix:List Nat} {sc scope:Scope} {N:List Str} {fp:List Addr}
theorem Zqu (I:Inv X pins σ H s) (f:∀b∈fp,FpOk X pins H b) (hlt:∀b∈fp,b < s.heap.objs.size) (hcl:∀y c,cl.lookup y=some c→X.env.cells.lookup y=some c) {H':Hp} (hn:∀b∈fp,H' b=none):∀b∈fp,FpOk (Zb1 X x x' ns scope cl s H fp) [] H' b:=fun b hb=>by
 obtain⟨f0,f1,f2,f3,f4,f5⟩:=f b hb;refine⟨hn b hb,Nat.ne_of_lt (hlt b hb),fun z=>?_,.inl hb,fun y c e=>f4 y c (hcl y c e),fun p hp=>?_⟩
 ·rcases List.mem_cons.mp (I.stkSub b z) with z | z
  ·exact f1 z
  ·exact f2 z
 ·exact absurd (show p∈([]:List (Addr×Obj)) from hp) (by simp)
theorem ZoB {h1:Heap} {m:Str→Option Value} {t':Nat} (I:Inv X pins σ H s) (hsc:X.env.scope=sc) (hN:X.N=N) (C:Zhi sc N x x' ns ix scope) (hcl:∀y c,cl.lookup y=some c→X.env.cells.lookup y=some c)
  (hcla:∀y∈scope.names,y.2=.free→∃c,cl.lookup y.1=some c) (f:∀b∈fp,FpOk X pins H b) (hlt:∀b∈fp,b < s.heap.objs.size) (hn:h1.Ns s.heap.objs.size m) (hk:∀b o,s.heap.get? b=some o→h1.get? b=some o) :
  Inv (Zb1 X x x' ns scope cl s H fp) [] (none::none::subS σ ix) H { s with heap:=h1,toks:=t' }:=by
 obtain⟨c1,c2,c3,c3',c4,c5,c6⟩:=C;have kind:∀y,(relabel scope X.env).names.lookup y=(scope.names.lookup y).map fun k=>if (k == NameKind.free && X.env.scope.kind == .function && X.env.kindOf y == some .cell)=true then NameKind.cell else k:=fun y=>ZeP scope.names y
 have fr:∀y,((relabel scope X.env).names.lookup y=some .cell∨(relabel scope X.env).names.lookup y=some .free)→scope.names.lookup y=some .free:=fun y h=>by
  rw[kind y]at h
  cases e:scope.names.lookup y with
  | none=>rw[e]at h; simp at h
  | some k=>
   rw[e]at h;have hm:=ZbZ e
   cases k with
   | free=>rfl
   | cell=>exact absurd rfl (c2 _ hm).1
   | «local»=>simp at h
   | globalExplicit=>simp at h
   | globalImplicit=>simp at h
 have fr':∀y,scope.names.lookup y=some .free→(relabel scope X.env).names.lookup y=some .cell∨(relabel scope X.env).names.lookup y=some .free:=fun y h=>by
  rw[kind y,h]
  by_cases hc:(NameKind.free == NameKind.free && X.env.scope.kind == .function && X.env.kindOf y == some .cell)=true
  ·left; rw[Option.map_some,if_pos hc]
  ·right; rw[Option.map_some,if_neg hc]
 have noC:∀p:Addr×Obj,p∉(Zb1 X x x' ns scope cl s H fp).pn++[]:=fun p hp=>absurd (show p∈([]:List (Addr×Obj)) from hp) (by simp)
 have lenE:ix.length=ns.length:=by
  have:=congrArg List.length c5
  rwa [List.length_map,List.length_map]at this
 refine⟨⟨I.ok.mod,c1,I.ok.glob,I.ok.blt,Nat.le_refl _,fun y z c h1 h2=>I.ok.inj y z c (hcl y c h1) (hcl z c h2),fun y hy=>?_,fun y c hy=>absurd hy (by simp[Zb1,Zcy]),I.ok.hd,I.ok.frames,.inl rfl,fun b hb=>?_,I.bs,
  Nat.le_trans I.ok.bsz I.sz,fun b o e hb=>?_,fun b hb=>?_,I.stack,I.stkFree⟩,rfl,I.bare,Un.kept hk,⟨m,hn,fun i y v e1 e2 e3=>?_⟩,fun y c e=>?_,I.hok.fresh (Nat.le_refl _),fun y c e=>I.freeC y c (hcl y c e),fun p hp=>absurd hp (noC p),I.hok.kept hk,?_⟩
 ·exact hcla _ (ZbZ (fr y hy)) rfl
 ·obtain⟨f0,f1,f2,f3,f4,f5⟩:=f b hb
  exact⟨Nat.ne_of_lt (hlt b hb),fun y c e=>f4 y c (hcl y c e)⟩
 ·obtain⟨f0,f1,f2,f3,f4,f5⟩:=f b hb
  rcases f3 with z | z
  ·exact I.ok.noex b o e z
  ·exact absurd (Nat.lt_of_lt_of_le (Heap.lt_size (I.ok.bs b o e).1) z) (Nat.lt_irrefl _)
 ·obtain⟨f0,f1,f2,f3,f4,f5⟩:=f b hb
  intro z
  rcases List.mem_cons.mp (I.stkSub b z) with z | z
  ·exact f1 z
  ·exact f2 z
 ·cases i with
  | zero=>cases e2
  | succ i=>
  cases i with
  | zero=>cases e2
  | succ j=>
   have e1':ns[j]?=some y:=e1;have e2':(ix.map fun k=>(σ[k]?).join)[j]?=some (some v):=e2;have e5:=congrArg (fun l=>l[j]?) c5;simp only [List.getElem?_map,e1',Option.map_some]at e5 e2'
   cases ek:ix[j]? with
   | none=>rw[ek]at e5; cases e5
   | some k=>
    rw[ek]at e5 e2'
    have eN:N[k]?=some y:=by simpa using e5
    have eσ:(σ[k]?).join=some v:=by simpa using e2'
    have eσ':σ[k]?=some (some v):=by
     cases q:σ[k]? with
     | none=>rw[q]at eσ; cases eσ
     | some w=>rw[q]at eσ; have:w=some v:=eσ; rw[this]
    have hy:=c4 y (List.mem_of_getElem? e1');have hk':=(c2 _ (ZbZ hy)).2.2 rfl;rw[←hsc]at hk';obtain⟨m0,hn0,hl⟩:=I.loc;obtain⟨u,r,l⟩:=hl k y v (by rw[hN]; exact eN) eσ' (.inr hk');refine⟨u,r,?_⟩
    rcases l with⟨kl,_⟩ | ⟨_,c,ec,z⟩
    ·exfalso
     have kl:X.env.scope.names.lookup y=some .local:=kl;rw[kl]at hk'
     rcases hk' with z | z <;> cases z
    ·obtain⟨c',ec'⟩:=hcla _ (ZbZ hy) rfl
     have ee:c'=c:=by
      have:=hcl y c' ec';rw[ec]at this;exact(Option.some.inj this).symm
     subst ee;obtain⟨o,ho,hd⟩:=z;exact .inr ⟨fr' y hy,c',ec',⟨o,hk _ _ ho,hd⟩⟩
 ·obtain⟨v,o,ho,hd⟩:=I.cell y c (hcl y c e)
  exact⟨v,o,hk _ _ ho,hd⟩
 ·show(none::none::subS σ ix).length=(x::x'::ns).length
  rw[List.length_cons,List.length_cons,List.length_cons,List.length_cons];unfold subS;rw[List.length_map,lenE]
end
section
variable {X:Cx} {pins:List (Addr×Obj)} {σ:St} {H:Hp} {s:Shared} {cl:List (Str×Addr)} {x x':Str} {ns:List Str} {ix:List Nat} {sc scope:Scope} {N:List Str} {fp:List Addr} {elt iter:Expr} {px px' tp pos:Pos} {tk:Nat} {ifs:List Expr} {tc:TT} {te:TE} {wi:TI}
theorem Zn7 {E:Value→Shared→Prop} {J:It} {it:Addr} {tn:Nat→Heap→Prop} {Q:VK} {RR:Value→Addr→Result→Shared→Prop} (hsc:X.env.scope=sc) (hN:X.N=N) (C:Zhi sc N x x' ns ix scope) (hc:X.calm=true)
  (ht:∀cl s H ex,PTs (Zb1 X x x' ns scope cl s H ex) ifs tc) (he:∀cl s H ex,PE (Zb1 X x x' ns scope cl s H ex) elt te) (I:Inv X pins σ H s) (hcl:∀y c,cl.lookup y=some c→X.env.cells.lookup y=some c)
  (hcla:∀y∈scope.names,y.2=.free→∃c,cl.lookup y.1=some c) (T:Turn X.prog X.w X.K (.Tuple [.Name x px,.Name x' px'] tk tp) J fp it tn) (st:tn 0 s.heap) (f:∀b∈fp,FpOk X pins H b) (h:ZlO J ix tc te σ Q H)
  (fin:∀D C m s' H',Inv X pins σ H' s'→s'.heap.Ns C m→FpOk X pins H' C→Q (.ref D) H'→RR (.ref D) C (.ok .next) s') :
  wpAny (model X.prog X.w) X.A (newList []) (fun ja s3=>wpAny (model X.prog X.w) X.A (newFunctionEnv scope X.env.globals cl [] X.env.qual none .none (some X.env)) (fun ce s4=>
   codeAny (model X.prog X.w) X.A (.compStart (.ListComp elt [⟨.Tuple [.Name x px,.Name x' px'] tk tp,iter,ifs,0⟩] scope pos) 0 (.ref it) ja { ce with scope:=relabel scope X.env }) (RR ja ce.locals) s4) E s3) E s:=by
 have hC:=C;obtain⟨c1,c2,c3,c3',c4,c5,c6⟩:=C;have hfr:H s.heap.objs.size=none:=I.hok.fresh (Nat.le_refl _);obtain⟨W,⟨m0,w0⟩,turn⟩:=h _ hfr;refine wpAny_newObj_type (wpAny_newFunctionEnv (fun y hy=>(c2 y hy).1) (by intro y hy; simp at hy) (fun h1 hn1 hs1=>?_) c1);have I3:=I.lnew (its:=[]) (ys:=[]) (t':=s.toks) .nil (Nat.zero_le _)
 have hlt0:∀b∈fp,b < s.heap.objs.size:=fun b hb=>by
  obtain⟨o,ho,_⟩:=T.obj _ _ st b hb;exact Heap.lt_size ho
 generalize hs3:({ s with heap:=s.heap.push { cls:=.type "list",data:=.seq ([]:List Value).toArray },toks:=s.toks }:Shared)=s3 at I3
 have e3:s3.heap=s.heap.push { cls:=.type "list",data:=.seq ([]:List Value).toArray }:=by rw[←hs3]
 have sz3:s3.heap.objs.size=s.heap.objs.size+1:=by rw[e3,Heap.size_push]
 have f3:∀b∈fp,FpOk X pins (upd H s.heap.objs.size (.lst [])) b:=fun b hb=>⟨by rw[Zal (Nat.ne_of_lt (hlt0 b hb))]; exact(f b hb).1,(f b hb).2⟩
 have hlt:∀b∈fp,b < s3.heap.objs.size:=fun b hb=>by rw[sz3]; exact Nat.lt_succ_of_lt (hlt0 b hb)
 have hk:∀b o,s3.heap.get? b=some o→h1.get? b=some o:=fun b o e=>by
  refine(hs1.2 b ?_).trans (Heap.get?_push_of_some _ ?_)
  ·have:=Heap.lt_size e
   rw[sz3]at this;show b≠(s.heap.push _).objs.size;rw[Heap.size_push];exact Nat.ne_of_lt this
  ·rw[e3]at e; exact e
 have hn3:h1.Ns s3.heap.objs.size (fun y=>([]:List (Str×Value)).reverse.lookup y):=by rw[e3]; exact hn1
 have I4:=ZoB (t':=s3.toks+([]:List (Str×Value)).length) I3 hsc hN hC hcl hcla f3 hlt hn3 hk;have st4:tn 0 h1:=T.keep _ _ _ st fun b hb o e=>hk b o (by rw[e3]; exact Heap.get?_push_of_some _ e);have stat:∀{H':Hp},(∀b∈fp,H' b=none)→∀b∈fp,FpOk (Zb1 X x x' ns scope cl s3 (upd H s.heap.objs.size (.lst [])) fp) [] H' b:=fun {H'} hn=>Zqu I3 f3 hlt hcl hn
 have loop:∀s4:Shared,s4 = { s3 with heap:=h1,toks:=s3.toks+([]:List (Str×Value)).length }→
   codeAny (model X.prog X.w) X.A (.compLoop (.ListComp elt [⟨.Tuple [.Name x px,.Name x' px'] tk tp,iter,ifs,0⟩] scope pos) 0 (.ref it) (.ref s.heap.objs.size) (compEnvC scope cl s3.heap.objs.size X.env)) (RR (.ref s.heap.objs.size) s3.heap.objs.size) s4:=by
  rintro s4 rfl;refine Zn6 (fun n s'=>∃i v0 v1 ys H',Inv (Zb1 X x x' ns scope cl s3 (upd H s.heap.objs.size (.lst [])) fp) [] (v0::v1::subS σ ix) H' s'∧tn i s'.heap∧(∀b∈fp,H' b=none)∧W i n ys H') ?_ m0 ⟨0,none,none,[],_,I4,st4,fun b hb=>(f3 b hb).1,w0⟩;rintro n s5 ⟨i,v0,v1,ys,H5,I5,st5,fr5,w5⟩
  rcases turn i n ys H5 w5 with⟨stop,q⟩ | ⟨go,step⟩
  ·refine wpAny_mono (T.done (Zb1 X x x' ns scope cl s3 (upd H s.heap.objs.size (.lst [])) fp) rfl rfl rfl hc i [] s5 _ H5 _ I5 (stat fr5) st5 stop) (fun r s6 hr=>?_) fun _ _ e=>e
   obtain⟨hr,I6⟩:=hr;subst hr;obtain⟨m6,hn6,_⟩:=id I6.loc;refine fin _ _ m6 s6 H5 (I3.call' I6.os I6.base I6.hok I6.bare fun b hb=>?_) hn6 (I3.fpOk (Nat.le_refl _) I6.free) q;obtain⟨g0,g1,g2,g3,g4,g5⟩:=f3 b hb;exact⟨g3,g1,g4,g5⟩
  ·refine wpAny_mono (T.item (Zb1 X x x' ns scope cl s3 (upd H s.heap.objs.size (.lst [])) fp) rfl rfl rfl hc i [] s5 _ H5 _ I5 (stat fr5) st5 go) (fun r s6 hr=>?_) fun _ _ e=>e
   obtain⟨u,hr,h6⟩:=hr;subst hr;refine wpAny_mono h6 (fun _ s6 q6=>?_) fun _ _ e=>e;obtain⟨xv,H6,I6,r6,y6,st6,fr6⟩:=q6;have I6':=I6.pinned (stat fr6) (T.obj _ _ st6);obtain⟨Tt,va,vb,rfl,eT,step'⟩:=step xv _ y6
   have again:∀{m':Nat} {ys':List V} {H7:Hp} {s7:Shared},Inv (Zb1 X x x' ns scope cl s3 (upd H s.heap.objs.size (.lst [])) fp) ([]++Zi6 fp s6.heap) (some va::some vb::subS σ ix) H7 s7→W (i+1) m' ys' H7→
     ∃i v0 v1 ys H',Inv (Zb1 X x x' ns scope cl s3 (upd H s.heap.objs.size (.lst [])) fp) [] (v0::v1::subS σ ix) H' s7∧tn i s7.heap∧(∀b∈fp,H' b=none)∧W i m' ys H':=fun {m' ys' H7 s7} I7 w7=>by
    refine⟨i+1,some va,some vb,ys',H7,I7.unpinned,T.keep _ _ _ st6 fun b hb o e=>(I7.pin (b,o) (List.mem_append_right _ (List.mem_append_right _ (Zdq hb e)))).1,fun b hb=>?_,w7⟩;obtain⟨o,e,d⟩:=T.obj _ _ st6 b hb;exact(I7.pin (b,o) (List.mem_append_right _ (List.mem_append_right _ (Zdq hb e)))).2.1
   have lx:(relabel scope X.env).names.lookup x=some .local:=lookup_relabel_local c3;have lx':(relabel scope X.env).names.lookup x'=some .local:=lookup_relabel_local c3';have hg2:PG (Zb1 X x x' ns scope cl s3 (upd H s.heap.objs.size (.lst [])) fp) (.Tuple [.Name x px,.Name x' px'] tk tp) _:=ZkQ (show X.calm=true from hc) (ZcM (ZjR (i:=0) (x:=x) (pos:=px) c6 rfl (.inl lx) (.inr lx)) (ZcM (ZjR (i:=1) (x:=x') (pos:=px') c6 rfl (.inl lx') (.inr lx')) ZhW));refine wpAny_mono (hg2 _ s6 _ H6 (.ref Tt) u (fun σ' H'=>σ'=some va::some vb::subS σ ix∧H'=H6) I6' r6 (Zou eT ⟨rfl,rfl⟩)) (fun _ s7 h7=>?_) fun _ _ e=>e.elim;obtain⟨σ7,H7,I7,rfl,rfl⟩:=h7;refine wpAny_mono (ht cl s3 _ fp _ s7 _ _ _ I7 step') (fun b s8 h8=>?_) fun _ _ e=>e.elim;obtain⟨H8,I8,q8⟩:=h8
   cases b with
   | false=>
    rw[if_neg Bool.false_ne_true]at q8 ⊢;obtain⟨m',hm,w8⟩:=q8;exact⟨m',hm,again I8 w8⟩
   | true=>
    rw[if_pos rfl]at q8 ⊢;refine wpAny_mono (he cl s3 _ fp _ s8 _ _ _ I8 q8) (fun uy s9 h9=>?_) fun _ _ e=>e.elim;obtain⟨y,H9,I9,r9,hacc,hz,m',hm,w9⟩:=h9;refine wpAny_mono (Zb4 (X:=Zb1 X x x' ns scope cl s3 (upd H s.heap.objs.size (.lst [])) fp) _ s9 _ H9 (.ref s.heap.objs.size) [y] _ [uy] (fun v H'=>H'=upd H9 s.heap.objs.size (.lst (ys++[y]))) I9 rfl (.cons r9 .nil) ⟨_,ys,y,rfl,rfl,hacc,hz,rfl⟩) (fun _ s10 h10=>?_) fun _ _ e=>e.elim;obtain⟨v,H10,I10,_,rfl⟩:=h10;exact⟨m',hm,again I10 w9⟩
 exact codeAny_compStart_list (loop _ rfl) (T.self _ 0 _ _ _ st4 (loop _ rfl))
theorem Zmo (hsc:X.env.scope=sc) (hN:X.N=N) (C:Zhi sc N x x' ns ix scope) (hc:X.calm=true) (hi:PI X (.Tuple [.Name x px,.Name x' px'] tk tp) iter wi) (ht:∀cl s H ex,PTs (Zb1 X x x' ns scope cl s H ex) ifs tc) (he:∀cl s H ex,PE (Zb1 X x x' ns scope cl s H ex) elt te)
  (hs:∀v,foldedSetIterable iter X.env v=pure v:=by intro _; rfl):PE X (.ListComp elt [⟨.Tuple [.Name x px,.Name x' px'] tk tp,iter,ifs,0⟩] scope pos) (Zsn wi ix tc te):=by
 intro pins s σ H Q I h
 obtain⟨cl,hclos,hcl,hcla⟩:=ZiQ (env:=X.env) scope fun y hy hf=>I.ok.has y.1 (by
  have:=(C.2.1 y hy).2.2 hf;rw[←hsc]at this
  exact this)
 rw[eval_ListComp];refine wpAny_comprehension_free (use:=none) rfl hs hclos C.1 (fun y hy=>(C.2.1 y hy).2.1) (thn (hi pins s σ H _ I h) fun v s1 h1=>thn h1 fun itv s2 h2=>?_);obtain⟨it,fp,tn,J,H2,rfl,I2,T,st2,f2,hg⟩:=h2;refine Zn7 (RR:=fun ja C=>compPost (model X.prog X.w) X.A X.xe none (EP X pins σ Q) ja C) hsc hN C hc ht he I2 hcl hcla T st2 f2 hg ?_;intro D C' m s' H' I' hn' fC q;obtain⟨g0,g1,g2,g3,g4,g5⟩:=fC;exact⟨m,hn',fun h' hs'=>⟨.ref D,H',I'.turned (t':=s'.toks) (fun b o hb e=>hs'.extBut b o hb e) g0 (Ne.symm (Ne.symm g1)) g3 g4 g5,rfl,q⟩⟩
end
end L2
namespace L2
open PySem PySem.Spec PyProof.Rows
section
variable {ix:List Nat} {tc:TT} {te:TE} {σ:St} {H:Hp} {Q:VK}
theorem Zoo {td:TE} (h:td σ H fun x H1=>∃a o kvs,x=.ref a∧H1 a=some (.frz o (.dT kvs))∧ZlO (Itd a o kvs) ix tc te σ Q H1):Zsn (Zom td) ix tc te σ H Q:=h
theorem ZlW {a:Addr} {o:Obj} {kvs:List (List Key×V)} (Pv:Nat→List V→Hp→Prop) (hf:H a=some (.frz o (.dT kvs))) (hz:kvs.length≤1000000) (h0:∀H',Pv 0 [] H')
  (hm:∀i ys (H' H'':Hp),(∀b xs,H' b=some (.tup xs)→H'' b=some (.tup xs))→Pv i ys H'→Pv i ys H'')
  (hs:∀(i:Nat) (k:List Key) (v:V) (b:Addr) (ys:List V) (acc:Addr) (H':Hp),kvs[i]?=some (k,v)→Same H H'→H acc=none→H' acc=some (.lst ys)→H' b=some (.tup (k.map kV))→Pv i ys H'→ys.length≤i→
   ∀R:Bool→Hp→Prop,(∀t H2,Same H' H2→(t=false→Pv (i+1) ys H2)→(t=true→∀R2:V→Hp→Prop,(∀y H3,Same H2 H3→Pv (i+1) (ys++[y]) H3→R2 y H3)→te (some (.ref b)::some v::subS σ ix) H2 R2)→R t H2)→tc (some (.ref b)::some v::subS σ ix) H' R)
  (hd:∀(acc:Addr) (ys:List V) (H':Hp),H acc=none→Same H H'→H' acc=some (.lst ys)→Pv kvs.length ys H'→Q (.ref acc) H'):ZlO (Itd a o kvs) ix tc te σ Q H:=by
 intro acc hacc
 have sU:∀{H2:Hp} (u:HO),Same H H2→Same H (upd H2 acc u):=fun u s b w e=>by rw[Zal (Zai e hacc)]; exact s b w e
 refine⟨fun i m ys H'=>m=kvs.length - i∧i≤kvs.length∧Same H H'∧H' acc=some (.lst ys)∧Pv i ys H'∧ys.length≤i,⟨kvs.length,by simp,Nat.zero_le _,Zbn hacc _,Zak,h0 _,Nat.le_refl _⟩,?_⟩;rintro i m ys H' ⟨rfl,hi,sm,ea,pv,hy⟩
 by_cases hlt:i < kvs.length
 ·refine .inr ⟨⟨hlt,sm _ _ hf⟩,fun x H2 y=>?_⟩
  obtain⟨T,b,k,v,hv,hb,hT,rfl,rfl⟩:=y;have s2:Same H' (upd H' T (.tup [.ref b,v])):=Zbn hT _;refine⟨T,.ref b,v,rfl,Zak,?_⟩;refine hs i k v b ys acc _ hv (sm.trans s2) hacc (s2 _ _ ea) (s2 _ _ hb) (hm _ _ _ _ (fun c xs q=>s2 _ _ q) pv) hy _ fun t H3 s3 pf pt=>?_
  cases t with
  | false=>
   rw[if_neg Bool.false_ne_true];exact⟨kvs.length - (i+1),by omega,rfl,hlt,sm.trans (s2.trans s3),s3 _ _ (s2 _ _ ea),pf rfl,Nat.le_succ_of_le hy⟩
  | true=>
   rw[if_pos rfl];refine pt rfl _ fun y H4 s4 py=>?_;have ea4:=s4 _ _ (s3 _ _ (s2 _ _ ea));refine⟨ea4,Zmz (by omega),kvs.length - (i+1),by omega,rfl,hlt,sU _ (sm.trans (s2.trans (s3.trans s4))),Zak,hm _ _ _ _ (fun c xs q=>?_) py,?_⟩
   ·rw[Zal (fun z=>by rw[z,ea4]at q; cases q)]; exact q
   ·rw[List.length_append,List.length_singleton]
    omega
 ·have e:i=kvs.length:=by omega
  subst e;exact .inl ⟨⟨rfl,sm _ _ hf⟩,hd acc ys H' hacc sm ea pv⟩
end
def MeS1 (P:Program) (w:World) (K:PySem.W.Frag) (mg:Str→Option Value) (base:Heap) (k:Nat) (C:Addr) (m:Str) (ps:List Str) (sp:Sp):Prop:=Cls K C∧∃f fd,FnOk P w K mg base (CX1 P w) k f fd ps sp∧ZaS K fd ps []∧Meth K C m f
section
variable {X:Cx} {k k':Nat} {m:Str} {ps:List Str} {sp:Sp} {e o:Expr} {es:List Expr} {ta:TE} {t:TA} {pos apos:Pos}
theorem Zu3 {pl:Sem Bool} {D:Addr→Prop} (hD:∀C,D C→MeS1 X.prog X.w X.K X.mg X.base k C m ps (spAt sp C)) (hr:Room k' X.A) (ho:PE X o ta) (ha:PA X (e::es) t) (hk:k≤k':=by omega)
  (hst:starEach (e::es) X.env=(false,eval e X.env)::starEach es X.env:=by rfl) (hpl:(backTo pos (starEach es X.env)).any (·.1)=false:=by rfl)
  (ht:eval (.Call (.Attribute o m apos) (e::es) [] pos) X.env=(do
   let ov ←eval o X.env
   standAt apos.atName
   let (f,first) ←holding [ov] (getMethod ov m pl)
   callWith pos f first (backTo pos (starEach (e::es) X.env)) (backToKw pos (keywordEach [] X.env))):=by rfl) :
  PE X (.Call (.Attribute o m apos) (e::es) [] pos) (tDy D m sp ta t):=by
 intro pins s σ H Q I h;refine PySem.W.methodCall_KW (pl:=pl) (thn (ho pins s σ H _ I h) fun u s1 ⟨x,H1,I1,rx,a,C,dx,fs,ex,ea,hC,l,q⟩=>?_) ht;subst ex;obtain rfl:u=Value.ref a:=rx;obtain⟨c,f,fd,F,hb,hm⟩:=hD C hC;refine Zgx I1 ea c hm l ?_;refine PySem.W.callWith_K (first:=[.ref a]) (h₀:=X.base) I.ok.mod.kin hm.kp (thn (ha pos pins s1 σ H1 _ I1 q) fun us s2 ⟨vs,H2,I2,r,eb,q2⟩=>⟨I2.kIn,?_⟩) hst hpl;exact Zmv (us:=.ref a::us) (vs:=.ref a::vs) (dvs:=[]) (E:=E0) F (hr.mono hk) hb .nil Zsb I2 (.cons rfl r) (by rw[List.append_nil]; exact⟨q2,a,dx,fs,vs,rfl,eb⟩)
end
end L2
namespace L2
open PySem PySem.Spec PyProof.Rows
section
variable {X:Cx}
end
theorem Inv.thaw {X:Cx} {pins:List (Addr×Obj)} {σ:St} {H:Hp} {s:Shared} {a:Addr} {o:Obj} {kvs:List (List Key×V)} (I:Inv X pins σ H s) (e:H a=some (.frz o (.dT kvs))) (n0:∀o u,X.H₀ a≠some (.frz o u)):Inv X pins σ (upd H a (.dT kvs)) s:=by
 have z:=I.hok a _ e;obtain⟨h1,zz⟩:=(show s.heap.get? a=some o∧ZaT X.prog X.w H s.heap a (.dT kvs) from z)
 have ne:∀{b:Addr} {u:HO},H b=some u→(∀o k,u≠.frz o k)→b≠a:=fun q n z=>by rw[z,e]at q; cases q; exact n _ _ rfl
 have nn:∀{b:Addr},H b=none→b≠a:=fun q z=>by rw[z,e]at q; cases q
 refine⟨I.ok,I.os,I.bare,⟨I.base.keep,I.base.slot,fun b u q n hx=>?_,I.base.there,fun b xs q=>?_,fun b u v q=>?_,fun b ps q=>?_⟩,I.loc,I.cell,?_,fun x c q=>?_,fun p hp=>?_,fun b u q=>?_,I.len⟩
 ·have:=I.base.free b u q n hx
  rw[Zal (nn this)]; exact this
 ·have:=I.base.tups b xs q
  rw[Zal (ne this (by intro o k h; cases h))]; exact this
 ·have:=I.base.frzs b u v q
  have hb:b≠a:=fun z=>by rw[z]at q; exact n0 _ _ q
  rw[Zal hb]; exact this
 ·obtain⟨more,this⟩:=I.base.tbls b ps q
  exact⟨more,by rw[Zal (ne this (by intro o k h; cases h))]; exact this⟩
 ·rw[Zal (nn I.free)]; exact I.free
 ·rw[Zal (nn (I.freeC x c q))]; exact I.freeC x c q
 ·obtain⟨p1,p2,p3⟩:=I.pin p hp
  exact⟨p1,by rw[Zal (nn p2)]; exact p2,p3⟩
 ·have stay:∀{b:Addr} {u:HO},ZaT X.prog X.w H s.heap b u→ZaT X.prog X.w (upd H a (.dT kvs)) s.heap b u:=fun {b u} y=>
   y.stay (fun _ _ _ q=>q) (fun c q=>by rw[Zal (ne q (by intro o k h; cases h))]; exact q) fun c xs q=>by rw[Zal (ne q (by intro o k h; cases h))]; exact q
  by_cases hb:b=a
  ·subst hb
   rw[Zak]at q
   cases q
   exact stay zz
  ·rw[Zal hb]at q
   exact stay (I.hok b u q)
def ZtK (td:TE):TE:=fun σ H Q=>td σ H fun x H1=>∃a kvs,x=.ref a∧H1 a=some (.dT kvs)∧∀o,Q x (upd H1 a (.frz o (.dT kvs)))
def Zsr (H0:Hp) (t:TS):TS:=fun D σ H=>t { D with rt:=fun v H'=>∃a o kvs,H' a=some (.frz o (.dT kvs))∧(∀o u,H0 a≠some (.frz o u))∧D.rt v (upd H' a (.dT kvs)) } σ H
section
variable {X:Cx} {e:Expr} {td:TE} {st:Stmt} {t:TS}
theorem ZjQ (h:PE X e td):PE X e (ZtK td):=by
 intro pins s σ H Q I q;refine thn (h pins s σ H _ I q) fun u s1 q1=>?_;obtain⟨x,H1,I1,r,a,kvs,rfl,e1,q'⟩:=q1;obtain⟨o,_,J⟩:=I1.freeze e1;exact⟨_,_,J,r,q' o⟩
theorem Zmr (h:PS X st t):PS X st (Zsr X.H₀ t):=by
 intro pins s σ H D I q;refine thn (h pins s σ H _ I q) fun f s1 q1=>?_
 cases f with
 | next=>exact q1
 | brk=>exact q1
 | cont=>exact q1
 | ret u=>
  obtain⟨v,σ',H',I2,r,a,o,kvs,e1,n0,z⟩:=q1;exact⟨v,σ',_,I2.thaw e1 n0,r,z⟩
theorem Zot {σ:St} {H:Hp} {Q:VK} (h:td σ H fun x H1=>∃a kvs,x=.ref a∧H1 a=some (.dT kvs)∧∀o,Q x (upd H1 a (.frz o (.dT kvs)))):ZtK td σ H Q:=h
theorem Zoz {H0:Hp} {D:Ends} {σ:St} {H:Hp} (h:t { D with rt:=fun v H'=>∃a o kvs,H' a=some (.frz o (.dT kvs))∧(∀o u,H0 a≠some (.frz o u))∧D.rt v (upd H' a (.dT kvs)) } σ H):Zsr H0 t D σ H:=h
end
end L2
namespace PySem
open Sem (wp)
section
variable {prog:Program} {w:World} {A:Around} {E:Value→Shared→Prop} {s:Shared}
theorem ZkT {d:Addr} {es:Array DictEntry} {ep:Nat} {Q:Value→Shared→Prop} (hsm:(d == sysModules)=false) (hm:s.heap.RawD d es ep)
  (q:Q (.ref s.heap.objs.size) { s with heap:=s.heap.push { cls:=.type "dict_keyiterator",data:=.fields #[.ref d,.int 0 0,.int es.size 0,.int ep 0] } }) :
  wpAny (model prog w) A (pyIter (.ref d)) Q E s:=by
 obtain⟨o,go,co,da⟩:=id hm;have ty:=hm.ty;refine wpAny_pyIter_slot ty F.slot_dict_iter (wpAny_call_entry F.slot_dict_iter ty F.entry_dict_iter ?_ (F.args_dict_iter_1 _));unfold Builtin.«dict.__iter__»;refine wpAny_bind ?_;unfold Builtin.Dict.dictSlotNone;refine wpAny_bind (wpAny_notOrdered_dict ty ?_);refine wpAny_pure (a:=Value.ref d) ?_;show wpAny _ _ (Builtin.Dict.showsAll d >>= _) _ _ _;unfold Builtin.Dict.showsAll;rw[if_neg (by rw[hsm]; decide)];refine wpAny_bind (wpAny_pure (wpAny_bind (wpAny_dictEntries go da (wpAny_bind (wpAny_dictEpoch go da (wpAny_bind ?_))))));refine wpAny_newObj_type (wpAny_pure ⟨_,rfl,"dict_keyiterator",_,⟨_,Heap.get?_push_size _ rfl,rfl⟩,F.slot_dict_keyiterator_next.lookup,?_⟩)
 simpa [rawInt] using q
theorem ZkS {it d:Addr} {i ep:Nat} {es:Array DictEntry} {Q:Option Value→Shared→Prop} (hit:s.heap.IsKeyIter it d i es.size ep) (hm:s.heap.RawD d es ep) (hi:i < es.size)
  (q:∀h',h'.IsKeyIter it d (i+1) es.size ep→Heap.SameBut it s.heap h'→Q (some es[i].key) { s with heap:=h' }) :
  wpAny (model prog w) A (pyNext (.ref it)) Q E s:=by
 obtain⟨io,hio,ic,idt⟩:=id hit;obtain⟨o,go,co,da⟩:=id hm;have ti:=hit.typeIs;unfold pyNext;refine wpAny_bind (wpAny_attempt (wpAny_callSpecial?_slot (name:=Str.ofString "__next__") ti F.slot_dict_keyiterator_next (wpAny_call_entry F.slot_dict_keyiterator_next ti F.entry_dict_keyiterator_next ?_ (F.args_dict_keyiterator_next_1 _))));refine wpAny_bind (wpAny_pure (wpAny_bind (wpAny_bind ?_)))
 first | refine wpAny_bind (wpAny_typeNameOfWhole_keyiter ti (wpAny_pure ?_)) | refine wpAny_bind (wpAny_typeNameOf_keyiter ti (wpAny_pure ?_))
 refine wpAny_bind (wpAny_fieldsOf hio idt ?_)
 have own:Builtin.Dict_items.ownsTuple "dict_keyiterator" = false:=by decide
 simp only [own,Bool.false_eq_true,if_false];show wpAny _ _ (if (Value.ref d == Value.none)=true then _ else _) _ _ _;rw[if_neg (show ¬((Value.ref d == Value.none)=true) from Bool.false_ne_true)];refine wpAny_bind (wpAny_pure (wpAny_bind (wpAny_dictEntries go da ?_)));rw[if_neg (by simp)];refine wpAny_bind (wpAny_pure (wpAny_bind (wpAny_dictEpoch go da ?_)));rw[if_neg (by simp)];refine wpAny_pure ?_;simp only [show ¬((i:Int) < 0) by omega,if_false,Int.toNat_natCast,Array.getElem?_eq_getElem hi];refine wpAny_bind ?_
 first | refine wpAny_bind (wpAny_typeNameOfWhole_keyiter ti (wpAny_pure ?_)) | refine wpAny_bind (wpAny_typeNameOf_keyiter ti (wpAny_pure ?_))
 refine wpAny_bind (wpAny_isOneOf_keyiter ti ?_);show wpAny _ _ (setField (.ref it) 1 (rawInt ((i:Int)+1)) >>= _) _ _ s;refine wpAny_bind (wpAny_setField hio idt (by simp) ?_);have e1:(s.heap.update it (Obj.mapFields (·.setIfInBounds 1 (rawInt ((i:Int)+1))))).IsKeyIter it d (i+1) es.size ep:=⟨_,Heap.get?_update_self _ hio (Obj.isFreed_of_fields (Obj.data_mapFields idt _)),(Obj.cls_mapFields ..).trans ic,by rw[Obj.data_mapFields idt]; simp[rawInt]⟩;refine wpAny_bind (wpAny_holding (wpAny_bind (wpAny_isOneOf_keyiter (s:={ s with heap:=s.heap.update it (Obj.mapFields (·.setIfInBounds 1 (rawInt ((i:Int)+1)))) }) e1.typeIs ?_)));show wpAny _ _ (pure es[i].key) _ _ _;exact wpAny_pure (wpAny_pure ⟨_,rfl,wpAny_pure (q _ e1 (Heap.SameBut.update ..))⟩)
theorem Zmu {it d:Addr} {ep:Nat} {es:Array DictEntry} {Q:Option Value→Shared→Prop} (hh:A.handled=none) (hit:s.heap.IsKeyIter it d es.size es.size ep) (hm:s.heap.RawD d es ep)
  (q:∀h',Heap.ExtBut it s.heap h'→Q none { s with heap:=h' }):wpAny (model prog w) A (pyNext (.ref it)) Q E s:=by
 obtain⟨io,hio,ic,idt⟩:=id hit;obtain⟨o,go,co,da⟩:=id hm;have ti:=hit.typeIs;unfold pyNext;refine wpAny_bind (wpAny_attempt (wpAny_callSpecial?_slot (name:=Str.ofString "__next__") ti F.slot_dict_keyiterator_next (wpAny_call_entry F.slot_dict_keyiterator_next ti F.entry_dict_keyiterator_next ?_ (F.args_dict_keyiterator_next_1 _))));refine wpAny_bind (wpAny_pure (wpAny_bind (wpAny_bind ?_)))
 first | refine wpAny_bind (wpAny_typeNameOfWhole_keyiter ti (wpAny_pure ?_)) | refine wpAny_bind (wpAny_typeNameOf_keyiter ti (wpAny_pure ?_))
 refine wpAny_bind (wpAny_fieldsOf hio idt ?_)
 have own:Builtin.Dict_items.ownsTuple "dict_keyiterator" = false:=by decide
 simp only [own,Bool.false_eq_true,if_false];show wpAny _ _ (if (Value.ref d == Value.none)=true then _ else _) _ _ s;rw[if_neg (show ¬((Value.ref d == Value.none)=true) from Bool.false_ne_true)];refine wpAny_bind (wpAny_pure (wpAny_bind (wpAny_dictEntries go da ?_)));rw[if_neg (by simp)];refine wpAny_bind (wpAny_pure (wpAny_bind (wpAny_dictEpoch go da ?_)));rw[if_neg (by simp)];refine wpAny_pure ?_;simp only [show ¬((es.size:Int) < 0) by omega,if_false,Int.toNat_natCast,Array.getElem?_eq_none (Nat.le_refl es.size)];refine wpAny_bind ?_
 first | refine wpAny_bind (wpAny_typeNameOfWhole_keyiter ti (wpAny_pure ?_)) | refine wpAny_bind (wpAny_typeNameOf_keyiter ti (wpAny_pure ?_))
 show wpAny _ _ (setField (.ref it) 0 .none >>= _) _ _ s;refine wpAny_bind (wpAny_setField hio idt (by simp) ?_);show wpAny _ _ (newExc (.type "StopIteration") [] >>= _) _ _ _;refine wpAny_bind ?_;simp only [newExc,newTuple];refine wpAny_bind (wpAny_newObj_type ?_ (by size_fits));refine wpAny_bind (m:=firstArgMember _ _) (wpAny_of_eq (a:=Value.none) (by first | rfl | (simp only [firstArgMember]; rfl)) ?_);refine wpAny_newObj_type ?_ (by size_fits);simp only [raiseNew];refine wpAny_bind (wpAny_handled ?_);rw[show A.in1.handled=none from hh];refine wpAny_bind (wpAny_pure (wpAny_throw ?_));refine wpAny_bind (wpAny_isInstance (T:="StopIteration") (b:=true) ⟨_,Heap.get?_push_size _ rfl,rfl⟩ isSubtype_stop ?_);exact wpAny_pure (q _ (((Heap.SameBut.update ..).extBut.push _).push _))
theorem Zps (hh:A.handled=none) {I d:Addr} (hne:d≠I) {es:Array DictEntry} {ep:Nat} :
  Walks prog w A I [I,d] [I] es.size (fun i v=>∃h:i < es.size,v=es[i].key) (fun i h=>h.IsKeyIter I d i es.size ep∧h.RawD d es ep) where
 sub:=fun b hb=>by simp at hb; simp[hb]
 frame:=fun _ _ _ st k=>⟨st.1.at fun o e=>k I (by simp) o e,let ⟨o,e,r⟩:=st.2; ⟨o,k d (by simp) _ e,r⟩⟩
 item:=fun i s Q E hi st k=>ZkS st.1 st.2 hi fun h' e1 sb=>k _ h' s.toks ⟨hi,rfl⟩ ⟨e1,let ⟨o,e,r⟩:=st.2; ⟨o,sb.extBut _ _ hne e,r⟩⟩ fun b o hb e=>sb.extBut b o (fun z=>hb (by simp[z])) e
 done:=fun s Q E st k=>Zmu hh st.1 st.2 fun h' eb=>k h' s.toks fun b o hb e=>eb b o (fun z=>hb (by simp[z])) e
 self:=fun _ _ _ _ st k=>wpAny_pyIter_keyiter st.1 k
open PySem.W in
theorem Ztx {d:Addr} {es:Array DictEntry} {ep:Nat} (lo:(d == sysModules)=false):KdlSrc prog w "dict" d d es.size (fun i v=>∃h:i < es.size,v=es[i].key) (fun h=>h.RawD d es ep) where
 type:=fun _ hm=>hm.ty
 there:=fun _ hm=>let ⟨_,e,_⟩:=hm; ⟨Heap.lt_size e,Heap.lt_size e⟩
 keep:=fun _ _ hm k=>let ⟨o,e,r⟩:=hm; ⟨o,k d (.inl rfl) _ e,r⟩
 notList:=by decide
 notTuple:=by decide
 hint:=fun _ _ _ _ hm hq=>kdl_hint_dict hm.ty hq
 iter:=fun _ _ hh hm=>⟨_,_,(fun _ _ hq=>ZkT lo hm hq),Zps hh (let ⟨_,e,_⟩:=hm; Nat.ne_of_lt (Heap.lt_size e)),⟨⟨_,Heap.get?_push_size _ rfl,rfl,rfl⟩,let ⟨o,e,r⟩:=hm; ⟨o,Heap.get?_push_of_some _ e,r⟩⟩⟩
end
section
variable {prog:Program} {w:World} {K:Type} [DecidableEq K] {knd:HeapKind prog w K} {A:Around} {E:Value→Shared→Prop} {s:Shared}
def Zm2 (xs:List (K×Addr×Value)) (k:K):List (K×Addr×Value):=xs.filter fun x=>decide (x.1≠k)
theorem ZlZ:∀{xs:List (K×Addr×Value)} {k:K} {j:Nat} {p:Addr×Value},(xs.map (·.1)).Nodup→xs[j]?=some (k,p)→xs.eraseIdx j=Zm2 xs k
 | [],_,_,_,_,h=>by cases h
 | x::r,k,j,p,hn,h=>by
  have hn':=List.nodup_cons.mp (show(x.1::r.map (·.1)).Nodup from hn);unfold Zm2;rw[List.filter_cons]
  cases j with
  | zero=>
   obtain rfl:x=(k,p):=by simpa using h
   rw[if_neg (by simp),List.eraseIdx_cons_zero];refine(List.filter_eq_self.mpr fun y hy=>?_).symm;exact decide_eq_true fun e=>hn'.1 (List.mem_map.mpr ⟨y,hy,e⟩)
  | succ j=>
   have h':r[j]?=some (k,p):=by simpa using h
   have ne:x.1≠k:=fun e=>hn'.1 (List.mem_map.mpr ⟨(k,p),List.mem_of_getElem? h',e.symm⟩);rw[if_pos (decide_eq_true ne),List.eraseIdx_cons_succ,ZlZ hn'.2 h'];rfl
theorem Zk0 {d a:Addr} {xs:List (K×Addr×Value)} {k:K} {p:Addr×Value} {Q:Option DictEntry→Shared→Prop} (hu:knd.room A) (hkey:knd.is s.heap k a) (hm:s.heap.DictOfH knd d xs) (hp:(k,p)∈xs) (hz:xs.length≤sizeLine)
  (q:∀h',h'.DictOfH knd d (Zm2 xs k)→Heap.SameBut d s.heap h'→∀t',Q (some (entryOfKey knd (k,p))) { s with heap:=h',toks:=t' }):wpAny (model prog w) A (Builtin.Dict.takeOut d (.ref a)) Q E s:=by
 obtain⟨o,es,ep,ho,hc,hd,he,his,hn⟩:=hm;unfold Builtin.Dict.takeOut
 try with_reducible refine wpAny_holding ?_
 refine wpAny_bind (knd.pyHash hu hkey ?_);refine wpAny_bind (wpAny_dictFind_heap (s:={ s with toks:=s.toks+knd.draws k }) hu hkey ho hd he his hn ?_ ?_)
 ·intro hno
  obtain⟨j,hj⟩:=List.mem_iff_getElem?.mp hp;exact absurd hj (hno j p)
 ·intro j p' hj
  have epp:p'=p:=by
   obtain⟨i,hi⟩:=List.mem_iff_getElem?.mp hp
   have e1:(xs.map (·.1))[i]?=some k:=by rw[List.getElem?_map,hi]; rfl
   have e2:(xs.map (·.1))[j]?=some k:=by rw[List.getElem?_map,hj]; rfl
   have:=(List.getElem?_inj (List.getElem?_eq_some_iff.mp e1).1 hn).mp (e1.trans e2.symm);subst this;rw[hi]at hj;exact(Prod.mk.inj (Option.some.inj hj)).2.symm
  subst epp;refine wpAny_bind (wpAny_dictEntries (s:={ s with toks:=s.toks+knd.draws k }) ho hd ?_);rw[entry_at he j,hj];refine wpAny_bind (wpAny_updateDictKeys (hz:=by have e:=size_of_entries he; omega) (s:={ s with toks:=s.toks+knd.draws k }) ho hd (wpAny_pure (q _ ⟨_,_,ep+1,Heap.get?_update_self _ ho (Obj.isFreed_of_dict (Obj.data_mapDictKeys hd _)),hc.mapDictKeys _,Obj.data_mapDictKeys hd _,?_,?_,?_⟩ (Heap.SameBut.update ..) _)))
  ·rw[←ZlZ hn hj]
   have e2:(xs.eraseIdx j).map (entryOfKey knd)=(xs.map (entryOfKey knd)).eraseIdx j:=by
    rw[List.eraseIdx_eq_take_drop_succ,List.eraseIdx_eq_take_drop_succ,List.map_append,List.map_take,List.map_drop]
   rw[e2,←he];obtain⟨l⟩:=es;simp
  ·intro x hx
   exact knd.keeps (his x (List.mem_filter.mp hx).1) ho hd (Heap.SameBut.update ..)
  ·exact hn.sublist (List.Sublist.map _ List.filter_sublist)
theorem Zrb (d a:Addr) (k:K):MeetsIn prog w (Builtin.«dict.pop» ⟨[.ref d,.ref a],[]⟩) (fun A R s=>knd.room A.in1∧∃xs p,knd.is s.heap k a∧s.heap.DictOfH knd d xs∧xs.length≤sizeLine∧(k,p)∈xs∧
   ∀h',h'.DictOfH knd d (Zm2 xs k)→Heap.SameBut d s.heap h'→∀t',R (.ok (.ret p.2)) { s with heap:=h',toks:=t' }):=
 .of_wp fun A R s ⟨hA,xs,p,hkey,hm,hz,hp,q⟩=>by
  unfold Builtin.«dict.pop»;refine wpAny_bind ?_;unfold Builtin.Dict.keyAndDefault;refine wpAny_bind (wpAny_notOrdered_dict hm.typeIs ?_);refine wpAny_pure (a:=(d,Value.ref a,none)) ?_;obtain⟨o,es,ep,ho,hc,hd,he,_⟩:=id hm
  have ne:es.isEmpty=false:=by
   have e:=size_of_entries he;have:=List.length_pos_of_mem hp;simp only [Array.isEmpty,decide_eq_false_iff_not];omega
  refine wpAny_bind ?_;refine wpAny_dictEntries ho hd (wpAny_bind (wpAny_pure ?_));rw[ne];simp only [Bool.false_eq_true,if_false];refine wpAny_bind (Zk0 hA hkey hm hp hz fun h' hm' hs t'=>?_);simp only [Option.isNone_some,Bool.false_eq_true,if_false];exact wpAny_bind (wpAny_letGo (wpAny_pure ⟨_,rfl,q h' hm' hs t'⟩))
end
end PySem
namespace L2
open PySem PySem.Spec PyProof.Rows
def Zkx (o:Obj) (i:Nat):Addr:=
 match o.data with
 | .dict es _=>match es[i]? with
  | some e=>match e.key with
   | .ref b=>b
   | _=>0
  | none=>0
 | _=>0
theorem Zma {o:Obj} {es:Array DictEntry} {ep i:Nat} {b:Addr} (hd:o.data=.dict es ep) (hi:i < es.size) (e:es[i].key=.ref b):Zkx o i=b:=by
 unfold Zkx;rw[hd]
 dsimp only
 rw[Array.getElem?_eq_getElem hi]
 dsimp only
 rw[e]
def Itk (a:Addr) (o:Obj) (kvs:List (List Key×V)):It:=⟨fun i H=>i < kvs.length∧H a=some (.frz o (.dT kvs)),fun i H x H'=>H'=H∧i < kvs.length∧x=.ref (Zkx o i),fun i H=>i=kvs.length∧H a=some (.frz o (.dT kvs))⟩
theorem ZpZ {P:Program} {w:World} {K:PySem.W.Frag} {tg:Expr} {a it:Addr} {o:Obj} {kvs:List (List Key×V)} {ep:Nat} {es:Array DictEntry} (hd:o.data=.dict es ep) (hen:es.size=kvs.length) :
  Turn P w K tg (Itk a o kvs) [it] it (fun i h=>h.IsKeyIter it a i es.size ep) where
 mem:=by simp
 obj:=fun i h st b hb=>by
  rw[List.mem_singleton.mp hb];obtain⟨io,he,c,d⟩:=st;exact⟨io,he,fun v z=>by rw[d]at z; cases z⟩
 keep:=fun i h h' st k=>st.at fun o e=>k it (by simp) o e
 item:=by
  intro X hP hw hK hc i pins s σ H E I hf st hg;subst hP hw hK;obtain⟨ho,hx⟩:=(show ZaT X.prog X.w H s.heap a (.frz o (.dT kvs)) from I.hok a _ hg.2);obtain⟨raw,_,get⟩:=ZfZ hx ho hd
  have hi:i < es.size:=by rw[hen]; exact hg.1
  obtain⟨⟨k,v⟩,hkv⟩ : ∃p,kvs[i]?=some p:=⟨kvs[i]'hg.1,List.getElem?_eq_getElem hg.1⟩;obtain⟨b,_,eb,hb,rv⟩:=get i k v hkv;obtain⟨f0,f1,f2,f3,f4,f5⟩:=hf it (by simp);refine ZkS st raw hi fun h' st' sb=>?_;have I1:Inv X pins σ H { s with heap:=h' }:=I.turned (t':=s.toks) (fun b o hb e=>(sb.2 b hb).trans e) f0 f1 f3 f4 f5;obtain⟨io,e,c,d⟩:=id st';exact⟨_,rfl,Zm6 (s:={ s with heap:=h' }) e c d (by decide) ⟨.ref b,H,I1,eb,⟨rfl,hg.1,by rw[Zma hd hi eb]⟩,st',fun b hb=>(hf b hb).1⟩⟩
 done:=by
  intro X hP hw hK hc i pins s σ H E I hf st hg;subst hP hw hK;obtain⟨ho,hx⟩:=(show ZaT X.prog X.w H s.heap a (.frz o (.dT kvs)) from I.hok a _ hg.2);obtain⟨raw,_,_⟩:=ZfZ hx ho hd
  have hi:i=es.size:=by rw[hen]; exact hg.1
  rw[hi]at st;obtain⟨f0,f1,f2,f3,f4,f5⟩:=hf it (by simp);exact Zmu (I.ok.hd hc) st raw fun h1 eb=>⟨rfl,I.turned (t':=s.toks) (fun b u hb z=>eb b u hb z) f0 f1 f3 f4 f5⟩
 self:=fun _ _ _ _ _ st h=>wpAny_pyIter_keyiter st h
def Zqb (H:Hp) (o:Obj) (kvs:List (List Key×V)):Prop:=∀i k v,kvs[i]?=some (k,v)→H (Zkx o i)=some (.tup (k.map kV))
theorem ZuC {P:Program} {w:World} {H:Hp} {h:Heap} {a:Addr} {o:Obj} {kvs:List (List Key×V)} (x:ZaT P w H h a (.frz o (.dT kvs))):Zqb H o kvs:=fun i k v hkv=>by
 obtain⟨ho,hx⟩:=x;obtain⟨_,_,xs,_,o',es,ep,h1,_,h3,_⟩:=(show ZaT P w H h a (.dT kvs) from hx);rw[ho]at h1
 cases h1
 obtain⟨_,_,get⟩:=ZfZ hx ho h3;obtain⟨b,hi,eb,hb,_⟩:=get i k v hkv;rw[Zma h3 hi eb];exact hb
section
variable {X:Cx}
def ZsS (td:TE):TI:=fun σ H R=>td σ H fun x H1=>∃a o kvs,x=.ref a∧H1 a=some (.frz o (.dT kvs))∧(Zqb H1 o kvs→R (Itk a o kvs) H1)
theorem Ztr {tg o:Expr} {td:TE} (ho:PE X o td):PI X tg o (ZsS td):=by
 intro pins s σ H R I h;refine thn (ho pins s σ H _ I h) fun v s1 hv=>?_;obtain⟨x,H2,I2,r1,a,ob,kvs,rfl,e2,q⟩:=hv
 cases r1
 have hok:=I2.hok a _ e2;obtain⟨hob,hx⟩:=(show ZaT X.prog X.w H2 s1.heap a (.frz ob (.dT kvs)) from hok);obtain⟨_,hsm,xs,_,o',es,ep,h1,hex,hda,_⟩:=(show ZaT X.prog X.w H2 s1.heap a (.dT kvs) from hx);rw[hob]at h1
 cases h1
 obtain⟨raw,hen,_⟩:=ZfZ hx hob hda;refine ZkT hsm raw ?_;exact⟨_,[_],_,_,H2,rfl,I2.kept (t':=s1.toks) fun b u e=>Heap.get?_push_of_some _ e,ZpZ hda hen,⟨_,Heap.get?_push_size _ rfl,rfl,rfl⟩,fun b hb=>by rw[List.mem_singleton.mp hb]; exact I2.fpOk (Nat.le_refl _) (I2.hok.fresh (Nat.le_refl _)),q (ZuC hok)⟩
def KAt (H:Hp) (p:Addr) (k:List Key):Prop:=H p=some (.tup (k.map kV))
def Zsf:List V→Hp→VK→Prop:=fun xs H Q=>∃a kvs,xs=[.ref a]∧H a=some (.dT kvs)∧∀l ps,H l=none→Paired (KAt H) ps (kvs.map (·.1))→Q (.ref l) (upd H l (.lst (ps.map V.ref)))
theorem ZmY (hc:X.calm=true):Zfz X (.type "list") Zsf:=by
 intro pins s σ H xs us Q I r h;obtain⟨a,kvs,rfl,e2,q⟩:=h;obtain⟨u,rfl,rx⟩:=Zj4 r
 cases rx
 have hx:=(show ZaT X.prog X.w H s.heap a (.dT kvs) from I.hok a _ e2);obtain⟨hz,hsm,xs',_,o,es,ep,h1,hex,hda,_⟩:=id hx;obtain⟨raw,hen,get⟩:=ZfZ hx h1 hda;refine PySem.W.kdl_call (Ztx hsm) (I.ok.hd hc) raw (by rw[hen]; exact hz) fun h' tk acc c' hk hS hacc=>?_;obtain⟨hl,hit⟩:=hacc
 have hps:∃ps:List Addr,Paired (KAt H) ps (kvs.map (·.1))∧Vals (ps.map V.ref) acc.toList:=by
  have go:∀(ms:List (List Key×V)) (vs:List Value),ms.length=vs.length→(∀(i:Nat) (k:List Key) (v:V),ms[i]?=some (k,v)→∃b:Addr,vs[i]?=some (Value.ref b)∧H b=some (.tup (k.map kV)))→∃ps:List Addr,Paired (KAt H) ps (ms.map (·.1))∧Vals (ps.map V.ref) vs:=by
   intro ms
   induction ms with
   | nil=>
    intro vs hl _;have:vs=[]:=List.length_eq_zero_iff.mp hl.symm;subst this;exact⟨[],.nil,.nil⟩
   | cons m r ih=>
    intro vs hl hg
    cases vs with
    | nil=>cases hl
    | cons v vs=>
     obtain⟨b,e,hb⟩:=hg 0 m.1 m.2 rfl;obtain⟨ps,p1,p2⟩:=ih vs (by simpa using hl) fun i k v h=>hg (i+1) k v (by simpa using h)
     cases e
     exact⟨b::ps,.cons hb p1,.cons rfl p2⟩
  refine go kvs acc.toList (by have:=Array.length_toList (xs:=acc); omega) fun i k v hkv=>?_;obtain⟨b,hi,eb,hb,_⟩:=get i k v hkv;refine⟨b,?_,hb⟩
  have hi':i < acc.size:=by rw[hl]; exact hi
  obtain⟨_,e⟩:=hit i acc[i] (Array.getElem?_eq_getElem hi');rw[Array.getElem?_toList,Array.getElem?_eq_getElem hi',e,eb]
 obtain⟨ps,p1,p2⟩:=hps
 have pl:ps.length=kvs.length:=by rw[Paired.length p1,List.length_map]
 exact⟨.ref s.heap.objs.size,_,I.laid (t':=tk) hk (Nat.le_refl _) (show ZaT X.prog X.w _ h' _ (.lst (ps.map V.ref)) from⟨by rw[List.length_map,pl]; exact hz,acc.toList,c',p2,by rw[Array.toArray_toList]; exact hS⟩),rfl,q _ ps (I.hok.fresh (Nat.le_refl _)) p1⟩
theorem KT.drop {H:Hp} {kvs:List (List Key×V)} {xs:List (List Key×Addr×Value)} (r:KT H kvs xs) (k:List Key):KT H (ZfD kvs k) (Zm2 xs k):=by
 induction r with
 | nil=>exact .nil
 | @cons p q ps qs hq _ ih=>
  unfold ZfD Zm2;rw[List.filter_cons,List.filter_cons]
  by_cases e:p.1=k
  ·rw[if_neg (by simp[e]),if_neg (by simp[←hq.1,e])]
   exact ih
  ·rw[if_pos (by simp[e]),if_pos (by simp[←hq.1,e])]
   exact .cons hq ih
def Zsp (td ty:TE):TE:=fun σ H Q=>td σ H fun x H1=>∃a,x=.ref a∧IsD H1 a∧ty σ H1 fun y H2=>∃kvs k b v,H2 a=some (.dT kvs)∧y=.ref b∧H2 b=some (.tup (k.map kV))∧valV kvs k=some v∧Q v (upd H2 a (.dT (ZfD kvs k)))
theorem Zq3 {o e:Expr} {apos cpos:Pos} {td ty:TE} (hu:X.A.units+1 < cLine) (ho:PE X o td) (he:PE X e ty) (m:M1 X o "pop" apos e cpos):PE X (.Call (.Attribute o "pop" apos) [e] [] cpos) (Zsp td ty):=by
 intro pins s σ H Q I h;refine wpAny_Call_method m.base m.few m.line PySem.F.plainAttrs_dict PySem.F.slot_dict_pop PySem.F.type_dict_pop (thn (ho pins s σ H _ I h) fun u s1 hv=>?_);obtain⟨x,H1,I1,rx,a,ex,d,q1⟩:=hv;subst ex;obtain rfl:u=Value.ref a:=rx;obtain⟨t1,t2,_⟩:=Zuy I1 d;refine⟨t1,t2,?_⟩;rw[m.trees];refine Calls.callWith_builtin rfl (Calls.evalArgs_plain (Calls.spliced_cons (thn (he pins s1 σ H1 _ I1 q1) fun iv s2 hw=>Calls.spliced_nil ?_)));obtain⟨y,H2,I2,ry,kvs,k,b,v,ea,ey,eb,l,q2⟩:=hw;subst ey
 cases (show iv=Value.ref b from ry)
 obtain⟨z,hd,xs,rel,dd⟩:=Zt9 I2.hok ea;obtain⟨w',hw',rw'⟩:=RelO.some_of (v:=v) (o:=(atKey xs k).map (·.2)) (by rw[←l]; exact rel.val k);obtain⟨p,hp,hp2⟩:=Option.map_eq_some_iff.mp hw'
 have hmem:(k,p)∈xs:=by
  unfold atKey at hp;obtain⟨y,hy,ey⟩:=Option.map_eq_some_iff.mp hp;have h1:=List.find?_some hy;have h2:=List.mem_of_find?_eq_some hy
  have h3:y.1=k:=by simpa using h1
  rw[←h3,←ey];exact h2
 refine call_meetsIn PySem.F.slot_dict_pop dd.typeIs PySem.F.entry_dict_pop (PySem.F.args_dict_pop_2 _ _) (Zrb a b k) ⟨tupleKind_room_in1 hu,xs,p,Zmb I2.hok eb,dd,by rw[←Paired.length rel]; exact z,hmem,fun h' dd' hs t'=>?_⟩;obtain⟨qo,es,ep,hq,h2,h3,h4,_,h5⟩:=dd';refine⟨v,_,Zlg I2 (ob:=.dT (ZfD kvs k)) (by rw[ea]; exact True.intro) hs ⟨qo,hq⟩ (show ZaT X.prog X.w (upd H2 a (.dT (ZfD kvs k))) h' a (.dT (ZfD kvs k)) from⟨Nat.le_trans (Zqq kvs k) z,hd,_,(rel.drop k).keeps fun c ys ec=>?_,qo,es,ep,hq,h2,h3,h4,h5⟩),by rw[hp2]; exact rw',q2⟩;rw[Zal (ZaK ec ea (fun z=>nomatch z))];exact ec
def ZpW (H0:Hp) (t:TE):TE:=fun σ H Q=>t σ H fun v H'=>∃a o kvs,H' a=some (.frz o (.dT kvs))∧(∀o u,H0 a≠some (.frz o u))∧Q v (upd H' a (.dT kvs))
theorem Zq5 {e:Expr} {t:TE} (h:PE X e t):PE X e (ZpW X.H₀ t):=by
 intro pins s σ H Q I q;refine thn (h pins s σ H _ I q) fun u s1 q1=>?_;obtain⟨x,H1,I1,r,a,o,kvs,e1,n0,q'⟩:=q1;exact⟨x,_,I1.thaw e1 n0,r,q'⟩
end
section
variable {σ:St} {H:Hp} {Q:VK} {D:Ends} {g:TG} {tb:TS} {ix:List Nat} {tc:TT} {te:TE}
theorem Zs3 {H0:Hp} {t:TE} (h:t σ H fun v H'=>∃a o kvs,H' a=some (.frz o (.dT kvs))∧(∀o u,H0 a≠some (.frz o u))∧Q v (upd H' a (.dT kvs))):ZpW H0 t σ H Q:=h
theorem Zop {td:TE} (h:td σ H fun x H1=>∃a o kvs,x=.ref a∧H1 a=some (.frz o (.dT kvs))∧(Zqb H1 o kvs→Zih (Itk a o kvs) ix tc te σ Q H1)):ZnB (ZsS td) ix tc te σ H Q:=h
def Zf6 (o:Obj) (n:Nat):List Addr:=(List.range n).map (Zkx o)
theorem Zna {o:Obj} {n i:Nat} {x:V} (h:((Zf6 o n).map V.ref)[i]?=some x):x=.ref (Zkx o i)∧i < n:=by
 unfold Zf6 at h;rw[List.map_map,List.getElem?_map]at h;obtain⟨j,hj,e⟩:=Option.map_eq_some_iff.mp h;obtain⟨h1,h2⟩:=List.getElem?_eq_some_iff.mp hj;rw[List.length_range]at h1;rw[List.getElem_range]at h2;subst h2;exact⟨e.symm,h1⟩
theorem ZtQ {a:Addr} {o:Obj} {kvs:List (List Key×V)} (h:H a=some (.frz o (.dT kvs))):Wk (Itk a o kvs) ((Zf6 o kvs.length).map V.ref) H:=fun H' s=>by
 have ln:((Zf6 o kvs.length).map V.ref).length=kvs.length:=by unfold Zf6; rw[List.length_map,List.length_map,List.length_range]
 refine⟨fun i hi=>?_,by rw[ln]; exact⟨rfl,s _ _ h⟩⟩;rw[ln]at hi;refine⟨⟨hi,s _ _ h⟩,fun x H2 y=>?_⟩;obtain⟨rfl,_,rfl⟩:=y;refine⟨rfl,?_⟩;unfold Zf6;rw[List.map_map,List.getElem?_map,List.getElem?_range hi];rfl
theorem ZsZ {a:Addr} {kvs:List (List Key×V)} (h:H a=some (.dT kvs)) (k:∀l ps H',Same H H'→H l=none→H' l=some (.lst (ps.map V.ref))→Paired (KAt H) ps (kvs.map (·.1))→Q (.ref l) H'):Zsf [.ref a] H Q:=
 ⟨a,kvs,rfl,h,fun l ps hl hp=>k l ps _ (Zbn hl _) hl Zak hp⟩
theorem ZsW {td ty:TE} (h:td σ H fun x H1=>∃a,x=.ref a∧IsD H1 a∧ty σ H1 fun y H2=>∃kvs k b v,H2 a=some (.dT kvs)∧y=.ref b∧H2 b=some (.tup (k.map kV))∧valV kvs k=some v∧Q v (upd H2 a (.dT (ZfD kvs k)))):Zsp td ty σ H Q:=h
theorem Zuj {td ty:TE} (h:td σ H fun x H1=>ty σ H1 fun y H2=>∃a v,x=.ref a∧DGet H2 a y (some v)∧Q v H2):Zvy td ty σ H Q:=h
end
end L2
namespace PySem
open Sem (wp)
theorem ZdQ:typeLookup (.type "dict_values") "__contains__" = pure none:=by rw[typeLookup_type,builtinLookup_eq_fast]; kernel_rfl
theorem Zdu:entryFor table "proto.contains_iter" = some Builtin.«proto.contains_iter»:=entryFor_of_fast (by kernel_rfl)
theorem Zcc:plainId "proto.contains_iter" = true:=by decide +kernel
section
variable {prog:Program} {w:World} {A:Around} {E:Value→Shared→Prop} {s:Shared}
theorem Znv (d:Addr) (hsm:(d == sysModules)=false):MeetsIn prog w (Builtin.«dict.values» ⟨[.ref d],[]⟩) (fun _ R z=>(∃es ep,z.heap.RawD d es ep)∧
  R (.ok (.ret (.ref z.heap.objs.size))) { z with heap:=z.heap.push { cls:=.type "dict_values",data:=.fields #[.ref d] } }):=
 .of_wp fun A R z ⟨⟨es,ep,hm⟩,q⟩=>by
  refine wpAny_bind ?_;unfold Builtin.Dict.noArgs;refine wpAny_bind (wpAny_notOrdered_dict (s:=z) hm.ty ?_);show wpAny _ _ (pure d) _ _ z;refine wpAny_pure ?_;show wpAny _ _ (Builtin.Dict.showsAll d >>= _) _ _ z;unfold Builtin.Dict.showsAll;rw[if_neg (by rw[hsm]; decide)];exact wpAny_bind (wpAny_pure (wpAny_bind (wpAny_newObj_type (wpAny_pure ⟨_,rfl,q⟩))))
theorem Zpr {v d:Addr} {es:Array DictEntry} {ep:Nat} {Q:Value→Shared→Prop} (hv:s.heap.IsValuesView v d) (hm:s.heap.RawD d es ep)
  (q:Q (.ref s.heap.objs.size) { s with heap:=s.heap.push { cls:=.type "dict_valueiterator",data:=.fields #[.ref d,.int 0 0,.int es.size 0,.int ep 0] } }) :
  wpAny (model prog w) A (pyIter (.ref v)) Q E s:=by
 obtain⟨vo,gv,cv,dv⟩:=id hv;obtain⟨o,go,co,da⟩:=id hm;refine wpAny_pyIter_slot hv.typeIs F.slot_dict_values_iter (wpAny_call_entry F.slot_dict_values_iter hv.typeIs F.entry_dict_values_iter ?_ (F.args_dict_values_iter_1 _));unfold Builtin.«dict_values.__iter__»;refine wpAny_bind (wpAny_pure (wpAny_bind ?_));unfold Builtin.Dict_items.dictOf;refine wpAny_bind (wpAny_field gv dv (x:=.ref d) rfl (wpAny_pure (wpAny_bind ?_)));unfold Builtin.Dict_items.newIterator;refine wpAny_bind (wpAny_dictEntries go da (wpAny_bind (wpAny_dictEpoch go da ?_)))
 have own:Builtin.Dict_items.ownsTuple "dict_valueiterator" = false:=by decide
 simp only [own,Bool.false_eq_true,if_false];refine wpAny_newObj_type (wpAny_pure ⟨_,rfl,"dict_valueiterator",_,⟨_,Heap.get?_push_size _ rfl,rfl⟩,F.slot_dict_valueiterator_next.lookup,?_⟩)
 simpa [rawInt] using q
theorem Zpq {it d:Addr} {i ep:Nat} {es:Array DictEntry} {Q:Option Value→Shared→Prop} (hit:s.heap.IsValIter it d i es.size ep) (hm:s.heap.RawD d es ep) (hi:i < es.size)
  (q:∀h',h'.IsValIter it d (i+1) es.size ep→Heap.SameBut it s.heap h'→Q (some es[i].val) { s with heap:=h' }) :
  wpAny (model prog w) A (pyNext (.ref it)) Q E s:=by
 obtain⟨io,hio,ic,idt⟩:=id hit;obtain⟨o,go,co,da⟩:=id hm;have ti:=hit.typeIs;unfold pyNext;refine wpAny_bind (wpAny_attempt (wpAny_callSpecial?_slot (name:=Str.ofString "__next__") ti F.slot_dict_valueiterator_next (wpAny_call_entry F.slot_dict_valueiterator_next ti F.entry_dict_valueiterator_next ?_ (F.args_dict_valueiterator_next_1 _))));refine wpAny_bind (wpAny_pure (wpAny_bind (wpAny_bind ?_)))
 first | refine wpAny_bind (wpAny_typeNameOfWhole_valiter ti (wpAny_pure ?_)) | refine wpAny_bind (wpAny_typeNameOf_valiter ti (wpAny_pure ?_))
 refine wpAny_bind (wpAny_fieldsOf hio idt ?_)
 have own:Builtin.Dict_items.ownsTuple "dict_valueiterator" = false:=by decide
 simp only [own,Bool.false_eq_true,if_false];show wpAny _ _ (if (Value.ref d == Value.none)=true then _ else _) _ _ _;rw[if_neg (show ¬((Value.ref d == Value.none)=true) from Bool.false_ne_true)];refine wpAny_bind (wpAny_pure (wpAny_bind (wpAny_dictEntries go da ?_)));rw[if_neg (by simp)];refine wpAny_bind (wpAny_pure (wpAny_bind (wpAny_dictEpoch go da ?_)));rw[if_neg (by simp)];refine wpAny_pure ?_;simp only [show ¬((i:Int) < 0) by omega,if_false,Int.toNat_natCast,Array.getElem?_eq_getElem hi];refine wpAny_bind ?_
 first | refine wpAny_bind (wpAny_typeNameOfWhole_valiter ti (wpAny_pure ?_)) | refine wpAny_bind (wpAny_typeNameOf_valiter ti (wpAny_pure ?_))
 refine wpAny_bind (wpAny_isOneOf_valiter ti ?_);show wpAny _ _ (setField (.ref it) 1 (rawInt ((i:Int)+1)) >>= _) _ _ s;refine wpAny_bind (wpAny_setField hio idt (by simp) ?_);have e1:(s.heap.update it (Obj.mapFields (·.setIfInBounds 1 (rawInt ((i:Int)+1))))).IsValIter it d (i+1) es.size ep:=⟨_,Heap.get?_update_self _ hio (Obj.isFreed_of_fields (Obj.data_mapFields idt _)),(Obj.cls_mapFields ..).trans ic,by rw[Obj.data_mapFields idt]; simp[rawInt]⟩;refine wpAny_bind (wpAny_holding (wpAny_bind (wpAny_isOneOf_valiter (s:={ s with heap:=s.heap.update it (Obj.mapFields (·.setIfInBounds 1 (rawInt ((i:Int)+1)))) }) e1.typeIs (wpAny_bind (wpAny_isOneOf_valiter (s:={ s with heap:=s.heap.update it (Obj.mapFields (·.setIfInBounds 1 (rawInt ((i:Int)+1)))) }) e1.typeIs ?_)))));show wpAny _ _ (pure es[i].val) _ _ _;exact wpAny_pure (wpAny_pure ⟨_,rfl,wpAny_pure (q _ e1 (Heap.SameBut.update ..))⟩)
theorem Zrg {it d:Addr} {ep:Nat} {es:Array DictEntry} {Q:Option Value→Shared→Prop} (hh:A.handled=none) (hit:s.heap.IsValIter it d es.size es.size ep) (hm:s.heap.RawD d es ep)
  (q:∀h',Heap.ExtBut it s.heap h'→Q none { s with heap:=h' }):wpAny (model prog w) A (pyNext (.ref it)) Q E s:=by
 obtain⟨io,hio,ic,idt⟩:=id hit;obtain⟨o,go,co,da⟩:=id hm;have ti:=hit.typeIs;unfold pyNext;refine wpAny_bind (wpAny_attempt (wpAny_callSpecial?_slot (name:=Str.ofString "__next__") ti F.slot_dict_valueiterator_next (wpAny_call_entry F.slot_dict_valueiterator_next ti F.entry_dict_valueiterator_next ?_ (F.args_dict_valueiterator_next_1 _))));refine wpAny_bind (wpAny_pure (wpAny_bind (wpAny_bind ?_)))
 first | refine wpAny_bind (wpAny_typeNameOfWhole_valiter ti (wpAny_pure ?_)) | refine wpAny_bind (wpAny_typeNameOf_valiter ti (wpAny_pure ?_))
 refine wpAny_bind (wpAny_fieldsOf hio idt ?_)
 have own:Builtin.Dict_items.ownsTuple "dict_valueiterator" = false:=by decide
 simp only [own,Bool.false_eq_true,if_false];show wpAny _ _ (if (Value.ref d == Value.none)=true then _ else _) _ _ s;rw[if_neg (show ¬((Value.ref d == Value.none)=true) from Bool.false_ne_true)];refine wpAny_bind (wpAny_pure (wpAny_bind (wpAny_dictEntries go da ?_)));rw[if_neg (by simp)];refine wpAny_bind (wpAny_pure (wpAny_bind (wpAny_dictEpoch go da ?_)));rw[if_neg (by simp)];refine wpAny_pure ?_;simp only [show ¬((es.size:Int) < 0) by omega,if_false,Int.toNat_natCast,Array.getElem?_eq_none (Nat.le_refl es.size)];refine wpAny_bind ?_
 first | refine wpAny_bind (wpAny_typeNameOfWhole_valiter ti (wpAny_pure ?_)) | refine wpAny_bind (wpAny_typeNameOf_valiter ti (wpAny_pure ?_))
 show wpAny _ _ (setField (.ref it) 0 .none >>= _) _ _ s;refine wpAny_bind (wpAny_setField hio idt (by simp) ?_);show wpAny _ _ (newExc (.type "StopIteration") [] >>= _) _ _ _;refine wpAny_bind ?_;simp only [newExc,newTuple];refine wpAny_bind (wpAny_newObj_type ?_ (by size_fits));refine wpAny_bind (m:=firstArgMember _ _) (wpAny_of_eq (a:=Value.none) (by first | rfl | (simp only [firstArgMember]; rfl)) ?_);refine wpAny_newObj_type ?_ (by size_fits);simp only [raiseNew];refine wpAny_bind (wpAny_handled ?_);rw[show A.in1.handled=none from hh];refine wpAny_bind (wpAny_pure (wpAny_throw ?_));refine wpAny_bind (wpAny_isInstance (T:="StopIteration") (b:=true) ⟨_,Heap.get?_push_size _ rfl,rfl⟩ isSubtype_stop ?_);exact wpAny_pure (q _ (((Heap.SameBut.update ..).extBut.push _).push _))
theorem Zk4 (hh:A.handled=none) {it d:Addr} {es:Array DictEntry} {ep:Nat} {vs:List Int} (x:Int) (t:Tok) (hl:vs.length=es.size) (hv:∀j (h:j < es.size),∃u,es[j].val=.int (vs.getD j 0) u) (hne:d≠it) {R:Result→Shared→Prop} :
  ∀(n i:Nat) (s:Shared),es.size - i=n→i≤es.size→s.heap.IsValIter it d i es.size ep→s.heap.RawD d es ep→(∀h',Heap.ExtBut it s.heap h'→R (.ok (.ret (.bool ((vs.drop i).any (· == x))))) { s with heap:=h' })→
   codeAny (model prog w) A (.builtin "proto.contains_iter" ⟨[.ref it,.int x t],[]⟩) R s
 | 0,i,s,hn,hi,hit,hm,q=>by
  have e:i=es.size:=by omega
  subst e;refine codeAny_builtin Zdu ?_;rw[Around.under_plainId Zcc];unfold Builtin.«proto.contains_iter»;refine wpAny_bind (Zrg hh hit hm fun h' eb=>?_);refine wpAny_bind (wpAny_rule (wpAny_pure ?_));have:=q h' eb;rw[List.drop_eq_nil_of_le (by omega)]at this;exact this
 | n+1,i,s,hn,hi,hit,hm,q=>by
  have hlt:i < es.size:=by omega
  refine codeAny_builtin Zdu ?_;rw[Around.under_plainId Zcc];unfold Builtin.«proto.contains_iter»;refine wpAny_bind (Zpq hit hm hlt fun h' e1 sb=>?_);obtain⟨u,hu⟩:=hv i hlt
  have dc:vs.drop i=vs.getD i 0::vs.drop (i+1):=by
   rw[List.drop_eq_getElem_cons (by omega),List.getD_eq_getElem?_getD,List.getElem?_eq_getElem (by omega)];rfl
  rw[dc,List.any_cons]at q;show wpAny _ _ (eqBool es[i].val (.int x t) >>= _) _ _ _;rw[hu];refine wpAny_bind (wpAny_eqBool_int ?_)
  by_cases hx:(vs.getD i 0 == x)=true
  ·rw[hx]
   simp only [if_true];refine wpAny_bind (wpAny_rule (wpAny_pure ?_));have:=q h' sb.extBut;rw[hx,Bool.true_or]at this;exact this
  ·have hx':(vs.getD i 0 == x)=false:=by simpa using hx
   rw[hx'];simp only [Bool.false_eq_true,if_false];refine wpAny_pure ⟨plainId_quiet Zcc _,?_⟩;refine Zk4 hh x t hl hv hne n (i+1) { s with heap:=h' } (by omega) (by omega) e1 (let ⟨o,e,r⟩:=hm; ⟨o,sb.extBut _ _ hne e,r⟩) fun h'' eb=>?_;have:=q h'' fun b o hb e=>eb b o hb (sb.extBut b o hb e);rw[hx',Bool.false_or]at this;exact this
theorem Zk2 (hh:A.handled=none) {v d:Addr} {es:Array DictEntry} {ep:Nat} {vs:List Int} (x:Int) (t:Tok) (hl:vs.length=es.size) (hv:∀j (h:j < es.size),∃u,es[j].val=.int (vs.getD j 0) u) (hview:s.heap.IsValuesView v d) (hm:s.heap.RawD d es ep) {Q:Value→Shared→Prop}
  (q:∀h',(∀b o,s.heap.get? b=some o→h'.get? b=some o)→Q (.bool (vs.any (· == x))) { s with heap:=h' }):wpAny (model prog w) A (compareOp .In (.int x t) (.ref v)) Q E s:=by
 show wpAny _ _ (do return .bool (←contains (.ref v) (.int x t))) Q E s;refine wpAny_bind ?_;unfold contains;refine wpAny_holding ?_;rw[stdlibNamesSay?_ref];refine wpAny_bind (wpAny_specialOf hview.typeIs ZdQ ?_);rw[if_neg (by simp)];refine wpAny_bind ?_;unfold callSpecialUnlessNone?;refine wpAny_bind (wpAny_specialOf hview.typeIs ZdQ (wpAny_pure ?_));refine wpAny_bind (wpAny_rule (wpAny_bind (wpAny_tryCatch (Zpr hview hm ?_))));have hdl:d < s.heap.objs.size:=let ⟨_,e,_⟩:=hm; Heap.lt_size e;refine wpAny_bind (wpAny_runValue (Zk4 (by first | exact hh | simpa using hh) x t hl hv (Nat.ne_of_lt hdl) es.size 0 _ (by omega) (Nat.zero_le _) ⟨_,Heap.get?_push_size _ rfl,rfl,rfl⟩ (let ⟨o,e,r⟩:=hm; ⟨o,Heap.get?_push_of_some _ e,r⟩) fun h' eb=>?_));refine wpAny_pure (wpAny_pure ?_);rw[List.drop_zero];exact q h' fun b o e=>eb b o (Nat.ne_of_lt (Heap.lt_size e)) (Heap.get?_push_of_some _ e)
end
end PySem
namespace L2
open PySem PySem.Spec PyProof.Rows
section
variable {X:Cx}
def tInV (ty td:TE):TE:=fun σ H Q=>ty σ H fun y H1=>td σ H1 fun x H2=>∃(a:Addr) (kvs:List (List Key×V)) (vs:List Int) (i:Int),x=.ref a∧y=.int i∧H2 a=some (.dT kvs)∧kvs.map (·.2)=vs.map V.int∧Q (.bl (vs.any (· == i))) H2
theorem Zu8 {l o:Expr} {ty td:TE} {apos cpos pos:Pos} (hc:X.calm=true) (hl:PE X l ty) (ho:PE X o td) (hm:behindInMarks .In (.Call (.Attribute o "values" apos) [] [] cpos)=false:=by with_unfolding_all rfl)
  (hbase:attributeBase o "values" X.env (eval o X.env)=eval o X.env:=by rfl) (hline:(apos.endLine == cpos.line)=true:=by rfl) :
  PT X (.Compare l [.In] [.Call (.Attribute o "values" apos) [] [] cpos] pos) (ZpV (tInV ty td)):=by
 intro pins s σ H Q I h;refine wpAny_isTrue_Compare1 (thn (hl pins s σ H _ I h) fun v s1 ⟨y,H1,I1,r1,q1⟩=>?_) hm;refine wpAny_Call_method0_late hbase hline (thn (ho pins s1 σ H1 _ I1 q1) fun u s2 ⟨x,H2,I2,r2,q2⟩=>?_);obtain⟨a,kvs,vs,i,rfl,rfl,e2,hvs,q⟩:=q2
 cases r2
 obtain⟨ti,rfl⟩:=r1;have hx:=(show ZaT X.prog X.w H2 s2.heap a (.dT kvs) from I2.hok a _ e2);obtain⟨hz,hsm,xs,_,ob,es,ep,h1,hex,hda,_⟩:=id hx;obtain⟨raw,hen,get⟩:=ZfZ hx h1 hda
 have hl:vs.length=es.size:=by
  have:=congrArg List.length hvs;rw[List.length_map,List.length_map]at this;omega
 have hv:∀j (hj:j < es.size),∃u,es[j].val=.int (vs.getD j 0) u:=fun j hj=>by
  obtain⟨⟨k,v⟩,hkv⟩ : ∃p,kvs[j]?=some p:=⟨kvs[j]'(by omega),List.getElem?_eq_getElem (by omega)⟩;obtain⟨b,_,_,_,rv⟩:=get j k v hkv
  have e1:(kvs.map (·.2))[j]?=some v:=by rw[List.getElem?_map,hkv]; rfl
  rw[hvs,List.getElem?_map,List.getElem?_eq_getElem (by omega)]at e1;have e3:V.int (vs[j]'(by omega))=v:=Option.some.inj e1;subst e3;obtain⟨t',e4⟩:=rv;exact⟨t',by rw[e4,List.getD_eq_getElem?_getD,List.getElem?_eq_getElem (by omega)]; rfl⟩
 refine⟨"dict","dict.values",F.plainAttrs_dict,F.slot_dict_values,F.type_dict_values,raw.ty,fun b e=>by cases e; exact⟨ob,h1,hex.2.1⟩,?_⟩;refine Calls.callWith_builtin rfl (PySem.evalArgs_none (call_meetsIn F.slot_dict_values raw.ty F.entry_dict_values (F.args_dict_values_1 _) (Znv a hsm) ⟨⟨es,ep,raw⟩,?_⟩));refine Zk2 (s:={ s2 with heap:=s2.heap.push { cls:=.type "dict_values",data:=.fields #[.ref a] } }) (I2.ok.hd hc) i ti hl hv ⟨_,Heap.get?_push_size _ rfl,rfl,rfl⟩ (let ⟨o,e,r⟩:=raw; ⟨o,Heap.get?_push_of_some _ e,r⟩) fun h' k=>?_;obtain⟨kk,ek,qk⟩:=q
 cases ek
 exact wpAny_truthy_bool ⟨H2,I2.kept (t':=s2.toks) fun b u e=>k b u (Heap.get?_push_of_some _ e),qk⟩
end
theorem ZvQ {ty td:TE} {σ:St} {H:Hp} {Q:VK} (h:ty σ H fun y H1=>td σ H1 fun x H2=>∃(a:Addr) (kvs:List (List Key×V)) (vs:List Int) (i:Int),x=.ref a∧y=.int i∧H2 a=some (.dT kvs)∧kvs.map (·.2)=vs.map V.int∧Q (.bl (vs.any (· == i))) H2):tInV ty td σ H Q:=h
end L2
open PySem L2
local macro_rules | `(tactic| walk_at "side") => `(tactic| first | omega | (show (_ : Int) < _; omega) | exact ⟨by omega, by omega⟩ | exact ⟨by omega, by omega, by decide⟩)
local macro_rules | `(tactic| walk_at "rd1") => `(tactic| first
 | (with_reducible first | refine Zoy ?_ | refine Zuh ?_ | refine i_op ?_ | refine i_c ?_ | refine ZrF ?_ | refine Zur ?_ | refine Zun ?_ | refine Zuu ?_ | refine i_fn ?_ | refine i_cb ?_ | refine ZrZ ?_ | refine Zuk ?_ | refine Zul ?_ | refine Zr0 ?_ | refine i_dy ?_ | refine i_mk ?_ | refine Zum ?_ | refine ZrY ?_ | refine ZrG ?_ | refine ZrT ?_ | refine ZrX ?_ | refine i_brk ?_ | refine i_cont ?_ | refine i_un ?_ | refine Zug ?_ | refine i_or ?_ | refine Zus ?_ | refine ZrE ?_ | refine i_orV ?_ | refine ZrV ?_ | refine i_if ?_ | refine Zuv ?_ | refine Zuo ?_ | refine i_bm ?_ | refine Zui ?_ | refine i_sl ?_ | refine ZrW ?_ | refine i_noPart ?_ | refine Zor ?_ | refine Zos ?_ | refine i_forR3 ?_ | refine i_compR3 ?_ | refine Zkt ?_ | refine i_sortset ?_ | refine ZrL ?_ | refine ZrK ?_ | refine i_forEX ?_ | refine i_forRep ?_ | refine ZrJ ?_ | refine Zoo ?_ | refine i_compS2 ?_ | refine Zot ?_ | refine i_thawF ?_ | refine i_forK ?_ | refine Zop ?_ | refine ZsW ?_ | refine Zuj ?_ | refine Zoz ?_ | refine i_fmtI ?_ | refine i_dyP ?_ | refine i_fnP ?_ | refine i_repE ?_ | refine i_listrng ?_ | refine i_frz ?_ | refine i_addF ?_ | refine i_forZ ?_ | refine i_forV ?_ | refine Zl5 ?_ | refine Zon ?_ | refine Zr1 ?_ | refine Zl6 ?_ | refine Zl7 ?_ | refine Zoq ?_ | refine ZrU ?_ | refine Zut ?_ | refine ZrC ?_ | refine i_rU ?_ | refine ZrH ?_ | refine ZrI ?_ | refine i_eqAB ?_ | refine ZrR ?_ | refine ZrS ?_ | refine i_neAB ?_ | refine i_fs ?_ | refine ZrM ?_ | refine i_jc ?_ | refine i_fmt ?_ | refine i_fmtR ?_ | refine ZsX ?_ | refine ZsY ?_ | refine i_eqB ?_ | refine Zs0 ?_ | refine Zs1 ?_ | refine i_neB ?_ | refine i_intI ?_ | refine i_intB ?_ | refine i_max ?_ | refine Zup ?_)
 | ((with_reducible refine ZrQ ?_); (try dsimp only [List.set_cons_succ,List.set_cons_zero]))
 | ((with_reducible refine' ZqC ?hv ?_); (case hv=>exact rfl))
 | ((with_reducible refine i_rI ?hc ?_); (case hc=>walk_at "side"))
 | ((with_reducible refine' Zox ?hc ?_); (case hc=>assumption))
 | ((with_reducible refine' ZrO ?hc ?_); (case hc=>assumption))
 | ((with_reducible refine' ZrP ?hc ?_); (case hc=>assumption))
 | ((with_reducible refine' ZrN ?ht ?he ?_); (case ht=>first | exact TyOf.bl _ | exact TyOf.int _ | exact TyOf.str _ | exact TyOf.non | exact TyOf.lst (by assumption) | exact TyOf.tup (by assumption)); (case he=>first | exact Zmc _ _ | exact ZgT _ | exact kit_bool_int _ | exact kit_str_bool _ | exact kit_str_int _ | exact kit_list_int _ | exact kit_list_bool _ | exact kit_none_int _ | exact kit_none_list _ | exact kit_none_str _ | exact kit_none_tuple _ | exact kit_list_tuple _ | exact kit_tuple_list _ | exact kit_str_list _ | exact kit_int_str _ | exact kit_int_list _ | exact kit_bool_str _ | exact kit_bool_list _ | exact kit_int_tuple _ | exact kit_str_tuple _ | exact kit_bool_tuple _ | exact kit_tuple_int _ | exact kit_tuple_bool _ | exact kit_tuple_str _ | exact kit_list_str _ | exact kit_none_bool _)))
local macro_rules | `(tactic| walk_at "rs1") => `(tactic| first
 | (with_reducible first | refine Zuh ?_ | refine i_op ?_ | refine i_c ?_ | refine ZrF ?_ | refine Zur ?_ | refine Zun ?_ | refine Zuu ?_ | refine i_fn ?_ | refine i_cb ?_ | refine ZrZ ?_ | refine Zuk ?_ | refine Zul ?_ | refine Zr0 ?_ | refine i_dy ?_ | refine i_mk ?_ | refine Zum ?_ | refine ZrY ?_ | refine ZrG ?_ | refine ZrT ?_ | refine ZrX ?_ | refine i_brk ?_ | refine i_cont ?_ | refine i_un ?_ | refine Zug ?_ | refine i_or ?_ | refine Zus ?_ | refine ZrE ?_ | refine i_orV ?_ | refine ZrV ?_ | refine i_if ?_ | refine Zuv ?_ | refine Zuo ?_ | refine i_bm ?_ | refine Zui ?_ | refine i_sl ?_ | refine ZrW ?_ | refine i_noPart ?_ | refine Zor ?_ | refine Zos ?_ | refine i_forR3 ?_ | refine i_compR3 ?_ | refine Zkt ?_ | refine i_sortset ?_ | refine ZrL ?_ | refine ZrK ?_ | refine i_forEX ?_ | refine i_forRep ?_ | refine ZrJ ?_ | refine Zoo ?_ | refine i_compS2 ?_ | refine Zot ?_ | refine Zoz ?_ | refine i_fmtI ?_ | refine i_dyP ?_ | refine i_listrng ?_ | refine i_frz ?_ | refine i_addF ?_ | refine i_forZ ?_ | refine i_forV ?_ | refine Zl5 ?_ | refine Zon ?_ | refine Zr1 ?_ | refine Zl6 ?_ | refine Zl7 ?_ | refine Zoq ?_ | refine ZrU ?_ | refine Zut ?_ | refine ZrC ?_ | refine i_rU ?_ | refine ZrH ?_ | refine ZrI ?_ | refine i_eqAB ?_ | refine ZrR ?_ | refine ZrS ?_ | refine i_neAB ?_ | refine i_fs ?_ | refine ZrM ?_ | refine i_jc ?_ | refine i_fmt ?_ | refine i_fmtR ?_ | refine ZsX ?_ | refine ZsY ?_ | refine i_eqB ?_ | refine Zs0 ?_ | refine Zs1 ?_ | refine i_neB ?_ | refine i_intI ?_ | refine i_intB ?_ | refine i_max ?_ | refine Zup ?_)
 | ((with_reducible refine ZrQ ?_); (try dsimp only [List.set_cons_succ,List.set_cons_zero]))
 | ((with_reducible refine' ZqC ?hv ?_); (case hv=>exact rfl))
 | ((with_reducible refine i_rI ?hc ?_); (case hc=>walk_at "side"))
 | ((with_reducible refine' Zox ?hc ?_); (case hc=>assumption))
 | ((with_reducible refine' ZrO ?hc ?_); (case hc=>assumption))
 | ((with_reducible refine' ZrP ?hc ?_); (case hc=>assumption))
 | ((with_reducible refine' ZrN ?ht ?he ?_); (case ht=>first | exact TyOf.bl _ | exact TyOf.int _ | exact TyOf.str _ | exact TyOf.non | exact TyOf.lst (by assumption) | exact TyOf.tup (by assumption)); (case he=>first | exact Zmc _ _ | exact ZgT _ | exact kit_bool_int _ | exact kit_str_bool _ | exact kit_str_int _ | exact kit_list_int _ | exact kit_list_bool _ | exact kit_none_int _ | exact kit_none_list _ | exact kit_none_str _ | exact kit_none_tuple _ | exact kit_list_tuple _ | exact kit_tuple_list _ | exact kit_str_list _ | exact kit_int_str _ | exact kit_int_list _ | exact kit_bool_str _ | exact kit_bool_list _ | exact kit_int_tuple _ | exact kit_str_tuple _ | exact kit_bool_tuple _ | exact kit_tuple_int _ | exact kit_tuple_bool _ | exact kit_tuple_str _ | exact kit_list_str _ | exact kit_none_bool _)))
local macro_rules | `(tactic| walk_at "rs") => `(tactic| repeat walk_at "rs1")
local macro_rules | `(tactic| walk_at "hp") => `(tactic| first | assumption | solve_by_elim (maxDepth := 16) only [*, Zai])
local macro_rules | `(tactic| walk_at "rd0") => `(tactic| ((try dsimp only [cxOf]); (try simp only [L2.start, List.map_cons, List.map_nil, List.length_cons, List.length_nil, Nat.reduceAdd, Nat.reduceSub, List.replicate_zero, List.append_nil, List.cons_append, List.nil_append, List.replicate_succ]); (repeat walk_at "rd1")))
local macro_rules | `(tactic| walk_at "rs0") => `(tactic| ((try dsimp only [cxOf]); (try simp only [L2.start, List.map_cons, List.map_nil, List.length_cons, List.length_nil, Nat.reduceAdd, Nat.reduceSub, List.replicate_zero, List.append_nil, List.cons_append, List.nil_append, List.replicate_succ]); (repeat walk_at "rs1")))
local macro_rules | `(tactic| walk_at "rd") => `(tactic| repeat walk_at "rd1")
local macro_rules | `(tactic| walk_at "tst") => `(tactic| repeat first | walk_at "rd1" | refine Zca (decide_eq_true (by omega)) ?_ | refine ZaF (decide_eq_false (by omega)) ?_ | refine ZaF rfl ?_ | refine Zca rfl ?_ | refine ⟨_, rfl, ?_⟩)
open PySem L2
local macro_rules | `(tactic| walk_at "") => `(tactic| walk_at "rd")
theorem lnZ1 {A:Type} {P:List A→Prop} (h:∀a,P [a]):∀u:List A,u.length=1→P u|[_],_=>h _
theorem lnZ2 {A:Type} {P:List A→Prop} (h:∀a b,P [a,b]):∀u:List A,u.length=2→P u|[_,_],_=>h _ _
theorem lnZ3 {A:Type} {P:List A→Prop} (h:∀a b c,P [a,b,c]):∀u:List A,u.length=3→P u|[_,_,_],_=>h _ _ _
theorem lnZ4 {A:Type} {P:List A→Prop} (h:∀a b c d,P [a,b,c,d]):∀u:List A,u.length=4→P u|[_,_,_,_],_=>h _ _ _ _
theorem lnZ5 {A:Type} {P:List A→Prop} (h:∀a b c d e,P [a,b,c,d,e]):∀u:List A,u.length=5→P u|[_,_,_,_,_],_=>h _ _ _ _ _
theorem lnZ6 {A:Type} {P:List A→Prop} (h:∀a b c d e f,P [a,b,c,d,e,f]):∀u:List A,u.length=6→P u|[_,_,_,_,_,_],_=>h _ _ _ _ _ _
theorem lnZ7 {A:Type} {P:List A→Prop} (h:∀a b c d e f g,P [a,b,c,d,e,f,g]):∀u:List A,u.length=7→P u|[_,_,_,_,_,_,_],_=>h _ _ _ _ _ _ _
local macro_rules | `(tactic| walk_at "b") => `(tactic| (intro _ _ _ _ _ _; first | exact lnZ1 (fun _=>rfl) | exact lnZ2 (fun _ _=>rfl) | exact lnZ3 (fun _ _ _=>rfl) | exact lnZ4 (fun _ _ _ _=>rfl) | exact lnZ5 (fun _ _ _ _ _=>rfl) | exact lnZ6 (fun _ _ _ _ _ _=>rfl) | exact lnZ7 (fun _ _ _ _ _ _ _=>rfl)))
local macro_rules | `(tactic| walk_at "sc") => `(tactic| exact ⟨rfl, rfl, rfl, by decide +kernel, rfl, by decide +kernel, by decide +kernel⟩)
namespace LW
open PySem L2 EM
open List (all_eq_true any_eq_true any_map append_assoc append_nil filter_append filter_cons filter_nil filter_sublist getD_eq_getElem?_getD getElem?_append_left getElem?_append_right getElem?_inj getElem?_map length_append length_cons length_filter_le length_map length_nil length_range length_set length_singleton length_take map_append map_cons map_map map_nil map_set mem_append mem_cons mem_cons_self mem_filter mem_map mem_of_getElem? mem_range mem_singleton nodup_cons range_succ take_length)
def top (i:Nat):Stmt:=PySem.Challenge.pw_evernever_k37_end_of_a_hunt.main.body.getD i (.Pass ⟨0,0,0,0⟩)
abbrev ZeS:Stmt:=top 2
abbrev ZlE:Stmt:=top 3
abbrev ZjV:Stmt:=top 5
abbrev ZgG:Stmt:=top 6
abbrev ZjX:Stmt:=top 7
abbrev Zfe:Stmt:=top 8
abbrev Zh4:Stmt:=top 9
abbrev ZgJ:Stmt:=top 16
abbrev Zcx:Stmt:=top 17
abbrev Zh3:Stmt:=top 18
abbrev ZeT:Stmt:=top 22
abbrev ZjW:Stmt:=top 23
abbrev Zb3:Stmt:=top 24
abbrev Zpu:Stmt:=top 25
abbrev Zpv:Stmt:=top 26
abbrev ZgI:Stmt:=top 28
abbrev ZgH:Stmt:=top 29
abbrev Zff:Stmt:=top 30
abbrev ZdV:Stmt:=top 33
abbrev Zdz:Stmt:=top 34
abbrev Zdy:Stmt:=top 35
abbrev ZeR:Stmt:=top 36
abbrev ZgF:Stmt:=top 37
abbrev ZfM:Stmt:=top 38
abbrev Zh2:Stmt:=top 39
abbrev ZfL:Stmt:=top 40
abbrev ZdO:Stmt:=top 41
abbrev ZcX:Stmt:=top 42
abbrev Zg9:Stmt:=top 43
abbrev Zep:Stmt:=ZcD (top 20) 0
abbrev Zeq:Stmt:=ZcD (top 20) 1
abbrev ZdS:Stmt:=ZcD (top 20) 2
abbrev ZdT:Stmt:=ZcD (top 20) 3
abbrev Zc9:Stmt:=ZcD (top 20) 4
abbrev ZdN:Stmt:=ZcD (top 20) 5
abbrev Zda:Stmt:=ZcD (top 20) 6
abbrev ZcF:Stmt:=ZcD (top 20) 7
abbrev Zcw:Stmt:=ZcD (top 20) 8
abbrev Zer:Stmt:=ZcD (top 20) 9
abbrev ZdU:Stmt:=ZcD (top 20) 10
abbrev ZeQ:Stmt:=ZcD (top 31) 0
abbrev ZdR:Stmt:=ZcD (top 31) 2
theorem Zj0:FnScope ["many"] ["many"] (Zah ZeS):=by walk_at "sc"
theorem Zrk:FnScope ["crowd"] ["crowd"] (Zah ZlE):=by walk_at "sc"
theorem Zpx:FnScope ["many","stand"] ["many","stand"] (Zah ZjV):=by walk_at "sc"
theorem ZcG:FnScope ["many","bar","crowd","lamp","lit"] ["many","bar"] (Zah ZgG):=by walk_at "sc"
theorem Zpy:FnScope ["one","other"] ["one","other"] (Zah ZjX):=by walk_at "sc"
theorem ZlF:FnScope ["bar"] ["bar"] (Zah Zfe):=by walk_at "sc"
theorem Zi8:FnScope ["bar","lamp","others"] ["bar","lamp"] (Zah Zh4):=by walk_at "sc"
theorem Zh9:FnScope ["chart","held","bar","inside"] ["chart","held","bar"] (Zah ZgJ):=by walk_at "sc"
theorem Zcd:FnScope ["chart","held","bar","lamp","fewer"] ["chart","held","bar"] (Zah Zcx):=by walk_at "sc"
theorem Zed:FnScope ["chart","held","bar","found","further"] ["chart","held","bar"] (Zah Zh3):=by walk_at "sc"
theorem Zgh:FnScope ["chart","frames","diary","k","stand","bar"] ["chart","frames","diary","k","stand"] (Zah ZeT):=by walk_at "sc"
theorem Zec:FnScope ["chart","frames","diary","bad","asked","k","stand","itself","sources"] ["chart","frames","diary","bad"] (Zah ZjW):=by walk_at "sc"
theorem Zbd:FnScope ["chart","frames","diary","found","way"] ["chart","frames","diary"] (Zah Zb3):=by walk_at "sc"
theorem ZlG:FnScope ["frames","diary","k","bar"] ["frames","diary"] (Zah Zpu):=by walk_at "sc"
theorem ZfO:FnScope ["chart","diary","found","frames","way","k"] ["chart"] (Zah Zpv):=by walk_at "sc"
theorem ZlJ:FnScope ["thing"] ["thing"] (Zah ZgI):=by walk_at "sc"
theorem ZlI:FnScope ["thing","many"] ["thing","many"] (Zah ZgH):=by walk_at "sc"
theorem ZlH:FnScope ["many","starts","bads","after"] ["many","starts","bads","after"] (Zah Zff):=by walk_at "sc"
theorem Zh7:FnScope ["_law_script","_law_k"] ["_law_script","_law_k"] (Zah ZdV):=by walk_at "sc"
theorem Zb8:FnScope ["_law_cell","_law_size","_law_rest","_law_crowd"] ["_law_cell","_law_size"] (Zah Zdz):=by walk_at "sc"
theorem Zao:FnScope ["_law_script","_law_many","_law_size","_law_way_here","_law_after","_law_s","_law_digit","_law_crowd","_law_k","_law_cell","_law_here","_law_far","_law_i"] ["_law_script","_law_many"] (Zah Zdy):=by walk_at "sc"
theorem Zdb:FnScope ["_law_after","_law_crowd","_law_told","_law_s"] ["_law_after","_law_crowd"] (Zah ZeR):=by walk_at "sc"
theorem Zh8:FnScope ["_law_way_here","_law_starts","_law_bads","_law_after","_law_steps","_law_k"] ["_law_way_here","_law_starts","_law_bads","_law_after","_law_steps"] (Zah ZgF):=by walk_at "sc"
theorem ZcT:FnScope ["_law_size","_law_bars","_law_told","_law_bar","_law_s"] ["_law_size","_law_bars"] (Zah ZfM):=by walk_at "sc"
theorem Znw:FnScope ["_law_one","_law_other"] ["_law_one","_law_other"] (Zah Zh2):=by walk_at "sc"
theorem ZdP:FnScope ["_law_diary","_law_ends_here","_law_entry","_law_one"] ["_law_diary"] (Zah ZfL):=by walk_at "sc"
theorem ZbE:FnScope ["_law_bars","_law_diary","_law_starts","_law_bads","_law_after","_law_size","_law_ends_here","_law_k","_law_bar","_law_left_here"] ["_law_bars","_law_diary","_law_starts","_law_bads","_law_after"] (Zah ZdO):=by walk_at "sc"
theorem Za7:FnScope ["_law_script","_law_size","_law_after","_law_s","_law_cell","_law_crowd"] ["_law_script","_law_size"] (Zah ZcX):=by walk_at "sc"
theorem ZcU:FnScope ["_law_script","_law_first","_law_many","_law_size","_law_starts","_law_bads","_law_after","_law_steps","_law_flood","_law_diary","_law_end"] ["_law_script"] (Zah Zg9):=by walk_at "sc"
theorem ZiE:FnScope ["self","chart"] ["self","chart"] (Zah Zep):=by walk_at "sc"
theorem ZiF:FnScope ["self"] ["self"] (Zah Zeq):=by walk_at "sc"
theorem Zh5:FnScope ["self","k","first"] ["self","k","first"] (Zah ZdS):=by walk_at "sc"
theorem Zh6:FnScope ["self","k"] ["self","k"] (Zah ZdT):=by walk_at "sc"
theorem ZiD:FnScope ["self","k"] ["self","k"] (Zah Zc9):=by walk_at "sc"
theorem ZjZ:FnScope ["self","k"] ["self","k"] (Zah ZdN):=by walk_at "sc"
theorem Zb5:FnScope ["self","k","bar","stay","other","level","number"] ["self","k","bar"] (Zah Zda):=by walk_at "sc"
theorem Zgg:FnScope ["self","number","bar"] ["self","number","bar"] (Zah ZcF):=by walk_at "sc"
theorem ZfN:FnScope ["self"] ["self"] (Zah Zcw):=by walk_at "sc"
theorem ZcN:FnScope ["self","pushed","k","bar"] ["self"] (Zah Zer):=by walk_at "sc"
theorem ZeU:FnScope ["self","k"] ["self"] (Zah ZdU):=by walk_at "sc"
theorem ZjY:FnScope ["self","many","starts","bads","after"] ["self","many","starts","bads","after"] (Zah ZeQ):=by walk_at "sc"
theorem ZbS:FnScope ["self","crowd","found","stand","onto"] ["self","crowd"] (Zah ZdR):=by walk_at "sc"
def DF (K:W.Frag) (st:Stmt) (nm q:Str) (f:Addr):Prop:=∃d,Fun K nm q st f d
theorem dmk {K:W.Frag} {st:Stmt} {nm q:Str} {f:Addr} {od an:Option Addr} {sl:Array (Option Value)} {oc kV dc pm cd ct:Value} (l:K.lookup f=some ⟨oc,od,.func (W.fnOf nm q (ZfC st) (Zek st) (Zah st) .none kV dc pm an cd ct),sl⟩) (c:W.codeIn K cd q=true) (k:W.keepIn K (.ref f)=true):DF K st nm q f:=⟨_,ZrB l c k⟩
set_option genInjectivity false in
structure Ad where
 Zcm:Addr
 ZdJ:FuncData
 Zgw:Addr
 Zjl:FuncData
 Ze7:Addr
 Zhc:FuncData
 Zdl:Addr
 Ze2:FuncData
 Ze9:Addr
 Zhe:FuncData
 Zdk:Addr
 Ze1:FuncData
 Zd8:Addr
 ZfY:FuncData
 Zdp:Addr
 Ze6:FuncData
 ZaX:Addr
 ZbO:FuncData
 Zd7:Addr
 ZfX:FuncData
 Zcn:Addr
 ZdK:FuncData
 Ze8:Addr
 Zhd:FuncData
 ZaJ:Addr
 Zbm:FuncData
 ZiR:Addr
 ZlX:FuncData
 ZiS:Addr
 ZlY:FuncData
 Zdo:Addr
 Ze5:FuncData
 Zdn:Addr
 Ze4:FuncData
 Zdm:Addr
 Ze3:FuncData
 ZbL:Addr
 ZcL:FuncData
 Zbs:Addr
 Zcs:FuncData
 Zbr:Addr
 Zcr:FuncData
 Zck:Addr
 ZdH:FuncData
 Zdj:Addr
 Ze0:FuncData
 ZcC:Addr
 Zej:FuncData
 Zd6:Addr
 ZfW:FuncData
 ZcB:Addr
 Zei:FuncData
 Zcl:Addr
 ZdI:FuncData
 Zbb:Addr
 Zb6:FuncData
 f_law:Addr
 d_law:FuncData
 Zbz:Addr
 Zc4:FuncData
 ZbA:Addr
 Zc5:FuncData
 Zbh:Addr
 ZcI:FuncData
 Zbi:Addr
 ZcJ:FuncData
 Zby:Addr
 Zc3:FuncData
 ZbQ:Addr
 ZdG:FuncData
 ZbC:Addr
 Zc7:FuncData
 ZaP:Addr
 ZbY:FuncData
 ZaE:Addr
 ZbN:FuncData
 ZbB:Addr
 Zc6:FuncData
 Zbj:Addr
 ZcK:FuncData
 ZbP:Addr
 ZdF:FuncData
 Zbg:Addr
 ZcH:FuncData
 Zag:Addr
 Zaz:Addr
 Zbc:Addr
structure Txt (K:W.Frag) (mg:Str→Option Value) (t:Ad):Prop where
 Zci:Fun K "all_stands" "all_stands" ZeS t.Zcm t.ZdJ
 ZgP:ZaS K t.ZdJ ["many"] []
 ZgX:mg "all_stands" = some (.ref t.Zcm)
 Zgm:Fun K "least" "least" ZlE t.Zgw t.Zjl
 ZnX:ZaS K t.Zjl ["crowd"] []
 ZoX:mg "least" = some (.ref t.Zgw)
 ZeW:Fun K "bar_of" "bar_of" ZjV t.Ze7 t.Zhc
 ZlR:ZaS K t.Zhc ["many","stand"] []
 Zmf:mg "bar_of" = some (.ref t.Ze7)
 Zde:Fun K "crowd_of" "crowd_of" ZgG t.Zdl t.Ze2
 ZiL:ZaS K t.Ze2 ["many","bar"] []
 Zi0:mg "crowd_of" = some (.ref t.Zdl)
 ZeY:Fun K "within" "within" ZjX t.Ze9 t.Zhe
 ZlT:ZaS K t.Zhe ["one","other"] []
 Zmh:mg "within" = some (.ref t.Ze9)
 Zdd:Fun K "asked_by" "asked_by" Zfe t.Zdk t.Ze1
 ZiK:ZaS K t.Ze1 ["bar"] []
 ZiZ:mg "asked_by" = some (.ref t.Zdk)
 ZdZ:Fun K "without" "without" Zh4 t.Zd8 t.ZfY
 Zkh:ZaS K t.ZfY ["bar","lamp"] []
 ZkJ:mg "without" = some (.ref t.Zd8)
 Zdi:Fun K "may_shut" "may_shut" ZgJ t.Zdp t.Ze6
 ZiP:ZaS K t.Ze6 ["chart","held","bar"] []
 Zi4:mg "may_shut" = some (.ref t.Zdp)
 ZaW:Fun K "without_one_lamp" "without_one_lamp" Zcx t.ZaX t.ZbO
 ZdE:ZaS K t.ZbO ["chart","held","bar"] []
 ZdM:mg "without_one_lamp" = some (.ref t.ZaX)
 ZdY:Fun K "widened" "widened" Zh3 t.Zd7 t.ZfX
 Zkg:ZaS K t.ZfX ["chart","held","bar"] []
 ZkI:mg "widened" = some (.ref t.Zd7)
 Zcj:Fun K "shut_stand" "shut_stand" ZeT t.Zcn t.ZdK
 ZgQ:ZaS K t.ZdK ["chart","frames","diary","k","stand"] []
 ZgY:mg "shut_stand" = some (.ref t.Zcn)
 ZeX:Fun K "way_to" "way_to" ZjW t.Ze8 t.Zhd
 ZlS:ZaS K t.Zhd ["chart","frames","diary","bad"] []
 Zmg:mg "way_to" = some (.ref t.Ze8)
 ZaI:Fun K "way_while_clearing" "way_while_clearing" Zb3 t.ZaJ t.Zbm
 ZcZ:ZaS K t.Zbm ["chart","frames","diary"] []
 Zc0:mg "way_while_clearing" = some (.ref t.ZaJ)
 ZiG:Fun K "grow" "grow" Zpu t.ZiR t.ZlX
 Zrv:ZaS K t.ZlX ["frames","diary"] []
 Zr8:mg "grow" = some (.ref t.ZiR)
 ZiH:Fun K "hunt" "hunt" Zpv t.ZiS t.ZlY
 Zrw:ZaS K t.ZlY ["chart"] []
 Zr9:mg "hunt" = some (.ref t.ZiS)
 Zdh:Fun K "is_whole" "is_whole" ZgI t.Zdo t.Ze5
 ZiO:ZaS K t.Ze5 ["thing"] []
 Zi3:mg "is_whole" = some (.ref t.Zdo)
 Zdg:Fun K "is_crowd" "is_crowd" ZgH t.Zdn t.Ze4
 ZiN:ZaS K t.Ze4 ["thing","many"] []
 Zi2:mg "is_crowd" = some (.ref t.Zdn)
 Zdf:Fun K "is_chart" "is_chart" Zff t.Zdm t.Ze3
 ZiM:ZaS K t.Ze3 ["many","starts","bads","after"] []
 Zi1:mg "is_chart" = some (.ref t.Zdm)
 ZbK:Fun K "_law_cell_at" "_law_cell_at" ZdV t.ZbL t.ZcL
 Zfp:ZaS K t.ZcL ["_law_script","_law_k"] []
 Zfu:mg "_law_cell_at" = some (.ref t.ZbL)
 Zbp:Fun K "_law_crowd_by" "_law_crowd_by" Zdz t.Zbs t.Zcs
 ZeB:ZaS K t.Zcs ["_law_cell","_law_size"] []
 ZeI:mg "_law_crowd_by" = some (.ref t.Zbs)
 Zbo:Fun K "_law_after_by" "_law_after_by" Zdy t.Zbr t.Zcr
 ZeA:ZaS K t.Zcr ["_law_script","_law_many"] []
 ZeH:mg "_law_after_by" = some (.ref t.Zbr)
 Zcg:Fun K "_law_ahead" "_law_ahead" ZeR t.Zck t.ZdH
 ZgN:ZaS K t.ZdH ["_law_after","_law_crowd"] []
 ZgV:mg "_law_ahead" = some (.ref t.Zck)
 Zdc:Fun K "_law_way" "_law_way" ZgF t.Zdj t.Ze0
 ZiJ:ZaS K t.Ze0 ["_law_way_here","_law_starts","_law_bads","_law_after","_law_steps"] []
 ZiY:mg "_law_way" = some (.ref t.Zdj)
 ZcA:Fun K "_law_left" "_law_left" ZfM t.ZcC t.Zej
 Zhq:ZaS K t.Zej ["_law_size","_law_bars"] []
 ZhM:mg "_law_left" = some (.ref t.ZcC)
 ZdX:Fun K "_law_in" "_law_in" Zh2 t.Zd6 t.ZfW
 Zkf:ZaS K t.ZfW ["_law_one","_law_other"] []
 ZkH:mg "_law_in" = some (.ref t.Zd6)
 Zcz:Fun K "_law_ends" "_law_ends" ZfL t.ZcB t.Zei
 Zhp:ZaS K t.Zei ["_law_diary"] []
 ZhL:mg "_law_ends" = some (.ref t.ZcB)
 Zch:Fun K "_law_fence" "_law_fence" ZdO t.Zcl t.ZdI
 ZgO:ZaS K t.ZdI ["_law_bars","_law_diary","_law_starts","_law_bads","_law_after"] []
 ZgW:mg "_law_fence" = some (.ref t.Zcl)
 Za9:Fun K "_law_own_steps" "_law_own_steps" ZcX t.Zbb t.Zb6
 Zet:ZaS K t.Zb6 ["_law_script","_law_size"] []
 Zev:mg "_law_own_steps" = some (.ref t.Zbb)
 F_law:Fun K "law" "law" Zg9 t.f_law t.d_law
 m_law:mg "law" = some (.ref t.f_law)
 Zcp:Fun K "__init__" "Frames.__init__" Zep t.Zbz t.Zc4
 ZfS:ZaS K t.Zc4 ["self","chart"] []
 ZbU:Fun K "last" "Frames.last" Zeq t.ZbA t.Zc5
 ZfT:ZaS K t.Zc5 ["self"] []
 ZbH:Fun K "check" "Frames.check" ZdS t.Zbh t.ZcI
 Zfm:ZaS K t.ZcI ["self","k","first"] []
 ZbI:Fun K "crowd" "Frames.crowd" ZdT t.Zbi t.ZcJ
 Zfn:ZaS K t.ZcJ ["self","k"] []
 ZbT:Fun K "bars" "Frames.bars" Zc9 t.Zby t.Zc3
 ZfR:ZaS K t.Zc3 ["self","k"] []
 Zcf:Fun K "own" "Frames.own" ZdN t.ZbQ t.ZdG
 ZgM:ZaS K t.ZdG ["self","k"] []
 ZbW:Fun K "shut" "Frames.shut" Zda t.ZbC t.Zc7
 ZfV:ZaS K t.Zc7 ["self","k","bar"] []
 Za6:Fun K "take_out" "Frames.take_out" ZcF t.ZaP t.ZbY
 Zd3:ZaS K t.ZbY ["self","number","bar"] []
 ZaV:Fun K "add_frame" "Frames.add_frame" Zcw t.ZaE t.ZbN
 ZdD:ZaS K t.ZbN ["self"] []
 ZbV:Fun K "push" "Frames.push" Zer t.ZbB t.Zc6
 ZfU:ZaS K t.Zc6 ["self"] []
 ZbJ:Fun K "still" "Frames.still" ZdU t.Zbj t.ZcK
 Zfo:ZaS K t.ZcK ["self"] []
 ZcO:Fun K "__init__" "Chart.__init__" ZeQ t.ZbP t.ZdF
 ZgL:ZaS K t.ZdF ["self","many","starts","bads","after"] []
 ZbG:Fun K "behind" "Chart.behind" ZdR t.Zbg t.ZcH
 Zfl:ZaS K t.ZcH ["self","crowd"] []
 Zme:mg "Frames" = some (.ref t.Zag)
 Zat:Cls K t.Zag
 Zl9:Mk K t.Zag t.Zbz
 Za3:ZcQ K t.Zag "base"
 ZaH:ZcQ K t.Zag "levels"
 Zau:ZcQ K t.Zag "crowds"
 Zf2:Meth K t.Zag "last" t.ZbA
 Zfr:Meth K t.Zag "check" t.Zbh
 Zfs:Meth K t.Zag "crowd" t.Zbi
 Zf1:Meth K t.Zag "bars" t.Zby
 ZgS:Meth K t.Zag "own" t.ZbQ
 Zf4:Meth K t.Zag "shut" t.ZbC
 Zd9:Meth K t.Zag "take_out" t.ZaP
 ZdL:Meth K t.Zag "add_frame" t.ZaE
 Zf3:Meth K t.Zag "push" t.ZbB
 Zft:Meth K t.Zag "still" t.Zbj
 ZoW:mg "Chart" = some (.ref t.Zaz)
 Zbx:Cls K t.Zaz
 ZoJ:Mk K t.Zaz t.ZbP
 Za5:ZcQ K t.Zaz "many"
 Zbl:ZcQ K t.Zaz "starts"
 ZbR:ZcQ K t.Zaz "bads"
 Zcu:ZcQ K t.Zaz "after"
 Zfq:Meth K t.Zaz "behind" t.Zbg
 ZhK:mg "NotShut" = some (.ref t.Zbc)
 ZhZ:ExcK K t.Zbc
 bl:∀(s:Shared) (u:Value),BindsTo s t.d_law ⟨[u],[]⟩ [("_law_script",u)]
 B:Bt mg
theorem txt_mk {K:W.Frag} {h:Heap} {mg:Str→Option Value} (X:K.In h) (G:h.Ns mainGlobals mg)
 {Zcm Zgw Ze7 Zdl Ze9 Zdk Zd8 Zdp ZaX Zd7 Zcn Ze8 ZaJ ZiR ZiS Zdo Zdn Zdm ZbL Zbs Zbr Zck Zdj ZcC Zd6 ZcB Zcl Zbb:Addr}
  {f_law:Addr} {ZuR Zru:Option Addr} {Zvk:Array (Option Value)} {ZuQ Zr3 Zrz Zsd Zn4 Zry:Value}
 {Zbz ZbA Zbh Zbi Zby ZbQ ZbC ZaP ZaE ZbB Zbj ZbP Zbg Zag Zaz Zbc:Addr}
  (Zkd:W.nsIn K mainGlobals "all_stands" = some (some (.ref Zcm)))
  (ZsB:W.nsIn K mainGlobals "least" = some (some (.ref Zgw)))
  (Zqf:W.nsIn K mainGlobals "bar_of" = some (some (.ref Ze7)))
  (ZmQ:W.nsIn K mainGlobals "crowd_of" = some (some (.ref Zdl)))
  (Zqh:W.nsIn K mainGlobals "within" = some (some (.ref Ze9)))
  (ZmP:W.nsIn K mainGlobals "asked_by" = some (some (.ref Zdk)))
  (ZnU:W.nsIn K mainGlobals "without" = some (some (.ref Zd8)))
  (ZmU:W.nsIn K mainGlobals "may_shut" = some (some (.ref Zdp)))
  (ZfQ:W.nsIn K mainGlobals "without_one_lamp" = some (some (.ref ZaX)))
  (ZnT:W.nsIn K mainGlobals "widened" = some (some (.ref Zd7)))
  (Zke:W.nsIn K mainGlobals "shut_stand" = some (some (.ref Zcn)))
  (Zqg:W.nsIn K mainGlobals "way_to" = some (some (.ref Ze8)))
  (Zfh:W.nsIn K mainGlobals "way_while_clearing" = some (some (.ref ZaJ)))
  (ZtV:W.nsIn K mainGlobals "grow" = some (some (.ref ZiR)))
  (ZtW:W.nsIn K mainGlobals "hunt" = some (some (.ref ZiS)))
  (ZmT:W.nsIn K mainGlobals "is_whole" = some (some (.ref Zdo)))
  (ZmS:W.nsIn K mainGlobals "is_crowd" = some (some (.ref Zdn)))
  (ZmR:W.nsIn K mainGlobals "is_chart" = some (some (.ref Zdm)))
  (Zij:W.nsIn K mainGlobals "_law_cell_at" = some (some (.ref ZbL)))
  (Zhl:W.nsIn K mainGlobals "_law_crowd_by" = some (some (.ref Zbs)))
  (Zhk:W.nsIn K mainGlobals "_law_after_by" = some (some (.ref Zbr)))
  (Zkb:W.nsIn K mainGlobals "_law_ahead" = some (some (.ref Zck)))
  (ZmO:W.nsIn K mainGlobals "_law_way" = some (some (.ref Zdj)))
  (Zla:W.nsIn K mainGlobals "_law_left" = some (some (.ref ZcC)))
  (ZnS:W.nsIn K mainGlobals "_law_in" = some (some (.ref Zd6)))
  (Zk9:W.nsIn K mainGlobals "_law_ends" = some (some (.ref ZcB)))
  (Zkc:W.nsIn K mainGlobals "_law_fence" = some (some (.ref Zcl)))
  (Zg5:W.nsIn K mainGlobals "_law_own_steps" = some (some (.ref Zbb)))
  (a_law:W.nsIn K mainGlobals "law" = some (some (.ref f_law)))
  (Zqe:W.nsIn K mainGlobals "Frames" = some (some (.ref Zag)))
  (ZsA:W.nsIn K mainGlobals "Chart" = some (some (.ref Zaz)))
  (ZnR:W.nsIn K mainGlobals "NotShut" = some (some (.ref Zbc)))
  (Zm8:W.isClsIn K Zbc=true)
  (Znm:W.mroIn K Zbc (.type "BaseException")=some true)
  (ZgK:W.excIn K Zbc [.type "ValueError",.type "Exception",.type "BaseException",.type "object"] "ValueError.__new__" = true)
  (ZnI:W.findIn K (.ref Zbc) "__getattribute__" = some (some (.builtin "BaseException.__getattribute__")))
  (ZnJ:W.findIn K (.ref Zbc) "__getattr__" = some none)
  (ZnH:W.findIn K (.ref Zbc) "__class__" = some (some (.builtin "object.__class__")))
  (ZnK:W.mroIn K Zbc (.type "object")=some true)
  (Zjn:W.findIn K (.ref Zag) "__init__" = some (some (.ref Zbz)))
  (Zjo:W.findIn K (.ref Zag) "last" = some (some (.ref ZbA)))
  (Zil:W.findIn K (.ref Zag) "check" = some (some (.ref Zbh)))
  (Zim:W.findIn K (.ref Zag) "crowd" = some (some (.ref Zbi)))
  (Zjm:W.findIn K (.ref Zag) "bars" = some (some (.ref Zby)))
  (Zkq:W.findIn K (.ref Zag) "own" = some (some (.ref ZbQ)))
  (Zjq:W.findIn K (.ref Zag) "shut" = some (some (.ref ZbC)))
  (Zgv:W.findIn K (.ref Zag) "take_out" = some (some (.ref ZaP)))
  (Zf0:W.findIn K (.ref Zag) "add_frame" = some (some (.ref ZaE)))
  (Zjp:W.findIn K (.ref Zag) "push" = some (some (.ref ZbB)))
  (Zin:W.findIn K (.ref Zag) "still" = some (some (.ref Zbj)))
  (Zkp:W.findIn K (.ref Zaz) "__init__" = some (some (.ref ZbP)))
  (Zik:W.findIn K (.ref Zaz) "behind" = some (some (.ref Zbg)))
  (ZkD:DF K ZeS "all_stands" "all_stands" Zcm)
  (Zs8:DF K ZlE "least" "least" Zgw)
  (ZqI:DF K ZjV "bar_of" "bar_of" Ze7)
  (Zne:DF K ZgG "crowd_of" "crowd_of" Zdl)
  (ZqK:DF K ZjX "within" "within" Ze9)
  (Znd:DF K Zfe "asked_by" "asked_by" Zdk)
  (ZoP:DF K Zh4 "without" "without" Zd8)
  (Zni:DF K ZgJ "may_shut" "may_shut" Zdp)
  (Zf8:DF K Zcx "without_one_lamp" "without_one_lamp" ZaX)
  (ZoO:DF K Zh3 "widened" "widened" Zd7)
  (ZkE:DF K ZeT "shut_stand" "shut_stand" Zcn)
  (ZqJ:DF K ZjW "way_to" "way_to" Ze8)
  (Zfj:DF K Zb3 "way_while_clearing" "way_while_clearing" ZaJ)
  (ZuH:DF K Zpu "grow" "grow" ZiR)
  (ZuI:DF K Zpv "hunt" "hunt" ZiS)
  (Znh:DF K ZgI "is_whole" "is_whole" Zdo)
  (Zng:DF K ZgH "is_crowd" "is_crowd" Zdn)
  (Znf:DF K Zff "is_chart" "is_chart" Zdm)
  (Ziw:DF K ZdV "_law_cell_at" "_law_cell_at" ZbL)
  (ZhD:DF K Zdz "_law_crowd_by" "_law_crowd_by" Zbs)
  (ZhC:DF K Zdy "_law_after_by" "_law_after_by" Zbr)
  (ZkB:DF K ZeR "_law_ahead" "_law_ahead" Zck)
  (Znc:DF K ZgF "_law_way" "_law_way" Zdj)
  (Zll:DF K ZfM "_law_left" "_law_left" ZcC)
  (ZoN:DF K Zh2 "_law_in" "_law_in" Zd6)
  (Zlk:DF K ZfL "_law_ends" "_law_ends" ZcB)
  (ZkC:DF K ZdO "_law_fence" "_law_fence" Zcl)
  (Zg8:DF K ZcX "_law_own_steps" "_law_own_steps" Zbb)
  (l_law:K.lookup f_law=some ⟨ZuQ,ZuR,.func (W.fnOf "law" "law" (ZfC Zg9) (Zek Zg9) (Zah Zg9) .none Zr3 Zrz Zsd Zru Zn4 Zry),Zvk⟩)
  (c_law:W.codeIn K Zn4 "law" = true)
  (k_law:W.keepIn K (.ref f_law)=true)
  (ZjB:DF K Zep "__init__" "Frames.__init__" Zbz)
  (Zjt:W.isFn K (.ref Zbz)=true)
  (ZjC:DF K Zeq "last" "Frames.last" ZbA)
  (Zju:W.isFn K (.ref ZbA)=true)
  (Zit:DF K ZdS "check" "Frames.check" Zbh)
  (Zip:W.isFn K (.ref Zbh)=true)
  (Ziu:DF K ZdT "crowd" "Frames.crowd" Zbi)
  (Ziq:W.isFn K (.ref Zbi)=true)
  (ZjA:DF K Zc9 "bars" "Frames.bars" Zby)
  (Zjs:W.isFn K (.ref Zby)=true)
  (ZkA:DF K ZdN "own" "Frames.own" ZbQ)
  (Zks:W.isFn K (.ref ZbQ)=true)
  (ZjE:DF K Zda "shut" "Frames.shut" ZbC)
  (Zjw:W.isFn K (.ref ZbC)=true)
  (Zgz:DF K ZcF "take_out" "Frames.take_out" ZaP)
  (Zgy:W.isFn K (.ref ZaP)=true)
  (Zf7:DF K Zcw "add_frame" "Frames.add_frame" ZaE)
  (Zf5:W.isFn K (.ref ZaE)=true)
  (ZjD:DF K Zer "push" "Frames.push" ZbB)
  (Zjv:W.isFn K (.ref ZbB)=true)
  (Ziv:DF K ZdU "still" "Frames.still" Zbj)
  (Zir:W.isFn K (.ref Zbj)=true)
  (Zkz:DF K ZeQ "__init__" "Chart.__init__" ZbP)
  (Zkr:W.isFn K (.ref ZbP)=true)
  (Zis:DF K ZdR "behind" "Chart.behind" Zbg)
  (Zio:W.isFn K (.ref Zbg)=true)
  (Zpd:W.plainGet K Zag Str.empty=true)
  (Zok:W.hasDictIn K Zag=true)
  (Zpe:W.plainOver K Zag=true)
  (Zpw:W.findIn K (.ref Zag) "__setattr__" = some (some (.builtin "object.__setattr__")))
  (ZoK:W.keepIn K (.ref Zag)=true)
  (ZoY:W.makesIn K Zag=true)
  (Za3:W.findIn K (.ref Zag) "base" = some none)
  (ZaH:W.findIn K (.ref Zag) "levels" = some none)
  (Zau:W.findIn K (.ref Zag) "crowds" = some none)
  (Zq6:W.plainGet K Zaz Str.empty=true)
  (Zqy:W.hasDictIn K Zaz=true)
  (Zra:W.plainOver K Zaz=true)
  (Zrj:W.findIn K (.ref Zaz) "__setattr__" = some (some (.builtin "object.__setattr__")))
  (ZqG:W.keepIn K (.ref Zaz)=true)
  (ZqT:W.makesIn K Zaz=true)
  (Za5:W.findIn K (.ref Zaz) "many" = some none)
  (Zbl:W.findIn K (.ref Zaz) "starts" = some none)
  (ZbR:W.findIn K (.ref Zaz) "bads" = some none)
  (Zcu:W.findIn K (.ref Zaz) "after" = some none)
  (b_len:W.nsIn K mainGlobals "len" = some none)
  (b_range:W.nsIn K mainGlobals "range" = some none)
  (b_isinstance:W.nsIn K mainGlobals "isinstance" = some none)
  (b_int:W.nsIn K mainGlobals "int" = some none)
  (b_bool:W.nsIn K mainGlobals "bool" = some none)
  (b_str:W.nsIn K mainGlobals "str" = some none)
  (b_list:W.nsIn K mainGlobals "list" = some none)
  (b_tuple:W.nsIn K mainGlobals "tuple" = some none)
  (b_dict:W.nsIn K mainGlobals "dict" = some none)
  (b_set:W.nsIn K mainGlobals "set" = some none)
  (b_sorted:W.nsIn K mainGlobals "sorted" = some none)
  (b_max:W.nsIn K mainGlobals "max" = some none)
  (b_min:W.nsIn K mainGlobals "min" = some none)
  (b_sum:W.nsIn K mainGlobals "sum" = some none)
  (b_any:W.nsIn K mainGlobals "any" = some none)
  (b_all:W.nsIn K mainGlobals "all" = some none)
  (b_abs:W.nsIn K mainGlobals "abs" = some none)
  (b_reversed:W.nsIn K mainGlobals "reversed" = some none)
  (b_enumerate:W.nsIn K mainGlobals "enumerate" = some none)
  (b_zip:W.nsIn K mainGlobals "zip" = some none)
  : ∃t:Ad,Txt K mg t:=by
 obtain⟨ZdJ,Zci⟩:=ZkD;obtain⟨Zjl,Zgm⟩:=Zs8;obtain⟨Zhc,ZeW⟩:=ZqI;obtain⟨Ze2,Zde⟩:=Zne;obtain⟨Zhe,ZeY⟩:=ZqK;obtain⟨Ze1,Zdd⟩:=Znd;obtain⟨ZfY,ZdZ⟩:=ZoP;obtain⟨Ze6,Zdi⟩:=Zni;obtain⟨ZbO,ZaW⟩:=Zf8;obtain⟨ZfX,ZdY⟩:=ZoO;obtain⟨ZdK,Zcj⟩:=ZkE;obtain⟨Zhd,ZeX⟩:=ZqJ;obtain⟨Zbm,ZaI⟩:=Zfj;obtain⟨ZlX,ZiG⟩:=ZuH;obtain⟨ZlY,ZiH⟩:=ZuI;obtain⟨Ze5,Zdh⟩:=Znh;obtain⟨Ze4,Zdg⟩:=Zng;obtain⟨Ze3,Zdf⟩:=Znf;obtain⟨ZcL,ZbK⟩:=Ziw;obtain⟨Zcs,Zbp⟩:=ZhD;obtain⟨Zcr,Zbo⟩:=ZhC;obtain⟨ZdH,Zcg⟩:=ZkB;obtain⟨Ze0,Zdc⟩:=Znc;obtain⟨Zej,ZcA⟩:=Zll;obtain⟨ZfW,ZdX⟩:=ZoN;obtain⟨Zei,Zcz⟩:=Zlk;obtain⟨ZdI,Zch⟩:=ZkC;obtain⟨Zb6,Za9⟩:=Zg8;obtain⟨Zc4,Zcp⟩:=ZjB;obtain⟨Zc5,ZbU⟩:=ZjC;obtain⟨ZcI,ZbH⟩:=Zit;obtain⟨ZcJ,ZbI⟩:=Ziu;obtain⟨Zc3,ZbT⟩:=ZjA;obtain⟨ZdG,Zcf⟩:=ZkA;obtain⟨Zc7,ZbW⟩:=ZjE;obtain⟨ZbY,Za6⟩:=Zgz;obtain⟨ZbN,ZaV⟩:=Zf7;obtain⟨Zc6,ZbV⟩:=ZjD;obtain⟨ZcK,ZbJ⟩:=Ziv;obtain⟨ZdF,ZcO⟩:=Zkz;obtain⟨ZcH,ZbG⟩:=Zis;refine⟨⟨Zcm,ZdJ,Zgw,Zjl,Ze7,Zhc,Zdl,Ze2,Ze9,Zhe,Zdk,Ze1,Zd8,ZfY,Zdp,Ze6,ZaX,ZbO,Zd7,ZfX,Zcn,ZdK,Ze8,Zhd,ZaJ,Zbm,ZiR,ZlX,ZiS,ZlY,Zdo,Ze5,Zdn,Ze4,Zdm,Ze3,ZbL,ZcL,Zbs,Zcs,Zbr,Zcr,Zck,ZdH,Zdj,Ze0,ZcC,Zej,Zd6,ZfW,ZcB,Zei,Zcl,ZdI,Zbb,Zb6,f_law,W.fnOf "law" "law" (ZfC Zg9) (Zek Zg9) (Zah Zg9) .none Zr3 Zrz Zsd Zru Zn4 Zry,Zbz,Zc4,ZbA,Zc5,Zbh,ZcI,Zbi,ZcJ,Zby,Zc3,ZbQ,ZdG,ZbC,Zc7,ZaP,ZbY,ZaE,ZbN,ZbB,Zc6,Zbj,ZcK,ZbP,ZdF,Zbg,ZcH,Zag,Zaz,Zbc⟩,?_⟩
 exact {
  Zci:=Zci,
  ZgP:=Zci.binds (ps:=["many"]) (by walk_at "b"),
  ZgX:=W.mg_of X G Zkd,
  Zgm:=Zgm,
  ZnX:=Zgm.binds (ps:=["crowd"]) (by walk_at "b"),
  ZoX:=W.mg_of X G ZsB,
  ZeW:=ZeW,
  ZlR:=ZeW.binds (ps:=["many","stand"]) (by walk_at "b"),
  Zmf:=W.mg_of X G Zqf,
  Zde:=Zde,
  ZiL:=Zde.binds (ps:=["many","bar"]) (by walk_at "b"),
  Zi0:=W.mg_of X G ZmQ,
  ZeY:=ZeY,
  ZlT:=ZeY.binds (ps:=["one","other"]) (by walk_at "b"),
  Zmh:=W.mg_of X G Zqh,
  Zdd:=Zdd,
  ZiK:=Zdd.binds (ps:=["bar"]) (by walk_at "b"),
  ZiZ:=W.mg_of X G ZmP,
  ZdZ:=ZdZ,
  Zkh:=ZdZ.binds (ps:=["bar","lamp"]) (by walk_at "b"),
  ZkJ:=W.mg_of X G ZnU,
  Zdi:=Zdi,
  ZiP:=Zdi.binds (ps:=["chart","held","bar"]) (by walk_at "b"),
  Zi4:=W.mg_of X G ZmU,
  ZaW:=ZaW,
  ZdE:=ZaW.binds (ps:=["chart","held","bar"]) (by walk_at "b"),
  ZdM:=W.mg_of X G ZfQ,
  ZdY:=ZdY,
  Zkg:=ZdY.binds (ps:=["chart","held","bar"]) (by walk_at "b"),
  ZkI:=W.mg_of X G ZnT,
  Zcj:=Zcj,
  ZgQ:=Zcj.binds (ps:=["chart","frames","diary","k","stand"]) (by walk_at "b"),
  ZgY:=W.mg_of X G Zke,
  ZeX:=ZeX,
  ZlS:=ZeX.binds (ps:=["chart","frames","diary","bad"]) (by walk_at "b"),
  Zmg:=W.mg_of X G Zqg,
  ZaI:=ZaI,
  ZcZ:=ZaI.binds (ps:=["chart","frames","diary"]) (by walk_at "b"),
  Zc0:=W.mg_of X G Zfh,
  ZiG:=ZiG,
  Zrv:=ZiG.binds (ps:=["frames","diary"]) (by walk_at "b"),
  Zr8:=W.mg_of X G ZtV,
  ZiH:=ZiH,
  Zrw:=ZiH.binds (ps:=["chart"]) (by walk_at "b"),
  Zr9:=W.mg_of X G ZtW,
  Zdh:=Zdh,
  ZiO:=Zdh.binds (ps:=["thing"]) (by walk_at "b"),
  Zi3:=W.mg_of X G ZmT,
  Zdg:=Zdg,
  ZiN:=Zdg.binds (ps:=["thing","many"]) (by walk_at "b"),
  Zi2:=W.mg_of X G ZmS,
  Zdf:=Zdf,
  ZiM:=Zdf.binds (ps:=["many","starts","bads","after"]) (by walk_at "b"),
  Zi1:=W.mg_of X G ZmR,
  ZbK:=ZbK,
  Zfp:=ZbK.binds (ps:=["_law_script","_law_k"]) (by walk_at "b"),
  Zfu:=W.mg_of X G Zij,
  Zbp:=Zbp,
  ZeB:=Zbp.binds (ps:=["_law_cell","_law_size"]) (by walk_at "b"),
  ZeI:=W.mg_of X G Zhl,
  Zbo:=Zbo,
  ZeA:=Zbo.binds (ps:=["_law_script","_law_many"]) (by walk_at "b"),
  ZeH:=W.mg_of X G Zhk,
  Zcg:=Zcg,
  ZgN:=Zcg.binds (ps:=["_law_after","_law_crowd"]) (by walk_at "b"),
  ZgV:=W.mg_of X G Zkb,
  Zdc:=Zdc,
  ZiJ:=Zdc.binds (ps:=["_law_way_here","_law_starts","_law_bads","_law_after","_law_steps"]) (by walk_at "b"),
  ZiY:=W.mg_of X G ZmO,
  ZcA:=ZcA,
  Zhq:=ZcA.binds (ps:=["_law_size","_law_bars"]) (by walk_at "b"),
  ZhM:=W.mg_of X G Zla,
  ZdX:=ZdX,
  Zkf:=ZdX.binds (ps:=["_law_one","_law_other"]) (by walk_at "b"),
  ZkH:=W.mg_of X G ZnS,
  Zcz:=Zcz,
  Zhp:=Zcz.binds (ps:=["_law_diary"]) (by walk_at "b"),
  ZhL:=W.mg_of X G Zk9,
  Zch:=Zch,
  ZgO:=Zch.binds (ps:=["_law_bars","_law_diary","_law_starts","_law_bads","_law_after"]) (by walk_at "b"),
  ZgW:=W.mg_of X G Zkc,
  Za9:=Za9,
  Zet:=Za9.binds (ps:=["_law_script","_law_size"]) (by walk_at "b"),
  Zev:=W.mg_of X G Zg5,
  F_law:=ZrB (st:=Zg9) l_law c_law k_law,
  m_law:=W.mg_of X G a_law,
  Zcp:=Zcp,
  ZfS:=Zcp.binds (ps:=["self","chart"]) (by walk_at "b"),
  ZbU:=ZbU,
  ZfT:=ZbU.binds (ps:=["self"]) (by walk_at "b"),
  ZbH:=ZbH,
  Zfm:=ZbH.binds (ps:=["self","k","first"]) (by walk_at "b"),
  ZbI:=ZbI,
  Zfn:=ZbI.binds (ps:=["self","k"]) (by walk_at "b"),
  ZbT:=ZbT,
  ZfR:=ZbT.binds (ps:=["self","k"]) (by walk_at "b"),
  Zcf:=Zcf,
  ZgM:=Zcf.binds (ps:=["self","k"]) (by walk_at "b"),
  ZbW:=ZbW,
  ZfV:=ZbW.binds (ps:=["self","k","bar"]) (by walk_at "b"),
  Za6:=Za6,
  Zd3:=Za6.binds (ps:=["self","number","bar"]) (by walk_at "b"),
  ZaV:=ZaV,
  ZdD:=ZaV.binds (ps:=["self"]) (by walk_at "b"),
  ZbV:=ZbV,
  ZfU:=ZbV.binds (ps:=["self"]) (by walk_at "b"),
  ZbJ:=ZbJ,
  Zfo:=ZbJ.binds (ps:=["self"]) (by walk_at "b"),
  ZcO:=ZcO,
  ZgL:=ZcO.binds (ps:=["self","many","starts","bads","after"]) (by walk_at "b"),
  ZbG:=ZbG,
  Zfl:=ZbG.binds (ps:=["self","crowd"]) (by walk_at "b"),
  Zme:=W.mg_of X G Zqe,
  Zat:=⟨Zpd,Zok,Zpe,Zpw⟩,
  Zl9:=⟨ZoY,Zjn,Zjt,ZoK⟩,
  Za3:=Za3,
  ZaH:=ZaH,
  Zau:=Zau,
  Zf2:=⟨Zjo,Zju,ZbU.kp⟩,
  Zfr:=⟨Zil,Zip,ZbH.kp⟩,
  Zfs:=⟨Zim,Ziq,ZbI.kp⟩,
  Zf1:=⟨Zjm,Zjs,ZbT.kp⟩,
  ZgS:=⟨Zkq,Zks,Zcf.kp⟩,
  Zf4:=⟨Zjq,Zjw,ZbW.kp⟩,
  Zd9:=⟨Zgv,Zgy,Za6.kp⟩,
  ZdL:=⟨Zf0,Zf5,ZaV.kp⟩,
  Zf3:=⟨Zjp,Zjv,ZbV.kp⟩,
  Zft:=⟨Zin,Zir,ZbJ.kp⟩,
  ZoW:=W.mg_of X G ZsA,
  Zbx:=⟨Zq6,Zqy,Zra,Zrj⟩,
  ZoJ:=⟨ZqT,Zkp,Zkr,ZqG⟩,
  Za5:=Za5,
  Zbl:=Zbl,
  ZbR:=ZbR,
  Zcu:=Zcu,
  Zfq:=⟨Zik,Zio,ZbG.kp⟩,
  ZhK:=W.mg_of X G ZnR,
  ZhZ:=⟨ZgK,Zm8,ZnI,ZnJ,ZnH,Znm,ZnK⟩,
  bl:=fun s u=>.of_eq rfl,
  B:=⟨W.mg_none_of X G b_len,W.mg_none_of X G b_range,W.mg_none_of X G b_isinstance,W.mg_none_of X G b_int,W.mg_none_of X G b_bool,W.mg_none_of X G b_str,W.mg_none_of X G b_list,W.mg_none_of X G b_tuple,W.mg_none_of X G b_dict,W.mg_none_of X G b_set,W.mg_none_of X G b_sorted,W.mg_none_of X G b_max,W.mg_none_of X G b_min,W.mg_none_of X G b_sum,W.mg_none_of X G b_any,W.mg_none_of X G b_all,W.mg_none_of X G b_abs,W.mg_none_of X G b_reversed,W.mg_none_of X G b_enumerate,W.mg_none_of X G b_zip⟩ }
theorem Za1 (x y:Nat):Builtin.bitAnd (x:Int) (y:Int)=((x &&& y:Nat):Int):=by simp[Builtin.bitAnd]
theorem Zlv (x:Int):Builtin.bitNot (Builtin.bitNot x)=x:=by unfold Builtin.bitNot; omega
theorem Zi5 (x y:Nat):Builtin.bitOr (x:Int) (y:Int)=((x ||| y:Nat):Int):=by
 show Builtin.bitNot (Builtin.bitAnd (Builtin.bitNot x) (Builtin.bitNot y))=_;rw[PyProof.Rows.bitAnd_nn (by unfold Builtin.bitNot; omega) (by unfold Builtin.bitNot; omega),Zlv,Zlv,Zlv];simp
def cell (ns:List Int) (k:Nat):Int:=ns.getD k 0
def spLaw (K:W.Frag):Sp:=fun vs H Q _=>∃(a:Addr) (ns:List Int),vs=[.ref a]∧SqL K H a (ns.map V.int)∧ns.length≤63∧Only H∧∀H',Q (.bl true) H'
def Zvp (K:W.Frag):Sp:=fun vs H Q _=>∃(a:Addr) (ns:List Int) (k:Nat),vs=[.ref a,.int (k:Int)]∧SqL K H a (ns.map V.int)∧Q (.int (cell ns k % 10 ^ 60)) H
section
variable {P:Program} {w:World} {K:W.Frag} {mg:Str→Option Value} {base:Heap} {t:Ad}
theorem ZgC (T:Txt K mg t):FnS P w K mg base 1 "_law_cell_at" ["_law_script","_law_k"] ((Zvp K)):=by
 refine⟨_,_,T.ZbK.ok Zh7 (fun vs H Q E h=>?_) (fun _ _ _ _ H vs Q E hr h=>?_),T.Zfp,T.ZbK.kp,T.Zfu⟩
 ·obtain⟨a,ns,k,rfl,hS,q⟩:=h
  rfl
 obtain⟨a,ns,k,rfl,hS,q⟩:=h
 refine⟨_,(Zab (Za0 (Zan Znq (pv 1) (Zaw Zbq rfl T.B.len Zd4 (Zaa (pv 0) Zae)) (Zap _))
   (Zad (Zas (Zaf Zbw (ZaQ Zav (pv 0) (pv 1) (fun _ _=>rfl)) (Zaf Zu1 Zac Zac))))
   Zar)
   (Zad (Zas Zac))),?_⟩
 walk_at "rd0";refine ZdA (fun h=>?_) (fun h=>?_)
 ·rw[length_map]at h
  have hk:k < ns.length:=by omega
  walk_at "";refine ZvR (j:=k) (v:=.int (cell ns k)) hS ?_ ?_
  ·rw[getElem?_map,List.getElem?_eq_getElem hk]
   simp[cell,getD_eq_getElem?_getD,List.getElem?_eq_getElem hk]
  walk_at "";refine i_rI (by decide) ?_;exact q
 ·rw[length_map]at h
  walk_at ""
  have e:cell ns k=0:=by
   simp only [cell,getD_eq_getElem?_getD];rw[List.getElem?_eq_none (by omega)];rfl
  rw[e]at q;exact q
end
theorem Zax {α β:Type} {F G:α→β→Prop} (h:∀a b,F a b→G a b):∀{xs:List α} {ys:List β},Paired F xs ys→Paired G xs ys
 | _,_,.nil=>.nil
 | _,_,.cons r s=>.cons (h _ _ r) (Zax h s)
theorem ZbM {α β:Type} {F:α→β→Prop}:∀{xs:List α} {ys:List β} {i:Nat} {x:α},Paired F xs ys→xs[i]?=some x→∃y,ys[i]?=some y∧F x y
 | _,_,_,_,.nil,e=>by simp at e
 | _,_,0,_,.cons r _,e=>by simp at e; subst e; exact⟨_,rfl,r⟩
 | _,_,i+1,x,.cons _ s,e=>by
  obtain⟨u,h1,h2⟩:=ZbM (i:=i) (x:=x) s (by simpa using e);exact⟨u,by simpa using h1,h2⟩
theorem Zc8 {α β:Type} {F:α→β→Prop}:∀{xs xs':List α} {ys ys':List β},Paired F xs ys→Paired F xs' ys'→Paired F (xs++xs') (ys++ys')
 | _,_,_,_,.nil,s=>s
 | _,_,_,_,.cons r q,s=>.cons r (Zc8 q s)
theorem ZaC {α β:Type} {F:α→β→Prop} {xs:List α} {ys:List β} (h:Paired F xs ys):xs.length=ys.length:=Paired.length h
theorem ZeF {ps:List Addr} {i:Nat} {x:V} (h:(ps.map V.ref)[i]?=some x):∃p,x=V.ref p∧ps[i]?=some p:=by
 rw[getElem?_map]at h
 cases e:ps[i]? with
 | none=>rw[e]at h; cases h
 | some p=>rw[e]at h; exact⟨p,(Option.some.inj h).symm,rfl⟩
theorem Zbe {α:Type} {l:List α} {i:Nat} {x:α} (h:l[i]?=some x):l.take (i+1)=l.take i++[x]:=by
 rw[List.take_add_one,h]; rfl
def ZaO (H:Hp) (p:Addr) (b:Bar):Prop:=H p=some (.tup [.int (b.1:Int),.int (b.2:Int)])
def ib (b:Bar):Int×Int:=((b.1:Int),(b.2:Int))
theorem Zfc {H:Hp}:∀{ps:List Addr} {bs:List Bar},Paired (ZaO H) ps bs→Paired (Zes H) ps (bs.map ib)
 | _,_,.nil=>.nil
 | _,_,.cons r q=>.cons r (Zfc q)
theorem ZjG (s k:Nat):Builtin.bitAnd ((s:Int) / 2 ^ ((k:Int)).toNat) 1=if s.testBit k=true then 1 else 0:=by
 have e:((s:Int) / 2 ^ ((k:Int)).toNat)=((s / 2 ^ k:Nat):Int):=by simp
 rw[e,show(1:Int)=((1:Nat):Int) from rfl,Za1,Nat.and_one_is_mod,Zta]
 by_cases h:s / 2 ^ k % 2=1
 ·rw[decide_eq_true h,if_pos rfl,h]
 ·rw[decide_eq_false h,if_neg Bool.false_ne_true]
  have:s / 2 ^ k % 2=0:=by omega
  rw[this]; rfl
theorem ZoT (s k:Nat):decide (Builtin.bitAnd ((s:Int) / 2 ^ ((k:Int)).toNat) 1=1)=s.testBit k:=by
 rw[ZjG]
 cases s.testBit k <;> rfl
theorem Zhy {n i:Nat} {lo:Int} {x:V} (h:((List.range n).map fun i:Nat=>V.int (lo+(i:Int)))[i]?=some x):i < n∧x=.int (lo+(i:Int)):=by
 rw[getElem?_map]at h
 by_cases hi:i < n
 ·rw[List.getElem?_range hi]at h
  exact⟨hi,(Option.some.inj h).symm⟩
 ·rw[List.getElem?_eq_none (by rw[length_range]; omega)]at h
  cases h
theorem Zbt {m:Nat} (h:m≤6):(2:Nat) ^ m≤64:=Nat.le_trans (Nat.pow_le_pow_right (by decide) h) (by decide)
theorem ZaZ (m:Nat):(1:Int) * 2 ^ ((m:Int)).toNat=((2 ^ m:Nat):Int):=by
 simp
theorem Zu2 {f:Nat→Bool} {n:Nat} (h:f n=true):Builtin.bitOr ((bits f n:Nat):Int) (1 * 2 ^ ((n:Int)).toNat)=((bits f (n+1):Nat):Int):=by
 rw[ZaZ,Zi5,Zld f n h]
theorem Zba (x y:Nat):Builtin.bitAnd (x:Int) (Builtin.bitNot (y:Int))=((x - (x &&& y):Nat):Int):=by
 rw[PyProof.Rows.bitAnd_not,Za1];have:=Nat.and_le_left (n:=x) (m:=y);omega
def nums (l:List Nat):List Int:=l.map fun k:Nat=>(k:Int)
theorem ZmZ {ix:List Nat} {tc:TT} {te:TE} {σ:St} {H:Hp} {Q:VK} {n:Nat} (p:Nat→Bool) (hz:n≤1000000)
  (ht:∀(i:Nat) (H':Hp),i < n→Same H H'→∀R:Bool→Hp→Prop,(∀H2,Same H' H2→R (p i) H2)→tc (some (.int (i:Int))::subS σ ix) H' R)
  (he:∀(i:Nat) (H':Hp),i < n→Same H H'→∀R2:V→Hp→Prop,(∀H3,Same H' H3→R2 (.int (i:Int)) H3)→te (some (.int (i:Int))::subS σ ix) H' R2)
  (hd:∀(acc:Addr) (H':Hp),H acc=none→Same H H'→H' acc=some (.lst ((nums ((List.range n).filter p)).map V.int))→Q (.ref acc) H'):Zih (Itr 0 n) ix tc te σ Q H:=by
 refine ZfB (fun i ys=>ys=(nums ((List.range i).filter p)).map V.int) (Zj5 0 n H) (by rw[length_map,length_range]; exact hz) rfl ?_ ?_
 ·intro i x ys acc H' hx s1 hacc ea hy _ R k
  obtain⟨hi,rfl⟩:=Zhy hx;rw[Int.zero_add];rw[Int.zero_add]at k;refine ht i H' hi s1 R fun H2 s2=>k (p i) H2 s2 (fun z=>?_) fun z R2 k2=>?_
  ·rw[Zhv,z,if_neg Bool.false_ne_true,append_nil]; exact hy
  ·refine he i H2 hi (s1.trans s2) R2 fun H3 s3=>k2 _ H3 s3 ?_
   rw[Zhv,z,if_pos rfl,hy];unfold nums;rw[map_append,map_append];rfl
 ·intro acc ys H' n1 s1 e1 hy
  rw[length_map,length_range]at hy;subst hy;exact hd acc H' n1 s1 e1
def orUp (f:Nat→Nat):Nat→Nat
 | 0=>0
 | n+1=>orUp f n ||| f n
def ahN (af:List Nat) (s:Nat):Nat:=orUp (fun k=>if s.testBit k=true then af.getD k 0 else 0) af.length
def behN (af:List Nat) (s:Nat):Nat:=bits (fun k=>decide (af.getD k 0 &&& s≠0)) af.length
theorem Zo7 {f:Nat→Nat} {n:Nat} (h:f n=0):orUp f (n+1)=orUp f n:=by
 show orUp f n ||| f n=orUp f n
 rw[h,Nat.or_zero]
theorem Za2 {af:List Nat} {i:Nat} (h:i < af.length):((nums af).map V.int)[i]?=some (.int ((af.getD i 0:Nat):Int)):=by
 unfold nums;rw[getElem?_map,getElem?_map,getD_eq_getElem?_getD,List.getElem?_eq_getElem h];rfl
theorem ZaG (af:List Nat):((nums af).map V.int).length=af.length:=by unfold nums; rw[length_map,length_map]
theorem ZcS (af:List Nat) (x:Nat):(nums (af++[x])).map V.int=(nums af).map V.int++[V.int (x:Int)]:=by unfold nums; rw[map_append,map_append]; rfl
theorem ZeN {a b:Nat} (h:a < b):2 ^ a < 2 ^ b:=Nat.pow_lt_pow_right (by decide) h
theorem Zo6 {f:Nat→Nat} {B:Nat} (h:∀k,f k < 2 ^ B):∀n,orUp f n < 2 ^ B
 | 0=>Nat.two_pow_pos B
 | n+1=>Nat.or_lt_two_pow (Zo6 h n) (h n)
theorem ZtY {af:List Nat} {B:Nat} (h:∀x∈af,x < 2 ^ B) (c:Nat):ahN af c < 2 ^ B:=by
 unfold ahN;apply Zo6;intro k
 by_cases e:c.testBit k=true
 ·rw[if_pos e,getD_eq_getElem?_getD]
  cases z:af[k]? with
  | none=>exact Nat.two_pow_pos B
  | some x=>exact h x (mem_of_getElem? z)
 ·rw[if_neg e]; exact Nat.two_pow_pos B
def Zv8 (af:List Nat) (c:Nat):Nat:=c ||| ahN af c
def layN (af:List Nat) (st:Nat):Nat→Nat
 | 0=>st
 | i+1=>Zv8 af (layN af st i)
theorem ZoQ {af:List Nat} {B st:Nat} (h:∀x∈af,x < 2 ^ B) (hs:st < 2 ^ B):∀i,layN af st i < 2 ^ B
 | 0=>hs
 | i+1=>Nat.or_lt_two_pow (ZoQ h hs i) (ZtY h _)
def pc (c:Nat):Nat→Nat
 | 0=>0
 | n+1=>pc c n+(if c.testBit n=true then 1 else 0)
theorem ZlC (c:Nat):∀n,pc c n≤n
 | 0=>Nat.le_refl _
 | n+1=>by
  show pc c n+(if c.testBit n=true then 1 else 0)≤n+1;have:=ZlC c n
  split <;> omega
theorem ZjO {c d:Nat} (h:∀k,c.testBit k=true→d.testBit k=true):∀n,pc c n≤pc d n
 | 0=>Nat.le_refl _
 | n+1=>by
  show pc c n+(if c.testBit n=true then 1 else 0)≤pc d n+(if d.testBit n=true then 1 else 0);have:=ZjO h n
  by_cases e:c.testBit n=true
  ·rw[if_pos e,if_pos (h n e)]; omega
  ·rw[if_neg e]; split <;> omega
theorem Zq1 {c d k:Nat} (h:∀k,c.testBit k=true→d.testBit k=true) (h1:c.testBit k=false) (h2:d.testBit k=true):∀n,k < n→pc c n < pc d n
 | 0,hk=>absurd hk (Nat.not_lt_zero _)
 | n+1,hk=>by
  show pc c n+(if c.testBit n=true then 1 else 0) < pc d n+(if d.testBit n=true then 1 else 0)
  by_cases e:k=n
  ·subst e
   have:=ZjO h k;rw[h1,h2,if_neg Bool.false_ne_true,if_pos rfl]; omega
  ·have:=Zq1 h h1 h2 n (by omega)
   by_cases e:c.testBit n=true
   ·rw[if_pos e,if_pos (h n e)]; omega
   ·rw[if_neg e]; split <;> omega
theorem Zqj {α:Type} {xs:List α} {x:α} {n:Nat} (hl:xs.length=n+1) (h:xs[n]?=some x):atI xs (-1)=some x:=by
 unfold atI ixN;rw[if_neg (by decide),if_pos (by omega),hl]
 have e:((-1:Int)+((n+1:Nat):Int)).toNat=n:=by omega
 show xs[((-1:Int)+((n+1:Nat):Int)).toNat]?=some x;rw[e];exact h
theorem ZoZ:∀c:Nat,0 < c→∃k q,c=2 ^ k * (2 * q+1):=fun c=>by
 induction c using Nat.strongRecOn with
 | _ c ih=>
  intro h
  by_cases e:c % 2=1
  ·exact⟨0,c / 2,by omega⟩
  ·obtain⟨k,q,hk⟩:=ih (c / 2) (by omega) (by omega)
   refine⟨k+1,q,?_⟩
   have:c=2 * (c / 2):=by omega
   rw[this,hk,Nat.pow_succ,Nat.mul_comm (2 ^ k) 2,Nat.mul_assoc]
theorem Zib (k q j:Nat):(2 ^ k * (2 * q+1)).testBit j=if j < k then false else(2 * q+1).testBit (j - k):=by
 have:=Nat.testBit_two_pow_mul_add (2 * q+1) (Nat.two_pow_pos k) j;rw[Nat.add_zero]at this;rw[this,Nat.zero_testBit]
theorem ZnA (k q j:Nat):(2 ^ k * (2 * q+1) - 1).testBit j=if j < k then true else(2 * q).testBit (j - k):=by
 have e:2 ^ k * (2 * q+1) - 1=2 ^ k * (2 * q)+(2 ^ k - 1):=by
  have:=Nat.two_pow_pos k;rw[Nat.mul_add,Nat.mul_one]; omega
 have h:2 ^ k - 1 < 2 ^ k:=by have:=Nat.two_pow_pos k; omega
 rw[e,Nat.testBit_two_pow_mul_add (2 * q) h j,Nat.testBit_two_pow_sub_one]
 by_cases hj:j < k
 ·rw[if_pos hj,if_pos hj,decide_eq_true hj]
 ·rw[if_neg hj,if_neg hj]
theorem Zr6 (k q:Nat):2 ^ k * (2 * q+1) - (2 ^ k * (2 * q+1) &&& (2 ^ k * (2 * q+1) - 1))=2 ^ k:=by
 apply Nat.eq_of_testBit_eq;intro j;rw[ZaA,Zib,ZnA,Nat.testBit_two_pow]
 by_cases hj:j < k
 ·rw[if_pos hj,if_pos hj,decide_eq_false (by omega)]; rfl
 ·rw[if_neg hj,if_neg hj]
  by_cases e:j=k
  ·subst e
   rw[Nat.sub_self,decide_eq_true rfl,Nat.testBit_zero,Nat.testBit_zero];simp
  ·rw[decide_eq_false (fun z=>e z.symm)]
   obtain⟨i,hi⟩ : ∃i,j - k=i+1:=⟨j - k - 1,by omega⟩;rw[hi,Nat.testBit_succ,Nat.testBit_succ,show(2 * q+1) / 2=q by omega,show 2 * q / 2=q by omega]
   cases q.testBit i <;> rfl
def lowN (c:Nat):Nat:=(c - (c &&& (c - 1))).log2
theorem Zga {c:Nat} (h:0 < c):c.testBit (lowN c)=true∧(∀j,j < lowN c→c.testBit j=false)∧c - (c &&& (c - 1))=2 ^ lowN c:=by
 obtain⟨k,q,rfl⟩:=ZoZ c h
 have e:lowN (2 ^ k * (2 * q+1))=k:=by unfold lowN; rw[Zr6,Nat.log2_two_pow]
 rw[e];refine⟨?_,fun j hj=>?_,Zr6 k q⟩
 ·rw[Zib,if_neg (Nat.lt_irrefl _),Nat.sub_self,Nat.testBit_zero]; simp
 ·rw[Zib,if_pos hj]
theorem Ztc {c:Nat} (h:0 < c):((Builtin.Int.intBits (Builtin.bitAnd (c:Int) (-(c:Int))):Nat):Int) - 1=((lowN c:Nat):Int):=by
 have e : -(c:Int)=Builtin.bitNot ((c - 1:Nat):Int):=by unfold Builtin.bitNot; omega
 rw[e,Zba,(Zga h).2.2];unfold Builtin.Int.intBits;have hp:0 < 2 ^ lowN c:=Nat.two_pow_pos _
 have hne:((((2 ^ lowN c:Nat):Int)) == 0)=false:=by rw[beq_eq_false_iff_ne]; omega
 rw[hne,if_neg Bool.false_ne_true,Int.natAbs_natCast,Nat.log2_two_pow];omega
section
variable {P:Program} {w:World} {K:W.Frag} {mg:Str→Option Value} {base:Heap} {t:Ad}
def ZlL:Sp:=fun vs H Q _=>∃(m:Nat),vs=[.int (m:Int)]∧m≤6∧Q (.int ((2 ^ 2 ^ m - 1:Nat):Int)) H
theorem Zem (T:Txt K mg t):FnS P w K mg base 1 "all_stands" ["many"] (ZlL):=by
 refine⟨_,_,T.Zci.ok Zj0 (fun vs H Q E h=>?_) (fun _ _ _ _ H vs Q E hr h=>?_),T.ZgP,T.Zci.kp,T.ZgX⟩
 ·obtain⟨m,rfl,hm,q⟩:=h
  rfl
 obtain⟨m,rfl,hm,q⟩:=h;have hp:=Zbt hm;have hp0:=Int.natCast_nonneg (2 ^ m);refine⟨_,(Zad (Zas (Zaf Zea (Zaf ZbF Zac (Zaf ZbF Zac (pv 0))) Zac))),?_⟩;walk_at "rd0";rw[ZaZ];refine i_rI ⟨by omega,by omega,by decide⟩ ?_;walk_at "";rw[ZaZ];have:1≤2 ^ 2 ^ m:=Nat.one_le_two_pow
 have e:((2 ^ 2 ^ m:Nat):Int) - 1=((2 ^ 2 ^ m - 1:Nat):Int):=by omega
 rw[e];exact q
structure GoodC (m st bd:Nat) (af:List Nat):Prop where
 m1:1≤m
 m6:m≤6
 st:st < 2 ^ 2 ^ m
 bd:bd < 2 ^ 2 ^ m
 ln:af.length=2 ^ m
 af:∀x∈af,x < 2 ^ 2 ^ m
def ZtG:Sp:=fun vs H Q _=>∃n:Int,vs=[.int n]∧Q (.bl true) H
theorem ZhS (T:Txt K mg t):FnS P w K mg base 1 "is_whole" ["thing"] (ZtG):=by
 refine⟨_,_,T.Zdh.ok ZlJ (fun vs H Q E h=>?_) (fun _ _ _ _ H vs Q E hr h=>?_),T.ZiO,T.Zdh.kp,T.Zi3⟩
 ·obtain⟨n,rfl,q⟩:=h
  rfl
 obtain⟨n,rfl,q⟩:=h;refine⟨_,(Zad (Zas (Zg0 (Zaw Zcq rfl T.B.isinstance ZaD (Zaa (pv 0) (Zaa (Zdx (v:=.ty "int") rfl T.B.int Zrx rfl) Zae))) (ZhV (Ztp (Zaw Zcq rfl T.B.isinstance ZaD (Zaa (pv 0) (Zaa (Zdx (v:=.ty "bool") rfl T.B.bool Zje rfl) Zae)))))))),?_⟩;walk_at "rd0";refine Zca rfl ?_;walk_at "";exact q
def ZpN:Sp:=fun vs H Q _=>∃(n m:Nat),vs=[.int (n:Int),.int (m:Int)]∧m≤6∧n < 2 ^ 2 ^ m∧Q (.bl true) H
theorem ZlA (T:Txt K mg t):FnS P w K mg base 2 "is_crowd" ["thing","many"] (ZpN):=by
 refine⟨_,_,T.Zdg.ok ZlI (fun vs H Q E h=>?_) (fun _ _ _ _ H vs Q E hr h=>?_),T.ZiN,T.Zdg.kp,T.Zi2⟩
 ·obtain⟨n,m,rfl,hm,hn,q⟩:=h
  rfl
 obtain⟨n,m,rfl,hm,hn,q⟩:=h;have Zgo:=ZhS (P:=P) (w:=w) (base:=base) T;have ZcP:=Zem (P:=P) (w:=w) (base:=base) T;refine⟨_,(Zad (Zas (Zg0 (ZaY Zgo hr (Zaa (pv 0) Zae)) (ZhV (Zq2 ZqZ ZqZ Zac (pv 0) (ZaY ZcP hr (Zaa (pv 1) Zae))))))),?_⟩;walk_at "rd0";refine⟨_,rfl,?_⟩;walk_at "";refine Zca rfl ?_;walk_at "";refine Zca (decide_eq_true (by omega)) ?_;walk_at "";refine⟨m,rfl,hm,?_⟩;walk_at "";have e:decide ((n:Int)≤((2 ^ 2 ^ m - 1:Nat):Int))=true:=decide_eq_true (by omega);rw[e];exact q
def ZpM:Sp:=fun vs H Q _=>∃(m st bd:Nat) (l:Addr) (af:List Nat),vs=[.int (m:Int),.int (st:Int),.int (bd:Int),.ref l]∧H l=some (.lst ((nums af).map V.int))∧GoodC m st bd af∧∀H',Same H H'→Q (.bl true) H'
theorem Zlz (T:Txt K mg t):FnS P w K mg base 3 "is_chart" ["many","starts","bads","after"] (ZpM):=by
 refine⟨_,_,T.Zdf.ok ZlH (fun vs H Q E h=>?_) (fun _ _ _ _ H vs Q E hr h=>?_),T.ZiM,T.Zdf.kp,T.Zi1⟩
 ·obtain⟨m,st,bd,l,af,rfl,hl,g,q⟩:=h
  rfl
 obtain⟨m,st,bd,l,af,rfl,hl,g,q⟩:=h;have Zgo:=ZhS (P:=P) (w:=w) (base:=base) T;have Zgn:=ZlA (P:=P) (w:=w) (base:=base) T;have hp:=Zbt g.m6;have m1:=g.m1;have m6:=g.m6;have ln:=g.ln
 refine⟨_,(Zab (Za0 (PW.pt (Zge (Zc1 (Zay (ZaY Zgo hr (Zaa (pv 0) Zae)) (fun _=>rfl))) (Zge (Zan Znq (pv 0) Zac (Zap _)) (ZeO (Zan Zo5 (pv 0) Zac (Zap _))))))
   (Zad (Zas ZhT))
   Zar)
   (Zab (Za0 (PW.pt (Zge (Zc1 (Zay (ZaY Zgn hr (Zaa (pv 1) (Zaa (pv 0) Zae))) (fun _=>rfl))) (ZeO (Zc1 (Zay (ZaY Zgn hr (Zaa (pv 2) (Zaa (pv 0) Zae))) (fun _=>rfl))))))
   (Zad (Zas ZhT))
   Zar)
   (Zab (Za0 (PW.pt (Zge (Zc1 (Zay (Zaw Zcq rfl T.B.isinstance ZaD (Zaa (pv 3) (Zaa (Zdx (v:=.ty "list") rfl T.B.list Zgs rfl) Zae))) (fun _=>rfl))) (ZeO (Zan (ZgZ hr.units) (Zaw Zbq rfl T.B.len Zd4 (Zaa (pv 3) Zae)) (Zaf ZbF Zac (pv 0)) (Zap _)))))
   (Zad (Zas ZhT))
   Zar)
   (Zad (Zas (Zaw (Zn0 rfl) rfl T.B.all Zt2 (Zaa (ZfK (sc:=Zah Zff) (N:=["many","starts","bads","after"]) (ns:=["many"]) (ix:=[0]) rfl rfl (by decide +kernel) rfl (Zfx (pv 3)) (fun _ _ _ _=>ZjT) (fun _ _ _ _=>(ZaY Zgn hr (Zaa (pv 0) (Zaa (pv 1) Zae))))) Zae))))))),?_⟩
 walk_at "rd0";refine⟨_,rfl,?_⟩;walk_at "";refine ZaF rfl ?_;walk_at "";refine ZaF (decide_eq_false (by omega)) ?_;walk_at "";refine ZaF (decide_eq_false (by omega)) ?_;walk_at "";refine⟨_,_,rfl,m6,g.st,?_⟩;walk_at "";refine ZaF rfl ?_;walk_at "";refine⟨_,_,rfl,m6,g.bd,?_⟩;walk_at "";refine ZaF rfl ?_;walk_at "";refine ZaF rfl ?_;walk_at "";rw[ZaG,ZaZ,ln];refine ZaF (by simp) ?_;walk_at "";refine .inl ⟨l,_,rfl,SqL.of hl,?_⟩;refine ZfB (fun i ys=>ys=(List.replicate i true).map V.bl) (ZlN (SqL.of hl)) (by rw[ZaG]; omega) rfl ?_ ?_
 ·intro i x ys acc H' hx s1 hacc ea hy _ R k
  obtain⟨n,rfl,hn⟩ : ∃n:Nat,x=.int (n:Int)∧n∈af:=by
   unfold nums at hx;rw[getElem?_map,getElem?_map]at hx
   cases e:af[i]? with
   | none=>rw[e]at hx; cases hx
   | some n=>rw[e]at hx; exact⟨n,(Option.some.inj hx).symm,mem_of_getElem? e⟩
  simp only [subS,map_cons,map_nil];walk_at "";refine k _ H' (Same.refl _) (fun z=>by cases z) fun z R2 k2=>?_;walk_at "";refine⟨_,_,rfl,m6,g.af n hn,?_⟩;refine k2 _ H' (Same.refl _) ?_;rw[hy,List.replicate_succ',map_append];rfl
 ·intro acc ys H' n1 s1 e1 hy
  subst hy;walk_at "";refine ZvO (SqL.of e1) ?_
  have e:(List.replicate ((nums af).map V.int).length true).all id=true:=by
   rw[all_eq_true];intro x hx;rw[(List.mem_replicate.mp hx).2]; rfl
  rw[e];exact q H' s1
def ZeC (m st bd:Int) (tp:Addr):List (Str×V):=putF "after" (.ref tp) (putF "bads" (.int bd) (putF "starts" (.int st) (putF "many" (.int m) [])))
def Zb9 (t:Ad) (H:Hp) (p:Addr) (m st bd:Int) (af:List Nat):Prop:=∃dx tp,H p=some (.ins t.Zaz dx (ZeC m st bd tp))∧H tp=some (.tup ((nums af).map V.int))
theorem Zb9.mono {H H':Hp} {p:Addr} {m st bd:Int} {af:List Nat} (h:Zb9 t H p m st bd af) (s:Ext H H'):Zb9 t H' p m st bd af:=by
 obtain⟨dx,tp,h1,h2⟩:=h;exact⟨dx,tp,s _ _ h1 (fun _ z=>nomatch z),s _ _ h2 (fun _ z=>nomatch z)⟩
theorem Zfa (f:Str) (v:V):∀fs:List (Str×V),(putF f v fs).length≤fs.length+1
 | []=>Nat.le_refl _
 | (g,x)::r=>by
  unfold putF
  by_cases h:g=f
  ·rw[if_pos h]; exact Nat.le_succ _
  ·rw[if_neg h]; exact Nat.succ_le_succ (Zfa f v r)
def ZpK (C:Addr):Sp:=fun vs H Q _=>∃(p dx l:Addr) (m st bd:Nat) (af:List Nat),vs=[.ref p,.int (m:Int),.int (st:Int),.int (bd:Int),.ref l]∧H p=some (.ins C dx [])∧H l=some (.lst ((nums af).map V.int))∧GoodC m st bd af∧∀tp H',(∀b o,b≠p→H b=some o→H' b=some o)→H' tp=some (.tup ((nums af).map V.int))→H' p=some (.ins C dx (ZeC m st bd tp))→Q .non H'
theorem ZqX (T:Txt K mg t):MkS P w K mg base 4 "Chart" t.Zaz ["self","many","starts","bads","after"] (ZpK t.Zaz):=by
 refine⟨T.ZoW,_,_,T.ZoJ,T.ZcO.ok ZjY (fun vs H Q E h=>?_) (fun _ _ _ _ H vs Q E hr h=>?_),T.ZgL⟩
 ·obtain⟨p,dx,l,m,st,bd,ys,rfl,_⟩:=h
  rfl
 obtain⟨p,dx,l,m,st,bd,af,rfl,hp0,hl0,hg,q⟩:=h;have ZmN:=Zlz (P:=P) (w:=w) (base:=base) T;have z1:=Zfa "many" (.int (m:Int)) [];have z2:=Zfa "starts" (.int (st:Int)) (putF "many" (.int (m:Int)) []);have z3:=Zfa "bads" (.int (bd:Int)) (putF "starts" (.int (st:Int)) (putF "many" (.int (m:Int)) []));rw[length_nil]at z1
 have hlp:l≠p:=fun e=>by rw[e,hp0]at hl0; cases hl0
 refine⟨_,(Zab (Za0 (Zc1 (Zay (ZaY ZmN hr (Zaa (pv 1) (Zaa (pv 2) (Zaa (pv 3) (Zaa (pv 4) Zae))))) (fun _=>rfl)))
   (Zad Zmp)
   Zar)
   (Zab (Zg2 (pv 0) (pv 1) rfl)
   (Zab (Zg2 (pv 0) (pv 2) rfl)
   (Zab (Zg2 (pv 0) (pv 3) rfl)
   (Zad (Zg2 (pv 0) (ZhU Zlf rfl T.B.tuple Zjf (Zaa (pv 4) Zae)) rfl)))))),?_⟩
 walk_at "rd0";refine⟨m,st,bd,l,af,rfl,hl0,hg,fun H0 s0=>?_⟩;have hp:=s0 _ _ hp0;have hl:=s0 _ _ hl0;walk_at "";refine ZaF rfl ?_;walk_at "";refine⟨p,_,_,_,rfl,hp,T.Zbx,T.Za5,by decide,?_⟩;walk_at "";refine⟨p,_,_,_,rfl,Zak,T.Zbx,T.Zbl,by omega,?_⟩;rw[Zp4];walk_at "";refine⟨p,_,_,_,rfl,Zak,T.Zbx,T.ZbR,by omega,?_⟩;rw[Zp4];walk_at "";refine Zuw (ys:=(nums af).map V.int) (by rw[Zal hlp]; exact hl) fun tp htp=>?_
 have hpt:tp≠p:=fun e=>by rw[e,Zak]at htp; cases htp
 walk_at "";refine⟨p,_,_,_,rfl,by rw[Zal (Ne.symm hpt)]; exact Zak,T.Zbx,T.Zcu,by omega,?_⟩;refine q tp _ (fun b o hb e0=>?_) (by rw[Zal hpt]; exact Zak) Zak;have e:=s0 _ _ e0
 have hb':b≠tp:=fun z=>by rw[←z,Zal hb,e]at htp; cases htp
 rw[Zal hb,Zal hb',Zal hb];exact e
theorem ZsV {l:Addr} {m st bd:Nat} {af:List Nat} {H:Hp} {Q:VK} (hl:H l=some (.lst ((nums af).map V.int))) (hg:GoodC m st bd af) (h:∀(x:Addr) (H':Hp),Same H H'→H x=none→Zb9 t H' x m st bd af→Q (.ref x) H') :
  MkG t.Zaz (ZpK t.Zaz) [.int (m:Int),.int (st:Int),.int (bd:Int),.ref l] H Q:=by
 intro x dx hx hdx ne;have s2:=ZkU hx hdx (.ins t.Zaz dx []) (.own x);refine⟨x,dx,l,m,st,bd,_,rfl,Zak,s2 _ _ hl,hg,fun tp H' s3 h1 h2=>⟨rfl,?_⟩⟩;exact h x H' (fun b o e=>s3 b o (Zai e hx) (s2 b o e)) hx ⟨dx,tp,h2,h1⟩
def isCh (t:Ad) (C:Addr):Prop:=C=t.Zaz
theorem Zb9.ins {H:Hp} {p:Addr} {m st bd:Int} {af:List Nat} (h:Zb9 t H p m st bd af) (f:Str) (h1 : ¬f = "after") (h2 : ¬f = "bads") (h3 : ¬f = "starts") (h4 : ¬f = "many"):∃C dx fs,H p=some (.ins C dx fs)∧isCh t C∧fs.lookup f=none:=by
 obtain⟨dx,tp,e,_⟩:=h;refine⟨_,dx,_,e,rfl,?_⟩;unfold ZeC;rw[Zam,if_neg h1,Zam,if_neg h2,Zam,if_neg h3,Zam,if_neg h4];rfl
theorem ZqQ (m st bd:Int) (tp:Addr):(ZeC m st bd tp).lookup ("after" : Str)=some (.ref tp):=by
 unfold ZeC;rw[Zam,if_pos rfl]
theorem ZeG (m st bd:Int) (tp:Addr):(ZeC m st bd tp).lookup ("many" : Str)=some (.int m):=by
 unfold ZeC;rw[Zam,if_neg (by decide),Zam,if_neg (by decide),Zam,if_neg (by decide),Zam,if_pos rfl]
theorem ZhI (m st bd:Int) (tp:Addr):(ZeC m st bd tp).lookup ("starts" : Str)=some (.int st):=by
 unfold ZeC;rw[Zam,if_neg (by decide),Zam,if_neg (by decide),Zam,if_pos rfl]
theorem Zlp (m st bd:Int) (tp:Addr):(ZeC m st bd tp).lookup ("bads" : Str)=some (.int bd):=by
 unfold ZeC;rw[Zam,if_neg (by decide),Zam,if_pos rfl]
theorem Ztb (s k:Nat):(!decide (Builtin.bitAnd ((s:Int) / 2 ^ ((k:Int)).toNat) 1=0))=s.testBit k:=by
 rw[ZjG]
 cases s.testBit k <;> rfl
theorem ZsQ {af:List Nat} {i:Nat} {v:V} (h:((nums af).map V.int)[i]?=some v):i < af.length∧v=.int ((af.getD i 0:Nat):Int):=by
 have hi:i < af.length:=by
  have:=(List.getElem?_eq_some_iff.mp h).1;rw[ZaG]at this;exact this
 rw[Za2 hi]at h;exact⟨hi,(Option.some.inj h).symm⟩
def ZmA (t:Ad):Sp:=fun vs H Q _=>∃(p:Addr) (m st bd:Int) (af:List Nat) (s:Nat),vs=[.ref p,.int (s:Int)]∧Zb9 t H p m st bd af∧af.length≤64∧∀H',Same H H'→Q (.int ((behN af s:Nat):Int)) H'
theorem ZhO (T:Txt K mg t):MeS P w K mg base 1 t.Zaz "behind" ["self","crowd"] (spAt (ZmA t) t.Zaz):=by
 refine⟨T.Zbx,_,_,T.ZbG.ok ZbS (fun vs H Q E h=>?_) (fun _ _ _ _ H vs Q E hr h=>?_),T.Zfl,T.Zfq⟩
 ·obtain⟨⟨p,m,st,bd,af,s,rfl,_⟩,_⟩:=h
  rfl
 obtain⟨⟨p,m,st,bd,af,n,rfl,hc,h64,q⟩,_⟩:=h;obtain⟨dx,tp,e1,e2⟩:=hc
 refine⟨_,(Zab (ss 2 ZbS.nd Zac)
   (Zab (Zco PassesOwn.never rfl (Ztq rfl T.B.enumerate (Za8 (pv 0) rfl)) (ZkQ rfl (ZcM (sg 3 ZbS.nd) (ZcM (sg 4 ZbS.nd) ZhW)))
   (Zad (Za0 (Zay (Zaf ZaL (pv 4) (pv 1)) (fun _=>rfl))
   (Zad (ss 2 ZbS.nd (Zaf Znr (pv 2) (Zaf ZbF Zac (pv 3)))))
   Zar)))
   (Zad (Zas (pv 2))))),?_⟩
 walk_at "rd0";refine⟨p,_,_,_,_,rfl,e1,T.Zbx,T.Zcu,ZqQ _ _ _ _,?_⟩;refine Zv4 (xs:=(nums af).map V.int) (fun i σ H'=>Same H H'∧∃v v',σ=[some (.ref p),some (.int (n:Int)),some (.int ((bits (fun k=>decide (af.getD k 0 &&& n≠0)) i:Nat):Int)),v,v']) ⟨Same.refl _,_,_,rfl⟩ (fun i σ H' _ hp=>SqT.of (hp.1 _ _ e2)) ?_ ?_
 ·rintro i x T' σ H0 H' hx ⟨s1,v,v',rfl⟩ s2 n2 eT
  obtain⟨hi,rfl⟩:=ZsQ hx;refine Zou eT ?_;walk_at "";rw[Za1];refine Zov (fun h1=>?_) (fun h1=>?_)
  ·walk_at ""
   refine⟨s1.trans s2,some (.int (i:Int)),some (.int ((af.getD i 0:Nat):Int)),?_⟩;rw[Zu2 (f:=fun k=>decide (af.getD k 0 &&& n≠0)) (decide_eq_true (by omega))]
   all_goals rfl
  ·walk_at ""
   refine⟨s1.trans s2,some (.int (i:Int)),some (.int ((af.getD i 0:Nat):Int)),?_⟩;rw[ZnY (fun k=>decide (af.getD k 0 &&& n≠0)) i (decide_eq_false (by omega))]
   all_goals rfl
 ·rintro σ H' ⟨s1,v,v',rfl⟩
  rw[ZaG];walk_at "";exact q H' s1
theorem ZfA (T:Txt K mg t):∀C,isCh t C→MeS P w K mg base 1 C "behind" ["self","crowd"] (spAt (ZmA t) C):=by
 rintro C rfl;exact ZhO T
def ZpJ:Sp:=fun vs H Q _=>∃(m:Nat) (p:Addr) (b:Bar),vs=[.int (m:Int),.ref p]∧m≤6∧ZaO H p b∧b.good∧Q (.int ((Zaq (2 ^ m) b:Nat):Int)) H
def Zix (i:Nat) (b:Bar) (s:Nat):Bool:=(List.range i).all fun k=>!(b.1.testBit k && (b.2.testBit k != s.testBit k))
theorem Zfb (i:Nat) (b:Bar) (s:Nat):Zix (i+1) b s=(Zix i b s && !(b.1.testBit i && (b.2.testBit i != s.testBit i))):=by
 unfold Zix;rw[range_succ,List.all_append,List.all_cons,List.all_nil,Bool.and_true]
theorem ZoS (b:Bar) (i r j:Nat) (hj:j≤i):Zix j b (2 ^ i+r)=Zix j b r:=by
 unfold Zix;apply Bool.eq_iff_iff.mpr;rw[all_eq_true,all_eq_true]
 constructor
 ·intro h k hk
  have:=h k hk;rw[Nat.testBit_two_pow_add_gt (by have:=mem_range.mp hk; omega)]at this;exact this
 ·intro h k hk
  have:=h k hk;rw[Nat.testBit_two_pow_add_gt (by have:=mem_range.mp hk; omega)];exact this
theorem ZmW (f:Nat→Bool) (n:Nat):∀m,bits f (n+m)=bits f n ||| (bits (fun r=>f (n+r)) m) <<< n:=fun m=>by
 apply Nat.eq_of_testBit_eq;intro k;rw[ZaU,Nat.testBit_or,ZaU,Nat.testBit_shiftLeft,ZaU]
 by_cases h:k < n
 ·rw[decide_eq_true (show k < n+m by omega),decide_eq_true h,decide_eq_false (show ¬k ≥ n by omega),Bool.false_and,Bool.or_false]
 ·rw[decide_eq_false h,Bool.false_and,Bool.false_or,decide_eq_true (show k ≥ n by omega),Bool.true_and,show n+(k - n)=k by omega]
  congr 1
  exact decide_eq_decide.mpr (by omega)
def crU (b:Bar) (i:Nat):Nat:=bits (Zix i b) (2 ^ i)
theorem Zlq {i s:Nat} (h:s < 2 ^ i):s.testBit i=false:=Nat.testBit_lt_two_pow h
theorem Zl4 {i r:Nat} (h:r < 2 ^ i):(2 ^ i+r).testBit i=true:=by
 rw[Nat.testBit_two_pow_add_eq,Zlq h]; rfl
theorem Zt7 (b:Bar) (i:Nat) (f:Bool) (hf:(!(b.1.testBit i && (b.2.testBit i != false)))=f):bits (Zix (i+1) b) (2 ^ i)=if f=true then crU b i else 0:=by
 cases f with
 | true=>exact ZeZ fun s hs=>by rw[Zfb,Zlq hs,hf,Bool.and_true]
 | false=>rw[if_neg Bool.false_ne_true,←Zgq (2 ^ i)]; exact ZeZ fun s hs=>by rw[Zfb,Zlq hs,hf,Bool.and_false]
theorem Zt6 (b:Bar) (i:Nat) (f:Bool) (hf:(!(b.1.testBit i && (b.2.testBit i != true)))=f):bits (fun r=>Zix (i+1) b (2 ^ i+r)) (2 ^ i)=if f=true then crU b i else 0:=by
 cases f with
 | true=>exact ZeZ fun s hs=>by rw[Zfb,Zl4 hs,hf,Bool.and_true,ZoS b i s i (Nat.le_refl _)]
 | false=>rw[if_neg Bool.false_ne_true,←Zgq (2 ^ i)]; exact ZeZ fun s hs=>by rw[Zfb,Zl4 hs,hf,Bool.and_false]
theorem Zjk (b:Bar) (i:Nat):crU b (i+1)=(if (!(b.1.testBit i && (b.2.testBit i != false)))=true then crU b i else 0) ||| (if (!(b.1.testBit i && (b.2.testBit i != true)))=true then crU b i else 0) <<< 2 ^ i:=by
 unfold crU;rw[show 2 ^ (i+1)=2 ^ i+2 ^ i by rw[Nat.pow_succ]; omega,ZmW,Zt7 b i _ rfl,Zt6 b i _ rfl];rfl
theorem Zqo {b:Bar} {i:Nat} (h:b.1.testBit i=false):crU b (i+1)=crU b i ||| crU b i <<< 2 ^ i:=by
 rw[Zjk,h]; rfl
theorem ZsF {b:Bar} {i:Nat} (h:b.1.testBit i=true) (h2:b.2.testBit i=true):crU b (i+1)=crU b i <<< 2 ^ i:=by
 rw[Zjk,h,h2]
 show 0 ||| crU b i <<< 2 ^ i=_
 rw[Nat.zero_or]
theorem Zqn {b:Bar} {i:Nat} (h:b.1.testBit i=true) (h2:b.2.testBit i=false):crU b (i+1)=crU b i:=by
 rw[Zjk,h,h2]
 show crU b i ||| 0 <<< 2 ^ i=_
 rw[Nat.zero_shiftLeft,Nat.or_zero]
theorem ZsE {b:Bar} {m:Nat} (g:b.good) (hm:m≤6) (h:b.2 < 2 ^ m):crU b m=Zaq (2 ^ m) b:=by
 unfold crU Zaq;refine ZeZ fun s hs=>?_;apply Bool.eq_iff_iff.mpr;rw[Zhf];unfold Zix;rw[all_eq_true]
 constructor
 ·intro q k hk hb
  by_cases e:k < m
  ·have:=q k (mem_range.mpr e)
   rw[hb]at this
   simpa using this
  ·rw[Zfg h (by omega),Zfg hs (by omega)]
 ·intro q k hk
  have hk:=mem_range.mp hk
  cases hb:b.1.testBit k with
  | false=>rfl
  | true=>simp[q k (by omega) hb]
theorem Zm0 {b:Bar} {m:Nat} (g:b.good) (h : ¬b.2 < 2 ^ m):Zaq (2 ^ m) b=0:=by
 unfold Zaq;rw[←Zgq (2 ^ m)];refine ZeZ fun s hs=>?_
 cases z:lies s b with
 | false=>rfl
 | true=>
  rw[Zhf]at z
  exfalso
  apply h;apply Nat.lt_pow_two_of_testBit;intro k hk
  cases e:b.2.testBit k with
  | false=>rfl
  | true=>
   have e1:b.1.testBit k=true:=by
    cases e2:b.1.testBit k with
    | true=>rfl
    | false=>rw[Zjr g e2]at e; cases e
   have:=z k (Zhz g e1) e1;rw[e,Zfg hs hk]at this
   cases this
theorem ZpA (n m:Nat):((n:Int) / 2 ^ ((m:Int)).toNat)=((n / 2 ^ m:Nat):Int):=by simp
theorem Zmy (n m:Nat):(n:Int) * 2 ^ ((m:Int)).toNat=((n <<< m:Nat):Int):=by
 rw[Nat.shiftLeft_eq]; simp
theorem Zr5 (s k:Nat):decide (Builtin.bitAnd ((s:Int) / 2 ^ ((k:Int)).toNat) 1≠0)=s.testBit k:=by
 rw[ZjG]
 cases s.testBit k <;> rfl
theorem dne (i:Int):(!decide (i=0))=decide (i≠0):=by simp
theorem ZfG (T:Txt K mg t):FnS P w K mg base 1 "crowd_of" ["many","bar"] (ZpJ):=by
 refine⟨_,_,T.Zde.ok ZcG (fun vs H Q E h=>?_) (fun _ _ _ _ H vs Q E hr h=>?_),T.ZiL,T.Zde.kp,T.Zi0⟩
 ·obtain⟨m,p,b,rfl,hm,hb,hg,q⟩:=h
  rfl
 obtain⟨m,p,b,rfl,hm,hb,hg,q⟩:=h;have hp:=Zbt hm
 refine⟨_,(Zab (Za0 (Zay (Zaf ZeK (ZaQ Zav (pv 1) Zac (fun _ _=>rfl)) (pv 0)) (fun _=>rfl))
   (Zad (Zas Zac))
   Zar)
   (Zab (ss 2 ZcG.nd Zac)
   (Zab (Zco PassesOwn.never rfl (Zcv rfl T.B.range (Zaa (pv 0) Zae)) (sg 3 ZcG.nd)
   (Zab (ss 4 ZcG.nd (Zaf ZbF (pv 2) (Zaf ZbF Zac (pv 3))))
   (Zad (Za0 (Zc1 (Zay (Zaf ZaL (Zaf ZeK (ZaQ Zav (pv 1) Zac (fun _ _=>rfl)) (pv 3)) Zac) (fun _=>rfl)))
   (Zad (ss 2 ZcG.nd (Zaf Znr (pv 2) (pv 4))))
   (Zad (Za0 (Zay (Zaf ZaL (Zaf ZeK (ZaQ Zav (pv 1) Zac (fun _ _=>rfl)) (pv 3)) Zac) (fun _=>rfl))
   (Zad (ss 2 ZcG.nd (pv 4)))
   Zar))))))
   (Zad (Zas (pv 2)))))),?_⟩
 walk_at "rd0";refine Zbk hb (v:=.int (b.2:Int)) rfl ?_;walk_at "";rw[ZpA];refine Zov (fun h1=>?_) (fun h1=>?_)
 ·walk_at ""
  rw[Zm0 hg (fun z=>h1 (by rw[Nat.div_eq_of_lt z]; rfl))]at q;exact q
 have hlt:b.2 < 2 ^ m:=by
  have e:b.2 / 2 ^ m=0:=by omega
  rcases Nat.div_eq_zero_iff.mp e with z | z
  ·exact absurd z (Nat.ne_of_gt (Nat.two_pow_pos m))
  ·exact z
 walk_at "";refine⟨_,rfl,by omega,by omega,?_⟩;rw[Int.toNat_natCast];refine ZhJ (fun i σ H'=>H'=H∧∃v v',σ=[some (.int (m:Int)),some (.ref p),some (.int ((crU b i:Nat):Int)),v,v']) ⟨rfl,_,_,rfl⟩ ?_ ?_
 ·rintro i σ H' hi ⟨rfl,v,v',rfl⟩
  have hpi:=Zbt (show i≤6 by omega);walk_at "";rw[ZaZ];refine i_rI ⟨Int.natCast_nonneg _,by omega,?_⟩ ?_
  ·rw[Int.natAbs_natCast]
   exact Nat.lt_of_lt_of_le (Zjd _ _) (Nat.pow_le_pow_right (by decide) hpi)
  walk_at "";refine Zbk hb (v:=.int (b.1:Int)) rfl ?_;walk_at "";rw[dne,Zr5]
  cases h1:b.1.testBit i with
  | false=>
   refine Zca rfl ?_;walk_at "";rw[Zmy,Zi5,←Zqo h1];exact⟨rfl,_,_,rfl⟩
  | true=>
   refine ZaF rfl ?_;walk_at "";refine Zbk hb (v:=.int (b.2:Int)) rfl ?_;walk_at "";rw[dne,Zr5];refine Zm7 (fun h2=>?_) (fun h2=>?_)
   ·walk_at ""
    rw[Zmy,←ZsF h1 h2];exact⟨rfl,_,_,rfl⟩
   ·walk_at ""
    rw[←Zqn h1 h2];exact⟨rfl,_,_,rfl⟩
 ·rintro σ H' ⟨rfl,v,v',rfl⟩
  walk_at "";rw[ZsE hg hm hlt];exact q
def Zrp:Sp:=fun vs H Q _=>∃(p q:Addr) (b c:Bar),vs=[.ref p,.ref q]∧ZaO H p b∧ZaO H q c∧b.good∧c.good∧∀H',Same H H'→Q (.bl (subB b c)) H'
theorem Zgk {b c:Bar} (g:b.good) (g':c.good):(b.1 &&& c.1=c.1∧b.2 &&& c.1=c.2) ↔ subB b c=true:=by
 rw[Zj3]
 constructor
 ·rintro⟨h1,h2⟩ k hk hc
  have e1:(b.1 &&& c.1).testBit k=true:=by rw[h1]; exact hc
  rw[Nat.testBit_and,hc,Bool.and_true]at e1;refine⟨e1,?_⟩;rw[←h2,Nat.testBit_and,hc,Bool.and_true]
 ·intro h
  constructor
  ·apply Nat.eq_of_testBit_eq
   intro k;rw[Nat.testBit_and]
   cases hc:c.1.testBit k with
   | false=>rw[Bool.and_false]
   | true=>rw[(h k (Zhz g' hc) hc).1]; rfl
  ·apply Nat.eq_of_testBit_eq
   intro k;rw[Nat.testBit_and]
   cases hc:c.1.testBit k with
   | false=>rw[Bool.and_false,Zjr g' hc]
   | true=>rw[Bool.and_true,(h k (Zhz g' hc) hc).2]
theorem Zo4 (T:Txt K mg t):FnS P w K mg base 1 "within" ["one","other"] (Zrp):=by
 refine⟨_,_,T.ZeY.ok Zpy (fun vs H Q E h=>?_) (fun _ _ _ _ H vs Q E hr h=>?_),T.ZlT,T.ZeY.kp,T.Zmh⟩
 ·obtain⟨p,p',b,c,rfl,hb,hc,g,g',q⟩:=h
  rfl
 obtain⟨p,p',b,c,rfl,hb,hc,g,g',q⟩:=h;refine⟨_,(Zad (Zas (Zg0 (ZcE (ZaN hr.units) (Zaf ZaL (ZaQ Zav (pv 0) Zac (fun _ _=>rfl)) (ZaQ Zav (pv 1) Zac (fun _ _=>rfl))) (ZaQ Zav (pv 1) Zac (fun _ _=>rfl)) (Zap _)) (ZhV (ZcE (ZaN hr.units) (Zaf ZaL (ZaQ Zav (pv 0) Zac (fun _ _=>rfl)) (ZaQ Zav (pv 1) Zac (fun _ _=>rfl))) (ZaQ Zav (pv 1) Zac (fun _ _=>rfl)) (Zap _)))))),?_⟩;walk_at "rd0";refine Zbk hb (v:=.int (b.1:Int)) rfl ?_;walk_at "";refine Zbk hc (v:=.int (c.1:Int)) rfl ?_;walk_at "";refine Zbk hc (v:=.int (c.1:Int)) rfl ?_;walk_at "";rw[Za1];refine ZdA (fun h1=>?_) (fun h1=>?_)
 ·walk_at ""
  refine Zbk hb (v:=.int (b.2:Int)) rfl ?_;walk_at "";refine Zbk hc (v:=.int (c.1:Int)) rfl ?_;walk_at "";refine Zbk hc (v:=.int (c.2:Int)) rfl ?_;walk_at "";rw[Za1]
  have e:decide (((b.2 &&& c.1:Nat):Int)=(c.2:Int))=subB b c:=by
   rw[Bool.eq_iff_iff,decide_eq_true_iff,←Zgk g g'];exact⟨fun h=>⟨by omega,by omega⟩,fun h=>by omega⟩
  rw[e];exact q H (Same.refl _)
 ·have e:subB b c=false:=by
   cases z:subB b c with
   | false=>rfl
   | true=>exact absurd ((Zgk g g').mpr z).1 (by omega)
  rw[e]at q;exact q H (Same.refl _)
def mayN (af:List Nat) (st held:Nat) (b:Bar) (n:Nat):Bool:=decide (st &&& Zaq n b=0) && decide ((behN af (Zaq n b) &&& held) - ((behN af (Zaq n b) &&& held) &&& Zaq n b)=0)
theorem Zig {x:Nat} (h:∀k,x.testBit k=false):x=0:=Nat.eq_of_testBit_eq fun k=>by rw[h k,Nat.zero_testBit]
theorem Zaj {x y:Nat}:x &&& y=0 ↔ ∀k,x.testBit k=true→y.testBit k=false:=by
 constructor
 ·intro h k hk
  have:(x &&& y).testBit k=false:=by rw[h]; exact Nat.zero_testBit k
  rw[Nat.testBit_and,hk,Bool.true_and]at this;exact this
 ·intro h
  apply Zig;intro k;rw[Nat.testBit_and]
  cases e:x.testBit k with
  | false=>rfl
  | true=>rw[h k e]; rfl
theorem Zbf (n:Nat) (b:Bar) (k:Nat):(Zaq n b).testBit k=(decide (k < n) && lies k b):=ZaU _ _ _
theorem Zce (af:List Nat) (c k:Nat):(behN af c).testBit k=(decide (k < af.length) && decide (af.getD k 0 &&& c≠0)):=ZaU _ _ _
theorem Zmi {af:List Nat} {st held n:Nat} {b:Bar} (hl:af.length=n):mayN af st held b n=true ↔
  (∀s,s < n→lies s b=true→st.testBit s=false)∧(∀s,s < n→lies s b=false→held.testBit s=true→∀t,t < n→lies t b=true→(af.getD s 0).testBit t=false):=by
 unfold mayN;rw[Bool.and_eq_true,decide_eq_true_iff,decide_eq_true_iff]
 constructor
 ·rintro⟨h1,h2⟩
  constructor
  ·intro s hs hb
   cases e:st.testBit s with
   | false=>rfl
   | true=>
    have:=Zaj.mp h1 s e;rw[Zbf,decide_eq_true hs,hb]at this
    cases this
  ·intro s hs hb hh t ht hbt
   have z:((behN af (Zaq n b) &&& held) - ((behN af (Zaq n b) &&& held) &&& Zaq n b)).testBit s=false:=by rw[h2]; exact Nat.zero_testBit s
   rw[ZaA,Nat.testBit_and,Zbf,hb,hh,Bool.and_false,Bool.not_false,Bool.and_true,Bool.and_true,Zce,decide_eq_true (show s < af.length by omega),Bool.true_and]at z
   have z':af.getD s 0 &&& Zaq n b=0:=by
    by_cases e:af.getD s 0 &&& Zaq n b=0
    ·exact e
    ·rw[decide_eq_true e]at z; cases z
   cases e:(af.getD s 0).testBit t with
   | false=>rfl
   | true=>
    have:=Zaj.mp z' t e;rw[Zbf,decide_eq_true ht,hbt]at this
    cases this
 ·rintro⟨h1,h2⟩
  constructor
  ·refine Zaj.mpr fun k hk=>?_
   rw[Zbf]
   by_cases hn:k < n
   ·cases e:lies k b with
    | false=>rw[Bool.and_false]
    | true=>rw[h1 k hn e]at hk; cases hk
   ·rw[decide_eq_false hn]; rfl
  ·apply Zig
   intro k;rw[ZaA,Nat.testBit_and,Zbf,Zce,hl]
   by_cases hn:k < n
   ·rw[decide_eq_true hn,Bool.true_and,Bool.true_and]
    cases e:lies k b with
    | true=>simp
    | false=>
     cases eh:held.testBit k with
     | false=>simp
     | true=>
      have z:af.getD k 0 &&& Zaq n b=0:=by
       refine Zaj.mpr fun t ht=>?_;rw[Zbf]
       by_cases htn:t < n
       ·cases el:lies t b with
        | false=>rw[Bool.and_false]
        | true=>rw[h2 k hn e eh t htn el]at ht; cases ht
       ·rw[decide_eq_false htn]; rfl
      rw[decide_eq_false (show ¬(af.getD k 0 &&& Zaq n b≠0) from fun q=>q z)]; rfl
   ·rw[decide_eq_false hn]; simp
def Zv6 (t:Ad):Sp:=fun vs H Q _=>∃(p pb:Addr) (m st bd held:Nat) (af:List Nat) (b:Bar),vs=[.ref p,.int (held:Int),.ref pb]∧Zb9 t H p m st bd af∧GoodC m st bd af∧ZaO H pb b∧b.good∧∀H',Same H H'→Q (.bl (mayN af st held b (2 ^ m))) H'
theorem ZfH (T:Txt K mg t):FnS P w K mg base 2 "may_shut" ["chart","held","bar"] ((Zv6 t)):=by
 refine⟨_,_,T.Zdi.ok Zh9 (fun vs H Q E h=>?_) (fun _ _ _ _ H vs Q E hr h=>?_),T.ZiP,T.Zdi.kp,T.Zi4⟩
 ·obtain⟨p,pb,m,st,bd,held,af,b,rfl,hC,hG,hb,hg,q⟩:=h
  rfl
 obtain⟨p,pb,m,st,bd,held,af,b,rfl,hC,hG,hb,hg,q⟩:=h;have Zd0:=ZfG (P:=P) (w:=w) (base:=base) T;have D_behind:=ZfA (P:=P) (w:=w) (base:=base) T;have hp:=Zbt hG.m6;have ln:=hG.ln;obtain⟨C,dx,fs,ei,hi,lk⟩:=hC.ins "behind" (by decide) (by decide) (by decide) (by decide);obtain⟨dy,tp,c1,c2⟩:=id hC
 refine⟨_,(Zab (ss 3 Zh9.nd (ZaY Zd0 hr (Zaa (Za8 (pv 0) rfl) (Zaa (pv 2) Zae))))
   (Zab (Za0 (Zay (Zaf ZaL (Za8 (pv 0) rfl) (pv 3)) (fun _=>rfl))
   (Zad (Zas ZhT))
   Zar)
   (Zad (Zas (ZcE (ZaN hr.units) (Zaf ZaL (Zaf ZaL (Zfk D_behind hr (pv 0) (Zaa (pv 3) Zae)) (pv 1)) (ZgD Zfy (pv 3))) Zac (Zap _)))))),?_⟩
 walk_at "rd0";refine⟨p,_,_,_,_,rfl,c1,T.Zbx,T.Za5,ZeG _ _ _ _,?_⟩;walk_at "";refine⟨m,pb,b,rfl,hG.m6,hb,hg,?_⟩;walk_at "";refine⟨p,_,_,_,_,rfl,c1,T.Zbx,T.Zbl,ZhI _ _ _ _,?_⟩;walk_at "";rw[Za1];refine Zov (fun h1=>?_) (fun h1=>?_)
 ·walk_at ""
  have e:mayN af st held b (2 ^ m)=false:=by
   unfold mayN;rw[decide_eq_false (show ¬st &&& Zaq (2 ^ m) b=0 by omega)]; rfl
  rw[e]at q;exact q H (Same.refl _)
 ·walk_at ""
  refine⟨p,C,dx,fs,rfl,ei,hi,lk,?_⟩;walk_at "";refine⟨ei,p,_,_,_,af,_,rfl,hC,by omega,fun H1 s1=>?_⟩;walk_at "";rw[Za1,Zba]
  have e:decide ((((behN af (Zaq (2 ^ m) b) &&& held) - ((behN af (Zaq (2 ^ m) b) &&& held) &&& Zaq (2 ^ m) b):Nat):Int)=0)=mayN af st held b (2 ^ m):=by
   unfold mayN;rw[decide_eq_true (show st &&& Zaq (2 ^ m) b=0 by omega),Bool.true_and];exact decide_eq_decide.mpr (by omega)
  rw[e];exact q H1 s1
def kB (b:Bar):List Key:=[Sum.inl (b.1:Int),Sum.inl (b.2:Int)]
def lvK (L:List (Bar×Nat)):List (List Key×V):=L.map fun p=>(kB p.1,V.int (p.2:Int))
def ZcV (c d l:Addr):List (Str×V):=putF "crowds" (.ref l) (putF "levels" (.ref d) (putF "base" (.ref c) []))
structure FrP (t:Ad) (H:Hp) (p dx c d l:Addr) (o:Obj) (m st bd:Nat) (af:List Nat) (L:List (Bar×Nat)) (cr:List Nat):Prop where
 ob:H p=some (.ins t.Zag dx (ZcV c d l))
 ch:Zb9 t H c m st bd af
 lv:H d=some (.dT (lvK L))
 cw:H l=some (.lst ((nums cr).map V.int))
theorem ZhH (c d l:Addr):(ZcV c d l).lookup ("base" : Str)=some (.ref c):=by
 unfold ZcV;rw[Zam,if_neg (by decide),Zam,if_neg (by decide),Zam,if_pos rfl]
theorem Zf9 (c d l:Addr):(ZcV c d l).lookup ("levels" : Str)=some (.ref d):=by
 unfold ZcV;rw[Zam,if_neg (by decide),Zam,if_pos rfl]
theorem Zct (c d l:Addr):(ZcV c d l).lookup ("crowds" : Str)=some (.ref l):=by
 unfold ZcV;rw[Zam,if_pos rfl]
def isFr (t:Ad) (C:Addr):Prop:=C=t.Zag
theorem ZaB (c d l:Addr) (f:Str) (h1 : ¬f = "crowds") (h2 : ¬f = "levels") (h3 : ¬f = "base"):(ZcV c d l).lookup f=none:=by
 unfold ZcV;rw[Zam,if_neg h1,Zam,if_neg h2,Zam,if_neg h3];rfl
def Zsj (t:Ad):Sp:=fun vs H Q _=>∃(p dx c d l:Addr) (o:Obj) (m st bd:Nat) (af:List Nat) (L:List (Bar×Nat)) (cr:List Nat),vs=[.ref p]∧FrP t H p dx c d l o m st bd af L cr∧Q (.int ((cr.length:Int) - 1)) H
theorem ZiA (T:Txt K mg t):MeS P w K mg base 1 t.Zag "last" ["self"] (spAt (Zsj t) t.Zag):=by
 refine⟨T.Zat,_,_,T.ZbU.ok ZiF (fun vs H Q E h=>?_) (fun _ _ _ _ H vs Q E hr h=>?_),T.ZfT,T.Zf2⟩
 ·obtain⟨⟨p,dx,c,d,l,o,m,st,bd,af,L,cr,rfl,_⟩,_⟩:=h
  rfl
 obtain⟨⟨p,dx,c,d,l,o,m,st,bd,af,L,cr,rfl,F,q⟩,_⟩:=h;refine⟨_,(Zad (Zas (Zaf Zea (Zaw Zbq rfl T.B.len Zd4 (Zaa (Za8 (pv 0) rfl) Zae)) Zac))),?_⟩;walk_at "rd0";refine⟨p,_,_,_,_,rfl,F.ob,T.Zat,T.Zau,Zct _ _ _,?_⟩;have cw:=F.cw;walk_at "";rw[ZaG];exact q
theorem ZdW (T:Txt K mg t):∀C,isFr t C→MeS P w K mg base 1 C "last" ["self"] (spAt (Zsj t) C):=by
 rintro C rfl;exact ZiA T
def ZpG (t:Ad):Sp:=fun vs H Q _=>∃(p dx c d l:Addr) (o:Obj) (m st bd:Nat) (af:List Nat) (L:List (Bar×Nat)) (cr:List Nat) (k f:Nat),vs=[.ref p,.int (k:Int),.int (f:Int)]∧FrP t H p dx c d l o m st bd af L cr∧f≤k∧k < cr.length∧Q .non H
theorem ZhP (T:Txt K mg t):MeS P w K mg base 2 t.Zag "check" ["self","k","first"] (spAt (ZpG t) t.Zag):=by
 refine⟨T.Zat,_,_,T.ZbH.ok Zh5 (fun vs H Q E h=>?_) (fun _ _ _ _ H vs Q E hr h=>?_),T.Zfm,T.Zfr⟩
 ·obtain⟨⟨p,dx,c,d,l,o,m,st,bd,af,L,cr,k,f,rfl,_⟩,_⟩:=h
  rfl
 obtain⟨⟨p,dx,c,d,l,o,m,st,bd,af,L,cr,k,f,rfl,F,hfk,hk,q⟩,_⟩:=h;have D_last:=ZdW (P:=P) (w:=w) (base:=base) T
 refine⟨_,(Zad (Za0 (PW.pt (Zge (Zan Znq (pv 1) (pv 2) (Zap _)) (ZeO (Zan Zo5 (pv 1) (Zfv D_last hr (pv 0)) (Zap _)))))
   (Zad Zmp)
   Zar)),?_⟩
 walk_at "rd0";refine ZaF (decide_eq_false (by omega)) ?_;walk_at "";refine⟨p,_,_,_,rfl,F.ob,rfl,ZaB _ _ _ _ (by decide) (by decide) (by decide),?_⟩;walk_at "";refine⟨F.ob,p,dx,c,d,l,o,m,st,bd,af,L,cr,rfl,F,?_⟩;walk_at "";refine ZaF (decide_eq_false (by omega)) ?_;walk_at "";exact q
theorem ZeV (T:Txt K mg t):∀C,isFr t C→MeS P w K mg base 2 C "check" ["self","k","first"] (spAt (ZpG t) C):=by
 rintro C rfl;exact ZhP T
def ZmB (t:Ad):Sp:=fun vs H Q _=>∃(p dx c d l:Addr) (o:Obj) (m st bd:Nat) (af:List Nat) (L:List (Bar×Nat)) (cr:List Nat) (k:Nat),vs=[.ref p,.int (k:Int)]∧FrP t H p dx c d l o m st bd af L cr∧k < cr.length∧Q (.int ((cr.getD k 0:Nat):Int)) H
theorem ZhQ (T:Txt K mg t):MeS P w K mg base 3 t.Zag "crowd" ["self","k"] (spAt (ZmB t) t.Zag):=by
 refine⟨T.Zat,_,_,T.ZbI.ok Zh6 (fun vs H Q E h=>?_) (fun _ _ _ _ H vs Q E hr h=>?_),T.Zfn,T.Zfs⟩
 ·obtain⟨⟨p,dx,c,d,l,o,m,st,bd,af,L,cr,k,rfl,_⟩,_⟩:=h
  rfl
 obtain⟨⟨p,dx,c,d,l,o,m,st,bd,af,L,cr,k,rfl,F,hk,q⟩,_⟩:=h;have D_check:=ZeV (P:=P) (w:=w) (base:=base) T
 refine⟨_,(Zab (Zbu (Zfk D_check hr (pv 0) (Zaa (pv 1) (Zaa Zac Zae))))
   (Zad (Zas (ZaQ Zav (Za8 (pv 0) rfl) (pv 1) (fun _ _=>rfl))))),?_⟩
 walk_at "rd0";refine⟨p,_,_,_,rfl,F.ob,rfl,ZaB _ _ _ _ (by decide) (by decide) (by decide),?_⟩;walk_at "";refine⟨F.ob,p,dx,c,d,l,o,m,st,bd,af,L,cr,k,0,rfl,F,Nat.zero_le _,hk,?_⟩;walk_at "";refine⟨p,_,_,_,_,rfl,F.ob,T.Zat,T.Zau,Zct _ _ _,?_⟩;walk_at "";exact Zfi F.cw (Za2 hk) q
theorem Zgl (T:Txt K mg t):∀C,isFr t C→MeS P w K mg base 3 C "crowd" ["self","k"] (spAt (ZmB t) C):=by
 rintro C rfl;exact ZhQ T
def ZnL (H':Hp) (r:Addr) (bs:List Bar):Prop:=∃ps bs',H' r=some (.lst (ps.map V.ref))∧Paired (ZaO H') ps bs'∧bs'.Perm bs∧(bs'.map ib).Pairwise ple
def Zj2 (t:Ad) (f:Nat→Nat→Bool):Sp:=fun vs H Q _=>∃(p dx c d l:Addr) (o:Obj) (m st bd:Nat) (af:List Nat) (L:List (Bar×Nat)) (cr:List Nat) (k:Nat),vs=[.ref p,.int (k:Int)]∧FrP t H p dx c d l o m st bd af L cr∧1≤k∧k < cr.length∧L.length < 1000∧
 ∀H' r,Same H H'→H r=none→ZnL H' r ((L.filter fun q=>f q.2 k).map (·.1))→Q (.ref r) H'
theorem ZeL {H:Hp} {ps:List Addr} {bs:List Bar} {p:Addr} {b:Bar} (h:Paired (ZaO H) ps bs) (e:ZaO H p b):Paired (ZaO H) (ps++[p]) (bs++[b]):=Paired.snoc h e
theorem Zlr {L:List (Bar×Nat)} {i:Nat} {k:List Key} {v:V} (h:(lvK L)[i]?=some (k,v)):∃b n,L[i]?=some (b,n)∧k=kB b∧v=.int (n:Int):=by
 unfold lvK at h;rw[getElem?_map]at h
 cases e:L[i]? with
 | none=>rw[e]at h; cases h
 | some q=>
  rw[e]at h
  cases h
  exact⟨q.1,q.2,rfl,rfl,rfl⟩
theorem Zux {a b:Bar} (h:ib a=ib b):a=b:=by
 unfold ib at h;have h1:=(Prod.mk.inj h).1;have h2:=(Prod.mk.inj h).2;exact Prod.ext (by omega) (by omega)
theorem Zeg {H:Hp} {ps ps':List Addr} {bs:List Bar} {ks':List (Int×Int)} (h':Paired (Zes H) ps' ks') (hpp:ps'.Perm ps) (h:Paired (ZaO H) ps bs):∃bs',Paired (ZaO H) ps' bs'∧ks'=bs'.map ib:=by
 have all:∀p∈ps,∃b,ZaO H p b:=fun p hp=>by
  obtain⟨i,hi⟩:=List.mem_iff_getElem?.mp hp;obtain⟨b,_,hb⟩:=ZbM h hi;exact⟨b,hb⟩
 have go:∀{qs:List Addr} {ks:List (Int×Int)},Paired (Zes H) qs ks→(∀p∈qs,∃b,ZaO H p b)→∃bs',Paired (ZaO H) qs bs'∧ks=bs'.map ib:=by
  intro qs ks hq
  induction hq with
  | nil=>intro _; exact⟨[],.nil,rfl⟩
  | @cons q k _ _ r _ ih=>
   intro ha;obtain⟨b,hb⟩:=ha _ mem_cons_self;obtain⟨bs',h1,h2⟩:=ih fun p hp=>ha p (List.mem_cons_of_mem _ hp);refine⟨b::bs',.cons hb h1,?_⟩;have e:some (HO.tup _)=some (HO.tup _):=r.symm.trans hb
   have:k=ib b:=by
    simp only [Option.some.injEq,HO.tup.injEq,List.cons.injEq,V.int.injEq,and_true]at e;exact Prod.ext e.1 e.2
   rw[map_cons,←h2,this]
 exact go h' fun p hp=>all p (hpp.mem_iff.mp hp)
theorem Zen {a b:List Bar} (h:(a.map ib).Perm (b.map ib)):a.Perm b:=by
 have inv:∀x:Bar,(fun k:Int×Int=>((k.1.toNat,k.2.toNat):Bar)) (ib x)=x:=fun x=>rfl;have:=h.map (fun k:Int×Int=>((k.1.toNat,k.2.toNat):Bar));rw[map_map,map_map]at this
 have e:∀l:List Bar,l.map ((fun k:Int×Int=>((k.1.toNat,k.2.toNat):Bar)) ∘ ib)=l:=fun l=>by
  rw[show((fun k:Int×Int=>((k.1.toNat,k.2.toNat):Bar)) ∘ ib)=id from funext inv,List.map_id]
 rwa [e,e]at this
theorem Ziz (T:Txt K mg t):MeS P w K mg base 3 t.Zag "bars" ["self","k"] (spAt (Zj2 t (fun n k=>decide (k≤n))) t.Zag):=by
 refine⟨T.Zat,_,_,T.ZbT.ok ZiD (fun vs H Q E h=>?_) (fun _ _ _ _ H vs Q E hr h=>?_),T.ZfR,T.Zf1⟩
 ·obtain⟨⟨p,dx,c,d,l,o,m,st,bd,af,L,cr,k,rfl,_⟩,_⟩:=h
  rfl
 obtain⟨⟨p,dx,c,d,l,o,m,st,bd,af,L,cr,k,rfl,F,hk1,hk,h64,q⟩,_⟩:=h;have D_check:=ZeV (P:=P) (w:=w) (base:=base) T
 have hlv:(lvK L).length=L.length:=by unfold lvK; rw[length_map]
 refine⟨_,(Zab (Zbu (Zfk D_check hr (pv 0) (Zaa (pv 1) (Zaa Zac Zae))))
   (Zad (Zmr (Zas (Zaw Zgt rfl T.B.sorted Zhs (Zaa (Zmo (sc:=Zah Zc9) (N:=["self","k"]) (ns:=["k"]) (ix:=[1]) rfl rfl (by decide +kernel) rfl (ZjS (ZjQ (Za8 (pv 0) rfl))) (fun _ _ _ _=>(ZhY (Zan ZuW (pv 1) (pv 2) (Zap _)))) (fun _ _ _ _=>(pv 0))) Zae)))))),?_⟩
 walk_at "rd0";refine⟨p,_,_,_,rfl,F.ob,rfl,ZaB _ _ _ _ (by decide) (by decide) (by decide),?_⟩;walk_at "";refine⟨F.ob,p,dx,c,d,l,o,m,st,bd,af,L,cr,k,1,rfl,F,hk1,hk,?_⟩;walk_at "";refine⟨p,_,_,_,_,rfl,F.ob,T.Zat,T.ZaH,Zf9 _ _ _,?_⟩;refine⟨d,lvK L,rfl,F.lv,fun o1=>?_⟩;have hf:(upd H d (.frz o1 (.dT (lvK L)))) d=some (.frz o1 (.dT (lvK L))):=Zak;have b0:But d H (upd H d (.frz o1 (.dT (lvK L)))):=Zeh;generalize upd H d (.frz o1 (.dT (lvK L)))=H0 at hf b0 ⊢;refine⟨d,o1,lvK L,rfl,hf,?_⟩;refine ZlW (fun i ys H'=>∃ps:List Addr,ys=ps.map V.ref∧Paired (ZaO H') ps (((L.take i).filter fun q=>(fun n k=>decide (k≤n)) q.2 k).map (·.1))) hf (by omega) (fun _=>⟨[],rfl,.nil⟩) ?_ ?_ ?_
 ·rintro i ys H' H'' ht ⟨ps,rfl,hp⟩
  exact⟨ps,rfl,Zax (fun p b e=>ht _ _ e) hp⟩
 ·rintro i ky v b ys acc H' hkv s1 hacc ea hb ⟨ps,rfl,hp⟩ hyl R kk
  obtain⟨br,n,hL,rfl,rfl⟩:=Zlr hkv;simp only [subS,map_cons,map_nil];walk_at "";refine kk _ H' (Same.refl _) (fun h=>⟨ps,rfl,?_⟩) fun h R2 k2=>?_
  ·rw[Zbe hL,filter_append,filter_cons,show(fun n k=>decide (k≤n)) n k=false by simpa using h]
   simpa using hp
  ·walk_at ""
   refine k2 _ H' (Same.refl _) ⟨ps++[b],by rw[map_append]; rfl,?_⟩;rw[Zbe hL,filter_append,filter_cons,show(fun n k=>decide (k≤n)) n k=true by simpa using h,if_pos rfl,filter_nil,map_append];exact ZeL hp hb
 ·rintro acc ys H' n1 s1 e1 ⟨ps,rfl,hp⟩
  rw[hlv,take_length]at hp;walk_at "";have hpl:=ZaC hp
  have hfl:((L.filter fun q=>(fun n k=>decide (k≤n)) q.2 k).map (·.1)).length≤L.length:=by rw[length_map]; exact length_filter_le _ _
  refine⟨acc,ps,_,rfl,SqL.of e1,Zfc hp,by omega,fun l' ps' ks' hp' hpp hkp hs hl'=>?_⟩;obtain⟨bs',hb',rfl⟩:=Zeg hp' hpp hp;have ed:=s1 _ _ hf;have nld:l'≠d:=(Zai ed hl').symm;refine⟨d,o1,lvK L,by rw[Zal nld.symm]; exact ed,fun o u z=>(by rw[F.lv]at z; cases z),?_⟩;refine q _ l' (fun b u e=>?_) ?_ ⟨ps',bs',(by rw[Zal nld]; exact Zak),?_,?_,hs⟩
  ·by_cases hbd:b=d
   ·subst hbd
    rw[Zak,←F.lv,e]
   ·have z:=s1 _ _ (b0 _ _ hbd e)
    rw[Zal hbd,Zal (Zai z hl')];exact z
  ·cases e:H l' with
   | none=>rfl
   | some u=>rw[s1 _ _ (b0 _ _ nld e)]at hl'; cases hl'
  ·exact Zax (fun p b e=>by
    have hpd:p≠d:=ZaK e ed (by intro z; cases z);show(upd (upd H' l' _) d _) p=_;rw[Zal hpd,Zal (Zai e hl')]
    exact e) hb'
  ·exact Zen hkp
theorem Zj8 (T:Txt K mg t):∀C,isFr t C→MeS P w K mg base 3 C "bars" ["self","k"] (spAt (Zj2 t (fun n k=>decide (k≤n))) C):=by
 rintro C rfl;exact Ziz T
theorem ZjJ (T:Txt K mg t):MeS P w K mg base 3 t.Zag "own" ["self","k"] (spAt (Zj2 t (fun n k=>decide (n=k))) t.Zag):=by
 refine⟨T.Zat,_,_,T.Zcf.ok ZjZ (fun vs H Q E h=>?_) (fun _ _ _ _ H vs Q E hr h=>?_),T.ZgM,T.ZgS⟩
 ·obtain⟨⟨p,dx,c,d,l,o,m,st,bd,af,L,cr,k,rfl,_⟩,_⟩:=h
  rfl
 obtain⟨⟨p,dx,c,d,l,o,m,st,bd,af,L,cr,k,rfl,F,hk1,hk,h64,q⟩,_⟩:=h;have D_check:=ZeV (P:=P) (w:=w) (base:=base) T
 have hlv:(lvK L).length=L.length:=by unfold lvK; rw[length_map]
 refine⟨_,(Zab (Zbu (Zfk D_check hr (pv 0) (Zaa (pv 1) (Zaa Zac Zae))))
   (Zad (Zmr (Zas (Zaw Zgt rfl T.B.sorted Zhs (Zaa (Zmo (sc:=Zah ZdN) (N:=["self","k"]) (ns:=["k"]) (ix:=[1]) rfl rfl (by decide +kernel) rfl (ZjS (ZjQ (Za8 (pv 0) rfl))) (fun _ _ _ _=>(ZhY (Zan (ZaN hr.units) (pv 1) (pv 2) (Zap _)))) (fun _ _ _ _=>(pv 0))) Zae)))))),?_⟩
 walk_at "rd0";refine⟨p,_,_,_,rfl,F.ob,rfl,ZaB _ _ _ _ (by decide) (by decide) (by decide),?_⟩;walk_at "";refine⟨F.ob,p,dx,c,d,l,o,m,st,bd,af,L,cr,k,1,rfl,F,hk1,hk,?_⟩;walk_at "";refine⟨p,_,_,_,_,rfl,F.ob,T.Zat,T.ZaH,Zf9 _ _ _,?_⟩;refine⟨d,lvK L,rfl,F.lv,fun o1=>?_⟩;have hf:(upd H d (.frz o1 (.dT (lvK L)))) d=some (.frz o1 (.dT (lvK L))):=Zak;have b0:But d H (upd H d (.frz o1 (.dT (lvK L)))):=Zeh;generalize upd H d (.frz o1 (.dT (lvK L)))=H0 at hf b0 ⊢;refine⟨d,o1,lvK L,rfl,hf,?_⟩;refine ZlW (fun i ys H'=>∃ps:List Addr,ys=ps.map V.ref∧Paired (ZaO H') ps (((L.take i).filter fun q=>(fun n k=>decide (n=k)) q.2 k).map (·.1))) hf (by omega) (fun _=>⟨[],rfl,.nil⟩) ?_ ?_ ?_
 ·rintro i ys H' H'' ht ⟨ps,rfl,hp⟩
  exact⟨ps,rfl,Zax (fun p b e=>ht _ _ e) hp⟩
 ·rintro i ky v b ys acc H' hkv s1 hacc ea hb ⟨ps,rfl,hp⟩ hyl R kk
  obtain⟨br,n,hL,rfl,rfl⟩:=Zlr hkv;simp only [subS,map_cons,map_nil];walk_at "";refine kk _ H' (Same.refl _) (fun h=>⟨ps,rfl,?_⟩) fun h R2 k2=>?_
  ·rw[Zbe hL,filter_append,filter_cons,show(fun n k=>decide (n=k)) n k=false from decide_eq_false fun z=>by subst z; simp at h]
   simpa using hp
  ·walk_at ""
   refine k2 _ H' (Same.refl _) ⟨ps++[b],by rw[map_append]; rfl,?_⟩;rw[Zbe hL,filter_append,filter_cons,show(fun n k=>decide (n=k)) n k=true from decide_eq_true (Int.ofNat.inj (by simpa using h)),if_pos rfl,filter_nil,map_append];exact ZeL hp hb
 ·rintro acc ys H' n1 s1 e1 ⟨ps,rfl,hp⟩
  rw[hlv,take_length]at hp;walk_at "";have hpl:=ZaC hp
  have hfl:((L.filter fun q=>(fun n k=>decide (n=k)) q.2 k).map (·.1)).length≤L.length:=by rw[length_map]; exact length_filter_le _ _
  refine⟨acc,ps,_,rfl,SqL.of e1,Zfc hp,by omega,fun l' ps' ks' hp' hpp hkp hs hl'=>?_⟩;obtain⟨bs',hb',rfl⟩:=Zeg hp' hpp hp;have ed:=s1 _ _ hf;have nld:l'≠d:=(Zai ed hl').symm;refine⟨d,o1,lvK L,by rw[Zal nld.symm]; exact ed,fun o u z=>(by rw[F.lv]at z; cases z),?_⟩;refine q _ l' (fun b u e=>?_) ?_ ⟨ps',bs',(by rw[Zal nld]; exact Zak),?_,?_,hs⟩
  ·by_cases hbd:b=d
   ·subst hbd
    rw[Zak,←F.lv,e]
   ·have z:=s1 _ _ (b0 _ _ hbd e)
    rw[Zal hbd,Zal (Zai z hl')];exact z
  ·cases e:H l' with
   | none=>rfl
   | some u=>rw[s1 _ _ (b0 _ _ nld e)]at hl'; cases hl'
  ·exact Zax (fun p b e=>by
    have hpd:p≠d:=ZaK e ed (by intro z; cases z);show(upd (upd H' l' _) d _) p=_;rw[Zal hpd,Zal (Zai e hl')]
    exact e) hb'
  ·exact Zen hkp
theorem Zp8 (T:Txt K mg t):∀C,isFr t C→MeS P w K mg base 3 C "own" ["self","k"] (spAt (Zj2 t (fun n k=>decide (n=k))) C):=by
 rintro C rfl;exact ZjJ T
def ZfE (b:Bar):List Nat:=(List.range 6).filter fun k=>b.1.testBit k
def vi (k:Nat):V:=.int (k:Int)
theorem Zth (l:List Nat):(nums l).map V.int=l.map vi:=by unfold nums; rw[map_map]; rfl
theorem Zqk {n:Nat} (h:n < 64):(List.range (Builtin.Int.intBits (n:Int))).filter (fun k=>n.testBit k)=(List.range 6).filter (fun k=>n.testBit k)∧Builtin.Int.intBits (n:Int)≤6:=by
 have z:∀n:Fin 64,(List.range (Builtin.Int.intBits ((n.val:Nat):Int))).filter (fun k=>n.val.testBit k)=(List.range 6).filter (fun k=>n.val.testBit k)∧Builtin.Int.intBits ((n.val:Nat):Int)≤6:=by decide +kernel
 exact z ⟨n,h⟩
def ZpF:Sp:=fun vs H Q _=>∃(p:Addr) (b:Bar),vs=[.ref p]∧ZaO H p b∧b.1 < 64∧∀l H',Same H H'→H l=none→H' l=some (.lst ((ZfE b).map vi))→Q (.ref l) H'
theorem Zlx (T:Txt K mg t):FnS P w K mg base 1 "asked_by" ["bar"] (ZpF):=by
 refine⟨_,_,T.Zdd.ok ZlF (fun vs H Q E h=>?_) (fun _ _ _ _ H vs Q E hr h=>?_),T.ZiK,T.Zdd.kp,T.ZiZ⟩
 ·obtain⟨p,b,rfl,hb,h64,q⟩:=h
  rfl
 obtain⟨p,b,rfl,hb,h64,q⟩:=h;obtain⟨ef,hl6⟩:=Zqk h64;refine⟨_,(Zad (Zas (ZfK (sc:=Zah Zfe) (N:=["bar"]) (ns:=["bar"]) (ix:=[0]) rfl rfl (by decide +kernel) rfl (Zcv rfl T.B.range (Zaa (Zpa PySem.F.plainAttrs_int PySem.F.slot_int_bit_length PySem.F.type_int_bit_length Zgb (ZaQ Zav (pv 0) Zac (fun _ _=>rfl))) Zae)) (fun _ _ _ _=>(ZhY (Zph (K:=K) rfl (Zaf ZaL (Zaf ZeK (ZaQ (Zjy (K:=K) rfl) (pv 1) Zac (fun _ _=>rfl)) (pv 0)) Zac) (fun _=>rfl)))) (fun _ _ _ _=>(pv 0))))),?_⟩;walk_at "rd0";refine Zbk hb (v:=.int (b.1:Int)) rfl ?_;walk_at "";refine⟨_,rfl,by omega,by omega,?_⟩;rw[Int.toNat_natCast];refine ZmZ (fun k=>b.1.testBit k) (by omega) ?_ ?_ ?_
 ·intro i H' hi s1 R k
  simp only [subS,map_cons,map_nil];walk_at "";refine Zbk (s1 _ _ hb) (v:=.int (b.1:Int)) rfl ?_;walk_at "";rw[Ztb];exact k H' (Same.refl _)
 ·intro i H' hi s1 R k
  simp only [subS,map_cons,map_nil];walk_at "";exact k H' (Same.refl _)
 ·intro l H' n1 s1 e1
  rw[ef,Zth]at e1;exact q l H' s1 n1 e1
def ZpQ:Sp:=fun vs H Q _=>∃(p:Addr) (b:Bar) (k:Nat),vs=[.ref p,.int (k:Int)]∧k≤6∧ZaO H p b∧∀p' H',Same H H'→H p'=none→ZaO H' p' (b.wo k)→Q (.ref p') H'
theorem Zno (T:Txt K mg t):FnS P w K mg base 1 "without" ["bar","lamp"] (ZpQ):=by
 refine⟨_,_,T.ZdZ.ok Zi8 (fun vs H Q E h=>?_) (fun _ _ _ _ H vs Q E hr h=>?_),T.Zkh,T.ZdZ.kp,T.ZkJ⟩
 ·obtain⟨p,b,k,rfl,hk,hb,q⟩:=h
  rfl
 obtain⟨p,b,k,rfl,hk,hb,q⟩:=h;have hp:=Zbt hk
 refine⟨_,(Zab (ss 2 Zi8.nd (ZgD Zfy (Zaf ZbF Zac (pv 1))))
   (Zad (Zas (Zew (Zaa (Zaf ZaL (ZaQ Zav (pv 0) Zac (fun _ _=>rfl)) (pv 2)) (Zaa (Zaf ZaL (ZaQ Zav (pv 0) Zac (fun _ _=>rfl)) (pv 2)) Zae)))))),?_⟩
 walk_at "rd0";rw[ZaZ];refine Zbk hb (v:=.int (b.1:Int)) rfl ?_;walk_at "";refine Zbk hb (v:=.int (b.2:Int)) rfl ?_;walk_at "";rw[Zba,Zba];exact Zg7 (Nat.le_of_ble_eq_true rfl) fun p' H' s1 n1 e1=>q p' H' s1 n1 e1
theorem wo1 (b:Bar) (k j:Nat):(b.wo k).1.testBit j=(b.1.testBit j && !decide (k=j)):=Zid _ _ _
theorem wo2 (b:Bar) (k j:Nat):(b.wo k).2.testBit j=(b.2.testBit j && !decide (k=j)):=Zid _ _ _
theorem Zj6 {b:Bar} (g:b.good) (k:Nat):(b.wo k).good:=by
 constructor
 ·exact Nat.lt_of_le_of_lt (Nat.sub_le _ _) g.1
 ·apply Nat.eq_of_testBit_eq
  intro j;rw[Nat.testBit_and,wo1,wo2]
  cases e:b.1.testBit j with
  | true=>simp
  | false=>rw[Zjr g e]; rfl
theorem ZkF {b:Bar} (g:b.good) {k:Nat}:k∈ZfE b ↔ b.1.testBit k=true:=by
 unfold ZfE;rw[mem_filter,mem_range];exact⟨fun h=>h.2,fun h=>⟨Zhz g h,h⟩⟩
def Less (b f:Bar):Prop:=(∀k,f.1.testBit k=true→b.1.testBit k=true)∧f.2=b.2 &&& f.1
theorem ZkG {b:Bar} (g:b.good):Less b b:=⟨fun _ h=>h,g.2.symm⟩
theorem ZoR {b f:Bar} (h:Less b f) (k:Nat):Less b (f.wo k):=by
 refine⟨fun j hj=>h.1 j ?_,?_⟩
 ·rw[wo1,Bool.and_eq_true]at hj; exact hj.1
 ·apply Nat.eq_of_testBit_eq
  intro j;rw[wo2,Nat.testBit_and,wo1,h.2,Nat.testBit_and,Bool.and_assoc]
theorem Zsw {b:Bar} {k:Nat} (h:b.1.testBit k=true):(b.wo k).1 < b.1:=by
 have e:(b.wo k).1≤b.1:=Nat.sub_le _ _
 rcases Nat.lt_or_eq_of_le e with z | z
 ·exact z
 ·have:=wo1 b k k
  rw[z,h,decide_eq_true rfl]at this
  cases this
def Zvu (t:Ad):Sp:=fun vs H Q _=>∃(p pb:Addr) (m st bd held:Nat) (af:List Nat) (b:Bar),vs=[.ref p,.int (held:Int),.ref pb]∧Zb9 t H p m st bd af∧GoodC m st bd af∧ZaO H pb b∧b.good∧
 (∀H' p' k,Same H H'→b.1.testBit k=true→ZaO H' p' (b.wo k)→mayN af st held (b.wo k) (2 ^ m)=true→Q (.ref p') H')∧(∀H',Same H H'→(∀k,b.1.testBit k=true→mayN af st held (b.wo k) (2 ^ m)=false)→Q .non H')
theorem ZfI (T:Txt K mg t):FnS P w K mg base 3 "without_one_lamp" ["chart","held","bar"] ((Zvu t)):=by
 refine⟨_,_,T.ZaW.ok Zcd (fun vs H Q E h=>?_) (fun _ _ _ _ H vs Q E hr h=>?_),T.ZdE,T.ZaW.kp,T.ZdM⟩
 ·obtain⟨p,pb,m,st,bd,held,af,b,rfl,hC,hG,hb,hg,q1,q2⟩:=h
  rfl
 obtain⟨p,pb,m,st,bd,held,af,b,rfl,hC,hG,hb,hg,q1,q2⟩:=h;have ZmM:=Zlx (P:=P) (w:=w) (base:=base) T;have ZnQ:=Zno (P:=P) (w:=w) (base:=base) T;have Zd1:=ZfH (P:=P) (w:=w) (base:=base) T
 refine⟨_,(Zab (Zco PassesOwn.never rfl (Zfx (ZaY ZmM hr (Zaa (pv 2) Zae))) (sg 3 Zcd.nd)
   (Zab (ss 4 Zcd.nd (ZaY ZnQ hr (Zaa (pv 2) (Zaa (pv 3) Zae))))
   (Zad (Za0 (Zay (ZaY Zd1 hr (Zaa (pv 0) (Zaa (pv 1) (Zaa (pv 4) Zae)))) (fun _=>rfl))
   (Zad (Zas (pv 4)))
   Zar))))
   (Zad (Zas Zg1))),?_⟩
 walk_at "rd0";refine⟨pb,b,rfl,hb,hg.1,fun l H1 s1 n1 e1=>?_⟩;refine seqL (xs:=(ZfE b).map vi) (fun i σ H'=>Same H1 H'∧(∀j k,j < i→(ZfE b)[j]?=some k→mayN af st held (b.wo k) (2 ^ m)=false)∧∃v v',σ=[some (.ref p),some (.int (held:Int)),some (.ref pb),v,v']) ⟨Same.refl _,fun j k hj=>absurd hj (Nat.not_lt_zero _),_,_,rfl⟩ (fun i σ H' _ hp=>SqL.of (hp.1 _ _ e1)) ?_ ?_
 ·rintro i x σ H' hx ⟨sm,hk,v,v',rfl⟩
  obtain⟨k,rfl,hki⟩ : ∃k:Nat,x=.int (k:Int)∧(ZfE b)[i]?=some k:=by
   rw[getElem?_map]at hx
   cases e:(ZfE b)[i]? with
   | none=>rw[e]at hx; cases hx
   | some k=>rw[e]at hx; exact⟨k,(Option.some.inj hx).symm,rfl⟩
  have hbk:=(ZkF hg).mp (mem_of_getElem? hki);have hk6:k < 6:=Zhz hg hbk;walk_at "";refine⟨pb,b,k,rfl,by omega,sm _ _ (s1 _ _ hb),fun f2 H2 s2 n2 e2=>?_⟩;walk_at "";refine⟨p,f2,m,st,bd,held,af,b.wo k,rfl,hC.mono (Ext.of (s1.trans (sm.trans s2))),hG,e2,Zj6 hg k,fun H3 s3=>?_⟩;walk_at "";refine Zm7 (fun h1=>?_) (fun h1=>?_)
  ·walk_at ""
   exact q1 H3 f2 k (s1.trans (sm.trans (s2.trans s3))) hbk (s3 _ _ e2) h1
  ·walk_at ""
   refine⟨sm.trans (s2.trans s3),fun j k' hj hkj=>?_,_,_,rfl⟩
   by_cases e:j=i
   ·subst e
    rw[hki]at hkj
    cases hkj
    exact h1
   ·exact hk j k' (by omega) hkj
 ·rintro σ H' ⟨sm,hk,v,v',rfl⟩
  walk_at "";refine q2 H' (s1.trans sm) fun k hb'=>?_;obtain⟨j,hj⟩:=List.mem_iff_getElem?.mp ((ZkF hg).mpr hb');exact hk j k (by rw[length_map]; exact(List.getElem?_eq_some_iff.mp hj).1) hj
def ZpP (t:Ad):Sp:=fun vs H Q E=>∃(p pb:Addr) (m st bd held:Nat) (af:List Nat) (b:Bar),vs=[.ref p,.int (held:Int),.ref pb]∧Zb9 t H p m st bd af∧GoodC m st bd af∧ZaO H pb b∧b.good∧
 (mayN af st held b (2 ^ m)=false→∀H',Same H H'→E (.ref t.Zbc) none H')∧
 (mayN af st held b (2 ^ m)=true→∀H' p' f,Same H H'→ZaO H' p' f→f.good→Less b f→mayN af st held f (2 ^ m)=true→(∀k,f.1.testBit k=true→mayN af st held (f.wo k) (2 ^ m)=false)→Q (.ref p') H')
def WInv (p pb:Addr) (m st held:Nat) (af:List Nat) (b:Bar) (H:Hp) (n:Nat) (σ:St) (H':Hp):Prop:=∃f0 b0 v,Same H H'∧ZaO H' f0 b0∧b0.good∧Less b b0∧mayN af st held b0 (2 ^ m)=true∧
 ((v=V.non∧∀k,b0.1.testBit k=true→mayN af st held (b0.wo k) (2 ^ m)=false)∨(∃f1 k,v=.ref f1∧b0.1.testBit k=true∧ZaO H' f1 (b0.wo k)∧mayN af st held (b0.wo k) (2 ^ m)=true))∧n=b0.1∧σ=[some (.ref p),some (.int (held:Int)),some (.ref pb),some (.ref f0),some v]
theorem Zk6 {p pb:Addr} {m st bd held:Nat} {af:List Nat} {b:Bar} {H:Hp} {Q:VK} {nx:St→Hp→Prop} (hC:Zb9 t H p m st bd af) (hG:GoodC m st bd af)
  (fin:∀H' p' f,Same H H'→ZaO H' p' f→f.good→Less b f→mayN af st held f (2 ^ m)=true→(∀k,f.1.testBit k=true→mayN af st held (f.wo k) (2 ^ m)=false)→Q (.ref p') H') :
  ∀(n:Nat) (σ:St) (H':Hp),WInv p pb m st held af b H n σ H'→(ZpV (tOp (fun x y H Q=>y=V.non∧Q (V.bl !decide (x=V.non)) H) (tVar 4) (tC V.non))) σ H' fun c H1=>
   if c=true then ∃N:St→Hp→Prop,(∀σ' H',N σ' H'→∃m',m' < n∧WInv p pb m st held af b H m' σ' H')∧
    (tSeq (tAsg (tVar 4) (Zhw 3)) (tAsg (tFn (Zvu t) (ZlM (tVar 0) (ZlM (tVar 1) (ZlM (tVar 3) tNil)))) (Zhw 4))) { nx:=N,rt:=Q,ct:=N,bk:=tRet (tVar 3) { nx:=nx,rt:=Q } } σ H1
   else tRet (tVar 3) { nx:=nx,rt:=Q } σ H1:=by
 rintro n σ H' ⟨f0,b0,v,sm,hf0,hg0,hL,hm1,hv,rfl,rfl⟩;walk_at "";refine⟨rfl,?_⟩
 rcases hv with⟨rfl,hw⟩ | ⟨f1,k1,rfl,hk1,hf1,hm2⟩
 ·walk_at ""
  refine ZaF rfl ?_;walk_at "";exact fin H' f0 b0 sm hf0 hg0 hL hm1 hw
 ·walk_at ""
  refine Zca rfl ?_;refine⟨fun σ' H''=>∃m',m' < b0.1∧WInv p pb m st held af b H m' σ' H'',fun σ' H'' h=>h,?_⟩;walk_at "";refine⟨p,f1,m,st,bd,held,af,b0.wo k1,rfl,hC.mono (Ext.of sm),hG,hf1,Zj6 hg0 k1,?_,?_⟩
  ·intro H3 f3 k3 s3 hk3 hf3 hm3
   walk_at "";exact⟨_,Zsw hk1,f1,b0.wo k1,_,sm.trans s3,s3 _ _ hf1,Zj6 hg0 k1,ZoR hL k1,hm2,.inr ⟨f3,k3,rfl,hk3,hf3,hm3⟩,rfl,rfl⟩
  ·intro H3 s3 hw3
   walk_at "";exact⟨_,Zsw hk1,f1,b0.wo k1,_,sm.trans s3,s3 _ _ hf1,Zj6 hg0 k1,ZoR hL k1,hm2,.inl ⟨rfl,hw3⟩,rfl,rfl⟩
theorem Znn (T:Txt K mg t):FnS1 P w K mg base 4 "widened" ["chart","held","bar"] ((ZpP t)):=by
 refine⟨_,_,T.ZdY.ok1 Zed (fun vs H Q E h=>?_) (fun _ _ _ _ H vs Q E hr h=>?_),T.Zkg,T.ZdY.kp,T.ZkI⟩
 ·obtain⟨p,pb,m,st,bd,held,af,b,rfl,hC,hG,hb,hg,q1,q2⟩:=h
  rfl
 obtain⟨p,pb,m,st,bd,held,af,b,rfl,hC,hG,hb,hg,q1,q2⟩:=h;have ZdC:=ZfI (P:=P) (w:=w) (base:=base) T;have Zd1:=ZfH (P:=P) (w:=w) (base:=base) T
 refine⟨_,(Zab (Za0 (PT.nox (Zc1 (Zay (ZaY Zd1 hr (Zaa (pv 0) (Zaa (pv 1) (Zaa (pv 2) Zae)))) (fun _=>rfl))))
   (Zad (Zmq rfl ZuJ T.ZhZ.own rfl T.ZhK (PA.nox (Zaa Zeb Zae))))
   (PSs.nox Zar))
   (PSs.nox (Zab (ss 3 Zed.nd (pv 2))
   (Zab (ss 4 Zed.nd (ZaY ZdC hr (Zaa (pv 0) (Zaa (pv 1) (Zaa (pv 3) Zae)))))
   (Zab (Zfd PassesOwn.never (Zan ZlB (pv 4) Zg1 (Zap _))
   (Zab (ss 3 Zed.nd (pv 4))
   (Zad (ss 4 Zed.nd (ZaY ZdC hr (Zaa (pv 0) (Zaa (pv 1) (Zaa (pv 3) Zae))))))))
   (Zad (Zas (pv 3)))))))),?_⟩
 walk_at "rd0";refine⟨p,pb,m,st,bd,held,af,b,rfl,hC,hG,hb,hg,fun H1 s1=>?_⟩;walk_at "";refine Zm7 (fun h1=>?_) (fun h1=>?_)
 ·refine Zs2 ?_
  walk_at "";exact⟨by decide,q1 (by simpa using h1) H1 s1⟩
 have hm0:mayN af st held b (2 ^ m)=true:=by simpa using h1
 walk_at "";refine⟨p,pb,m,st,bd,held,af,b,rfl,hC.mono (Ext.of s1),hG,s1 _ _ hb,hg,?_,?_⟩
 ·intro H2 f k s2 hk hf hmay
  walk_at "";refine⟨fun n σ H'=>WInv p pb m st held af b H n σ H',⟨_,pb,b,_,s1.trans s2,s2 _ _ (s1 _ _ hb),hg,ZkG hg,hm0,.inr ⟨f,k,rfl,hk,hf,hmay⟩,rfl,rfl⟩,?_⟩;exact Zk6 hC hG (q2 hm0)
 ·intro H2 s2 hw
  walk_at "";refine⟨fun n σ H'=>WInv p pb m st held af b H n σ H',⟨_,pb,b,_,s1.trans s2,s2 _ _ (s1 _ _ hb),hg,ZkG hg,hm0,.inl ⟨rfl,hw⟩,rfl,rfl⟩,?_⟩;exact Zk6 hC hG (q2 hm0)
def ZtD:Sp:=fun vs H Q _=>∃c:Nat,vs=[.int (c:Int)]∧0 < c∧Q (.int ((lowN c:Nat):Int)) H
theorem ZjK (T:Txt K mg t):FnS P w K mg base 1 "least" ["crowd"] (ZtD):=by
 refine⟨_,_,T.Zgm.ok Zrk (fun vs H Q E h=>?_) (fun _ _ _ _ H vs Q E hr h=>?_),T.ZnX,T.Zgm.kp,T.ZoX⟩
 ·obtain⟨c,rfl,hc,q⟩:=h
  rfl
 obtain⟨c,rfl,hc,q⟩:=h;refine⟨_,(Zad (Zas (Zaf Zea (Zpa PySem.F.plainAttrs_int PySem.F.slot_int_bit_length PySem.F.type_int_bit_length Zgb (Zaf ZaL (pv 0) (ZgD Zp3 (pv 0)))) Zac))),?_⟩;walk_at "rd0";rw[Ztc hc];exact q
def ZtB:Sp:=fun vs H Q _=>∃(m s:Nat),vs=[.int (m:Int),.int (s:Int)]∧m≤6∧∀p H',Same H H'→H p=none→ZaO H' p (2 ^ m - 1,s)→Q (.ref p) H'
theorem Zo2 (T:Txt K mg t):FnS P w K mg base 1 "bar_of" ["many","stand"] (ZtB):=by
 refine⟨_,_,T.ZeW.ok Zpx (fun vs H Q E h=>?_) (fun _ _ _ _ H vs Q E hr h=>?_),T.ZlR,T.ZeW.kp,T.Zmf⟩
 ·obtain⟨m,n,rfl,hm,q⟩:=h
  rfl
 obtain⟨m,n,rfl,hm,q⟩:=h;refine⟨_,(Zad (Zas (Zew (Zaa (Zaf Zea (Zaf ZbF Zac (pv 0)) Zac) (Zaa (pv 1) Zae))))),?_⟩;walk_at "rd0";rw[ZaZ];have h1:1≤2 ^ m:=Nat.one_le_two_pow
 have e:((2 ^ m:Nat):Int) - 1=((2 ^ m - 1:Nat):Int):=by omega
 rw[e];exact Zg7 (Nat.le_of_ble_eq_true rfl) fun p H' s1 n1 e1=>q p H' s1 n1 e1
end
theorem Zq8 {a b:Int×Int} (h:ple a b) (k:ple b a):a=b:=by
 unfold ple at h k;exact Prod.ext (by omega) (by omega)
theorem ZpD {a b:List Bar} (ha:(a.map ib).Pairwise ple) (hb:(b.map ib).Pairwise ple) (h:a.Perm b):a=b:=by
 have e:=List.Perm.eq_of_pairwise (fun x y _ _=>Zq8) ha hb (h.map ib)
 exact List.map_inj_right (f:=ib) (fun x y h=>Zux h) |>.mp e
end LW
open PySem L2
namespace LW
open PySem L2 EM
open List (all_eq_true any_eq_true any_map append_assoc append_nil filter_append filter_cons filter_nil filter_sublist getD_eq_getElem?_getD getElem?_append_left getElem?_append_right getElem?_inj getElem?_map length_append length_cons length_filter_le length_map length_nil length_range length_set length_singleton length_take map_append map_cons map_map map_nil map_set mem_append mem_cons mem_cons_self mem_filter mem_map mem_of_getElem? mem_range mem_singleton nodup_cons range_succ take_length)
theorem ZiU {t u:TS} {D:Ends} {σ:St} {H:Hp} (Pn:St→Hp→Prop) (h2:∀σ H,Pn σ H→u D σ H) (h1:∀Kn:St→Hp→Prop,(∀σ H,Pn σ H→Kn σ H)→t { D with nx:=Kn } σ H):tSeq t u D σ H:=h1 (u D) h2
section
variable {P:Program} {w:World} {K:W.Frag} {mg:Str→Option Value} {base:Heap} {t:Ad}
theorem Zdw (c:Int) (m:Nat):∃a:Nat,c % ((2 ^ m:Nat):Int)=(a:Int)∧a < 2 ^ m:=by
 have h0:0 < 2 ^ m:=Nat.two_pow_pos m;have h1:=Int.emod_nonneg c (show((2 ^ m:Nat):Int)≠0 by omega);have h2:=Int.emod_lt_of_pos c (show(0:Int) < ((2 ^ m:Nat):Int) by omega);exact⟨(c % ((2 ^ m:Nat):Int)).toNat,by omega,by omega⟩
theorem Zmx (af:List Nat) (k v:Nat):((nums af).map V.int).set k (.int (v:Int))=(nums (af.set k v)).map V.int:=by
 unfold nums;rw[map_set,map_set]
theorem Zhx {af:List Nat} {B k:Nat} (h:∀x∈af,x < B) (hB:0 < B):af.getD k 0 < B:=by
 rw[getD_eq_getElem?_getD]
 cases e:af[k]? with
 | none=>exact hB
 | some x=>exact h x (mem_of_getElem? e)
theorem Zvi {af:List Nat} {B k v:Nat} (h:∀x∈af,x < B) (hv:v < B):∀x∈af.set k v,x < B:=fun x hx=>by
 rcases List.mem_or_eq_of_mem_set hx with hx | hx
 ·exact h x hx
 ·rw[hx]; exact hv
structure AF (l:Addr) (af:List Nat) (m:Nat) (H:Hp):Prop where
 fl:H l=some (.lst ((nums af).map V.int))
 len:af.length=2 ^ m
 bd:∀x∈af,x < 2 ^ 2 ^ m
theorem AF.set {l:Addr} {af:List Nat} {m k v:Nat} {H H':Hp} (a:AF l af m H) (e:H' l=some (.lst (((nums af).map V.int).set k (.int (v:Int))))) (hv:v < 2 ^ 2 ^ m):AF l (af.set k v) m H':=
 ⟨by rw[e,Zmx],by rw[length_set]; exact a.len,Zvi a.bd hv⟩
section
variable {σ:St} {H:Hp}
theorem ZqF {p C dx:Addr} {fs:List (Str×V)} {f:Str} {y:V} {R:Hp→Prop} (h:H p=some (.ins C dx fs)) (c:Cls K C) (n:ZcQ K C f) (z:fs.length < 1000) (k:∀H',But p H H'→H' p=some (.ins C dx (putF f y fs))→R H') :
  ∃a C dx fs,(V.ref p)=.ref a∧H a=some (.ins C dx fs)∧Cls K C∧ZcQ K C f∧fs.length < 1000∧R (upd H a (.ins C dx (putF f y fs))):=⟨p,C,dx,fs,rfl,h,c,n,z,k _ Zeh Zak⟩
theorem ZoG {Q:VK} (k:∀d H',Same H H'→H d=none→H' d=some (.dT [])→Q (.ref d) H'):Zso σ H Q:=fun d hd=>k d _ (Zbn hd _) hd Zak
theorem ZiT {td ty tv:TE} {D:Ends} (h:tv σ H fun v H1=>td σ H1 fun x H2=>ty σ H2 fun y H3=>∃a H4,x=.ref a∧DPut H3 a y v H4∧D.nx σ H4):Zvg td ty tv D σ H:=h
theorem Zkw {d b:Addr} {kvs:List (List Key×V)} {k:List Key} {v:V} {R:Hp→Prop} (e:H d=some (.dT kvs)) (eb:H b=some (.tup (k.map kV))) (z:kvs.length < 1000) (q:∀H',But d H H'→H' d=some (.dT (putK kvs k v))→R H'):∃a H4,(V.ref d)=.ref a∧DPut H a (.ref b) v H4∧R H4:=
 ⟨d,_,rfl,DPut.t e eb (Zmz (by omega)),q _ Zeh Zak⟩
end
def OffD (p l d:Addr) (H H':Hp):Prop:=∀b u,b≠p→b≠l→b≠d→H b=some u→H' b=some u
theorem OffD.trans {p l d:Addr} {H H1 H2:Hp} (a:OffD p l d H H1) (b:OffD p l d H1 H2):OffD p l d H H2:=fun c u h1 h2 h3 e=>b c u h1 h2 h3 (a c u h1 h2 h3 e)
theorem OffD.of {p l d:Addr} {H H1:Hp} (a:Same H H1):OffD p l d H H1:=fun c u _ _ _ e=>a c u e
theorem OffD.l {p l d:Addr} {H H1:Hp} (a:But l H H1):OffD p l d H H1:=fun c u _ h _ e=>a c u h e
theorem FrP.same {H H':Hp} {p dx c d l:Addr} {o:Obj} {m st bd:Nat} {af:List Nat} {L:List (Bar×Nat)} {cr:List Nat} (F:FrP t H p dx c d l o m st bd af L cr) (s:Same H H'):FrP t H' p dx c d l o m st bd af L cr:=
 ⟨s _ _ F.ob,F.ch.mono (Ext.of s),s _ _ F.lv,s _ _ F.cw⟩
theorem FrP.cut {H H':Hp} {p dx c d l:Addr} {o:Obj} {m st bd:Nat} {af:List Nat} {L:List (Bar×Nat)} {cr cr':List Nat} (F:FrP t H p dx c d l o m st bd af L cr) (b:But l H H') (e:H' l=some (.lst ((nums cr').map V.int))):FrP t H' p dx c d l o m st bd af L cr':=
 ⟨b _ _ (ZaK F.ob F.cw (by intro z; cases z)) F.ob,F.ch.mono (b.ext F.cw),b _ _ (ZaK F.lv F.cw (by intro z; cases z)) F.lv,e⟩
def Zd5 (cr:List Nat) (c j:Nat):List Nat:=cr.set j (cr.getD j 0 - (cr.getD j 0 &&& c))
def cutC (cr:List Nat) (c:Nat):Nat→List Nat
 | 0=>cr
 | i+1=>Zd5 (cutC cr c i) c (i+1)
theorem ZbX (cr:List Nat) (c:Nat):∀i,(cutC cr c i).length=cr.length
 | 0=>rfl
 | i+1=>by
  unfold cutC Zd5;rw[length_set];exact ZbX cr c i
def Zsm (t:Ad):Sp:=fun vs H Q _=>∃(p dx c d l:Addr) (o:Obj) (m st bd:Nat) (af:List Nat) (L:List (Bar×Nat)) (cr:List Nat) (j:Nat) (pb:Addr) (b:Bar),vs=[.ref p,.int (j:Int),.ref pb]∧FrP t H p dx c d l o m st bd af L cr∧m≤6∧j < cr.length∧ZaO H pb b∧b.good∧
 ∀H',But l H H'→H' l=some (.lst ((nums (Zd5 cr (Zaq (2 ^ m) b) j)).map V.int))→Q .non H'
theorem Zgc (T:Txt K mg t):MeS P w K mg base 3 t.Zag "take_out" ["self","number","bar"] (spAt (Zsm t) t.Zag):=by
 refine⟨T.Zat,_,_,T.Za6.ok Zgg (fun vs H Q E h=>?_) (fun _ _ _ _ H vs Q E hr h=>?_),T.Zd3,T.Zd9⟩
 ·obtain⟨⟨p,dx,c,d,l,o,m,st,bd,af,L,cr,j,pb,b,rfl,_⟩,_⟩:=h
  rfl
 obtain⟨⟨p,dx,c,d,l,o,m,st,bd,af,L,cr,j,pb,b,rfl,F,hm,hj,hb,hg,q⟩,_⟩:=h;have Zd0:=ZfG (P:=P) (w:=w) (base:=base) T;obtain⟨dy,tp,c1,c2⟩:=id F.ch;refine⟨_,(Zad (Zi7 (Zaf ZaL (ZaQ Zav (Za8 (pv 0) rfl) (pv 1) (fun _ _=>rfl)) (ZgD Zfy (ZaY Zd0 hr (Zaa (Za8 (Za8 (pv 0) rfl) rfl) (Zaa (pv 2) Zae))))) (ZkP (Za8 (pv 0) rfl) (pv 1) Zgj))),?_⟩;walk_at "rd0";refine⟨p,_,_,_,_,rfl,F.ob,T.Zat,T.Zau,Zct _ _ _,?_⟩;walk_at "";refine Zfi F.cw (Za2 hj) ?_;walk_at "";refine⟨p,_,_,_,_,rfl,F.ob,T.Zat,T.Za3,ZhH _ _ _,?_⟩;walk_at "";refine⟨c,_,_,_,_,rfl,c1,T.Zbx,T.Za5,ZeG _ _ _ _,?_⟩;walk_at "";refine⟨m,pb,b,rfl,hm,hb,hg,?_⟩;walk_at "";rw[Zba];refine⟨p,_,_,_,_,rfl,F.ob,T.Zat,T.Zau,Zct _ _ _,?_⟩;walk_at "";refine ZoI F.cw (by rw[ZaG]; exact hj) fun H1 b1 e1=>?_;rw[Zmx]at e1;exact q H1 b1 e1
theorem ZfP (T:Txt K mg t):∀C,isFr t C→MeS P w K mg base 3 C "take_out" ["self","number","bar"] (spAt (Zsm t) C):=by
 rintro C rfl;exact Zgc T
def Zvo (t:Ad):Sp:=fun vs H Q _=>∃(p dx c d l:Addr) (o:Obj) (m st bd:Nat) (af:List Nat) (L:List (Bar×Nat)) (cr:List Nat),vs=[.ref p]∧FrP t H p dx c d l o m st bd af L cr∧m≤6∧cr.length < 1000∧
 ∀H',But l H H'→H' l=some (.lst ((nums (cr++[2 ^ 2 ^ m - 1])).map V.int))→Q .non H'
theorem ZfF (T:Txt K mg t):MeS P w K mg base 3 t.Zag "add_frame" ["self"] (spAt (Zvo t) t.Zag):=by
 refine⟨T.Zat,_,_,T.ZaV.ok ZfN (fun vs H Q E h=>?_) (fun _ _ _ _ H vs Q E hr h=>?_),T.ZdD,T.ZdL⟩
 ·obtain⟨⟨p,dx,c,d,l,o,m,st,bd,af,L,cr,rfl,_⟩,_⟩:=h
  rfl
 obtain⟨⟨p,dx,c,d,l,o,m,st,bd,af,L,cr,rfl,F,hm,hn,q⟩,_⟩:=h;have ZcP:=Zem (P:=P) (w:=w) (base:=base) T;obtain⟨dy,tp,c1,c2⟩:=id F.ch;refine⟨_,(Zad (Zbu (ZkO PySem.F.plainAttrs_list PySem.F.slot_list_append PySem.F.type_list_append Zb4 (Za8 (pv 0) rfl) (Zaa (ZaY ZcP hr (Zaa (Za8 (Za8 (pv 0) rfl) rfl) Zae)) Zae)))),?_⟩;walk_at "rd0";refine⟨p,_,_,_,_,rfl,F.ob,T.Zat,T.Zau,Zct _ _ _,?_⟩;have cw:=F.cw;walk_at "";refine⟨tyL cw,?_⟩;walk_at "";refine⟨p,_,_,_,_,rfl,F.ob,T.Zat,T.Za3,ZhH _ _ _,?_⟩;walk_at "";refine⟨c,_,_,_,_,rfl,c1,T.Zbx,T.Za5,ZeG _ _ _ _,?_⟩;walk_at "";refine⟨m,rfl,hm,?_⟩;walk_at "";refine Zb7 cw (by rw[ZaG]; omega) fun H1 b1 e1=>?_;rw[←ZcS]at e1;exact q H1 b1 e1
theorem Zii (T:Txt K mg t):∀C,isFr t C→MeS P w K mg base 3 C "add_frame" ["self"] (spAt (Zvo t) C):=by
 rintro C rfl;exact ZfF T
def ZpL (t:Ad):Sp:=fun vs H Q _=>∃(p dx c:Addr) (m st bd:Nat) (af:List Nat),vs=[.ref p,.ref c]∧H p=some (.ins t.Zag dx [])∧Zb9 t H c m st bd af∧m≤6∧
 ∀d l o H',But p H H'→H d=none→H l=none→FrP t H' p dx c d l o m st bd af [] [st,2 ^ 2 ^ m - 1]→Q .non H'
theorem Zo1 (T:Txt K mg t):MkS P w K mg base 3 "Frames" t.Zag ["self","chart"] (ZpL t):=by
 refine⟨T.Zme,_,_,T.Zl9,T.Zcp.ok ZiE (fun vs H Q E h=>?_) (fun _ _ _ _ H vs Q E hr h=>?_),T.ZfS⟩
 ·obtain⟨p,dx,c,m,st,bd,af,rfl,_⟩:=h
  rfl
 obtain⟨p,dx,c,m,st,bd,af,rfl,hp0,hC,hm,q⟩:=h;have ZcP:=Zem (P:=P) (w:=w) (base:=base) T;have z1:=Zfa "base" (.ref c) [];rw[length_nil]at z1;obtain⟨dy,tp,c1,c2⟩:=id hC
 have cp:c≠p:=fun z=>by
  rw[z,hp0]at c1;have e:=(HO.ins.inj (Option.some.inj c1)).2.2;have:=ZeG (m:Int) (st:Int) (bd:Int) tp;rw[←e]at this
  cases this
 have tpp:tp≠p:=ZaK c2 hp0 (by intro z; cases z)
 refine⟨_,(Zab (Zg2 (pv 0) (pv 1) rfl)
   (Zab (Zg2 (pv 0) ZjP rfl)
   (Zad (Zg2 (pv 0) (Zgd (Zaa (Za8 (pv 1) rfl) (Zaa (ZaY ZcP hr (Zaa (Za8 (pv 1) rfl) Zae)) Zae))) rfl)))),?_⟩
 walk_at "rd0";refine ZqF hp0 T.Zat T.Za3 (by decide) fun H1 b1 e1=>?_;walk_at "";refine ZoG fun d H2 s2 n2 e2=>?_;have z2:=Zfa "levels" (.ref d) (putF "base" (.ref c) []);walk_at "";have dp:d≠p:=Ne.symm (Zai e1 n2);refine ZqF (s2 _ _ e1) T.Zat T.ZaH (by omega) fun H3 b3 e3=>?_;have e4:=b3 _ _ dp e2;have k4:∀b u,b≠p→H b=some u→H3 b=some u:=fun b u hb e=>b3 _ _ hb (s2 _ _ (b1 _ _ hb e));have hp4:=e3;have c4:=k4 _ _ cp c1;walk_at "";refine⟨c,_,_,_,_,rfl,c4,T.Zbx,T.Zbl,ZhI _ _ _ _,?_⟩;walk_at "";refine⟨c,_,_,_,_,rfl,c4,T.Zbx,T.Za5,ZeG _ _ _ _,?_⟩;walk_at "";refine⟨m,rfl,hm,?_⟩;walk_at "";refine Zjz (Nat.le_of_ble_eq_true rfl) fun l H5 s5 n5 e5=>?_;walk_at "";refine ZqF (s5 _ _ hp4) T.Zat T.Zau (by omega) fun H6 b6 e6=>?_;have lp:l≠p:=Ne.symm (Zai hp4 n5)
 have hd:H d=none:=by
  cases e:H d with
  | none=>rfl
  | some u=>rw[b1 _ _ dp e]at n2; cases n2
 have hl:H l=none:=by
  cases e:H l with
  | none=>rfl
  | some u=>rw[k4 _ _ lp e]at n5; cases n5
 have k6:But p H H6:=fun b u hb e=>b6 _ _ hb (s5 _ _ (k4 _ _ hb e));exact q d l { cls:=.none,data:=.fields #[] } H6 k6 hd hl ⟨e6,⟨dy,tp,k6 _ _ cp c1,k6 _ _ tpp c2⟩,b6 _ _ dp (s5 _ _ e4),b6 _ _ lp e5⟩
theorem ZqB {c:Addr} {m st bd:Nat} {af:List Nat} {H:Hp} {Q:VK} (hC:Zb9 t H c m st bd af) (hm:m≤6) (h:∀(p dx d l:Addr) (o:Obj) (H':Hp),Same H H'→H p=none→H l=none→H d=none→p≠l→FrP t H' p dx c d l o m st bd af [] [st,2 ^ 2 ^ m - 1]→Q (.ref p) H') :
  MkG t.Zag (ZpL t) [.ref c] H Q:=by
 intro x dx hx hdx ne;have s2:=ZkU hx hdx (.ins t.Zag dx []) (.own x);refine⟨x,dx,c,m,st,bd,af,rfl,Zak,hC.mono (Ext.of s2),hm,fun d l o H' s3 hd hl F=>⟨rfl,?_⟩⟩;refine h x dx d l o H' (fun b u e=>s3 b u (Zai e hx) (s2 b u e)) hx ?_ ?_ (ZaK F.ob F.cw (by intro z; cases z)) F
 ·cases e:H l with
  | none=>rfl
  | some u=>rw[s2 _ _ e]at hl; cases hl
 ·cases e:H d with
  | none=>rfl
  | some u=>rw[s2 _ _ e]at hd; cases hd
def Zeu (L:List (Bar×Nat)) (k:Nat) (b:Bar):Bool:=L.any fun q=>decide (k≤q.2) && subB b q.1
def Zdv (L:List (Bar×Nat)) (k:Nat) (b:Bar):List (Bar×Nat):=L.filter fun q=>decide (k < q.2) || !subB q.1 b
def Zex (L:List (Bar×Nat)) (k:Nat) (b:Bar):List (Bar×Nat):=Zdv L k b++[(b,k)]
theorem ZkY (b:Bar):subB b b=true:=Zj3.mpr fun _ _ h=>⟨h,rfl⟩
theorem Zl8 {a b:Bar} (h:kB a=kB b):a=b:=by
 simp only [kB,List.cons.injEq,Sum.inl.injEq,and_true]at h;exact Prod.ext (by omega) (by omega)
theorem Zpj {M:List (Bar×Nat)} {b:Bar} {n:Nat} (h:∀q∈M,q.1≠b):putK (lvK M) (kB b) (.int (n:Int))=lvK (M++[(b,n)]):=by
 unfold putK;rw[if_neg]
 ·unfold lvK; rw[map_append]; rfl
 ·intro z
  rw[any_eq_true]at z;obtain⟨x,hx,e⟩:=z;unfold lvK at hx;obtain⟨q,hq,rfl⟩:=mem_map.mp hx;exact h q hq (Zl8 (of_decide_eq_true e))
theorem ZqV {L:List (Bar×Nat)} (h:(L.map (·.1)).Nodup) {i:Nat} {b:Bar} {n:Nat} (e:L[i]?=some (b,n)):∀q∈L.take i,q.1≠b:=by
 intro q hq z;obtain⟨j,hj⟩:=List.mem_iff_getElem?.mp hq
 have hji:j < i:=by
  have:=(List.getElem?_eq_some_iff.mp hj).1;rw[length_take]at this;omega
 rw[List.getElem?_take,if_pos hji]at hj
 have e1:(L.map (·.1))[j]?=some b:=by rw[getElem?_map,hj,←z]; rfl
 have e2:(L.map (·.1))[i]?=some b:=by rw[getElem?_map,e]; rfl
 have hjl:=(List.getElem?_eq_some_iff.mp e1).1;have:=(getElem?_inj hjl h).mp (e1.trans e2.symm);omega
theorem ZgB (L:List (Bar×Nat)):(lvK L).length=L.length:=by unfold lvK; rw[length_map]
theorem ZjI {L:List (Bar×Nat)} {k:Nat} {b:Bar} (h:Zeu L k b=false):∀q∈Zdv L k b,q.1≠b:=by
 intro q hq z;unfold Zdv at hq;obtain⟨h1,h2⟩:=mem_filter.mp hq;rw[z,ZkY,Bool.not_true,Bool.or_false,decide_eq_true_iff]at h2
 have:Zeu L k b=true:=by
  unfold Zeu;rw[any_eq_true];exact⟨q,h1,by rw[z,ZkY,Bool.and_true]; exact decide_eq_true (by omega)⟩
 rw[h]at this
 cases this
theorem Znu (c d d' l:Addr):putF "levels" (.ref d') (ZcV c d l)=ZcV c d' l:=by
 unfold ZcV;rfl
def Zsl (t:Ad):Sp:=fun vs H Q E=>∃(p dx c d l:Addr) (o:Obj) (m st bd:Nat) (af:List Nat) (L:List (Bar×Nat)) (cr:List Nat) (k:Nat) (pb:Addr) (b:Bar),vs=[.ref p,.int (k:Int),.ref pb]∧FrP t H p dx c d l o m st bd af L cr∧GoodC m st bd af∧1≤k∧k < cr.length∧cr.length < 1000∧L.length < 1000∧
 (∀q∈L,q.1.good)∧(L.map (·.1)).Nodup∧ZaO H pb b∧b.good∧
 (mayN af st (cr.getD (k - 1) 0) b (2 ^ m)=false→∀H',Same H H'→E (.ref t.Zbc) none H')∧
 (mayN af st (cr.getD (k - 1) 0) b (2 ^ m)=true→Zeu L k b=true→∀H',Same H H'→Q .non H')∧
 (mayN af st (cr.getD (k - 1) 0) b (2 ^ m)=true→Zeu L k b=false→∀d' o' H',H d'=none→OffD p l d H H'→FrP t H' p dx c d' l o' m st bd af (Zex L k b) (cutC cr (Zaq (2 ^ m) b) k)→Q .non H')
theorem ZiC (T:Txt K mg t):MeS1 P w K mg base 5 t.Zag "shut" ["self","k","bar"] (spAt (Zsl t) t.Zag):=by
 refine⟨T.Zat,_,_,T.ZbW.ok1 Zb5 (fun vs H Q E h=>?_) (fun _ _ _ _ H vs Q E hr h=>?_),T.ZfV,T.Zf4⟩
 ·obtain⟨⟨p,dx,c,d,l,o,m,st,bd,af,L,cr,k,pb,b,rfl,_⟩,_⟩:=h
  rfl
 obtain⟨⟨p,dx,c,d,l,o,m,st,bd,af,L,cr,k,pb,b,rfl,F,hG,hk1,hk,hcl,h64,hgL,hnd,hb,hg,qE,qC,qN⟩,_⟩:=h;have Zd1:=ZfH (P:=P) (w:=w) (base:=base) T;have ZlP:=Zo4 (P:=P) (w:=w) (base:=base) T;have D_check:=ZeV (P:=P) (w:=w) (base:=base) T;have D_bars:=Zj8 (P:=P) (w:=w) (base:=base) T;have D_take_out:=ZfP (P:=P) (w:=w) (base:=base) T
 refine⟨_,(Zab (PS.nox (Zbu (Zfk D_check hr (pv 0) (Zaa (pv 1) (Zaa Zac Zae)))))
   (Zab (Za0 (PT.nox (Zc1 (Zay (ZaY Zd1 hr (Zaa (Za8 (pv 0) rfl) (Zaa (ZaQ Zav (Za8 (pv 0) rfl) (Zaf Zea (pv 1) Zac) (fun _ _=>rfl)) (Zaa (pv 2) Zae)))) (fun _=>rfl))))
   (Zad (Zmq rfl ZuJ T.ZhZ.own rfl T.ZhK (PA.nox (Zaa Zeb Zae))))
   (PSs.nox Zar))
   (PSs.nox (Zab (Za0 (Zay (Zaw (Zn1 rfl) rfl T.B.any Zt3 (Zaa (ZfK (sc:=Zah Zda) (N:=["self","k","bar","stay","other","level","number"]) (ns:=["bar"]) (ix:=[2]) rfl rfl (by decide +kernel) rfl (Zfx (Zfk D_bars hr (pv 0) (Zaa (pv 1) Zae))) (fun _ _ _ _=>ZjT) (fun _ _ _ _=>(ZaY ZlP hr (Zaa (pv 1) (Zaa (pv 0) Zae))))) Zae)) (fun _=>rfl))
   (Zad Ztu)
   Zar)
   (Zab (ss 3 Zb5.nd ZjP)
   (Zab (Zco PassesOwn.never rfl (ZjS (ZjQ (Za8 (pv 0) rfl))) (ZkQ rfl (ZcM (sg 4 Zb5.nd) (ZcM (sg 5 Zb5.nd) ZhW)))
   (Zad (Za0 (PW.pt (Zge (Zan Zo5 (pv 5) (pv 1) (Zap _)) (ZeO (Zc1 (Zay (ZaY ZlP hr (Zaa (pv 4) (Zaa (pv 2) Zae))) (fun _=>rfl))))))
   (Zad (ZhX (Nat.lt_of_le_of_lt (Nat.add_le_add_left (by decide) _) hr.units) (pv 3) (pv 4) (pv 5) rfl))
   Zar)))
   (Zab (ZhX (Nat.lt_of_le_of_lt (Nat.add_le_add_left (by decide) _) hr.units) (pv 3) (pv 2) (pv 1) rfl)
   (Zab (Zg2 (pv 0) (pv 3) rfl)
   (Zad (Zco PassesOwn.never rfl (ZeM rfl T.B.range (Zaa Zac (Zaa (Zaf ZaM (pv 1) Zac) Zae))) (sg 6 Zb5.nd)
   (Zad (Zbu (Zfk D_take_out hr (pv 0) (Zaa (pv 6) (Zaa (pv 2) Zae))))))))))))))),?_⟩
 walk_at "rd0";refine⟨p,_,_,_,rfl,F.ob,rfl,ZaB _ _ _ _ (by decide) (by decide) (by decide),?_⟩;walk_at "";refine⟨F.ob,p,dx,c,d,l,o,m,st,bd,af,L,cr,k,1,rfl,F,hk1,hk,?_⟩;walk_at "";refine⟨p,_,_,_,_,rfl,F.ob,T.Zat,T.Za3,ZhH _ _ _,?_⟩;walk_at "";refine⟨p,_,_,_,_,rfl,F.ob,T.Zat,T.Zau,Zct _ _ _,?_⟩;walk_at "";rw[show((k:Int) - 1)=((k - 1:Nat):Int) by omega];refine Zfi F.cw (Za2 (by omega)) ?_;walk_at "";refine⟨c,pb,m,st,bd,_,af,b,rfl,F.ch,hG,hb,hg,fun H1 s1=>?_⟩;walk_at ""
 cases hmay:mayN af st (cr.getD (k - 1) 0) b (2 ^ m) with
 | false=>
  refine Zca rfl ?_;walk_at "";exact⟨by decide,qE hmay H1 s1⟩
 | true=>
  refine ZaF rfl ?_;have F1:=F.same s1;walk_at "";refine⟨p,_,_,_,rfl,F1.ob,rfl,ZaB _ _ _ _ (by decide) (by decide) (by decide),?_⟩;walk_at "";refine⟨F1.ob,p,dx,c,d,l,o,m,st,bd,af,L,cr,k,rfl,F1,hk1,hk,h64,fun H2 r s2 n2 hbars=>?_⟩;obtain⟨ps,bs,er,hps,hperm,_⟩:=hbars
  have hbs:∀x∈bs,x.good:=fun x hx=>by
   obtain⟨q,hq,rfl⟩:=mem_map.mp (hperm.mem_iff.mp hx);exact hgL q (mem_filter.mp hq).1
  have hlen:ps.length < 1000:=by
   have z1:=ZaC hps;have z2:=hperm.length_eq;have z3:=length_filter_le (fun q:Bar×Nat=>(fun n k=>decide (k≤n)) q.2 k) L;rw[length_map]at z2;omega
  have hb2:ZaO H2 pb b:=s2 _ _ (s1 _ _ hb);refine .inl ⟨r,_,rfl,SqL.of er,?_⟩;refine ZfB (fun i ys=>ys=((bs.take i).map fun x=>subB b x).map V.bl) (ZlN (SqL.of er)) (by rw[length_map]; omega) rfl ?_ ?_
  ·intro i x ys acc H' hx s3 hacc ea hy _ R kk
   obtain⟨px,rfl,hpx⟩:=ZeF hx;obtain⟨bx,hbx,hB⟩:=ZbM hps hpx;simp only [subS,map_cons,map_nil];walk_at "";refine kk _ H' (Same.refl _) (fun z=>by cases z) fun z R2 k2=>?_;walk_at "";refine⟨pb,px,b,bx,rfl,s3 _ _ hb2,s3 _ _ hB,hg,hbs bx (mem_of_getElem? hbx),fun H'' s4=>?_⟩;refine k2 _ H'' s4 ?_;rw[hy,Zbe hbx,map_append,map_append];rfl
  ·intro acc ys H3 n3 s3 e3 hy
   subst hy;rw[length_map,ZaC hps,take_length]at e3
   have hcov:(bs.map fun x=>subB b x).any id=Zeu L k b:=by
    rw[any_map,hperm.any_eq,any_map,List.any_filter];rfl
   walk_at "";refine ZvP (SqL.of e3) ?_;rw[hcov];walk_at "";have s13:=s1.trans (s2.trans s3)
   cases hcv:Zeu L k b with
   | true=>
    refine Zca rfl ?_;walk_at "";exact qC hmay hcv H3 s13
   | false=>
    refine ZaF rfl ?_;have F3:=F.same s13;walk_at "";refine ZoG fun d' H4 s4 n4 e4=>?_;have s34:=s13.trans s4
    have hd0:H d'=none:=by
     cases e:H d' with
     | none=>rfl
     | some u=>rw[s13 _ _ e]at n4; cases n4
    walk_at "";refine⟨p,_,_,_,_,rfl,s4 _ _ F3.ob,T.Zat,T.ZaH,Zf9 _ _ _,?_⟩;have ndd:d≠d':=Zai F3.lv n4;refine⟨d,lvK L,rfl,s4 _ _ F3.lv,fun o1=>?_⟩;have hf:(upd H4 d (.frz o1 (.dT (lvK L)))) d=some (.frz o1 (.dT (lvK L))):=Zak;have b4:But d H4 (upd H4 d (.frz o1 (.dT (lvK L)))):=Zeh;generalize upd H4 d (.frz o1 (.dT (lvK L)))=H4' at hf b4 ⊢;refine⟨d,o1,lvK L,rfl,hf,?_⟩;refine ZvX (fun i σ H'=>But d H H'∧H' d=some (.frz o1 (.dT (lvK L)))∧H' d'=some (.dT (lvK (Zdv (L.take i) k b)))∧∃v4 v5,σ=[some (.ref p),some (.int (k:Int)),some (.ref pb),some (.ref d'),v4,v5,none]) ⟨fun x u hx e=>b4 _ _ hx (s34 _ _ e),hf,b4 _ _ ndd.symm e4,_,_,rfl⟩ (fun i σ H' _ hp=>hp.2.1) ?_ ?_
    ·rintro i ky v Tt b0 σ H' H'' hkv ⟨sm,ef,ed,v4,v5,rfl⟩ sT hb0 hT eT
     obtain⟨br,n,hL,rfl,rfl⟩:=Zlr hkv;have hgr:br.good:=hgL _ (mem_of_getElem? hL)
     have hkl:(Zdv (L.take i) k b).length < 1000:=by
      have z1:=length_filter_le (fun q:Bar×Nat=>decide (k < q.2) || !subB q.1 b) (L.take i)
      have z2:(L.take i).length≤L.length:=by rw[length_take]; omega
      unfold Zdv;omega
     have kp:∀{x:Bool},(decide (k < n) || !subB br b)=x→Zdv (L.take (i+1)) k b=Zdv (L.take i) k b++if x=true then [(br,n)] else []:=fun {x} e=>by
      unfold Zdv;rw[Zbe hL,filter_append,filter_cons,e,filter_nil]
     refine Zou eT ?_
     have put:∀H5,Same H' H5→(decide (k < n) || !subB br b)=true→∃a H4,(V.ref d')=.ref a∧DPut H5 a (.ref b0) (.int (n:Int)) H4∧(But d H H4∧H4 d=some (.frz o1 (.dT (lvK L)))∧H4 d'=some (.dT (lvK (Zdv (L.take (i+1)) k b)))∧∃v4 v5,[some (.ref p),some (.int (k:Int)),some (.ref pb),some (.ref d'),some (.ref b0),some (.int (n:Int)),none]=[some (.ref p),some (.int (k:Int)),some (.ref pb),some (.ref d'),v4,v5,(none:Option V)]):=fun H5 s5 hx=>by
      refine Zkw (s5 _ _ ed) (s5 _ _ hb0) (by rw[ZgB]; omega) fun H6 b6 e6=>⟨fun x u hx e=>b6 _ _ (Zai e hd0) (s5 _ _ (sm _ _ hx e)),b6 _ _ ndd (s5 _ _ ef),?_,_,_,rfl⟩;rw[e6,kp hx,if_pos rfl,Zpj (M:=Zdv (L.take i) k b) fun q hq=>ZqV hnd hL q (mem_filter.mp hq).1]
     walk_at "";refine ZdA (fun h1=>?_) (fun h1=>?_)
     ·refine Zca rfl ?_
      walk_at "";refine ZiT ?_;walk_at "";exact put H'' sT (by rw[decide_eq_true (show k < n by omega)]; rfl)
     ·walk_at ""
      refine⟨b0,pb,br,b,rfl,sT _ _ hb0,sT _ _ (sm _ _ (ZaK hb F.lv (by intro z; cases z)) hb),hgr,hg,fun H5 s5=>?_⟩;walk_at "";have e1:decide (k < n)=false:=decide_eq_false (by omega)
      cases hs:subB br b with
      | false=>
       refine Zca rfl ?_;walk_at "";refine ZiT ?_;walk_at "";exact put H5 (sT.trans s5) (by rw[e1,hs]; rfl)
      | true=>
       refine ZaF rfl ?_;walk_at "";refine⟨fun x u hx e=>s5 _ _ (sT _ _ (sm _ _ hx e)),s5 _ _ (sT _ _ ef),?_,_,_,rfl⟩;rw[kp (x:=false) (by rw[e1,hs]; rfl),if_neg Bool.false_ne_true,append_nil];exact s5 _ _ (sT _ _ ed)
    ·rintro σ H' ⟨sm,ef,ed,v4,v5,rfl⟩
     have hbd:ZaO H' pb b:=sm _ _ (ZaK hb F.lv (by intro z; cases z)) hb;have pdd:p≠d:=ZaK F.ob F.lv (by intro z; cases z);have ldd:l≠d:=ZaK F.cw F.lv (by intro z; cases z);rw[ZgB,take_length]at ed;walk_at "";refine ZiT ?_;walk_at "";refine Zkw (k:=kB b) ed hbd ?_ fun H5 b5 e5=>?_
     ·have z1:=length_filter_le (fun q:Bar×Nat=>decide (k < q.2) || !subB q.1 b) L
      rw[ZgB];unfold Zdv;omega
     rw[Zpj (ZjI hcv)]at e5;have s5:But d H H5:=fun x u hx e=>b5 _ _ (Zai e hd0) (sm _ _ hx e);walk_at "";refine ZqF (s5 _ _ pdd F.ob) T.Zat T.ZaH (by show _ < _; exact Nat.lt_of_le_of_lt (Nat.le_of_ble_eq_true rfl:_≤3) (by decide)) fun H6 b6 e6=>?_;rw[Znu]at e6;have dp:d'≠p:=Ne.symm (Zai F.ob hd0);have dl:d'≠l:=Ne.symm (Zai F.cw hd0);have lp:l≠p:=ZaK F.cw F.ob (by intro z; cases z);have e7:=b6 _ _ dp e5;have k7:∀x u,x≠p→x≠d→H x=some u→H6 x=some u:=fun x u hx hxd e=>b6 _ _ hx (s5 _ _ hxd e);obtain⟨dy,tp,c1,c2⟩:=F.ch
     have cp:c≠p:=fun z=>by
      rw[z,F.ob]at c1;have e:=(HO.ins.inj (Option.some.inj c1)).2.2;have:=ZeG (m:Int) (st:Int) (bd:Int) tp;rw[←e,ZaB _ _ _ _ (by decide) (by decide) (by decide)]at this
      cases this
     have F7:FrP t H6 p dx c d' l o m st bd af (Zex L k b) cr:=⟨e6,⟨dy,tp,k7 _ _ cp (ZaK c1 F.lv (by intro z; cases z)) c1,k7 _ _ (ZaK c2 F.ob (by intro z; cases z)) (ZaK c2 F.lv (by intro z; cases z)) c2⟩,e7,k7 _ _ lp ldd F.cw⟩;walk_at "";refine⟨1,_,rfl,by omega,?_⟩;rw[show((k:Int)+1 - 1).toNat=k by omega];refine ZeE (fun i σ H'=>OffD p l d H H'∧FrP t H' p dx c d' l o m st bd af (Zex L k b) (cutC cr (Zaq (2 ^ m) b) i)∧∃v4 v5 v6,σ=[some (.ref p),some (.int (k:Int)),some (.ref pb),some (.ref d'),v4,v5,v6]) ⟨fun x u h1 _ h3 e=>k7 _ _ h1 h3 e,F7,_,_,_,rfl⟩ ?_ ?_
     ·rintro i σ H8 hi ⟨o8,F8,v4,v5,v6,rfl⟩
      have hb8:ZaO H8 pb b:=o8 _ _ (ZaK hb F.ob (by intro z; cases z)) (ZaK hb F.cw (by intro z; cases z)) (ZaK hb F.lv (by intro z; cases z)) hb;rw[show(1:Int)+(i:Int)=((i+1:Nat):Int) by omega];walk_at "";refine⟨p,_,_,_,rfl,F8.ob,rfl,ZaB _ _ _ _ (by decide) (by decide) (by decide),?_⟩;walk_at "";refine⟨F8.ob,p,dx,c,d',l,o,m,st,bd,af,_,_,i+1,pb,b,rfl,F8,hG.m6,by rw[ZbX]; omega,hb8,hg,fun H9 b9 e9=>?_⟩;exact⟨o8.trans (OffD.l b9),F8.cut b9 e9,_,_,_,rfl⟩
     ·rintro σ H8 ⟨o8,F8,v4,v5,v6,rfl⟩
      exact qN hmay hcv d' o H8 hd0 o8 F8
theorem ZnN (T:Txt K mg t):∀C,isFr t C→MeS1 P w K mg base 5 C "shut" ["self","k","bar"] (spAt (Zsl t) C):=by
 rintro C rfl;exact ZiC T
structure FI (m st:Nat) (af:List Nat) (L:List (Bar×Nat)) (cr:List Nat):Prop where
 len2:2≤cr.length
 st0:cr.getD 0 0=st
 kp:∀k,1≤k→k < cr.length→∀s,(cr.getD k 0).testBit s=true ↔ (s < 2 ^ m∧∀q∈L,k≤q.2→lies s q.1=false)
 stp:∀k,k+1 < cr.length→∀s t,(cr.getD k 0).testBit s=true→(af.getD s 0).testBit t=true→(cr.getD (k+1) 0).testBit t=true
 st1:∀s,st.testBit s=true→∀q∈L,lies s q.1=false
 gd:∀q∈L,q.1.good
 nd:(L.map (·.1)).Nodup
 lv:∀q∈L,1≤q.2∧q.2 < cr.length
theorem Zhr {x n s:Nat} (h:x < 2 ^ n) (hs:x.testBit s=true):s < n:=by
 rcases Nat.lt_or_ge s n with z | z
 ·exact z
 ·rw[Nat.testBit_lt_two_pow (Nat.lt_of_lt_of_le h (Nat.pow_le_pow_right (by decide) z))]at hs
  cases hs
theorem FI.mono {m st:Nat} {af:List Nat} {L:List (Bar×Nat)} {cr:List Nat} (F:FI m st af L cr) (hst:st < 2 ^ 2 ^ m) {j k s:Nat} (h:j≤k) (hk:k < cr.length) (hs:(cr.getD j 0).testBit s=true):(cr.getD k 0).testBit s=true:=by
 by_cases e:j=k
 ·subst e; exact hs
 ·rw[F.kp k (by omega) hk]
  by_cases j0:j=0
  ·subst j0
   rw[F.st0]at hs;exact⟨Zhr hst hs,fun q hq _=>F.st1 s hs q hq⟩
  ·rw[F.kp j (by omega) (by omega)]at hs
   exact⟨hs.1,fun q hq hl=>hs.2 q hq (by omega)⟩
theorem Zds (cr:List Nat) (c j k:Nat) (h:k < cr.length):(Zd5 cr c j).getD k 0=if k=j then cr.getD k 0 - (cr.getD k 0 &&& c) else cr.getD k 0:=by
 unfold Zd5;rw[getD_eq_getElem?_getD,List.getElem?_set]
 by_cases e:k=j
 ·subst e
  rw[if_pos rfl,if_pos h,if_pos rfl];rfl
 ·rw[if_neg (Ne.symm e),if_neg e,getD_eq_getElem?_getD]
theorem ZcR (cr:List Nat) (c j:Nat):(Zd5 cr c j).length=cr.length:=by unfold Zd5; rw[length_set]
theorem Zc2 (cr:List Nat) (c k:Nat) (h:k < cr.length):∀i,(cutC cr c i).getD k 0=if 1≤k∧k≤i then cr.getD k 0 - (cr.getD k 0 &&& c) else cr.getD k 0
 | 0=>by rw[if_neg (by omega)]; rfl
 | i+1=>by
  unfold cutC;rw[Zds _ _ _ _ (by rw[ZbX]; exact h),Zc2 cr c k h i]
  by_cases e:k=i+1
  ·rw[if_pos e,if_neg (by omega),if_pos (by omega)]
  ·rw[if_neg e]
   by_cases e2:1≤k∧k≤i
   ·rw[if_pos e2,if_pos (by omega)]
   ·rw[if_neg e2,if_neg (by omega)]
theorem Zdt {x n s:Nat} {b:Bar}:(x - (x &&& Zaq n b)).testBit s=true ↔ x.testBit s=true∧¬(s < n∧lies s b=true):=by
 rw[ZaA,Zbf,Bool.and_eq_true,Bool.not_eq_true',Bool.and_eq_false_iff]
 constructor
 ·rintro⟨a,c⟩
  refine⟨a,fun⟨u,v⟩=>?_⟩
  rcases c with c | c
  ·exact(of_decide_eq_false c) u
  ·rw[v]at c; cases c
 ·rintro⟨a,c⟩
  refine⟨a,?_⟩
  by_cases u:s < n
  ·right
   cases v:lies s b with
   | false=>rfl
   | true=>exact absurd ⟨u,v⟩ c
  ·left; exact decide_eq_false u
def setL (L:List (Bar×Nat)) (b:Bar) (v:Nat):List (Bar×Nat):=L.map fun q=>if q.1=b then(q.1,v) else q
theorem Zia (L:List (Bar×Nat)) (b:Bar) (v:Nat):(setL L b v).map (·.1)=L.map (·.1):=by
 unfold setL;rw[map_map]
 exact List.map_congr_left fun q _=>by
  show(if q.1=b then(q.1,v) else q).1=q.1
  split <;> rfl
theorem Zrl (L:List (Bar×Nat)) (b:Bar) (v:Nat):(setL L b v).length=L.length:=by unfold setL; rw[length_map]
theorem Zel {L:List (Bar×Nat)} {b:Bar} {v:Nat} {q:Bar×Nat} (h:q∈setL L b v):(q.1=b∧q.2=v)∨(q.1≠b∧q∈L):=by
 unfold setL at h;obtain⟨p,hp,e⟩:=mem_map.mp h
 by_cases z:p.1=b
 ·rw[if_pos z]at e
  subst e;exact .inl ⟨z,rfl⟩
 ·rw[if_neg z]at e
  subst e;exact .inr ⟨z,hp⟩
theorem Zmw {L:List (Bar×Nat)} {b:Bar} {v k:Nat} (h:(b,k)∈L):(b,v)∈setL L b v:=by
 unfold setL;refine mem_map.mpr ⟨(b,k),h,?_⟩;show(if b=b then _ else _)=_;rw[if_pos rfl]
theorem Zgi {L:List (Bar×Nat)} {b:Bar} {v:Nat} {q:Bar×Nat} (h:q∈L) (n:q.1≠b):q∈setL L b v:=by
 unfold setL;exact mem_map.mpr ⟨q,h,if_neg n⟩
theorem Zpk {L:List (Bar×Nat)} {b:Bar} {k v:Nat} (h:(b,k)∈L):putK (lvK L) (kB b) (.int (v:Int))=lvK (setL L b v):=by
 unfold putK;rw[if_pos]
 ·unfold lvK setL
  rw[map_map,map_map];refine List.map_congr_left fun q _=>?_;show(if kB q.1=kB b then(kB q.1,V.int (v:Int)) else(kB q.1,V.int (q.2:Int)))=(kB (if q.1=b then(q.1,v) else q).1,V.int ((if q.1=b then(q.1,v) else q).2:Int))
  by_cases z:q.1=b
  ·rw[if_pos z,z,if_pos rfl]
  ·rw[if_neg z,if_neg (fun e=>z (Zl8 e))]
 ·rw[any_eq_true]
  refine⟨(kB b,.int (k:Int)),?_,decide_eq_true rfl⟩;unfold lvK;exact mem_map.mpr ⟨(b,k),h,rfl⟩
theorem ZqP {L:List (Bar×Nat)} (nd:(L.map (·.1)).Nodup) {b:Bar} {j k:Nat} (h1:(b,j)∈L) (h2:(b,k)∈L):j=k:=by
 obtain⟨i,hi,e1⟩:=List.mem_iff_getElem.mp h1;obtain⟨i',hi',e2⟩:=List.mem_iff_getElem.mp h2
 have a1:(L.map (·.1))[i]?=some b:=by rw[getElem?_map,List.getElem?_eq_getElem hi,e1]; rfl
 have a2:(L.map (·.1))[i']?=some b:=by rw[getElem?_map,List.getElem?_eq_getElem hi',e2]; rfl
 have:=(getElem?_inj (by rw[length_map]; exact hi) nd).mp (a1.trans a2.symm);subst this;rw[e1]at e2;exact(Prod.mk.inj e2).2
theorem Zpi {m st:Nat} {af:List Nat} {L:List (Bar×Nat)} {cr:List Nat} {b:Bar} {k:Nat} (F:FI m st af L cr) (hl:af.length=2 ^ m) (mem:(b,k)∈L) (hk:k+1 < cr.length) (h0:behN af (Zaq (2 ^ m) b) &&& cr.getD k 0=0):FI m st af (setL L b (k+1)) (Zd5 cr (Zaq (2 ^ m) b) (k+1)):=by
 have k1:=(F.lv _ mem).1;have hlen:(Zd5 cr (Zaq (2 ^ m) b) (k+1)).length=cr.length:=ZcR _ _ _
 have sub:∀j,j < cr.length→∀s,((Zd5 cr (Zaq (2 ^ m) b) (k+1)).getD j 0).testBit s=true→(cr.getD j 0).testBit s=true:=fun j hj s h=>by
  rw[Zds _ _ _ _ hj]at h
  split at h
  ·exact(Zdt.mp h).1
  ·exact h
 refine⟨by rw[hlen]; exact F.len2,by rw[Zds _ _ _ _ (by have:=F.len2; omega),if_neg (by omega)]; exact F.st0,fun j h1 h2 s=>?_,fun j hj s t hs ht=>?_,fun s hs q hq=>?_,fun q hq=>?_,by rw[Zia]; exact F.nd,fun q hq=>?_⟩
 ·rw[hlen]at h2
  rw[Zds _ _ _ _ h2]
  by_cases e:j=k+1
  ·rw[if_pos e,Zdt,F.kp j h1 h2]
   constructor
   ·rintro⟨⟨a,c⟩,d⟩
    refine⟨a,fun q hq hlq=>?_⟩
    rcases Zel hq with⟨z1,z2⟩ | ⟨z1,z2⟩
    ·rw[z1]
     cases v:lies s b with
     | false=>rfl
     | true=>exact absurd ⟨a,v⟩ d
    ·exact c q z2 hlq
   ·rintro⟨a,c⟩
    have nb:=c (b,k+1) (Zmw mem) (by show j≤k+1; omega);refine⟨⟨a,fun q hq hlq=>?_⟩,fun⟨_,v⟩=>?_⟩
    ·by_cases z:q.1=b
     ·rw[z]; exact nb
     ·exact c q (Zgi hq z) hlq
    ·have nb':lies s b=false:=nb
     rw[nb']at v; cases v
  ·rw[if_neg e,F.kp j h1 h2]
   constructor
   ·rintro⟨a,c⟩
    refine⟨a,fun q hq hlq=>?_⟩
    rcases Zel hq with⟨z1,z2⟩ | ⟨z1,z2⟩
    ·rw[z1]
     exact c (b,k) mem (by show j≤k; omega)
    ·exact c q z2 hlq
   ·rintro⟨a,c⟩
    refine⟨a,fun q hq hlq=>?_⟩
    by_cases z:q.1=b
    ·have hq':(b,q.2)∈L:=by rw[←z]; exact hq
     have:=ZqP F.nd hq' mem;rw[z];exact c (b,k+1) (Zmw mem) (by show j≤k+1; omega)
    ·exact c q (Zgi hq z) hlq
 ·rw[hlen]at hj
  have hs0:=sub j (by omega) s hs;have ht0:=F.stp j hj s t hs0 ht;rw[Zds _ _ _ _ hj]
  by_cases e:j+1=k+1
  ·rw[if_pos e,Zdt]
   refine⟨ht0,fun⟨u,v⟩=>?_⟩
   have ej:j=k:=by omega
   subst ej;have hs1:=(F.kp j k1 (by omega) s).mp hs0
   have hb:(behN af (Zaq (2 ^ m) b)).testBit s=true:=by
    rw[Zce,decide_eq_true (by omega),Bool.true_and,decide_eq_true_iff];intro z;have:=Zaj.mp z t ht;rw[Zbf,decide_eq_true u,v]at this
    cases this
   have:=Zaj.mp h0 s hb;rw[hs0]at this
   cases this
  ·rw[if_neg e]; exact ht0
 ·rcases Zel hq with⟨z1,z2⟩ | ⟨z1,z2⟩
  ·rw[z1]; exact F.st1 s hs (b,k) mem
  ·exact F.st1 s hs q z2
 ·rcases Zel hq with⟨z1,z2⟩ | ⟨z1,z2⟩
  ·rw[z1]; exact F.gd (b,k) mem
  ·exact F.gd q z2
 ·rw[hlen]
  rcases Zel hq with⟨z1,z2⟩ | ⟨z1,z2⟩
  ·rw[z2]; omega
  ·exact F.lv q z2
theorem ZmG {q b:Bar} {s:Nat} (h:subB q b=true) (hl:lies s q=true):lies s b=true:=by
 rw[Zj3]at h;rw[Zhf]at hl ⊢;intro k hk hb;obtain⟨a,c⟩:=h k hk hb;rw[←c];exact hl k hk a
theorem ZpB {m st:Nat} {af:List Nat} {L:List (Bar×Nat)} {cr:List Nat} {b:Bar} {k:Nat} (F:FI m st af L cr) (hst:st < 2 ^ 2 ^ m) (hl:af.length=2 ^ m) (hk1:1≤k) (hk:k < cr.length) (hg:b.good) (may:mayN af st (cr.getD (k - 1) 0) b (2 ^ m)=true) (cv:Zeu L k b=false):FI m st af (Zex L k b) (cutC cr (Zaq (2 ^ m) b) k):=by
 obtain⟨ma,mb⟩:=(Zmi hl).mp may;have hlen:(cutC cr (Zaq (2 ^ m) b) k).length=cr.length:=ZbX _ _ _
 have mk:∀q∈Zex L k b,q=(b,k)∨(q∈L∧(k < q.2∨subB q.1 b=false)):=fun q hq=>by
  unfold Zex at hq
  rcases mem_append.mp hq with h | h
  ·unfold Zdv at h
   obtain⟨h1,h2⟩:=mem_filter.mp h;rw[Bool.or_eq_true,decide_eq_true_iff,Bool.not_eq_true']at h2;exact .inr ⟨h1,h2⟩
  ·exact .inl (mem_singleton.mp h)
 have km:∀q∈L,(k < q.2∨subB q.1 b=false)→q∈Zex L k b:=fun q hq h=>by
  unfold Zex Zdv;refine List.mem_append_left _ (mem_filter.mpr ⟨hq,?_⟩);rw[Bool.or_eq_true,decide_eq_true_iff,Bool.not_eq_true'];exact h
 have bm:(b,k)∈Zex L k b:=by unfold Zex; exact List.mem_append_right _ (mem_singleton.mpr rfl)
 have sub:∀j,j < cr.length→∀s,((cutC cr (Zaq (2 ^ m) b) k).getD j 0).testBit s=true→(cr.getD j 0).testBit s=true:=fun j hj s h=>by
  rw[Zc2 _ _ _ hj]at h
  split at h
  ·exact(Zdt.mp h).1
  ·exact h
 refine⟨by rw[hlen]; exact F.len2,by rw[Zc2 _ _ _ (by have:=F.len2; omega),if_neg (by omega)]; exact F.st0,fun j h1 h2 s=>?_,fun j hj s t hs ht=>?_,fun s hs q hq=>?_,fun q hq=>?_,?_,fun q hq=>?_⟩
 ·rw[hlen]at h2
  rw[Zc2 _ _ _ h2]
  by_cases e:j≤k
  ·rw[if_pos ⟨h1,e⟩,Zdt,F.kp j h1 h2]
   constructor
   ·rintro⟨⟨a,c⟩,d⟩
    refine⟨a,fun q hq hlq=>?_⟩
    rcases mk q hq with rfl | ⟨z1,_⟩
    ·cases v:lies s b with
     | false=>rfl
     | true=>exact absurd ⟨a,v⟩ d
    ·exact c q z1 hlq
   ·rintro⟨a,c⟩
    have nb:lies s b=false:=c (b,k) bm (by show j≤k; omega);refine⟨⟨a,fun q hq hlq=>?_⟩,fun⟨_,v⟩=>?_⟩
    ·by_cases z:k < q.2∨subB q.1 b=false
     ·exact c q (km q hq z) hlq
     ·cases v:lies s q.1 with
      | false=>rfl
      | true=>
       have hs:subB q.1 b=true:=by
        cases u:subB q.1 b with
        | true=>rfl
        | false=>exact absurd (.inr u) z
       rw[ZmG hs v]at nb
       cases nb
    ·rw[nb]at v; cases v
  ·rw[if_neg (by omega),F.kp j h1 h2]
   constructor
   ·rintro⟨a,c⟩
    refine⟨a,fun q hq hlq=>?_⟩
    rcases mk q hq with rfl | ⟨z1,_⟩
    ·exact absurd hlq e
    ·exact c q z1 hlq
   ·rintro⟨a,c⟩
    exact⟨a,fun q hq hlq=>c q (km q hq (.inl (by omega))) hlq⟩
 ·rw[hlen]at hj
  have hs0:=sub j (by omega) s hs;have ht0:=F.stp j hj s t hs0 ht;rw[Zc2 _ _ _ hj]
  by_cases e:j+1≤k
  ·rw[if_pos ⟨by omega,e⟩,Zdt]
   refine⟨ht0,fun⟨u,v⟩=>?_⟩
   have hsn:s < 2 ^ m∧lies s b=false:=by
    by_cases j0:j=0
    ·subst j0
     rw[F.st0]at hs0;have hsn:=Zhr hst hs0;refine⟨hsn,?_⟩
     cases x:lies s b with
     | false=>rfl
     | true=>rw[ma s hsn x]at hs0; cases hs0
    ·have hsn:=((F.kp j (by omega) (by omega) s).mp hs0).1
     refine⟨hsn,?_⟩;rw[Zc2 _ _ _ (by omega),if_pos ⟨by omega,by omega⟩,Zdt]at hs
     cases x:lies s b with
     | false=>rfl
     | true=>exact absurd ⟨hsn,x⟩ hs.2
   have hh:=F.mono hst (k:=k - 1) (show j≤k - 1 by omega) (by omega) hs0;rw[mb s hsn.1 hsn.2 hh t u v]at ht
   cases ht
  ·rw[if_neg (by omega)]; exact ht0
 ·rcases mk q hq with rfl | ⟨z1,_⟩
  ·cases x:lies s b with
   | false=>rfl
   | true=>
    rw[ma s (Zhr hst hs) x]at hs
    cases hs
  ·exact F.st1 s hs q z1
 ·rcases mk q hq with rfl | ⟨z1,_⟩
  ·exact hg
  ·exact F.gd q z1
 ·unfold Zex
  rw[map_append,List.nodup_append];refine⟨F.nd.sublist (List.Sublist.map _ filter_sublist),by simp,fun x hx y hy e=>?_⟩;obtain⟨q,hq,rfl⟩:=mem_map.mp hx
  have hy':y=b:=by simpa using hy
  exact ZjI cv q hq (e.trans hy')
 ·rw[hlen]
  rcases mk q hq with rfl | ⟨z1,_⟩
  ·exact⟨hk1,hk⟩
  ·exact F.lv q z1
theorem Zrs {m st:Nat} {af:List Nat} {L:List (Bar×Nat)} {cr:List Nat} (F:FI m st af L cr) (hb:∀x∈af,x < 2 ^ 2 ^ m):FI m st af L (cr++[2 ^ 2 ^ m - 1]):=by
 have l2:=F.len2
 have g1:∀k,k < cr.length→(cr++[2 ^ 2 ^ m - 1]).getD k 0=cr.getD k 0:=fun k hk=>by
  rw[getD_eq_getElem?_getD,getD_eq_getElem?_getD,getElem?_append_left hk]
 have g2:(cr++[2 ^ 2 ^ m - 1]).getD cr.length 0=2 ^ 2 ^ m - 1:=by
  rw[getD_eq_getElem?_getD,getElem?_append_right (Nat.le_refl _),Nat.sub_self];rfl
 have hln:(cr++[2 ^ 2 ^ m - 1]).length=cr.length+1:=by rw[length_append]; rfl
 refine⟨by omega,by rw[g1 0 (by omega)]; exact F.st0,fun k h1 h2 s=>?_,fun k hk s t hs ht=>?_,F.st1,F.gd,F.nd,fun q hq=>?_⟩
 ·rcases Nat.lt_or_ge k cr.length with z | z
  ·rw[g1 k z]; exact F.kp k h1 z s
  ·have e:k=cr.length:=by omega
   subst e;rw[g2,Nat.testBit_two_pow_sub_one,decide_eq_true_iff];exact⟨fun a=>⟨a,fun q hq hlq=>absurd (F.lv q hq).2 (by omega)⟩,fun a=>a.1⟩
 ·rw[g1 k (by omega)]at hs
  rcases Nat.lt_or_ge (k+1) cr.length with z | z
  ·rw[g1 _ z]; exact F.stp k z s t hs ht
  ·have e:k+1=cr.length:=by omega
   rw[e,g2,Nat.testBit_two_pow_sub_one,decide_eq_true_iff];exact Zhr (Zhx hb (Nat.two_pow_pos _)) ht
 ·have:=F.lv q hq
  omega
theorem ZoA {m st:Nat} {af:List Nat} (hst:st < 2 ^ 2 ^ m) (hb:∀x∈af,x < 2 ^ 2 ^ m):FI m st af [] [st,2 ^ 2 ^ m - 1]:=by
 refine⟨by simp,rfl,fun k h1 h2 s=>?_,fun k hk s t hs ht=>?_,(fun s hs q hq=>by cases hq),(fun q hq=>by cases hq),by simp,(fun q hq=>by cases hq)⟩
 ·have e:k=1:=by simp at h2; omega
  subst e;show(2 ^ 2 ^ m - 1).testBit s=true ↔ _;rw[Nat.testBit_two_pow_sub_one,decide_eq_true_iff];exact⟨fun a=>⟨a,fun q hq=>by cases hq⟩,fun a=>a.1⟩
 ·have e:k=0:=by simp at hk; omega
  subst e;show(2 ^ 2 ^ m - 1).testBit t=true;rw[Nat.testBit_two_pow_sub_one,decide_eq_true_iff];exact Zhr (Zhx hb (Nat.two_pow_pos _)) ht
abbrev PSt:=List (Bar×Nat)×List Nat×List (Nat×Bar)
noncomputable def srtB (bs:List Bar):List Bar:=Classical.epsilon fun b=>b.Perm bs∧(b.map ib).Pairwise ple
theorem Zja {b bs:List Bar} (h1:b.Perm bs) (h2:(b.map ib).Pairwise ple):b=srtB bs:=by
 have z:=Classical.epsilon_spec (p:=fun b=>b.Perm bs∧(b.map ib).Pairwise ple) ⟨b,h1,h2⟩;exact ZpD h2 z.2 (h1.trans z.1.symm)
def ownB (L:List (Bar×Nat)) (k:Nat):List Bar:=(L.filter fun q=>decide (q.2=k)).map (·.1)
def Zee (m:Nat) (af:List Nat) (k:Nat) (S:PSt) (b:Bar):PSt:=if behN af (Zaq (2 ^ m) b) &&& S.2.1.getD k 0=0 then(setL S.1 b (k+1),Zd5 S.2.1 (Zaq (2 ^ m) b) (k+1),S.2.2++[(k,b)]) else S
noncomputable def rowP (m:Nat) (af:List Nat) (k:Nat) (S:PSt):PSt:=(srtB (ownB S.1 k)).foldl (Zee m af k) S
noncomputable def ZgE (m:Nat) (af:List Nat):Nat→PSt→PSt
 | 0,S=>S
 | n+1,S=>rowP m af (n+1) (ZgE m af n S)
def Zjc (H:Hp) (T:Addr) (x:Nat×Bar):Prop:=∃pb,H T=some (.tup [.int (x.1:Int),.ref pb])∧ZaO H pb x.2
theorem Zjc.keep {H H':Hp} (s:∀b xs,H b=some (.tup xs)→H' b=some (.tup xs)) {q:Addr} {x:Nat×Bar} (h:Zjc H q x):Zjc H' q x:=by
 obtain⟨pb,h1,h2⟩:=h;exact⟨pb,s _ _ h1,s _ _ h2⟩
def Zsk (t:Ad):Sp:=fun vs H Q _=>∃(p dx c d l:Addr) (o:Obj) (m st bd:Nat) (af:List Nat) (L:List (Bar×Nat)) (cr:List Nat),vs=[.ref p]∧FrP t H p dx c d l o m st bd af L cr∧GoodC m st bd af∧FI m st af L cr∧L.length < 529∧cr.length < 1000∧
 ∀L' cr' due a ts H',ZgE m af (cr.length - 2) (L,cr,[])=(L',cr',due)→OffD p l d H H'→H a=none→FrP t H' p dx c d l o m st bd af L' cr'→FI m st af L' cr'→cr'.length=cr.length→L'.length=L.length→H' a=some (.lst (ts.map V.ref))→Paired (Zjc H') ts due→due.length≤528 * cr.length→Q (.ref a) H'
theorem FrP.put {H H':Hp} {p dx c d l:Addr} {o:Obj} {m st bd:Nat} {af:List Nat} {L L':List (Bar×Nat)} {cr:List Nat} (F:FrP t H p dx c d l o m st bd af L cr) (b:But d H H') (e:H' d=some (.dT (lvK L'))):FrP t H' p dx c d l o m st bd af L' cr:=by
 obtain⟨dy,tp,c1,c2⟩:=F.ch;exact⟨b _ _ (ZaK F.ob F.lv (by intro z; cases z)) F.ob,⟨dy,tp,b _ _ (ZaK c1 F.lv (by intro z; cases z)) c1,b _ _ (ZaK c2 F.lv (by intro z; cases z)) c2⟩,e,b _ _ (ZaK F.cw F.lv (by intro z; cases z)) F.cw⟩
theorem FrP.lst {H H':Hp} {p dx c d l a:Addr} {o:Obj} {m st bd:Nat} {af:List Nat} {L:List (Bar×Nat)} {cr:List Nat} {xs:List V} (F:FrP t H p dx c d l o m st bd af L cr) (b:But a H H') (e:H a=some (.lst xs)) (n:l≠a):FrP t H' p dx c d l o m st bd af L cr:=by
 obtain⟨dy,tp,c1,c2⟩:=F.ch;exact⟨b _ _ (ZaK F.ob e (by intro z; cases z)) F.ob,⟨dy,tp,b _ _ (ZaK c1 e (by intro z; cases z)) c1,b _ _ (ZaK c2 e (by intro z; cases z)) c2⟩,b _ _ (ZaK F.lv e (by intro z; cases z)) F.lv,b _ _ n F.cw⟩
theorem ZiB (T:Txt K mg t):MeS P w K mg base 5 t.Zag "push" ["self"] (spAt (Zsk t) t.Zag):=by
 refine⟨T.Zat,_,_,T.ZbV.ok ZcN (fun vs H Q E h=>?_) (fun _ _ _ _ H vs Q E hr h=>?_),T.ZfU,T.Zf3⟩
 ·obtain⟨⟨p,dx,c,d,l,o,m,st,bd,af,L,cr,rfl,_⟩,_⟩:=h
  rfl
 obtain⟨⟨p,dx,c,d,l,o,m,st,bd,af,L,cr,rfl,F,G,I,h64,hcr,q⟩,_⟩:=h;have Zd0:=ZfG (P:=P) (w:=w) (base:=base) T;have D_last:=ZdW (P:=P) (w:=w) (base:=base) T;have D_own:=Zp8 (P:=P) (w:=w) (base:=base) T;have D_take_out:=ZfP (P:=P) (w:=w) (base:=base) T;have D_behind:=ZfA (P:=P) (w:=w) (base:=base) T;have l2:=I.len2
 refine⟨_,(Zab (ss 1 ZcN.nd (Zgd Zae))
   (Zab (Zco PassesOwn.never rfl (ZeM rfl T.B.range (Zaa Zac (Zaa (Zfv D_last hr (pv 0)) Zae))) (sg 2 ZcN.nd)
   (Zad (Zco PassesOwn.never rfl (Zfx (Zfk D_own hr (pv 0) (Zaa (pv 2) Zae))) (sg 3 ZcN.nd)
   (Zad (Za0 (Zan (ZaN hr.units) (Zaf ZaL (Zfk D_behind hr (Za8 (pv 0) rfl) (Zaa (ZaY Zd0 hr (Zaa (Za8 (Za8 (pv 0) rfl) rfl) (Zaa (pv 3) Zae))) Zae)) (ZaQ Zav (Za8 (pv 0) rfl) (pv 2) (fun _ _=>rfl))) Zac (Zap _))
   (Zab (ZhX (Nat.lt_of_le_of_lt (Nat.add_le_add_left (by decide) _) hr.units) (Za8 (pv 0) rfl) (pv 3) (Zaf ZaM (pv 2) Zac) rfl)
   (Zab (Zbu (Zfk D_take_out hr (pv 0) (Zaa (Zaf ZaM (pv 2) Zac) (Zaa (pv 3) Zae))))
   (Zad (Zbu (ZkO PySem.F.plainAttrs_list PySem.F.slot_list_append PySem.F.type_list_append Zb4 (pv 1) (Zaa (Zew (Zaa (pv 2) (Zaa (pv 3) Zae))) Zae))))))
   Zar)))))
   (Zad (Zas (pv 1))))),?_⟩
 walk_at "rd0";refine Zjz (by simp) fun pu H1 s1 n1 e1=>?_;have npl:l≠pu:=Zai F.cw n1;have npd:d≠pu:=Zai F.lv n1;have F1:=F.same s1;walk_at "";refine⟨p,_,_,_,rfl,F1.ob,rfl,ZaB _ _ _ _ (by decide) (by decide) (by decide),?_⟩;walk_at "";refine⟨F1.ob,p,dx,c,d,l,o,m,st,bd,af,L,cr,rfl,F1,?_⟩;walk_at "";refine⟨1,_,rfl,by omega,?_⟩;rw[show((cr.length:Int) - 1 - 1).toNat=cr.length - 2 by omega]
 refine ZeE (fun i σ H'=>∃L' cr' due ts v2 v3,σ=[some (.ref p),some (.ref pu),v2,v3]∧ZgE m af i (L,cr,[])=(L',cr',due)∧OffD p l d H H'∧FrP t H' p dx c d l o m st bd af L' cr'∧FI m st af L' cr'∧cr'.length=cr.length∧L'.length=L.length∧H' pu=some (.lst (ts.map V.ref))∧Paired (Zjc H') ts due∧ts.length≤528 * i)
  ⟨L,cr,[],[],_,_,rfl,rfl,OffD.of s1,F1,I,rfl,rfl,e1,.nil,by simp⟩ ?_ ?_
 ·rintro i σ H2 hi ⟨L2,cr2,due2,ts,v2,v3,rfl,hP2,o2,F2,I2,c2,ll2,e2,dd2,z2⟩
  rw[show(1:Int)+(i:Int)=((i+1:Nat):Int) by omega];walk_at "";refine⟨p,_,_,_,rfl,F2.ob,rfl,ZaB _ _ _ _ (by decide) (by decide) (by decide),?_⟩;walk_at "";refine⟨F2.ob,p,dx,c,d,l,o,m,st,bd,af,L2,cr2,i+1,rfl,F2,by omega,by omega,by omega,fun H3 r s3 n3 hbars=>?_⟩;obtain⟨ps,bs,er,hps,hperm,hsrt⟩:=hbars;have hbs:bs=srtB (ownB L2 (i+1)):=Zja hperm hsrt;have nrl:r≠l:=(Zai F2.cw n3).symm;have nrd:r≠d:=(Zai F2.lv n3).symm;have nrp:r≠pu:=(Zai e2 n3).symm
  have own:∀b∈bs,(b,i+1)∈L2:=fun b hb=>by
   obtain⟨q',hq,e⟩:=mem_map.mp (hperm.mem_iff.mp hb);obtain⟨h1,h2⟩:=mem_filter.mp hq;have h3:q'.2=i+1:=of_decide_eq_true h2;rw[←e,←h3];exact h1
  have bnd:bs.Nodup:=by
   refine hperm.nodup_iff.mpr ?_;exact I2.nd.sublist (List.Sublist.map _ filter_sublist)
  have bl:bs.length < 529:=by
   have a:=hperm.length_eq;rw[length_map]at a;have b:=length_filter_le (fun q:Bar×Nat=>(fun n k=>decide (n=k)) q.2 (i+1)) L2;omega
  refine seqL (xs:=ps.map V.ref) (fun j σ H'=>∃L' cr' due ts v3,σ=[some (.ref p),some (.ref pu),some (.int ((i+1:Nat):Int)),v3]∧(bs.take j).foldl (Zee m af (i+1)) (L2,cr2,due2)=(L',cr',due)∧OffD p l d H H'∧FrP t H' p dx c d l o m st bd af L' cr'∧FI m st af L' cr'∧cr'.length=cr.length∧L'.length=L.length∧H' pu=some (.lst (ts.map V.ref))∧Paired (Zjc H') ts due∧ts.length≤528 * i+j∧H' r=some (.lst (ps.map V.ref))∧Paired (ZaO H') ps bs∧∀j' b,j≤j'→bs[j']?=some b→(b,i+1)∈L')
   ⟨L2,cr2,due2,ts,_,rfl,rfl,o2.trans (OffD.of s3),F2.same s3,I2,c2,ll2,s3 _ _ e2,Zax (fun _ _ e=>Zjc.keep (fun _ _ z=>s3 _ _ z) e) dd2,by omega,er,hps,fun j' b _ hb=>own b (mem_of_getElem? hb)⟩ (fun j σ H' _ hp=>by obtain⟨L',cr',due,ts,v3,_,_,_,_,_,_,_,_,_,_,e,_⟩:=hp; exact SqL.of e) ?_ ?_
  ·rintro j z σ H4 hz ⟨L4,cr4,due4,ts4,v3,rfl,hP4,o4,F4,I4,c4,ll4,e4,dd4,z4,er4,hps4,own4⟩
   obtain⟨pb,rfl,hpb⟩:=ZeF hz;obtain⟨b,hbj,hB⟩:=ZbM hps4 hpb;have hm4:=own4 j b (Nat.le_refl _) hbj;have hg:=I4.gd _ hm4;obtain⟨dy,tp,ch1,ch2⟩:=id F4.ch;obtain⟨C,dxc,fsc,ec,hCc,hlc⟩:=F4.ch.ins "behind" (by decide) (by decide) (by decide) (by decide);have hjl:=(List.getElem?_eq_some_iff.mp hbj).1;walk_at "";refine⟨p,_,_,_,_,rfl,F4.ob,T.Zat,T.Za3,ZhH _ _ _,?_⟩;walk_at "";refine⟨c,C,dxc,fsc,rfl,ec,hCc,hlc,?_⟩;walk_at "";refine⟨p,_,_,_,_,rfl,F4.ob,T.Zat,T.Za3,ZhH _ _ _,?_⟩;walk_at "";refine⟨c,_,_,_,_,rfl,ch1,T.Zbx,T.Za5,ZeG _ _ _ _,?_⟩;walk_at "";refine⟨m,pb,b,rfl,G.m6,hB,hg,?_⟩;walk_at "";refine⟨ec,c,m,st,bd,af,Zaq (2 ^ m) b,rfl,F4.ch,by rw[G.ln]; exact Zbt G.m6,fun H5 s5=>?_⟩;have F5:=F4.same s5;walk_at "";refine⟨p,_,_,_,_,rfl,F5.ob,T.Zat,T.Zau,Zct _ _ _,?_⟩;walk_at "";refine Zfi F5.cw (Za2 (by omega)) ?_;walk_at "";rw[Za1]
   have nxt:∀L':List (Bar×Nat),(∀q,q∈L4→q.1≠b→q∈L')→∀j' b',j+1≤j'→bs[j']?=some b'→(b',i+1)∈L':=fun L' h j' b' hj' hb'=>by
    refine h _ (own4 j' b' (by omega) hb') fun e=>?_;have e':b'=b:=e;subst e';have:=(getElem?_inj hjl bnd).mp (hbj.trans hb'.symm);omega
   refine ZdA (fun h0=>?_) (fun h0=>?_)
   ·have h0':behN af (Zaq (2 ^ m) b) &&& cr4.getD (i+1) 0=0:=by omega
    walk_at "";refine ZiT ?_;walk_at "";refine⟨p,_,_,_,_,rfl,F5.ob,T.Zat,T.ZaH,Zf9 _ _ _,?_⟩;walk_at "";rw[show(((i+1:Nat):Int)+1)=((i+1+1:Nat):Int) by omega];refine Zkw (k:=kB b) F5.lv (s5 _ _ hB) (by rw[ZgB]; omega) fun H6 b6 e6=>?_;rw[Zpk hm4]at e6;have F6:=F5.put b6 e6;have hB6:ZaO H6 pb b:=b6 _ _ (ZaK (s5 _ _ hB) F5.lv (by intro z; cases z)) (s5 _ _ hB);walk_at "";refine⟨p,_,_,_,rfl,F6.ob,rfl,ZaB _ _ _ _ (by decide) (by decide) (by decide),?_⟩;walk_at "";rw[show(((i+1:Nat):Int)+1)=((i+1+1:Nat):Int) by omega];refine⟨F6.ob,p,dx,c,d,l,o,m,st,bd,af,_,cr4,i+1+1,pb,b,rfl,F6,G.m6,by omega,hB6,hg,fun H7 b7 e7=>?_⟩;have F7:=F6.cut b7 e7;have eu7:=b7 _ _ npl.symm (b6 _ _ npd.symm (s5 _ _ e4));walk_at "";refine⟨tyL eu7,?_⟩;walk_at "";refine Zg7 (by simp) fun TT H8 s8 n8 e8=>?_;walk_at "";refine Zb7 (s8 _ _ eu7) (by rw[length_map]; omega) fun H9 b9 e9=>?_;have F9:=(F7.same s8).lst b9 (s8 _ _ eu7) npl;have I9:=Zpi I4 G.ln hm4 (by omega) h0';have er9:=b9 _ _ nrp (s8 _ _ (b7 _ _ nrl (b6 _ _ nrd (s5 _ _ er4))))
    have x9:∀x xs,H4 x=some (.tup xs)→H9 x=some (.tup xs):=fun x xs e=>by
     have a5:=s5 _ _ e;have a6:=b6 _ _ (ZaK a5 F5.lv (by intro z; cases z)) a5;have a7:=b7 _ _ (ZaK a6 F6.cw (by intro z; cases z)) a6;have a8:=s8 _ _ a7;exact b9 _ _ (ZaK a8 (s8 _ _ eu7) (by intro z; cases z)) a8
    have eT9:H9 TT=some (.tup [.int ((i+1:Nat):Int),.ref pb]):=b9 _ _ (Zai eu7 n8).symm e8;walk_at "";refine⟨_,_,due4++[(i+1,b)],ts4++[TT],_,rfl,?_,fun x u h1 h2 h3 e=>?_,F9,I9,by rw[ZcR]; exact c4,by rw[Zrl]; exact ll4,by rw[map_append]; exact e9,Paired.snoc (Zax (fun _ _ e=>Zjc.keep x9 e) dd4) ⟨pb,eT9,x9 _ _ hB⟩,by rw[length_append,length_singleton]; omega,er9,Zax (fun _ _ e=>x9 _ _ e) hps4,nxt _ fun q hq hn=>Zgi hq hn⟩
    ·rw[Zbe hbj,List.foldl_append,hP4]
     show Zee m af (i+1) (L4,cr4,due4) b=_;unfold Zee;rw[if_pos h0']
    ·exact b9 _ _ (Zai e n1) (s8 _ _ (b7 _ _ h2 (b6 _ _ h3 (s5 _ _ (o4 _ _ h1 h2 h3 e)))))
   ·walk_at ""
    refine⟨L4,cr4,due4,ts4,_,rfl,?_,o4.trans (OffD.of s5),F5,I4,c4,ll4,s5 _ _ e4,Zax (fun _ _ e=>Zjc.keep (fun _ _ z=>s5 _ _ z) e) dd4,by omega,s5 _ _ er4,Zax (fun _ _ e=>s5 _ _ e) hps4,nxt _ fun q hq _=>hq⟩;rw[Zbe hbj,List.foldl_append,hP4];show Zee m af (i+1) (L4,cr4,due4) b=_;unfold Zee;rw[if_neg (fun z=>h0 (by rw[z]; rfl))]
  ·rintro σ H4 ⟨L4,cr4,due4,ts4,v3,rfl,hP4,o4,F4,I4,c4,ll4,e4,dd4,z4,_⟩
   rw[length_map,ZaC hps]at z4;rw[length_map,ZaC hps,take_length]at hP4;refine⟨L4,cr4,due4,ts4,_,_,rfl,?_,o4,F4,I4,c4,ll4,e4,dd4,by omega⟩;show rowP m af (i+1) (ZgE m af i (L,cr,[]))=_;rw[hP2];unfold rowP;rw[←hbs];exact hP4
 ·rintro σ H2 ⟨L2,cr2,due2,ts,v2,v3,rfl,hP2,o2,F2,I2,c2,ll2,e2,dd2,z2⟩
  walk_at "";have zz:=ZaC dd2;exact q L2 cr2 due2 pu ts H2 hP2 o2 n1 F2 I2 c2 ll2 e2 dd2 (by omega)
theorem ZnM (T:Txt K mg t):∀C,isFr t C→MeS P w K mg base 5 C "push" ["self"] (spAt (Zsk t) C):=by
 rintro C rfl;exact ZiB T
def Zbv (cr:List Nat):Nat→Nat→Option Nat
 | 0,_=>none
 | n+1,k=>if cr.getD k 0=cr.getD (k+1) 0 then some k else Zbv cr n (k+1)
def Zic (cr:List Nat):Option Nat:=Zbv cr (cr.length - 2) 1
def optV:Option Nat→V
 | some k=>.int (k:Int)
 | none=>.non
def ZpO (t:Ad):Sp:=fun vs H Q _=>∃(p dx c d l:Addr) (o:Obj) (m st bd:Nat) (af:List Nat) (L:List (Bar×Nat)) (cr:List Nat),vs=[.ref p]∧FrP t H p dx c d l o m st bd af L cr∧2≤cr.length∧cr.length < 1000∧Q (optV (Zic cr)) H
theorem ZhR (T:Txt K mg t):MeS P w K mg base 3 t.Zag "still" ["self"] (spAt (ZpO t) t.Zag):=by
 refine⟨T.Zat,_,_,T.ZbJ.ok ZeU (fun vs H Q E h=>?_) (fun _ _ _ _ H vs Q E hr h=>?_),T.Zfo,T.Zft⟩
 ·obtain⟨⟨p,dx,c,d,l,o,m,st,bd,af,L,cr,rfl,_⟩,_⟩:=h
  rfl
 obtain⟨⟨p,dx,c,d,l,o,m,st,bd,af,L,cr,rfl,F,l2,hcl,q⟩,_⟩:=h;have D_last:=ZdW (P:=P) (w:=w) (base:=base) T
 refine⟨_,(Zab (Zco PassesOwn.never rfl (ZeM rfl T.B.range (Zaa Zac (Zaa (Zfv D_last hr (pv 0)) Zae))) (sg 1 ZeU.nd)
   (Zad (Za0 (Zan (ZaN hr.units) (ZaQ Zav (Za8 (pv 0) rfl) (pv 1) (fun _ _=>rfl)) (ZaQ Zav (Za8 (pv 0) rfl) (Zaf ZaM (pv 1) Zac) (fun _ _=>rfl)) (Zap _))
   (Zad (Zas (pv 1)))
   Zar)))
   (Zad (Zas Zg1))),?_⟩
 walk_at "rd0";refine⟨p,_,_,_,rfl,F.ob,rfl,ZaB _ _ _ _ (by decide) (by decide) (by decide),?_⟩;walk_at "";refine⟨F.ob,p,dx,c,d,l,o,m,st,bd,af,L,cr,rfl,F,?_⟩;walk_at "";refine⟨1,_,rfl,by omega,?_⟩;rw[show((cr.length:Int) - 1 - 1).toNat=cr.length - 2 by omega];refine ZeE (fun i σ H'=>H'=H∧Zic cr=Zbv cr (cr.length - 2 - i) (1+i)∧∃v1,σ=[some (.ref p),v1]) ⟨rfl,rfl,_,rfl⟩ ?_ ?_
 ·rintro i σ H' hi ⟨rfl,hs,v1,rfl⟩
  rw[show(1:Int)+(i:Int)=((1+i:Nat):Int) by omega];obtain⟨n,hn⟩ : ∃n,cr.length - 2 - i=n+1:=⟨cr.length - 2 - i - 1,by omega⟩;rw[hn]at hs;unfold Zbv at hs;walk_at "";refine⟨p,_,_,_,_,rfl,F.ob,T.Zat,T.Zau,Zct _ _ _,?_⟩;walk_at "";refine Zfi F.cw (Za2 (by omega)) ?_;walk_at "";refine⟨p,_,_,_,_,rfl,F.ob,T.Zat,T.Zau,Zct _ _ _,?_⟩;walk_at "";rw[show((1+i:Nat):Int)+1=((1+i+1:Nat):Int) by omega];refine Zfi F.cw (Za2 (by omega)) ?_;walk_at "";refine ZdA (fun h0=>?_) (fun h0=>?_)
  ·rw[if_pos (by omega)]at hs
   rw[hs]at q;walk_at "";exact q
  ·rw[if_neg (by omega)]at hs
   walk_at "";refine⟨rfl,?_,_,rfl⟩;rw[hs,show cr.length - 2 - (i+1)=n by omega];rfl
 ·rintro σ H' ⟨rfl,hs,v1,rfl⟩
  rw[Nat.sub_self]at hs;walk_at "";rw[hs]at q;exact q
theorem ZmK (T:Txt K mg t):∀C,isFr t C→MeS P w K mg base 3 C "still" ["self"] (spAt (ZpO t) C):=by
 rintro C rfl;exact ZhR T
end
inductive Ev
 | shut (k:Nat) (b:Bar)
 | push (k:Nat) (b:Bar)
 | add (n:Nat)
def EvAt (H:Hp) (q:Addr):Ev→Prop
 | .shut k b=>∃pb,H q=some (.tup [.str "shut",.int (k:Int),.ref pb])∧ZaO H pb b
 | .push k b=>∃pb,H q=some (.tup [.str "push",.int (k:Int),.ref pb])∧ZaO H pb b
 | .add n=>H q=some (.tup [.str "add",.int (n:Int)])
theorem EvAt.keep {H H':Hp} (s:∀b xs,H b=some (.tup xs)→H' b=some (.tup xs)) {q:Addr} {e:Ev} (h:EvAt H q e):EvAt H' q e:=by
 cases e with
 | shut k b=>obtain⟨pb,h1,h2⟩:=h; exact⟨pb,s _ _ h1,s _ _ h2⟩
 | push k b=>obtain⟨pb,h1,h2⟩:=h; exact⟨pb,s _ _ h1,s _ _ h2⟩
 | add n=>exact s _ _ h
def bkN (af:List Nat) (bd:Nat):Nat→Nat
 | 0=>bd
 | j+1=>behN af (bkN af bd j)
structure ShOk (m st bd:Nat) (af cr:List Nat) (k:Nat) (b:Bar):Prop where
 k1:1≤k
 kl:k < cr.length
 gd:b.good
 ml:b.1 < 2 ^ m
 my:mayN af st (cr.getD (k - 1) 0) b (2 ^ m)=true
 nw:∀j,b.1.testBit j=true→mayN af st (cr.getD (k - 1) 0) (b.wo j) (2 ^ m)=false
 wt:∃s,s < 2 ^ m∧(cr.getD k 0).testBit s=true∧lies s b=true∧(bkN af bd (cr.length - 1 - k)).testBit s=true
 lb:cr.getD (cr.length - 1) 0 &&& bd≠0
structure SI (m st bd:Nat) (af:List Nat) (L:List (Bar×Nat)) (cr:List Nat):Prop where
 fi:FI m st af L cr
 nb:∀k,k+1 < cr.length→cr.getD k 0 &&& bd=0
 ml:∀q∈L,q.1.1 < 2 ^ m
 ln:cr.length≤2 ^ m+3
inductive Trc (m st bd:Nat) (af:List Nat):List (Bar×Nat)→List Nat→List Ev→Bool→Prop
 | nil:Trc m st bd af [] [st,2 ^ 2 ^ m - 1] [] false
 | shut {L:List (Bar×Nat)} {cr:List Nat} {es:List Ev} {k:Nat} {b:Bar}:Trc m st bd af L cr es false→SI m st bd af L cr→ShOk m st bd af cr k b→Trc m st bd af (Zex L k b) (cutC cr (Zaq (2 ^ m) b) k) (es++[.shut k b]) false
 | grow {L L':List (Bar×Nat)} {cr cr':List Nat} {es:List Ev} {due:List (Nat×Bar)}:Trc m st bd af L cr es false→SI m st bd af L cr→cr.getD (cr.length - 1) 0 &&& bd=0→ZgE m af (cr.length - 1) (L,cr++[2 ^ 2 ^ m - 1],[])=(L',cr',due)→Trc m st bd af L' cr' (es++.add cr.length::due.map fun x=>.push x.1 x.2) (Zic cr').isSome
def tri:Nat→Nat
 | 0=>0
 | n+1=>tri n+(n+1)
theorem ZmI {a b:Nat} (h:a≤b):tri a≤tri b:=by
 induction b with
 | zero=>
  rw[show a=0 by omega];exact Nat.le_refl _
 | succ b ih=>
  by_cases e:a=b+1
  ·rw[e]; exact Nat.le_refl _
  ·have:=ih (by omega)
   show tri a≤tri b+(b+1);omega
theorem ZjH:∀(n:Nat) (l:List Nat),l.Nodup→(∀x∈l,x < n)→l.length≤n
 | 0,l,_,h=>by
  cases l with
  | nil=>exact Nat.le_refl _
  | cons x r=>exact absurd (h x (by simp)) (Nat.not_lt_zero _)
 | n+1,l,nd,h=>by
  by_cases e:n∈l
  ·have:=ZjH n (l.erase n) (nd.erase n) fun x hx=>by
    have hx2:=(List.Nodup.mem_erase_iff nd).mp hx;have:=h x hx2.2;have:=hx2.1;omega
   rw[List.length_erase_of_mem e]at this;omega
  ·have:=ZjH n l nd fun x hx=>by
    have h1:=h x hx;have:x≠n:=fun z=>e (by rw[←z]; exact hx);omega
   omega
def cdB (b:Bar):Nat:=tri b.1+b.2
theorem Zli {b:Bar} (g:b.good):b.2≤b.1:=by
 have:=g.2;rw[←this];exact Nat.and_le_right
theorem ZsD {b c:Bar} (g:b.good) (g':c.good) (h:cdB b=cdB c):b=c:=by
 have h1:=Zli g;have h2:=Zli g';unfold cdB at h
 have key:∀{x y:Bar},x.2≤x.1→x.1 < y.1→tri x.1+x.2 < tri y.1+y.2:=fun {x y} hx hxy=>by
  have:tri (x.1+1)≤tri y.1:=ZmI hxy;have e:tri (x.1+1)=tri x.1+(x.1+1):=rfl;omega
 rcases Nat.lt_trichotomy b.1 c.1 with z | z | z
 ·have:=key h1 z; omega
 ·rw[z]at h
  exact Prod.ext z (by omega)
 ·have:=key h2 z; omega
theorem SI.few {m st bd:Nat} {af:List Nat} {L:List (Bar×Nat)} {cr:List Nat} (h:SI m st bd af L cr) (hm:m≤5):L.length < 529:=by
 have h32:2 ^ m≤32:=Nat.pow_le_pow_right (n:=2) (by decide) hm
 have nd:(L.map fun q=>cdB q.1).Nodup:=by
  have:=h.fi.nd;rw[List.nodup_iff_pairwise_ne,List.pairwise_map]at this ⊢;exact this.imp_of_mem fun {a b} ha hb hne e=>hne (ZsD (h.fi.gd a ha) (h.fi.gd b hb) e)
 have:=ZjH (tri 32) _ nd fun x hx=>by
  obtain⟨q,hq,rfl⟩:=mem_map.mp hx;have h1:=h.ml q hq;have h2:=Zli (h.fi.gd q hq);have h3:tri (q.1.1+1)≤tri 32:=ZmI (by omega);have e:tri (q.1.1+1)=tri q.1.1+(q.1.1+1):=rfl;show tri q.1.1+q.1.2 < tri 32;omega
 rw[length_map]at this
 have e:tri 32=528:=by decide
 omega
def wS (m:Nat) (cr:List Nat):Nat→Nat
 | 0=>0
 | n+1=>wS m cr n+pc (cr.getD n 0) (2 ^ m)
theorem ZtO {m:Nat} {cr cr':List Nat}:∀n,(∀k,k < n→pc (cr'.getD k 0) (2 ^ m)≤pc (cr.getD k 0) (2 ^ m))→wS m cr' n≤wS m cr n
 | 0,_=>Nat.le_refl _
 | n+1,h=>Nat.add_le_add (ZtO n fun k hk=>h k (by omega)) (h n (by omega))
theorem ZvH {m:Nat} {cr cr':List Nat}:∀n,(∀k,k < n→pc (cr'.getD k 0) (2 ^ m)≤pc (cr.getD k 0) (2 ^ m))→(∃k,k < n∧pc (cr'.getD k 0) (2 ^ m) < pc (cr.getD k 0) (2 ^ m))→wS m cr' n < wS m cr n
 | 0,_,⟨k,hk,_⟩=>absurd hk (Nat.not_lt_zero _)
 | n+1,h,⟨k,hk,hl⟩=>by
  have a:=ZtO n fun k hk=>h k (by omega);have b:=h n (by omega);show wS m cr' n+_ < wS m cr n+_
  by_cases e:k=n
  ·subst e; omega
  ·have:=ZvH n (fun k hk=>h k (by omega)) ⟨k,by omega,hl⟩
   omega
theorem Zjj {m st:Nat} {af:List Nat} {L:List (Bar×Nat)} {cr:List Nat} (F:FI m st af L cr) {k s:Nat} {b:Bar} (hk1:1≤k) (hk:k < cr.length) (hs:(cr.getD k 0).testBit s=true) (hl:lies s b=true):Zeu L k b=false:=by
 cases e:Zeu L k b with
 | false=>rfl
 | true=>
  unfold Zeu at e;rw[any_eq_true]at e;obtain⟨q,hq,h⟩:=e;rw[Bool.and_eq_true,decide_eq_true_iff]at h;have:=((F.kp k hk1 hk s).mp hs).2 q hq h.1;rw[ZmG h.2 hl]at this
  cases this
theorem Zhb {cr:List Nat} {n:Nat} {b:Bar} {i k s:Nat} (hk:k < cr.length) (h:((cutC cr (Zaq n b) i).getD k 0).testBit s=true):(cr.getD k 0).testBit s=true:=by
 rw[Zc2 cr _ k hk]at h
 split at h
 ·exact(Zdt.mp h).1
 ·exact h
theorem SI.shut {m st bd:Nat} {af:List Nat} {L:List (Bar×Nat)} {cr:List Nat} {k:Nat} {b:Bar} (G:GoodC m st bd af) (h:SI m st bd af L cr) (S:ShOk m st bd af cr k b):Zeu L k b=false∧SI m st bd af (Zex L k b) (cutC cr (Zaq (2 ^ m) b) k)∧wS m (cutC cr (Zaq (2 ^ m) b) k) cr.length < wS m cr cr.length:=by
 obtain⟨s,hs,hsk,hsl,_⟩:=S.wt;have cv:=Zjj h.fi S.k1 S.kl hsk hsl;refine⟨cv,⟨ZpB h.fi G.st G.ln S.k1 S.kl S.gd S.my cv,fun j hj=>?_,fun q hq=>?_,by rw[ZbX]; exact h.ln⟩,?_⟩
 ·rw[ZbX]at hj
  rw[Zaj];intro x hx;exact Zaj.mp (h.nb j hj) x (Zhb (by omega) hx)
 ·unfold Zex Zdv at hq
  rcases mem_append.mp hq with hq | hq
  ·exact h.ml q (mem_filter.mp hq).1
  ·rw[mem_singleton.mp hq]; exact S.ml
 ·refine ZvH _ (fun j hj=>ZjO (fun x hx=>Zhb hj hx) _) ⟨k,S.kl,Zq1 (k:=s) (fun x hx=>Zhb S.kl hx) ?_ hsk _ hs⟩
  cases e:((cutC cr (Zaq (2 ^ m) b) k).getD k 0).testBit s with
  | false=>rfl
  | true=>
   rw[Zc2 cr _ k S.kl,if_pos ⟨S.k1,Nat.le_refl _⟩]at e;exact absurd ⟨hs,hsl⟩ (Zdt.mp e).2
structure PuI (cr:List Nat) (L:List (Bar×Nat)) (S:PSt):Prop where
 sb:∀k s,(S.2.1.getD k 0).testBit s=true→(cr.getD k 0).testBit s=true
 ln:S.2.1.length=cr.length
 bs:S.1.map (·.1)=L.map (·.1)
theorem PuI.step {cr:List Nat} {L:List (Bar×Nat)} {S:PSt} {m k:Nat} {af:List Nat} {b:Bar} (h:PuI cr L S):PuI cr L (Zee m af k S b):=by
 unfold Zee
 split
 ·refine⟨fun j s hj=>?_,by rw[ZcR]; exact h.ln,by rw[Zia]; exact h.bs⟩
  have hj:((Zd5 S.2.1 (Zaq (2 ^ m) b) (k+1)).getD j 0).testBit s=true:=hj
  by_cases hl:j < S.2.1.length
  ·rw[Zds _ _ _ _ hl]at hj
   split at hj
   ·exact h.sb j s (Zdt.mp hj).1
   ·exact h.sb j s hj
  ·rw[getD_eq_getElem?_getD,List.getElem?_eq_none (by rw[ZcR]; omega)]at hj
   simp at hj
 ·exact h
theorem PuI.fold {cr:List Nat} {L:List (Bar×Nat)} {m k:Nat} {af:List Nat}:∀(bs:List Bar) {S:PSt},PuI cr L S→PuI cr L (bs.foldl (Zee m af k) S)
 | [],_,h=>h
 | b::bs,_,h=>PuI.fold bs h.step
theorem PuI.push {cr:List Nat} {L:List (Bar×Nat)} {m:Nat} {af:List Nat} {S:PSt} (h:PuI cr L S):∀n,PuI cr L (ZgE m af n S)
 | 0=>h
 | n+1=>PuI.fold _ (PuI.push h n)
theorem SI.grow {m st bd:Nat} {af:List Nat} {L L':List (Bar×Nat)} {cr cr':List Nat} {due:List (Nat×Bar)} (h:SI m st bd af L cr) (hl:cr.length≤2 ^ m+2) (hb:cr.getD (cr.length - 1) 0 &&& bd=0) (e:ZgE m af (cr.length - 1) (L,cr++[2 ^ 2 ^ m - 1],[])=(L',cr',due)) (fi:FI m st af L' cr'):SI m st bd af L' cr'∧cr'.length=cr.length+1∧wS m cr' cr'.length≤wS m cr cr.length+2 ^ m:=by
 have P:=PuI.push (cr:=cr++[2 ^ 2 ^ m - 1]) (L:=L) (m:=m) (af:=af) (S:=(L,cr++[2 ^ 2 ^ m - 1],[])) ⟨fun _ _ h=>h,rfl,rfl⟩ (cr.length - 1);rw[e]at P
 have l1:cr'.length=cr.length+1:=by have:=P.ln; rw[length_append,length_singleton]at this; exact this
 have sb:∀k s,k < cr.length→(cr'.getD k 0).testBit s=true→(cr.getD k 0).testBit s=true:=fun k s hk hs=>by
  have:=P.sb k s hs;rw[getD_eq_getElem?_getD,getElem?_append_left hk,←getD_eq_getElem?_getD]at this;exact this
 refine⟨⟨fi,fun k hk=>?_,fun q hq=>?_,by omega⟩,l1,?_⟩
 ·rw[l1]at hk
  rw[Zaj];intro x hx;have hx2:=sb k x (by omega) hx
  by_cases e2:k+1 < cr.length
  ·exact Zaj.mp (h.nb k e2) x hx2
  ·have ek:k=cr.length - 1:=by omega
   rw[ek]at hx2;exact Zaj.mp hb x hx2
 ·have hm:q.1∈L'.map (·.1):=List.mem_map_of_mem hq
  have:=P.bs;rw[show L'.map (·.1)=L.map (·.1) from this]at hm;obtain⟨q',hq',e2⟩:=mem_map.mp hm;rw[←e2];exact h.ml q' hq'
 ·rw[l1]
  have a:wS m cr' cr.length≤wS m cr cr.length:=ZtO _ fun k hk=>ZjO (fun x hx=>sb k x hk hx) _;have b:=ZlC (cr'.getD cr.length 0) (2 ^ m);show wS m cr' cr.length+pc (cr'.getD cr.length 0) (2 ^ m)≤_;omega
theorem Zsi {m st bd:Nat} {af:List Nat} {L:List (Bar×Nat)} {cr:List Nat} (h:SI m st bd af L cr):∀(j i s:Nat),i+j < cr.length→(cr.getD i 0).testBit s=true→(bkN af bd j).testBit s=true→∃x,(cr.getD (i+j) 0).testBit x=true∧bd.testBit x=true
 | 0,i,s,_,h1,h2=>⟨s,h1,h2⟩
 | j+1,i,s,hl,h1,h2=>by
  have h2:(behN af (bkN af bd j)).testBit s=true:=h2;rw[Zce,Bool.and_eq_true,decide_eq_true_iff,decide_eq_true_iff]at h2
  obtain⟨x,hx⟩ : ∃x,(af.getD s 0 &&& bkN af bd j).testBit x=true:=by
   rcases Classical.em (∃x,(af.getD s 0 &&& bkN af bd j).testBit x=true) with z | z
   ·exact z
   ·exact absurd (Zig fun k=>by
     cases e:(af.getD s 0 &&& bkN af bd j).testBit k with
     | false=>rfl
     | true=>exact absurd ⟨k,e⟩ z) h2.2
  rw[Nat.testBit_and,Bool.and_eq_true]at hx;have:=Zsi h j (i+1) x (by omega) (h.fi.stp i (by omega) s x h1 hx.1) hx.2;rw[show i+1+j=i+(j+1) by omega]at this;exact this
theorem ZqU {m st bd:Nat} {af:List Nat} {L:List (Bar×Nat)} {cr:List Nat} (h:SI m st bd af L cr) {k s:Nat} (hk1:1≤k) (hk:k < cr.length) (hs:(bkN af bd (cr.length - 1 - k)).testBit s=true):st.testBit s=false:=by
 cases e:st.testBit s with
 | false=>rfl
 | true=>
  obtain⟨x,h1,h2⟩:=Zsi h (cr.length - 1 - k) 0 s (by omega) (by rw[h.fi.st0]; exact e) hs;rw[Nat.zero_add]at h1;have:=Zaj.mp (h.nb (cr.length - 1 - k) (by omega)) x h1;rw[h2]at this
  cases this
theorem ZlV {m st bd:Nat} {af:List Nat} {L:List (Bar×Nat)} {cr:List Nat} (G:GoodC m st bd af) (h:FI m st af L cr) (hs:∀k,1≤k→k+1 < cr.length→cr.getD k 0≠cr.getD (k+1) 0):∀k,1≤k→k < cr.length→k≤pc (cr.getD k 0) (2 ^ m)+1
 | 0,h1,_=>by omega
 | 1,_,_=>by omega
 | k+2,_,h2=>by
  have ih:=ZlV G h hs (k+1) (by omega) (by omega);have hne:=hs (k+1) (by omega) (by omega);obtain⟨x,hx⟩ : ∃x,(cr.getD (k+1) 0).testBit x≠(cr.getD (k+2) 0).testBit x:=Nat.exists_testBit_ne_of_ne hne;have sub:∀x,(cr.getD (k+1) 0).testBit x=true→(cr.getD (k+2) 0).testBit x=true:=fun x hx=>h.mono G.st (by omega) h2 hx
  have x1:(cr.getD (k+1) 0).testBit x=false:=by
   cases e:(cr.getD (k+1) 0).testBit x with
   | false=>rfl
   | true=>exact absurd (e.trans (sub x e).symm) hx
  have x2:(cr.getD (k+2) 0).testBit x=true:=by
   cases e:(cr.getD (k+2) 0).testBit x with
   | true=>rfl
   | false=>exact absurd (x1.trans e.symm) hx
  have xl:=((h.kp (k+2) (by omega) h2 x).mp x2).1;have:=Zq1 sub x1 x2 (2 ^ m) xl;omega
theorem Zoh {m st bd:Nat} {af:List Nat} {L:List (Bar×Nat)} {cr:List Nat} (G:GoodC m st bd af) (h:FI m st af L cr) (hs:∀k,1≤k→k+1 < cr.length→cr.getD k 0≠cr.getD (k+1) 0):cr.length≤2 ^ m+2:=by
 have l2:=h.len2;have a:=ZlV G h hs (cr.length - 1) (by omega) (by omega);have b:=ZlC (cr.getD (cr.length - 1) 0) (2 ^ m);omega
structure HS (sb:Bool) (t:Ad) (H:Hp) (c p dx d l:Addr) (o:Obj) (dl:Addr) (m st bd:Nat) (af:List Nat) (L:List (Bar×Nat)) (cr:List Nat) (es:List Ev):Prop where
 fr:FrP t H p dx c d l o m st bd af L cr
 dy:∃ps,H dl=some (.lst (ps.map V.ref))∧Paired (EvAt H) ps es
 dn:dl≠l
 tr:Trc m st bd af L cr es sb
 si:SI m st bd af L cr
 en:es.length+wS m cr cr.length≤20000 * cr.length
structure MV (p l dl d0 d':Addr) (H H':Hp):Prop where
 kp:∀b u,b≠p→b≠l→b≠dl→b≠d0→H b=some u→H' b=some u
 nd:d'=d0∨H d'=none
theorem MV.of {p l dl d:Addr} {H H':Hp} (s:Same H H'):MV p l dl d d H H':=⟨fun b u _ _ _ _ e=>s b u e,.inl rfl⟩
theorem MV.trans {p l dl d0 d1 d2:Addr} {H H1 H2:Hp} (a:MV p l dl d0 d1 H H1) (b:MV p l dl d1 d2 H1 H2) (hp:H1 p≠none) (hl:H1 l≠none) (hd:H1 dl≠none):MV p l dl d0 d2 H H2:=by
 refine⟨fun x u h1 h2 h3 h4 e=>b.kp x u h1 h2 h3 (fun z=>?_) (a.kp x u h1 h2 h3 h4 e),?_⟩
 ·rcases a.nd with y | y
  ·exact h4 (z.trans y)
  ·rw[←z,e]at y; cases y
 ·rcases b.nd with y | y
  ·rw[y]; exact a.nd
  ·by_cases z:d2=d0
   ·exact .inl z
   ·refine .inr ?_
    cases e:H d2 with
    | none=>rfl
    | some u=>
     have:=a.kp d2 u (fun q=>hp (by rw[←q]; exact y)) (fun q=>hl (by rw[←q]; exact y)) (fun q=>hd (by rw[←q]; exact y)) z e;rw[y]at this; cases this
theorem HS.same {sb:Bool} {t:Ad} {H H':Hp} {c p dx d l:Addr} {o:Obj} {dl:Addr} {m st bd:Nat} {af:List Nat} {L:List (Bar×Nat)} {cr:List Nat} {es:List Ev} (h:HS sb t H c p dx d l o dl m st bd af L cr es) (s:Same H H'):HS sb t H' c p dx d l o dl m st bd af L cr es:=by
 obtain⟨ps,e,pp⟩:=h.dy;exact⟨h.fr.same s,⟨ps,s _ _ e,Zax (fun _ _ z=>z.keep fun _ _ e=>s _ _ e) pp⟩,h.dn,h.tr,h.si,h.en⟩
theorem HS.ne {sb:Bool} {t:Ad} {H:Hp} {c p dx d l:Addr} {o:Obj} {dl:Addr} {m st bd:Nat} {af:List Nat} {L:List (Bar×Nat)} {cr:List Nat} {es:List Ev} (h:HS sb t H c p dx d l o dl m st bd af L cr es):H p≠none∧H l≠none∧H dl≠none:=by
 obtain⟨ps,ed,_⟩:=h.dy;refine⟨?_,?_,?_⟩
 ·rw[h.fr.ob]; simp
 ·rw[h.fr.cw]; simp
 ·rw[ed]; simp
theorem Zml {m s:Nat} (hm:m≤5) (hs:s < 2 ^ m):Bar.good (2 ^ m - 1,s):=by
 have h32:2 ^ m≤32:=Nat.pow_le_pow_right (n:=2) (by decide) hm;have h0:=Nat.two_pow_pos m;refine⟨by show 2 ^ m - 1 < 64; omega,?_⟩;show s &&& (2 ^ m - 1)=s;rw[Nat.and_two_pow_sub_one_eq_mod,Nat.mod_eq_of_lt hs]
theorem ZjM {m s:Nat} (hm:m≤5) (hs:s < 2 ^ m) {x:Nat} (hx:x < 2 ^ m):lies x (2 ^ m - 1,s)=true ↔ x=s:=by
 rw[←ZjF (Zml hm hs),decide_eq_true_iff];show x &&& (2 ^ m - 1)=s ↔ _;rw[Nat.and_two_pow_sub_one_eq_mod,Nat.mod_eq_of_lt hx]
theorem ZqO {m s:Nat} {f:Bar} (hm:m≤5) (hs:s < 2 ^ m) (gf:f.good) (h:Less (2 ^ m - 1,s) f):lies s f=true∧f.1 < 2 ^ m:=by
 constructor
 ·rw[←ZjF gf,decide_eq_true_iff]
  exact h.2.symm
 ·refine Nat.lt_pow_two_of_testBit _ fun j hj=>?_
  cases e:f.1.testBit j with
  | false=>rfl
  | true=>
   have:=h.1 j e;have h2:(2 ^ m - 1).testBit j=true:=this;rw[Nat.testBit_two_pow_sub_one,decide_eq_true_iff]at h2;omega
theorem Ztn {m st bd held s:Nat} {af:List Nat} (G:GoodC m st bd af) (hm:m≤5) (hs:s < 2 ^ m) (h1:st.testBit s=false) (h2:(held &&& behN af (2 ^ s)) - ((held &&& behN af (2 ^ s)) &&& 2 ^ s)=0):mayN af st held (2 ^ m - 1,s) (2 ^ m)=true:=by
 rw[Zmi G.ln];refine⟨fun x hx hl=>?_,fun x hx hl hh y hy hyl=>?_⟩
 ·rw[(ZjM hm hs hx).mp hl]; exact h1
 ·have ey:=(ZjM hm hs hy).mp hyl
  subst ey
  have hne:x≠y:=fun z=>by
   rw[(ZjM hm hs hx).mpr z]at hl
   cases hl
  cases e:(af.getD x 0).testBit y with
  | false=>rfl
  | true=>
   have z:((held &&& behN af (2 ^ y)) - ((held &&& behN af (2 ^ y)) &&& 2 ^ y)).testBit x=false:=by rw[h2]; exact Nat.zero_testBit x
   have hb:(behN af (2 ^ y)).testBit x=true:=by
    rw[Zce,Bool.and_eq_true,decide_eq_true_iff,decide_eq_true_iff];refine⟨by rw[G.ln]; exact hx,fun q=>?_⟩;have:=Zaj.mp q y e;rw[Nat.testBit_two_pow_self]at this
    cases this
   rw[ZaA,Nat.testBit_and,hh,hb,Nat.testBit_two_pow,decide_eq_false (fun q=>hne q.symm)]at z
   cases z
section
variable {P:Program} {w:World} {K:W.Frag} {mg:Str→Option Value} {base:Heap} {t:Ad}
def ZtE (t:Ad):Sp:=fun vs H Q _=>∃(c p dx d l:Addr) (o:Obj) (dl:Addr) (m st bd:Nat) (af:List Nat) (L:List (Bar×Nat)) (cr:List Nat) (es:List Ev) (k s:Nat),vs=[.ref c,.ref p,.ref dl,.int (k:Int),.int (s:Int)]∧HS false t H c p dx d l o dl m st bd af L cr es∧GoodC m st bd af∧m≤5∧1≤k∧k < cr.length∧s < 2 ^ m∧(cr.getD k 0).testBit s=true∧(bkN af bd (cr.length - 1 - k)).testBit s=true∧cr.getD (cr.length - 1) 0 &&& bd≠0∧mayN af st (cr.getD (k - 1) 0) (2 ^ m - 1,s) (2 ^ m)=true∧
 ∀b d' o' H',lies s b=true→ShOk m st bd af cr k b→MV p l dl d d' H H'→HS false t H' c p dx d' l o' dl m st bd af (Zex L k b) (cutC cr (Zaq (2 ^ m) b) k) (es++[.shut k b])→Q .non H'
theorem ZjL (T:Txt K mg t):FnS P w K mg base 7 "shut_stand" ["chart","frames","diary","k","stand"] ((ZtE t)):=by
 refine⟨_,_,T.Zcj.ok Zgh (fun vs H Q E h=>?_) (fun _ _ _ _ H vs Q E hr h=>?_),T.ZgQ,T.Zcj.kp,T.ZgY⟩
 ·obtain⟨c,p,dx,d,l,o,dl,m,st,bd,af,L,cr,es,k,s0,rfl,h,G,hm,hk1,hk,hs,hsk,hsb,hlb,hmy,q⟩:=h
  rfl
 obtain⟨c,p,dx,d,l,o,dl,m,st,bd,af,L,cr,es,k,s0,rfl,h,G,hm,hk1,hk,hs,hsk,hsb,hlb,hmy,q⟩:=h;have ZnP:=Znn (P:=P) (w:=w) (base:=base) T;have Zp9:=Zo2 (P:=P) (w:=w) (base:=base) T;have D_crowd:=Zgl (P:=P) (w:=w) (base:=base) T;have D_shut:=ZnN (P:=P) (w:=w) (base:=base) T;have h32:2 ^ m≤32:=Nat.pow_le_pow_right (n:=2) (by decide) hm;have hln:=h.si.ln;have F:=h.fr;obtain⟨dy,tp,ch1,ch2⟩:=id F.ch
 refine⟨_,(Zab (ss 5 Zgh.nd (Zu4 ZnP hr (Zaa (pv 0) (Zaa (Zfk D_crowd hr (pv 1) (Zaa (Zaf Zea (pv 3) Zac) Zae)) (Zaa (ZaY Zp9 hr (Zaa (Za8 (pv 0) rfl) (Zaa (pv 4) Zae))) Zae)))))
   (Zab (Zbu (Zu3 D_shut hr (pv 1) (Zaa (pv 3) (Zaa (pv 5) Zae))))
   (Zad (Zbu (ZkO PySem.F.plainAttrs_list PySem.F.slot_list_append PySem.F.type_list_append Zb4 (pv 2) (Zaa (Zew (Zaa Zeb (Zaa (pv 3) (Zaa (pv 5) Zae)))) Zae)))))),?_⟩
 walk_at "rd0";refine⟨p,_,_,_,rfl,F.ob,rfl,ZaB _ _ _ _ (by decide) (by decide) (by decide),?_⟩;walk_at "";rw[show(k:Int) - 1=((k - 1:Nat):Int) by omega];refine⟨F.ob,p,dx,c,d,l,o,m,st,bd,af,L,cr,k - 1,rfl,F,by omega,?_⟩;walk_at "";refine⟨c,_,_,_,_,rfl,ch1,T.Zbx,T.Za5,ZeG _ _ _ _,?_⟩;walk_at "";refine⟨m,s0,rfl,G.m6,fun pb H1 s1 n1 e1=>?_⟩;walk_at "";refine⟨c,pb,m,st,bd,_,af,_,rfl,(h.same s1).fr.ch,G,e1,Zml hm hs,fun z=>absurd z (by rw[hmy]; decide),fun _ H2 p2 f s2 hf gf lf mf nf=>?_⟩;obtain⟨hsl,fm⟩:=ZqO hm hs gf lf;have S:ShOk m st bd af cr k f:=⟨hk1,hk,gf,fm,mf,nf,⟨s0,hs,hsk,hsl,hsb⟩,hlb⟩;obtain⟨cv,I2,wl⟩:=h.si.shut G S;have h2:=h.same (s1.trans s2);have F2:=h2.fr;walk_at "";refine⟨p,_,_,_,rfl,F2.ob,rfl,ZaB _ _ _ _ (by decide) (by decide) (by decide),?_⟩;walk_at "";refine⟨F2.ob,p,dx,c,d,l,o,m,st,bd,af,L,cr,k,p2,f,rfl,F2,G,hk1,hk,by omega,by have:=h.si.few hm; omega,h.si.fi.gd,h.si.fi.nd,hf,gf,fun z=>absurd z (by rw[mf]; decide),fun _ z=>absurd z (by rw[cv]; decide),fun _ _ d' o' H3 hd o3 F3=>?_⟩;obtain⟨ps,ed,pp⟩:=h2.dy;have F2l:H2 l≠none:=h2.ne.2.1;have nlp:dl≠p:=ZaK ed F2.ob (by intro z; cases z);have nld:dl≠d:=ZaK ed F2.lv (by intro z; cases z);have ed3:=o3 _ _ nlp h.dn nld ed;have tk3:∀b xs,H2 b=some (.tup xs)→H3 b=some (.tup xs):=fun b xs e=>o3 _ _ (ZaK e F2.ob (by intro z; cases z)) (ZaK e F2.cw (by intro z; cases z)) (ZaK e F2.lv (by intro z; cases z)) e;walk_at "";refine⟨tyL ed3,?_⟩;walk_at "";refine Zg7 (by simp) fun ep H4 s4 n4 e4=>?_;walk_at "";have hpl:=ZaC pp;have hen:=h.en;refine Zb7 (s4 _ _ ed3) (by rw[length_map,hpl]; omega) fun H5 b5 e5=>?_;have F4:=F3.same s4;have tk5:∀b xs,H4 b=some (.tup xs)→H5 b=some (.tup xs):=fun b xs e=>b5 _ _ (ZaK e (s4 _ _ ed3) (by intro z; cases z)) e;have F5:=F4.lst b5 (s4 _ _ ed3) h.dn.symm;have hbar:ZaO H5 p2 f:=tk5 _ _ (s4 _ _ (tk3 _ _ hf));refine q f d' o' H5 hsl S ⟨fun b u h1 h2' h3 h4 e=>b5 _ _ h3 (s4 _ _ (o3 _ _ h1 h2' h4 ((s1.trans s2) _ _ e))),?_⟩ ⟨F5,⟨ps++[ep],by rw[e5,map_append]; rfl,?_⟩,h.dn,.shut h.tr h.si S,I2,?_⟩
 ·exact .inr ((s1.trans s2).free hd)
 ·exact Zc8 (Zax (fun _ _ z=>z.keep fun b xs e=>tk5 _ _ (s4 _ _ (tk3 _ _ e))) pp) (.cons ⟨p2,tk5 _ _ e4,hbar⟩ .nil)
 ·rw[length_append,length_singleton,ZbX]
  omega
end
structure Way (m st bd:Nat) (af:List Nat) (n:Nat) (ws:List Nat):Prop where
 ln:ws.length=n
 hd:∃x,ws[0]?=some x∧st.testBit x=true
 la:∃x,ws[n - 1]?=some x∧bd.testBit x=true
 sp:∀i x y,ws[i]?=some x→ws[i+1]?=some y→(af.getD x 0).testBit y=true
 lt:∀x∈ws,x < 2 ^ m
structure Ask (m bd:Nat) (af cr as:List Nat):Prop where
 ln:as.length+1≤cr.length
 el:∀i x,as[i]?=some x→x < 2 ^ m∧(cr.getD (cr.length - 1 - i) 0).testBit x=true∧(bkN af bd i).testBit x=true
 sp:∀i x y,as[i]?=some x→as[i+1]?=some y→(af.getD y 0).testBit x=true
theorem ZtZ {m bd:Nat} {af cr as:List Nat} (A:Ask m bd af cr as) (h:as≠[]):cr.getD (cr.length - 1) 0 &&& bd≠0:=fun e=>by
 cases as with
 | nil=>exact h rfl
 | cons x r=>
  obtain⟨_,h1,h2⟩:=A.el 0 x rfl;have h2:bd.testBit x=true:=h2;have:=Zaj.mp e x h1;rw[h2]at this
  cases this
theorem Ask.pop {m st bd:Nat} {af cr as:List Nat} {x:Nat} {b:Bar} (A:Ask m bd af cr (as++[x])):Ask m bd af (cutC cr (Zaq (2 ^ m) b) (cr.length - (as.length+1))) as:=by
 have l1:=A.ln;rw[length_append,length_singleton]at l1;refine⟨by rw[ZbX]; omega,fun i y hi=>?_,fun i y z h1 h2=>?_⟩
 ·have hil:=(List.getElem?_eq_some_iff.mp hi).1
  obtain⟨a1,a2,a3⟩:=A.el i y (by rw[getElem?_append_left hil]; exact hi);refine⟨a1,?_,a3⟩;rw[ZbX,Zc2 cr _ _ (by omega),if_neg (by omega)];exact a2
 ·have hi1:=(List.getElem?_eq_some_iff.mp h1).1
  have hi2:=(List.getElem?_eq_some_iff.mp h2).1;exact A.sp i y z (by rw[getElem?_append_left hi1]; exact h1) (by rw[getElem?_append_left hi2]; exact h2)
structure Src (cr af:List Nat) (k x y:Nat):Prop where
 cr:(cr.getD (k - 1) 0).testBit y=true
 sp:(af.getD y 0).testBit x=true
 yl:y < af.length
theorem Zvw {cr af:List Nat} {k x y:Nat} (h:((cr.getD (k - 1) 0 &&& behN af (2 ^ x)) - ((cr.getD (k - 1) 0 &&& behN af (2 ^ x)) &&& 2 ^ x)).testBit y=true):Src cr af k x y:=by
 rw[ZaA,Nat.testBit_and,Bool.and_eq_true,Bool.and_eq_true,Zce,Bool.and_eq_true,decide_eq_true_iff,decide_eq_true_iff]at h;refine⟨h.1.1,?_,h.1.2.1⟩
 cases e:(af.getD y 0).testBit x with
 | true=>rfl
 | false=>
  refine absurd (Zaj.mpr fun j hj=>?_) h.1.2.2;rw[Nat.testBit_two_pow]
  exact decide_eq_false fun z=>by rw[←z,e]at hj; cases hj
theorem Zt1 {af:List Nat} {c x y:Nat} (hy:y < af.length) (h1:(af.getD y 0).testBit x=true) (h2:c.testBit x=true):(behN af c).testBit y=true:=by
 rw[Zce,Bool.and_eq_true,decide_eq_true_iff,decide_eq_true_iff];refine⟨hy,fun e=>?_⟩;have:=Zaj.mp e x h1;rw[h2]at this
 cases this
theorem Ask.push {m st bd:Nat} {af cr as:List Nat} {x y:Nat} (A:Ask m bd af cr (as++[x])) (hl:as.length+3≤cr.length) (hy:y < 2 ^ m) (S:Src cr af (cr.length - (as.length+1)) x y):Ask m bd af cr (as++[x]++[y]):=by
 have lx:(as++[x]).length=as.length+1:=by rw[length_append,length_singleton]
 have gx:(as++[x])[as.length]?=some x:=by rw[getElem?_append_right (Nat.le_refl _),Nat.sub_self]; rfl
 have last:∀{i z},(as++[x]++[y])[i]?=some z→(i < as.length+1∧(as++[x])[i]?=some z)∨(i=as.length+1∧z=y):=fun {i z} h=>by
  by_cases hi:i < as.length+1
  ·rw[getElem?_append_left (by rw[lx]; exact hi)]at h
   exact .inl ⟨hi,h⟩
  ·rw[getElem?_append_right (by rw[lx]; omega),lx]at h
   have hi2:i - (as.length+1)=0:=by
    have:=(List.getElem?_eq_some_iff.mp h).1;simp at this;omega
   rw[hi2]at h;exact .inr ⟨by omega,by simpa using h.symm⟩
 refine⟨by rw[length_append,lx,length_singleton]; omega,fun i z hi=>?_,fun i z z' h1 h2=>?_⟩
 ·rcases last hi with⟨_,h⟩ | ⟨rfl,rfl⟩
  ·exact A.el i z h
  ·refine⟨hy,?_,?_⟩
   ·have:=S.cr
    rw[show cr.length - (as.length+1) - 1=cr.length - 1 - (as.length+1) by omega]at this;exact this
   ·exact Zt1 S.yl S.sp (A.el as.length x gx).2.2
 ·rcases last h2 with⟨_,h⟩ | ⟨e,rfl⟩
  ·rcases last h1 with⟨_,h'⟩ | ⟨e,_⟩
   ·exact A.sp i z z' h' h
   ·omega
  ·have ei:i=as.length:=by omega
   subst ei
   rcases last h1 with⟨_,h'⟩ | ⟨e,_⟩
   ·rw[gx]at h'
    cases h'
    exact S.sp
   ·omega
theorem Ask.way {m st bd:Nat} {af cr as:List Nat} {x y:Nat} (A:Ask m bd af cr (as++[x])) (h0:cr.getD 0 0=st) (hl:as.length+2=cr.length) (hy:y < 2 ^ m) (S:Src cr af (cr.length - (as.length+1)) x y):Way m st bd af cr.length (y::(as++[x]).reverse):=by
 have lx:(as++[x]).length=as.length+1:=by rw[length_append,length_singleton]
 have gx:(as++[x])[as.length]?=some x:=by rw[getElem?_append_right (Nat.le_refl _),Nat.sub_self]; rfl
 have rv:∀{i z},(as++[x]).reverse[i]?=some z→i < as.length+1∧(as++[x])[as.length - i]?=some z:=fun {i z} h=>by
  have hi:=(List.getElem?_eq_some_iff.mp h).1;rw[List.length_reverse,lx]at hi;rw[List.getElem?_reverse (by rw[lx]; exact hi),lx,show as.length+1 - 1 - i=as.length - i by omega]at h;exact⟨hi,h⟩
 have sc:=S.cr;rw[show cr.length - (as.length+1) - 1=0 by omega,h0]at sc;refine⟨by rw[length_cons,List.length_reverse,lx]; omega,⟨y,rfl,sc⟩,?_,fun i u v h1 h2=>?_,fun z hz=>?_⟩
 ·obtain⟨z,hz⟩ : ∃z,(as++[x])[0]?=some z:=⟨_,List.getElem?_eq_getElem (by rw[lx]; omega)⟩
  refine⟨z,?_,(A.el 0 z hz).2.2⟩;rw[show cr.length - 1=as.length+1 by omega,List.getElem?_cons_succ,List.getElem?_reverse (by rw[lx]; omega),lx,show as.length+1 - 1 - as.length=0 by omega];exact hz
 ·rw[List.getElem?_cons_succ]at h2
  obtain⟨_,g2⟩:=rv h2
  cases i with
  | zero=>
   rw[Nat.sub_zero,gx]at g2
   cases g2
   have:y=u:=by simpa using h1
   subst this;exact S.sp
  | succ i=>
   rw[List.getElem?_cons_succ]at h1;obtain⟨hi,g1⟩:=rv h1;obtain⟨hi2,_⟩:=rv h2;refine A.sp (as.length - (i+1)) v u g2 ?_;rw[show as.length - (i+1)+1=as.length - i by omega];exact g1
 ·rcases mem_cons.mp hz with rfl | hz
  ·exact hy
  ·obtain⟨i,hi,e⟩:=List.getElem_of_mem (List.mem_reverse.mp hz)
   exact(A.el i z (by rw[←e]; exact List.getElem?_eq_getElem hi)).1
theorem Zt0 {α:Type} (xs:List α) (y:α):atI (xs++[y]) (-1)=some y:=by
 unfold atI ixN;rw[if_neg (by decide),length_append,length_singleton,if_pos (by omega)]
 have e:((-1:Int)+((xs.length+1:Nat):Int)).toNat=xs.length:=by omega
 show(xs++[y])[((-1:Int)+((xs.length+1:Nat):Int)).toNat]?=some y;rw[e,getElem?_append_right (Nat.le_refl _),Nat.sub_self];rfl
theorem HS.but {sb:Bool} {t:Ad} {H H':Hp} {c p dx d l a:Addr} {o:Obj} {dl:Addr} {m st bd:Nat} {af:List Nat} {L:List (Bar×Nat)} {cr:List Nat} {es:List Ev} {xs:List V} (h:HS sb t H c p dx d l o dl m st bd af L cr es) (b:But a H H') (e:H a=some (.lst xs)) (n1:l≠a) (n2:dl≠a):HS sb t H' c p dx d l o dl m st bd af L cr es:=by
 obtain⟨ps,ed,pp⟩:=h.dy;exact⟨h.fr.lst b e n1,⟨ps,b _ _ n2 ed,Zax (fun _ _ z=>z.keep fun x ys ex=>b _ _ (ZaK ex e (by intro z; cases z)) ex) pp⟩,h.dn,h.tr,h.si,h.en⟩
theorem MV.but {p l dl d d' a:Addr} {H H1 H2:Hp} (v:MV p l dl d d' H H1) (b:But a H1 H2) (n:H a=none):MV p l dl d d' H H2:=⟨fun x u h1 h2 h3 h4 e=>b _ _ (Zai e n) (v.kp x u h1 h2 h3 h4 e),v.nd⟩
theorem MV.more {p l dl d d':Addr} {H H1 H2:Hp} (v:MV p l dl d d' H H1) (s:Same H1 H2):MV p l dl d d' H H2:=⟨fun x u h1 h2 h3 h4 e=>s _ _ (v.kp x u h1 h2 h3 h4 e),v.nd⟩
theorem ZqW (as:List Nat):((nums as).map V.int).reverse=(nums as.reverse).map V.int:=by
 unfold nums;rw[←List.map_reverse,←List.map_reverse]
section
variable {P:Program} {w:World} {K:W.Frag} {mg:Str→Option Value} {base:Heap} {t:Ad}
def ZtF (t:Ad):Sp:=fun vs H Q _=>∃(c p dx d l:Addr) (o:Obj) (dl:Addr) (m st bd:Nat) (af:List Nat) (L:List (Bar×Nat)) (cr:List Nat) (es:List Ev) (b0:Nat),vs=[.ref c,.ref p,.ref dl,.int (b0:Int)]∧HS false t H c p dx d l o dl m st bd af L cr es∧GoodC m st bd af∧m≤5∧b0 < 2 ^ m∧(cr.getD (cr.length - 1) 0).testBit b0=true∧bd.testBit b0=true∧
 (∀d' o' L' cr' es' H',MV p l dl d d' H H'→HS false t H' c p dx d' l o' dl m st bd af L' cr' es'→cr'.length=cr.length→wS m cr' cr.length < wS m cr cr.length→Q .non H')∧
 (∀a ws d' o' L' cr' es' H',MV p l dl d d' H H'→HS false t H' c p dx d' l o' dl m st bd af L' cr' es'→cr'.length=cr.length→(H a=none∨a=d)→a≠l→a≠dl→H' a=some (.lst ((nums ws).map V.int))→Way m st bd af cr.length ws→cr'.getD (cr'.length - 1) 0 &&& bd≠0→Q (.ref a) H')
theorem Zo3 (T:Txt K mg t):FnS P w K mg base 9 "way_to" ["chart","frames","diary","bad"] ((ZtF t)):=by
 refine⟨_,_,T.ZeX.ok Zec (fun vs H Q E h=>?_) (fun _ _ _ _ H vs Q E hr h=>?_),T.ZlS,T.ZeX.kp,T.Zmg⟩
 ·obtain⟨c,p,dx,d0,l,o0,dl,m,st,bd,af,L0,cr0,es0,b0,rfl,h0,G,hm,hb,hbc,hbb,qn,qw⟩:=h
  rfl
 obtain⟨c,p,dx,d0,l,o0,dl,m,st,bd,af,L0,cr0,es0,b0,rfl,h0,G,hm,hb,hbc,hbb,qn,qw⟩:=h;have Zka:=ZjL (P:=P) (w:=w) (base:=base) T;have Zgp:=ZjK (P:=P) (w:=w) (base:=base) T;have D_last:=ZdW (P:=P) (w:=w) (base:=base) T;have D_crowd:=Zgl (P:=P) (w:=w) (base:=base) T;have D_behind:=ZfA (P:=P) (w:=w) (base:=base) T;have l2:=h0.si.fi.len2;have h32:2 ^ m≤32:=Nat.pow_le_pow_right (n:=2) (by decide) hm
 refine⟨_,(Zab (ss 4 Zec.nd (Zgd (Zaa (pv 3) Zae)))
   (Zab (Zfd PassesOwn.never (Zan Zo5 (Zaw Zbq rfl T.B.len Zd4 (Zaa (pv 4) Zae)) Zac (Zap _))
   (Zab (ss 5 Zec.nd (Zaf Zea (Zaf ZaM (Zfv D_last hr (pv 1)) Zac) (Zaw Zbq rfl T.B.len Zd4 (Zaa (pv 4) Zae))))
   (Zab (ss 6 Zec.nd (ZaQ Zav (pv 4) (ZgD Zp3 Zac) (fun _ _=>rfl)))
   (Zab (ss 7 Zec.nd (Zaf ZbF Zac (pv 6)))
   (Zab (ss 8 Zec.nd (Zaf ZaL (Zaf ZaL (Zfk D_crowd hr (pv 1) (Zaa (Zaf Zea (pv 5) Zac) Zae)) (Zfk D_behind hr (pv 0) (Zaa (pv 7) Zae))) (ZgD Zfy (pv 7))))
   (Zad (Za0 (Zan (ZaN hr.units) (pv 8) Zac (Zap _))
   (Zab (Zbu (ZaY Zka hr (Zaa (pv 0) (Zaa (pv 1) (Zaa (pv 2) (Zaa (pv 5) (Zaa (pv 6) Zae)))))))
   (Zad (Zbu (Zpa PySem.F.plainAttrs_list PySem.F.slot_list_pop PySem.F.type_list_pop ZuO (pv 4)))))
   (Zad (Za0 (Zan (ZaN hr.units) (pv 5) Zac (Zap _))
   (Zad (Zas (Zaf ZaM (Zgd (Zaa (ZaY Zgp hr (Zaa (pv 8) Zae)) Zae)) (Zns rfl rfl T.B.list rfl T.B.reversed (pv 4)))))
   (Zad (Zbu (ZkO PySem.F.plainAttrs_list PySem.F.slot_list_append PySem.F.type_list_append Zb4 (pv 4) (Zaa (ZaY Zgp hr (Zaa (pv 8) Zae)) Zae)))))))))))))
   (Zad (Zas Zg1)))),?_⟩
 walk_at "rd0";refine Zjz (by simp) fun al H1 s1 n1 e1=>?_;have e1:H1 al=some (.lst ((nums [b0]).map V.int)):=e1;walk_at ""
 refine⟨fun mm σ H'=>∃d o L cr es as v5 v6 v7 v8,MV p l dl d0 d H H'∧HS false t H' c p dx d l o dl m st bd af L cr es∧cr.length=cr0.length∧H' al=some (.lst ((nums as).map V.int))∧Ask m bd af cr as∧wS m cr cr0.length≤wS m cr0 cr0.length∧(as=[]→wS m cr cr0.length < wS m cr0 cr0.length)∧mm=wS m cr cr0.length * (cr0.length+1)+(cr0.length - as.length)∧σ=[some (.ref c),some (.ref p),some (.ref dl),some (.int (b0:Int)),some (.ref al),v5,v6,v7,v8],
  ⟨_,d0,o0,L0,cr0,es0,[b0],_,_,_,_,MV.of s1,h0.same s1,rfl,e1,⟨by simp; omega,fun i x hi=>?_,fun i x y h1 h2=>?_⟩,Nat.le_refl _,(fun z=>by cases z),rfl,rfl⟩,?_⟩
 ·cases i with
  | zero=>
   have:b0=x:=by simpa using hi
   subst this;exact⟨hb,hbc,hbb⟩
  | succ i=>simp at hi
 ·simp at h2
 rintro mm σ H2 ⟨d,o,L,cr,es,as,v5,v6,v7,v8,v2,h2,hcl,ea,A,w1,w2,rfl,rfl⟩;have F2:=h2.fr;walk_at "";rw[ZaG];refine ZdA (fun hlen=>?_) (fun hlen=>?_)
 rotate_left
 ·walk_at ""
  have e0:as=[]:=List.length_eq_zero_iff.mp (by omega);exact qn d o L cr es H2 v2 h2 hcl (w2 e0)
 obtain⟨as',x,rfl⟩ : ∃as' x,as=as'++[x]:=by
  rcases List.eq_nil_or_concat as with e | ⟨a,b,e⟩
  ·rw[e]at hlen; simp at hlen
  ·exact⟨a,b,by rw[e,List.concat_eq_append]⟩
 have lx:(as'++[x]).length=as'.length+1:=by rw[length_append,length_singleton]
 have gx:(as'++[x])[as'.length]?=some x:=by rw[getElem?_append_right (Nat.le_refl _),Nat.sub_self]; rfl
 obtain⟨x1,x2,x3⟩:=A.el _ _ gx;have lA:=A.ln;rw[lx]at lA hlen;have lb:=ZtZ A (by simp);refine⟨fun σ' H'=>∃mm',mm' < wS m cr cr0.length * (cr0.length+1)+(cr0.length - (as'++[x]).length)∧∃d o L cr es as v5 v6 v7 v8,MV p l dl d0 d H H'∧HS false t H' c p dx d l o dl m st bd af L cr es∧cr.length=cr0.length∧H' al=some (.lst ((nums as).map V.int))∧Ask m bd af cr as∧wS m cr cr0.length≤wS m cr0 cr0.length∧(as=[]→wS m cr cr0.length < wS m cr0 cr0.length)∧mm'=wS m cr cr0.length * (cr0.length+1)+(cr0.length - as.length)∧σ'=[some (.ref c),some (.ref p),some (.ref dl),some (.int (b0:Int)),some (.ref al),v5,v6,v7,v8],fun _ _ z=>z,?_⟩;rw[lx];walk_at "";refine⟨p,_,_,_,rfl,F2.ob,rfl,ZaB _ _ _ _ (by decide) (by decide) (by decide),?_⟩;walk_at "";refine⟨F2.ob,p,dx,c,d,l,o,m,st,bd,af,L,cr,rfl,F2,?_⟩;walk_at "";rw[ZaG,lx,show(cr.length:Int) - 1+1 - ((as'.length+1:Nat):Int)=((cr.length - (as'.length+1):Nat):Int) by omega];generalize hk:cr.length - (as'.length+1)=k;walk_at ""
 have ea2:H2 al=some (.lst ((nums as').map V.int++[V.int (x:Int)])):=by rw[ea,ZcS]
 refine Zow ea2 (Zt0 _ _) ?_;walk_at "";rw[ZaZ];refine⟨p,_,_,_,rfl,F2.ob,rfl,ZaB _ _ _ _ (by decide) (by decide) (by decide),?_⟩;walk_at "";rw[show(k:Int) - 1=((k - 1:Nat):Int) by omega];refine⟨F2.ob,p,dx,c,d,l,o,m,st,bd,af,L,cr,k - 1,rfl,F2,by omega,?_⟩;obtain⟨C,dxc,fsc,ec,hCc,hlc⟩:=F2.ch.ins "behind" (by decide) (by decide) (by decide) (by decide);walk_at "";refine⟨c,C,dxc,fsc,rfl,ec,hCc,hlc,?_⟩;walk_at "";refine⟨ec,c,m,st,bd,af,2 ^ x,rfl,F2.ch,by rw[G.ln]; exact Zbt G.m6,fun H3 s3=>?_⟩;walk_at "";rw[Za1,Zba];have h3:=h2.same s3;have v3:=v2.more s3;have ea3:=s3 _ _ ea2;obtain⟨ps,ed,_⟩:=h3.dy
 have nal:l≠al:=fun z=>by rw[z]at h0; exact absurd n1 h0.ne.2.1
 have nad:dl≠al:=fun z=>by rw[z]at h0; exact absurd n1 h0.ne.2.2
 have nap:al≠p:=fun z=>by rw[←z]at h0; exact absurd n1 h0.ne.1
 have nav:al≠d:=ZaK ea3 h3.fr.lv (by intro z; cases z)
 have x2':(cr.getD k 0).testBit x=true:=by rw[←hk,show cr.length - (as'.length+1)=cr.length - 1 - as'.length by omega]; exact x2
 have x3':(bkN af bd (cr.length - 1 - k)).testBit x=true:=by rw[show cr.length - 1 - k=as'.length by omega]; exact x3
 have sf:∀y,((cr.getD (k - 1) 0 &&& behN af (2 ^ x)) - ((cr.getD (k - 1) 0 &&& behN af (2 ^ x)) &&& 2 ^ x)).testBit y=true→y < 2 ^ m∧Src cr af (cr.length - (as'.length+1)) x y:=fun y hy=>by
  have S:=Zvw hy;rw[hk];exact⟨by rw[←G.ln]; exact S.yl,S⟩
 have om:=fun z=>Ztn (held:=cr.getD (k - 1) 0) G hm x1 (ZqU h2.si (k:=k) (by omega) (by omega) x3') z;generalize (cr.getD (k - 1) 0 &&& behN af (2 ^ x)) - ((cr.getD (k - 1) 0 &&& behN af (2 ^ x)) &&& 2 ^ x)=src at sf om ⊢;refine ZdA (fun hz=>?_) (fun hz=>?_)
 ·walk_at ""
  refine⟨c,p,dx,d,l,o,dl,m,st,bd,af,L,cr,es,k,x,rfl,h3,G,hm,by omega,by omega,x1,x2',x3',lb,om (by omega),fun b d' o' H4 hl S v4 h4=>?_⟩;have ea4:=v4.kp al _ nap nal.symm nad.symm nav ea3;have wl:=(h2.si.shut G S).2.2;walk_at "";refine⟨tyL ea4,?_⟩;walk_at "";refine ZvV ea4 fun H5 b5 e5=>?_;walk_at "";rw[hcl]at wl;refine⟨_,?_,d',o',_,_,_,as',_,_,_,_,(v3.trans v4 h3.ne.1 h3.ne.2.1 h3.ne.2.2).but b5 n1,h4.but b5 ea4 nal nad,by rw[ZbX]; exact hcl,e5,by rw[←hk]; exact A.pop (st:=st),by omega,fun _=>by omega,rfl,rfl⟩;have:=Nat.mul_le_mul_right (cr0.length+1) wl;rw[Nat.succ_mul]at this;omega
 ·have hpos:0 < src:=by omega
  obtain⟨y1,y2⟩:=sf _ (Zga hpos).1;walk_at "";refine ZdA (fun hk1=>?_) (fun hk1=>?_)
  ·walk_at ""
   refine⟨src,rfl,hpos,?_⟩;walk_at "";refine Zjz (by simp) fun a1 H4 s4 n4 e4=>?_;walk_at "";refine ZoH (SqL.of (s4 _ _ (s3 _ _ ea))) fun a2 H5 s5 n5 e5=>?_;rw[ZqW]at e5;refine ZvU (s5 _ _ e4) e5 (by have:=h2.si.ln; simp only [ZaG,List.length_reverse,length_append,length_cons,length_nil]; omega) fun a3 H6 s6 n6 e6=>?_
   have z1:a3≠p:=fun z=>by rw[z,(s4.trans s5) _ _ h3.fr.ob]at n6; cases n6
   have z2:a3≠l:=fun z=>by rw[z,(s4.trans s5) _ _ h3.fr.cw]at n6; cases n6
   have z3:a3≠dl:=fun z=>by rw[z,(s4.trans s5) _ _ ed]at n6; cases n6
   have hsn:H a3=none∨a3=d0:=by
    by_cases z4:a3=d0
    ·exact .inr z4
    ·refine .inl ?_
     cases e:H a3 with
     | none=>rfl
     | some u=>
      refine absurd n6 ?_;rw[(s4.trans s5) _ _ (v3.kp a3 u z1 z2 z3 z4 e)]; simp
   have W:=A.way (st:=st) h2.si.fi.st0 (by omega) y1 y2;rw[hcl]at W;exact qw a3 (lowN src::(as'++[x]).reverse) d o L cr es H6 (v3.more (s4.trans (s5.trans s6))) (h3.same (s4.trans (s5.trans s6))) hcl hsn z2 z3 e6 W lb
  ·walk_at ""
   refine⟨tyL ea3,?_⟩;walk_at "";refine⟨src,rfl,hpos,?_⟩;walk_at "";refine Zb7 ea3 (by rw[length_append,ZaG,length_singleton]; have:=h2.si.ln; omega) fun H4 b4 e4=>?_;walk_at "";refine⟨_,?_,d,o,L,cr,es,as'++[x]++[lowN src],_,_,_,_,v3.but b4 n1,h3.but b4 ea3 nal nad,hcl,by rw[e4,ZcS,ZcS],A.push (st:=st) (by omega) y1 y2,w1,(fun z=>by simp at z),rfl,rfl⟩;rw[length_append,lx,length_singleton];omega
end
section
variable {P:Program} {w:World} {K:W.Frag} {mg:Str→Option Value} {base:Heap} {t:Ad}
def ZpH (t:Ad):Sp:=fun vs H Q _=>∃(c p dx d l:Addr) (o:Obj) (dl:Addr) (m st bd:Nat) (af:List Nat) (L:List (Bar×Nat)) (cr:List Nat) (es:List Ev),vs=[.ref c,.ref p,.ref dl]∧HS false t H c p dx d l o dl m st bd af L cr es∧GoodC m st bd af∧m≤5∧
 (∀d' o' L' cr' es' H',MV p l dl d d' H H'→HS false t H' c p dx d' l o' dl m st bd af L' cr' es'→cr'.length=cr.length→cr'.getD (cr'.length - 1) 0 &&& bd=0→Q .non H')∧
 (∀a ws d' o' L' cr' es' H',MV p l dl d d' H H'→HS false t H' c p dx d' l o' dl m st bd af L' cr' es'→cr'.length=cr.length→(H a=none∨a=d)→a≠l→a≠dl→H' a=some (.lst ((nums ws).map V.int))→Way m st bd af cr.length ws→cr'.getD (cr'.length - 1) 0 &&& bd≠0→Q (.ref a) H')
theorem Zs9 {m st bd:Nat} {af:List Nat} {L:List (Bar×Nat)} {cr:List Nat} (h:SI m st bd af L cr) {s:Nat} (hs:(cr.getD (cr.length - 1) 0).testBit s=true):s < 2 ^ m:=by
 have l2:=h.fi.len2;exact((h.fi.kp (cr.length - 1) (by omega) (by omega) s).mp hs).1
theorem MV.fresh {p l dl d0 d1 a:Addr} {H H1:Hp} (v:MV p l dl d0 d1 H H1) (h:H1 a=none∨a=d1) (hp:H1 p≠none) (hl:a≠l) (hd:a≠dl) (hap:a≠p):H a=none∨a=d0:=by
 rcases h with h | h
 ·by_cases z:a=d0
  ·exact .inr z
  ·refine .inl ?_
   cases e:H a with
   | none=>rfl
   | some u=>
    have:=v.kp a u hap hl hd z e;rw[h]at this; cases this
 ·rw[h]
  exact v.nd.symm
theorem ZeJ (T:Txt K mg t):FnS P w K mg base 11 "way_while_clearing" ["chart","frames","diary"] ((ZpH t)):=by
 refine⟨_,_,T.ZaI.ok Zbd (fun vs H Q E h=>?_) (fun _ _ _ _ H vs Q E hr h=>?_),T.ZcZ,T.ZaI.kp,T.Zc0⟩
 ·obtain⟨c,p,dx,d0,l,o0,dl,m,st,bd,af,L0,cr0,es0,rfl,h0,G,hm,qn,qw⟩:=h
  rfl
 obtain⟨c,p,dx,d0,l,o0,dl,m,st,bd,af,L0,cr0,es0,rfl,h0,G,hm,qn,qw⟩:=h;have Zqa:=Zo3 (P:=P) (w:=w) (base:=base) T;have Zgp:=ZjK (P:=P) (w:=w) (base:=base) T;have D_last:=ZdW (P:=P) (w:=w) (base:=base) T;have D_crowd:=Zgl (P:=P) (w:=w) (base:=base) T;have l2:=h0.si.fi.len2;have F0:=h0.fr;obtain⟨dy0,tp0,ch0,_⟩:=id F0.ch
 refine⟨_,(Zab (ss 3 Zbd.nd (Zaf ZaL (Zfk D_crowd hr (pv 1) (Zaa (Zfv D_last hr (pv 1)) Zae)) (Za8 (pv 0) rfl)))
   (Zab (Zfd PassesOwn.never (Zay (pv 3) (fun _=>rfl))
   (Zab (ss 4 Zbd.nd (ZaY Zqa hr (Zaa (pv 0) (Zaa (pv 1) (Zaa (pv 2) (Zaa (ZaY Zgp hr (Zaa (pv 3) Zae)) Zae))))))
   (Zab (Za0 (Zan ZlB (pv 4) Zg1 (Zap _))
   (Zad (Zas (pv 4)))
   Zar)
   (Zad (ss 3 Zbd.nd (Zaf ZaL (Zfk D_crowd hr (pv 1) (Zaa (Zfv D_last hr (pv 1)) Zae)) (Za8 (pv 0) rfl)))))))
   (Zad (Zas Zg1)))),?_⟩
 walk_at "rd0";refine⟨p,_,_,_,rfl,F0.ob,rfl,ZaB _ _ _ _ (by decide) (by decide) (by decide),?_⟩;walk_at "";refine⟨p,_,_,_,rfl,F0.ob,rfl,ZaB _ _ _ _ (by decide) (by decide) (by decide),?_⟩;walk_at "";refine⟨F0.ob,p,dx,c,d0,l,o0,m,st,bd,af,L0,cr0,rfl,F0,?_⟩;walk_at "";rw[show(cr0.length:Int) - 1=((cr0.length - 1:Nat):Int) by omega];refine⟨F0.ob,p,dx,c,d0,l,o0,m,st,bd,af,L0,cr0,cr0.length - 1,rfl,F0,by omega,?_⟩;walk_at "";refine⟨c,_,_,_,_,rfl,ch0,T.Zbx,T.ZbR,Zlp _ _ _ _,?_⟩;walk_at "";rw[Za1];refine⟨fun mm σ H'=>∃d o L cr es v4,MV p l dl d0 d H H'∧HS false t H' c p dx d l o dl m st bd af L cr es∧cr.length=cr0.length∧mm=wS m cr cr0.length∧σ=[some (.ref c),some (.ref p),some (.ref dl),some (.int ((cr.getD (cr0.length - 1) 0 &&& bd:Nat):Int)),v4],⟨_,d0,o0,L0,cr0,es0,_,MV.of (Same.refl _),h0,rfl,rfl,rfl⟩,?_⟩;rintro mm σ H1 ⟨d,o,L,cr,es,v4,v1,h1,hcl,rfl,rfl⟩;have F1:=h1.fr;obtain⟨dy1,tp1,ch1,_⟩:=id F1.ch;walk_at ""
 dsimp only
 by_cases hz:cr.getD (cr0.length - 1) 0 &&& bd=0
 ·refine ZaF (by rw[decide_eq_true (by omega)]; rfl) ?_
  walk_at "";exact qn d o L cr es H1 v1 h1 hcl (by rw[hcl]; exact hz)
 refine Zca (by rw[decide_eq_false (by omega)]; rfl) ⟨fun σ' H'=>∃mm',mm' < wS m cr cr0.length∧∃d o L cr es v4,MV p l dl d0 d H H'∧HS false t H' c p dx d l o dl m st bd af L cr es∧cr.length=cr0.length∧mm'=wS m cr cr0.length∧σ'=[some (.ref c),some (.ref p),some (.ref dl),some (.int ((cr.getD (cr0.length - 1) 0 &&& bd:Nat):Int)),v4],fun _ _ z=>z,?_⟩;have hlow:=(Zga (Nat.pos_of_ne_zero hz)).1;rw[Nat.testBit_and,Bool.and_eq_true]at hlow
 have hlow1:(cr.getD (cr.length - 1) 0).testBit (lowN (cr.getD (cr0.length - 1) 0 &&& bd))=true:=by rw[hcl]; exact hlow.1
 walk_at "";refine⟨_,rfl,Nat.pos_of_ne_zero hz,?_⟩;walk_at "";refine⟨c,p,dx,d,l,o,dl,m,st,bd,af,L,cr,es,_,rfl,h1,G,hm,Zs9 h1.si hlow1,hlow1,hlow.2,fun d' o' L' cr' es' H2 v2 h2 hl wl=>?_,fun a ws d' o' L' cr' es' H2 v2 h2 hl ha nal nad ea W wb=>?_⟩
 ·have F2:=h2.fr
  obtain⟨dy2,tp2,ch2,_⟩:=id F2.ch;have vv:=v1.trans v2 h1.ne.1 h1.ne.2.1 h1.ne.2.2;walk_at "";refine⟨rfl,?_⟩;walk_at "";refine ZaF (by simp) ?_;walk_at "";refine⟨p,_,_,_,rfl,F2.ob,rfl,ZaB _ _ _ _ (by decide) (by decide) (by decide),?_⟩;walk_at "";refine⟨p,_,_,_,rfl,F2.ob,rfl,ZaB _ _ _ _ (by decide) (by decide) (by decide),?_⟩;walk_at "";refine⟨F2.ob,p,dx,c,d',l,o',m,st,bd,af,L',cr',rfl,F2,?_⟩;walk_at "";rw[show(cr'.length:Int) - 1=((cr'.length - 1:Nat):Int) by omega];refine⟨F2.ob,p,dx,c,d',l,o',m,st,bd,af,L',cr',cr'.length - 1,rfl,F2,by omega,?_⟩;walk_at "";refine⟨c,_,_,_,_,rfl,ch2,T.Zbx,T.ZbR,Zlp _ _ _ _,?_⟩;walk_at "";rw[Za1];rw[hcl]at wl;exact⟨_,wl,d',o',L',cr',es',_,vv,h2,by omega,rfl,by rw[hl,hcl]⟩
 ·have vv:=v1.trans v2 h1.ne.1 h1.ne.2.1 h1.ne.2.2
  walk_at "";refine⟨rfl,?_⟩;walk_at "";refine Zca (by simp) ?_;walk_at "";rw[hcl]at W;exact qw a ws d' o' L' cr' es' H2 vv h2 (by omega) (v1.fresh ha h1.ne.1 nal nad (ZaK ea h2.fr.ob (by intro z; cases z))) nal nad ea W wb
def Zvr (t:Ad):Sp:=fun vs H Q _=>∃(c p dx d l:Addr) (o:Obj) (dl:Addr) (m st bd:Nat) (af:List Nat) (L:List (Bar×Nat)) (cr:List Nat) (es:List Ev),vs=[.ref p,.ref dl]∧HS false t H c p dx d l o dl m st bd af L cr es∧GoodC m st bd af∧m≤5∧cr.length≤2 ^ m+2∧cr.getD (cr.length - 1) 0 &&& bd=0∧
 ∀L' cr' es' H',MV p l dl d d H H'→HS (Zic cr').isSome t H' c p dx d l o dl m st bd af L' cr' es'→cr'.length=cr.length+1→Q .non H'
theorem Ztk (T:Txt K mg t):FnS P w K mg base 7 "grow" ["frames","diary"] ((Zvr t)):=by
 refine⟨_,_,T.ZiG.ok ZlG (fun vs H Q E h=>?_) (fun _ _ _ _ H vs Q E hr h=>?_),T.Zrv,T.ZiG.kp,T.Zr8⟩
 ·obtain⟨c,p,dx,d,l,o,dl,m,st,bd,af,L,cr,es,rfl,h,G,hm,hcl,hb,q⟩:=h
  rfl
 obtain⟨c,p,dx,d,l,o,dl,m,st,bd,af,L,cr,es,rfl,h,G,hm,hcl,hb,q⟩:=h;have D_last:=ZdW (P:=P) (w:=w) (base:=base) T;have D_add_frame:=Zii (P:=P) (w:=w) (base:=base) T;have D_push:=ZnM (P:=P) (w:=w) (base:=base) T;have h32:2 ^ m≤32:=Nat.pow_le_pow_right (n:=2) (by decide) hm;have l2:=h.si.fi.len2;have F:=h.fr;obtain⟨ps,ed,pp⟩:=h.dy;have hpl:=ZaC pp;have hen:=h.en
 refine⟨_,(Zab (Zbu (Zfv D_add_frame hr (pv 0)))
   (Zab (Zbu (ZkO PySem.F.plainAttrs_list PySem.F.slot_list_append PySem.F.type_list_append Zb4 (pv 1) (Zaa (Zew (Zaa Zeb (Zaa (Zfv D_last hr (pv 0)) Zae))) Zae)))
   (Zad (Zco PassesOwn.never rfl (Zfx (Zfv D_push hr (pv 0))) (ZkQ rfl (ZcM (sg 2 ZlG.nd) (ZcM (sg 3 ZlG.nd) ZhW)))
   (Zad (Zbu (ZkO PySem.F.plainAttrs_list PySem.F.slot_list_append PySem.F.type_list_append Zb4 (pv 1) (Zaa (Zew (Zaa Zeb (Zaa (pv 2) (Zaa (pv 3) Zae)))) Zae)))))))),?_⟩
 walk_at "rd0";refine⟨p,_,_,_,rfl,F.ob,rfl,ZaB _ _ _ _ (by decide) (by decide) (by decide),?_⟩;walk_at "";refine⟨F.ob,p,dx,c,d,l,o,m,st,bd,af,L,cr,rfl,F,G.m6,by omega,fun H1 b1 e1=>?_⟩;walk_at "";have F1:=F.cut b1 e1;have ed1:=b1 _ _ h.dn ed;have tk1:∀b xs,H b=some (.tup xs)→H1 b=some (.tup xs):=fun b xs e=>b1 _ _ (ZaK e F.cw (by intro z; cases z)) e;refine⟨tyL ed1,?_⟩;walk_at "";refine⟨p,_,_,_,rfl,F1.ob,rfl,ZaB _ _ _ _ (by decide) (by decide) (by decide),?_⟩;walk_at "";refine⟨F1.ob,p,dx,c,d,l,o,m,st,bd,af,L,_,rfl,F1,?_⟩;walk_at "";rw[length_append,length_singleton,show((cr.length+1:Nat):Int) - 1=(cr.length:Int) by omega];refine Zg7 (by simp) fun ep H2 s2 n2 e2=>?_;walk_at "";refine Zb7 (s2 _ _ ed1) (by rw[length_map,hpl]; omega) fun H3 b3 e3=>?_;have F3:=(F1.same s2).lst b3 (s2 _ _ ed1) h.dn.symm;have tk3:∀b xs,H2 b=some (.tup xs)→H3 b=some (.tup xs):=fun b xs e=>b3 _ _ (ZaK e (s2 _ _ ed1) (by intro z; cases z)) e;walk_at "";refine⟨p,_,_,_,rfl,F3.ob,rfl,ZaB _ _ _ _ (by decide) (by decide) (by decide),?_⟩;walk_at "";refine⟨F3.ob,p,dx,c,d,l,o,m,st,bd,af,L,_,rfl,F3,G,Zrs h.si.fi G.af,h.si.few hm,by rw[length_append,length_singleton]; omega,fun L' cr' due a ts H4 hP o4 na F4 I4 c4 ll4 e4 dd4 dl4=>?_⟩;rw[length_append,length_singleton,show cr.length+1 - 2=cr.length - 1 by omega]at hP;rw[length_append,length_singleton]at dl4;obtain⟨I5,l5,w5⟩:=h.si.grow hcl hb hP I4;have ndp:dl≠p:=ZaK ed F.ob (by intro z; cases z);have ndd:dl≠d:=ZaK ed F.lv (by intro z; cases z);have ed4:=o4 _ _ ndp h.dn ndd e3;have tk4:∀b xs,H3 b=some (.tup xs)→H4 b=some (.tup xs):=fun b xs e=>o4 _ _ (ZaK e F3.ob (by intro z; cases z)) (ZaK e F3.cw (by intro z; cases z)) (ZaK e F3.lv (by intro z; cases z)) e;have nda:dl≠a:=(Zai e3 na);have hdl:=ZaC dd4;have pp4:Paired (EvAt H4) (ps++[ep]) (es++[.add cr.length]):=Zc8 (Zax (fun _ _ z=>z.keep fun b xs e=>tk4 _ _ (tk3 _ _ (s2 _ _ (tk1 _ _ e)))) pp) (.cons (tk4 _ _ (tk3 _ _ e2)) .nil)
 refine seqL (xs:=ts.map V.ref) (fun i σ H'=>∃qs v2 v3,But dl H4 H'∧H' dl=some (.lst (qs.map V.ref))∧Paired (EvAt H') qs (es++[.add cr.length]++(due.take i).map fun x=>.push x.1 x.2)∧σ=[some (.ref p),some (.ref dl),v2,v3])
  ⟨ps++[ep],_,_,fun _ _ _ e=>e,by rw[ed4,map_append]; rfl,by rw[List.take_zero,map_nil,append_nil]; exact pp4,rfl⟩ (fun i σ H' _ hp=>by obtain⟨_,_,_,b,_⟩:=hp; exact SqL.of (b _ _ nda.symm e4)) ?_ ?_
 ·rintro i x σ H5 hx ⟨qs,v2,v3,b5,e5,p5,rfl⟩
  obtain⟨y,rfl,hy⟩:=ZeF hx;obtain⟨⟨kk,bb⟩,hdi,pb,hy1,hy2⟩:=ZbM dd4 hy;have hil:=(List.getElem?_eq_some_iff.mp hdi).1;have tk5:∀b xs,H4 b=some (.tup xs)→H5 b=some (.tup xs):=fun b xs e=>b5 _ _ (ZaK e ed4 (by intro z; cases z)) e;have hql:=ZaC p5;rw[length_append,length_append,length_map,length_take,length_singleton]at hql;refine Zou (tk5 _ _ hy1) ?_;walk_at "";refine⟨tyL e5,?_⟩;walk_at "";refine Zg7 (by simp) fun ep5 H6 s6 n6 e6=>?_;walk_at "";refine Zb7 (s6 _ _ e5) (by rw[length_map]; omega) fun H7 b7 e7=>?_;walk_at "";have tk7:∀b xs,H6 b=some (.tup xs)→H7 b=some (.tup xs):=fun b xs e=>b7 _ _ (ZaK e (s6 _ _ e5) (by intro z; cases z)) e;refine⟨qs++[ep5],_,_,fun b u hb e=>b7 _ _ hb (s6 _ _ (b5 _ _ hb e)),by rw[e7,map_append]; rfl,?_,rfl⟩;rw[Zbe hdi,map_append,←append_assoc];exact Zc8 (Zax (fun _ _ z=>z.keep fun b xs e=>tk7 _ _ (s6 _ _ e)) p5) (.cons ⟨pb,tk7 _ _ e6,tk7 _ _ (s6 _ _ (tk5 _ _ hy2))⟩ .nil)
 ·rintro σ H5 ⟨qs,v2,v3,b5,e5,p5,rfl⟩
  walk_at "";rw[length_map,hdl,take_length]at p5
  have ee:es++[.add cr.length]++(due.map fun x=>Ev.push x.1 x.2)=es++.add cr.length::due.map fun x=>Ev.push x.1 x.2:=by simp
  rw[ee]at p5;refine q L' cr' _ H5 ⟨fun b u h1 h2 h3 h4 e=>b5 _ _ h3 (o4 _ _ h1 h2 h4 (b3 _ _ h3 (s2 _ _ (b1 _ _ h2 e)))),.inl rfl⟩ ⟨F4.lst b5 ed4 h.dn.symm,⟨qs,e5,p5⟩,h.dn,.grow h.tr h.si hb hP,I5,?_⟩ l5;rw[length_append,length_cons,length_map,l5];rw[l5]at w5;omega
end
theorem Zef {cr:List Nat}:∀{n k j:Nat},Zbv cr n k=some j→k≤j∧j < k+n∧cr.getD j 0=cr.getD (j+1) 0∧∀i,k≤i→i < j→cr.getD i 0≠cr.getD (i+1) 0
 | 0,k,j,h=>by cases h
 | n+1,k,j,h=>by
  unfold Zbv at h
  by_cases e:cr.getD k 0=cr.getD (k+1) 0
  ·rw[if_pos e]at h
   cases h
   exact⟨Nat.le_refl _,by omega,e,fun i h1 h2=>by omega⟩
  ·rw[if_neg e]at h
   obtain⟨a,b,c,d⟩:=Zef h;refine⟨by omega,by omega,c,fun i h1 h2=>?_⟩
   by_cases z:i=k
   ·rw[z]; exact e
   ·exact d i (by omega) h2
theorem Zjb {cr:List Nat}:∀{n k:Nat},Zbv cr n k=none→∀i,k≤i→i < k+n→cr.getD i 0≠cr.getD (i+1) 0
 | 0,k,_,i,h1,h2=>by omega
 | n+1,k,h,i,h1,h2=>by
  unfold Zbv at h
  by_cases e:cr.getD k 0=cr.getD (k+1) 0
  ·rw[if_pos e]at h; cases h
  ·rw[if_neg e]at h
   by_cases z:i=k
   ·rw[z]; exact e
   ·exact Zjb h i (by omega) (by omega)
structure HuntR (m st bd:Nat) (af:List Nat) (H:Hp) (r:Addr) (H':Hp) (dl ep a:Addr) (es:List Ev):Prop where
  sm:Same H H'
  er:H' r=some (.tup [.ref dl,.ref ep])
  dy:∃qs,H' dl=some (.lst (qs.map V.ref))∧Paired (EvAt H') qs es
  nd:H dl=none
  na:H a=none
  ne:dl≠a
  zz:es.length≤1000000
  out:(∃x,st.testBit x=true∧bd.testBit x=true∧x < 2 ^ m∧es=[]∧H' ep=some (.tup [.str "ever",.ref a])∧H' a=some (.lst ((nums [x]).map V.int)))∨
    (st &&& bd=0∧∃L cr sb,Trc m st bd af L cr es sb∧SI m st bd af L cr∧
      ((∃ws,sb=false∧H' ep=some (.tup [.str "ever",.ref a])∧H' a=some (.lst ((nums ws).map V.int))∧Way m st bd af cr.length ws∧cr.getD (cr.length - 1) 0 &&& bd≠0)∨
       (∃k,Zic cr=some k∧sb=true∧H' ep=some (.tup [.str "never",.ref a])∧ZnL H' a ((L.filter fun q=>decide (k≤q.2)).map (·.1)))))
def WvI (m st bd:Nat) (af:List Nat) (H H':Hp) (dl:Addr) (cr:List Nat) (v:V):Prop:=(v=.non∧cr.getD (cr.length - 1) 0 &&& bd=0)∨∃a ws,v=.ref a∧H a=none∧a≠dl∧H' a=some (.lst ((nums ws).map V.int))∧Way m st bd af cr.length ws∧cr.getD (cr.length - 1) 0 &&& bd≠0
section
variable {P:Program} {w:World} {K:W.Frag} {mg:Str→Option Value} {base:Heap} {t:Ad}
def Zvs (t:Ad):Sp:=fun vs H Q _=>∃(c:Addr) (m st bd:Nat) (af:List Nat),vs=[.ref c]∧Zb9 t H c m st bd af∧GoodC m st bd af∧m≤5∧∀r dl ep a es H',HuntR m st bd af H r H' dl ep a es→Q (.ref r) H'
theorem Ztl (T:Txt K mg t):FnS P w K mg base 13 "hunt" ["chart"] ((Zvs t)):=by
 refine⟨_,_,T.ZiH.ok ZfO (fun vs H Q E h=>?_) (fun _ _ _ _ H vs Q E hr h=>?_),T.Zrw,T.ZiH.kp,T.Zr9⟩
 ·obtain⟨c,m,st,bd,af,rfl,hC,G,hm,q⟩:=h
  rfl
 obtain⟨c,m,st,bd,af,rfl,hC,G,hm,q⟩:=h;have Zgp:=ZjK (P:=P) (w:=w) (base:=base) T;have ZcY:=ZeJ (P:=P) (w:=w) (base:=base) T;have ZtR:=Ztk (P:=P) (w:=w) (base:=base) T;have Zqd:=Zo1 (P:=P) (w:=w) (base:=base) T;have D_still:=ZmK (P:=P) (w:=w) (base:=base) T;have D_bars:=Zj8 (P:=P) (w:=w) (base:=base) T;have h32:2 ^ m≤32:=Nat.pow_le_pow_right (n:=2) (by decide) hm;obtain⟨dy0,tp0,ch0,_⟩:=id hC
 refine⟨_,(Zab (ss 1 ZfO.nd (Zgd Zae))
   (Zab (ss 2 ZfO.nd (Zaf ZaL (Za8 (pv 0) rfl) (Za8 (pv 0) rfl)))
   (Zab (Za0 (Zay (pv 2) (fun _=>rfl))
   (Zad (Zas (Zew (Zaa (pv 1) (Zaa (Zew (Zaa Zeb (Zaa (Zgd (Zaa (ZaY Zgp hr (Zaa (pv 2) Zae)) Zae)) Zae))) Zae)))))
   Zar)
   (Zab (ss 3 ZfO.nd (Zu5 Zqd hr (Zaa (pv 0) Zae)))
   (Zab (ss 4 ZfO.nd (ZaY ZcY hr (Zaa (pv 0) (Zaa (pv 3) (Zaa (pv 1) Zae)))))
   (Zab (Zfd PassesOwn.never (Zan ZuX (pv 4) Zg1 (Zap _))
   (Zab (Zbu (ZaY ZtR hr (Zaa (pv 3) (Zaa (pv 1) Zae))))
   (Zab (ss 5 ZfO.nd (Zfv D_still hr (pv 3)))
   (Zab (Za0 (Zan ZlB (pv 5) Zg1 (Zap _))
   (Zad (Zas (Zew (Zaa (pv 1) (Zaa (Zew (Zaa Zeb (Zaa (Zfk D_bars hr (pv 3) (Zaa (pv 5) Zae)) Zae))) Zae)))))
   Zar)
   (Zad (ss 4 ZfO.nd (ZaY ZcY hr (Zaa (pv 0) (Zaa (pv 3) (Zaa (pv 1) Zae))))))))))
   (Zad (Zas (Zew (Zaa (pv 1) (Zaa (Zew (Zaa Zeb (Zaa (pv 4) Zae))) Zae))))))))))),?_⟩
 walk_at "rd0";refine Zjz (by simp) fun dl H1 s1 n1 e1=>?_;walk_at "";refine⟨c,_,_,_,_,rfl,s1 _ _ ch0,T.Zbx,T.Zbl,ZhI _ _ _ _,?_⟩;walk_at "";refine⟨c,_,_,_,_,rfl,s1 _ _ ch0,T.Zbx,T.ZbR,Zlp _ _ _ _,?_⟩;walk_at "";rw[Za1]
 (try dsimp only)
 by_cases hz:st &&& bd=0
 rotate_left
 ·have hlow:=(Zga (Nat.pos_of_ne_zero hz)).1
  rw[Nat.testBit_and,Bool.and_eq_true]at hlow;refine Zca (by rw[decide_eq_false (by omega)]; rfl) ?_;walk_at "";refine⟨_,rfl,Nat.pos_of_ne_zero hz,?_⟩;walk_at "";refine Zjz (by simp) fun a H2 s2 n2 e2=>?_;walk_at "";refine Zg7 (by simp) fun ep H3 s3 n3 e3=>?_;walk_at "";refine Zg7 (by simp) fun r H4 s4 n4 e4=>?_;exact q r dl ep a [] H4 ⟨s1.trans (s2.trans (s3.trans s4)),e4,⟨[],(s2.trans (s3.trans s4)) _ _ e1,.nil⟩,n1,s1.free n2,Zai e1 n2,Nat.zero_le _,.inl ⟨_,hlow.1,hlow.2,Zhr G.st hlow.1,rfl,s4 _ _ e3,(s3.trans s4) _ _ e2⟩⟩
 refine ZaF (by rw[decide_eq_true (by omega)]; rfl) ?_;walk_at "";refine ZqB (hC.mono (Ext.of s1)) G.m6 fun p dx d0 l o0 H2 s2 np nl nd0 npl F2=>?_;have ndl:dl≠l:=Zai e1 nl
 have S0:SI m st bd af [] [st,2 ^ 2 ^ m - 1]:=⟨ZoA G.st G.af,fun k hk=>by
  have:k=0:=by simp at hk; omega
  subst this
  exact hz,(fun q hq=>by cases hq),by show 2≤2 ^ m+3; have:=Nat.two_pow_pos m; omega⟩
 have h2:HS false t H2 c p dx d0 l o0 dl m st bd af [] [st,2 ^ 2 ^ m - 1] []:=⟨F2,⟨[],s2 _ _ e1,.nil⟩,ndl,.nil,S0,by
  have a1:=ZlC st (2 ^ m);have a2:=ZlC (2 ^ 2 ^ m - 1) (2 ^ m);show 0+(0+pc st (2 ^ m)+pc (2 ^ 2 ^ m - 1) (2 ^ m))≤20000 * 2
  omega⟩
 have s12:=s1.trans s2;have np':=s1.free np;have nl':=s1.free nl;have nd':=s1.free nd0;have olds:∀{d:Addr} {H':Hp},MV p l dl d0 d H2 H'→Same H H':=fun {d H'} v b u e=>v.kp b u (Zai e np') (Zai e nl') (Zai e n1) (Zai e nd') (s12 _ _ e)
 have fre:∀{a:Addr},(H2 a=none∨a=d0)→H a=none:=fun {a} z=>z.elim (fun z=>s12.free z) fun z=>by rw[z]; exact nd'
 have clr:∀{d o L cr es} {H':Hp} {Q':VK} {E':XK},MV p l dl d0 d H2 H'→HS false t H' c p dx d l o dl m st bd af L cr es→(∀d' o' L' cr' es' H'' v,MV p l dl d0 d' H2 H''→HS false t H'' c p dx d' l o' dl m st bd af L' cr' es'→cr'.length=cr.length→WvI m st bd af H H'' dl cr' v→Q' v H'')→ZpH t [.ref c,.ref p,.ref dl] H' Q' E':=fun {d o L cr es H' Q' E'} v h k=>
  ⟨c,p,dx,d,l,o,dl,m,st,bd,af,L,cr,es,rfl,h,G,hm,fun d' o' L' cr' es' H'' v' h' hl hb=>k d' o' L' cr' es' H'' .non (v.trans v' h.ne.1 h.ne.2.1 h.ne.2.2) h' hl (.inl ⟨rfl,hb⟩),
   fun a ws d' o' L' cr' es' H'' v' h' hl ha nal nad ea W wb=>k d' o' L' cr' es' H'' (.ref a) (v.trans v' h.ne.1 h.ne.2.1 h.ne.2.2) h' hl (.inr ⟨a,ws,rfl,fre (v.fresh ha h.ne.1 nal nad (ZaK ea h'.fr.ob (by intro z; cases z))),nad,ea,by rw[hl]; exact W,wb⟩)⟩
 walk_at "rs";refine ZiU (fun σ H'=>∃d o L cr es v4 v5,MV p l dl d0 d H2 H'∧HS false t H' c p dx d l o dl m st bd af L cr es∧cr.length≤2 ^ m+2∧WvI m st bd af H H' dl cr v4∧σ=[some (.ref c),some (.ref dl),some (.int ((st &&& bd:Nat):Int)),some (.ref p),some v4,v5]) ?_ ?_
 rotate_left
 ·intro Kn hK
  walk_at "";refine clr (MV.of (Same.refl _)) h2 fun d' o' L' cr' es' H3 v v3 h3 hl W=>?_;walk_at "";exact hK _ _ ⟨d',o',L',cr',es',v,_,v3,h3,by rw[hl]; exact Nat.le_add_left 2 _,W,rfl⟩
 rintro σ H3 ⟨d,o,L,cr,es,v4,v5,v3,h3,hcl,W3,rfl⟩;walk_at "";refine⟨fun mm σ H'=>∃d o L cr es v4 v5,MV p l dl d0 d H2 H'∧HS false t H' c p dx d l o dl m st bd af L cr es∧cr.length≤2 ^ m+2∧WvI m st bd af H H' dl cr v4∧mm=2 ^ m+3 - cr.length∧σ=[some (.ref c),some (.ref dl),some (.int ((st &&& bd:Nat):Int)),some (.ref p),some v4,v5],⟨_,d,o,L,cr,es,v4,v5,v3,h3,hcl,W3,rfl,rfl⟩,?_⟩;clear h3 v3 W3 hcl;rintro mm σ H3 ⟨d,o,L,cr,es,v4,v5,v3,h3,hcl,W3,rfl,rfl⟩;walk_at "";refine⟨rfl,?_⟩;walk_at ""
 rcases W3 with⟨rfl,hb⟩ | ⟨a,ws,rfl,na,nad,ea,W,wb⟩
 ·refine Zca (by simp) ⟨fun σ' H'=>∃mm',mm' < 2 ^ m+3 - cr.length∧∃d o L cr es v4 v5,MV p l dl d0 d H2 H'∧HS false t H' c p dx d l o dl m st bd af L cr es∧cr.length≤2 ^ m+2∧WvI m st bd af H H' dl cr v4∧mm'=2 ^ m+3 - cr.length∧σ'=[some (.ref c),some (.ref dl),some (.int ((st &&& bd:Nat):Int)),some (.ref p),some v4,v5],fun _ _ z=>z,?_⟩
  walk_at "";refine⟨c,p,dx,d,l,o,dl,m,st,bd,af,L,cr,es,rfl,h3,G,hm,hcl,hb,fun L' cr' es' H4 v4 h4 hl4=>?_⟩;have vv:=v3.trans v4 h3.ne.1 h3.ne.2.1 h3.ne.2.2;have F4:=h4.fr;have l24:=h4.si.fi.len2;have ln4:=h4.si.ln;walk_at "";refine⟨p,_,_,_,rfl,F4.ob,rfl,ZaB _ _ _ _ (by decide) (by decide) (by decide),?_⟩;walk_at "";refine⟨F4.ob,p,dx,c,d,l,o,m,st,bd,af,L',cr',rfl,F4,l24,by omega,?_⟩;walk_at ""
  cases hst:Zic cr' with
  | some k=>
   obtain⟨k1,k2,k3,_⟩:=Zef (show Zbv cr' (cr'.length - 2) 1=some k from hst);refine⟨rfl,?_⟩;walk_at "";refine Zca (by simp[optV]) ?_;walk_at "";refine⟨p,_,_,_,rfl,F4.ob,rfl,ZaB _ _ _ _ (by decide) (by decide) (by decide),?_⟩;walk_at "";refine⟨F4.ob,p,dx,c,d,l,o,m,st,bd,af,L',cr',k,rfl,F4,k1,by omega,by have:=h4.si.few hm; omega,fun H5 a s5 n5 hbs=>?_⟩;walk_at "";refine Zg7 (by simp) fun ep H6 s6 n6 e6=>?_;walk_at "";refine Zg7 (by simp) fun r H7 s7 n7 e7=>?_;have h7:=h4.same (s5.trans (s6.trans s7));obtain⟨qs,ed,pp⟩:=h7.dy;have tr:=h4.tr;rw[hst]at tr
   have ha:H a=none:=by
    cases e:H a with
    | none=>rfl
    | some u=>
     have:=olds vv _ _ e;rw[n5]at this; cases this
   obtain⟨ps,bs',b1,b2,b3,b4⟩:=hbs;have sm67:=s6.trans s7
   have nda:dl≠a:=fun z=>by
    obtain⟨qs4,ed4,_⟩:=h4.dy;rw[←z,ed4]at n5; cases n5
   exact q r dl ep a _ H7 ⟨fun b u e=>(s5.trans sm67) _ _ (olds vv _ _ e),e7,⟨qs,ed,pp⟩,n1,ha,nda,by have y1:=h4.en; have y2:=h4.si.ln; omega,.inr ⟨hz,L',cr',_,tr,h4.si,.inr ⟨k,hst,rfl,s7 _ _ e6,ps,bs',sm67 _ _ b1,Zax (fun _ _ z=>sm67 _ _ z) b2,b3,b4⟩⟩⟩
  | none=>
   refine⟨rfl,?_⟩;walk_at "";refine ZaF (by simp[optV]) ?_;have hle:=Zoh G h4.si.fi fun k k1 k2=>Zjb (show Zbv cr' (cr'.length - 2) 1=none from hst) k k1 (by omega)
   have h4':HS false t H4 c p dx d l o dl m st bd af L' cr' es':=by
    have:=h4;rw[hst]at this;exact this
   walk_at "";refine clr vv h4' fun d5 o5 L5 cr5 es5 H5 v v5' h5 hl5 W5=>?_;walk_at "";exact⟨_,by omega,d5,o5,L5,cr5,es5,v,_,v5',h5,by omega,W5,rfl,rfl⟩
 ·refine ZaF (by simp) ?_
  walk_at "";refine Zg7 (by simp) fun ep H4 s4 n4 e4=>?_;walk_at "";refine Zg7 (by simp) fun r H5 s5 n5 e5=>?_;have h5:=h3.same (s4.trans s5);obtain⟨qs,ed,pp⟩:=h5.dy;exact q r dl ep a _ H5 ⟨fun b u e=>(s4.trans s5) _ _ (olds v3 _ _ e),e5,⟨qs,ed,pp⟩,n1,na,nad.symm,by have y1:=h3.en; have y2:=h3.si.ln; omega,.inr ⟨hz,L,cr,_,h3.tr,h3.si,.inl ⟨ws,rfl,s5 _ _ e4,(s4.trans s5) _ _ ea,W,wb⟩⟩⟩
end
end LW
open PySem L2
namespace LW
open PySem L2 EM
open List (all_eq_true any_eq_true any_map append_assoc append_nil filter_append filter_cons filter_nil filter_sublist getD_eq_getElem?_getD getElem?_append_left getElem?_append_right getElem?_inj getElem?_map length_append length_cons length_filter_le length_map length_nil length_range length_set length_singleton length_take map_append map_cons map_map map_nil map_set mem_append mem_cons mem_cons_self mem_filter mem_map mem_of_getElem? mem_range mem_singleton nodup_cons range_succ take_length)
abbrev FS:=List (Bar×Nat)×List Nat
def rpS (m:Nat) (S:FS):Ev→FS
 | .shut k b=>(Zex S.1 k b,cutC S.2 (Zaq (2 ^ m) b) k)
 | .push k b=>(setL S.1 b (k+1),Zd5 S.2 (Zaq (2 ^ m) b) (k+1))
 | .add _=>(S.1,S.2++[2 ^ 2 ^ m - 1])
def okS (m st bd:Nat) (af:List Nat) (S:FS):Ev→Prop
 | .shut k b=>ShOk m st bd af S.2 k b
 | .push k b=>(b,k)∈S.1∧k+1 < S.2.length∧behN af (Zaq (2 ^ m) b) &&& S.2.getD k 0=0
 | .add n=>n=S.2.length∧S.2.getD (S.2.length - 1) 0 &&& bd=0
def PlS (m st bd:Nat) (af:List Nat):FS→List Ev→FS→Prop
 | S,[],S'=>S=S'
 | S,e::es,S'=>okS m st bd af S e∧PlS m st bd af (rpS m S e) es S'
theorem PlS.app {m st bd:Nat} {af:List Nat}:∀{es es':List Ev} {a b c:FS},PlS m st bd af a es b→PlS m st bd af b es' c→PlS m st bd af a (es++es') c
 | [],_,_,_,_,h,h'=>by
  have h:_=_:=h;subst h;exact h'
 | e::es,_,_,_,_,h,h'=>⟨h.1,PlS.app (es:=es) h.2 h'⟩
theorem Zpt (m:Nat) (S:FS):∀e:Ev,S.2.length≤(rpS m S e).2.length
 | .shut k b=>by show _≤(cutC _ _ _).length; rw[ZbX]; exact Nat.le_refl _
 | .push k b=>by show _≤(Zd5 _ _ _).length; rw[ZcR]; exact Nat.le_refl _
 | .add n=>by show _≤(S.2++[_]).length; rw[length_append]; exact Nat.le_add_right _ _
theorem PlS.len {m st bd:Nat} {af:List Nat}:∀{es:List Ev} {a b:FS},PlS m st bd af a es b→a.2.length≤b.2.length
 | [],_,_,h=>by
  have h:_=_:=h;rw[h];exact Nat.le_refl _
 | e::es,a,_,h=>Nat.le_trans (Zpt m a e) (PlS.len (es:=es) h.2)
structure Snd (m st bd:Nat) (af:List Nat) (S:FS):Prop where
 fi:FI m st af S.1 S.2
 nb:∀k,k+1 < S.2.length→S.2.getD k 0 &&& bd=0
 ml:∀q∈S.1,q.1.1 < 2 ^ m
theorem Snd.step {m st bd:Nat} {af:List Nat} {S:FS} (G:GoodC m st bd af) (h:Snd m st bd af S):∀{e:Ev},okS m st bd af S e→Snd m st bd af (rpS m S e)
 | .shut k b,ok=>by
  have ok:ShOk m st bd af S.2 k b:=ok;obtain⟨s,hs,hsk,hsl,_⟩:=ok.wt;have cv:=Zjj h.fi ok.k1 ok.kl hsk hsl;refine⟨ZpB h.fi G.st G.ln ok.k1 ok.kl ok.gd ok.my cv,fun j hj=>?_,fun q hq=>?_⟩
  ·have hj:j+1 < (cutC S.2 (Zaq (2 ^ m) b) k).length:=hj
   rw[ZbX]at hj;show(cutC S.2 (Zaq (2 ^ m) b) k).getD j 0 &&& bd=0;rw[Zaj];intro x hx;exact Zaj.mp (h.nb j hj) x (Zhb (by omega) hx)
  ·have hq:q∈Zex S.1 k b:=hq
   unfold Zex Zdv at hq
   rcases mem_append.mp hq with hq | hq
   ·exact h.ml q (mem_filter.mp hq).1
   ·rw[mem_singleton.mp hq]; exact ok.ml
 | .push k b,ok=>by
  obtain⟨o1,o2,o3⟩ : (b,k)∈S.1∧k+1 < S.2.length∧behN af (Zaq (2 ^ m) b) &&& S.2.getD k 0=0:=ok;refine⟨Zpi h.fi G.ln o1 o2 o3,fun j hj=>?_,fun q hq=>?_⟩
  ·have hj:j+1 < (Zd5 S.2 (Zaq (2 ^ m) b) (k+1)).length:=hj
   rw[ZcR]at hj;show(Zd5 S.2 (Zaq (2 ^ m) b) (k+1)).getD j 0 &&& bd=0;rw[Zaj];intro x hx;rw[Zds _ _ _ _ (by omega)]at hx;refine Zaj.mp (h.nb j hj) x ?_
   split at hx
   ·exact(Zdt.mp hx).1
   ·exact hx
  ·rcases Zel (show q∈setL S.1 b (k+1) from hq) with⟨e,_⟩ | ⟨_,hq⟩
   ·rw[e]; exact h.ml _ o1
   ·exact h.ml q hq
 | .add n,ok=>by
  obtain⟨o1,o2⟩ : n=S.2.length∧S.2.getD (S.2.length - 1) 0 &&& bd=0:=ok;refine⟨Zrs h.fi G.af,fun j hj=>?_,h.ml⟩;have hj:j+1 < (S.2++[2 ^ 2 ^ m - 1]).length:=hj;rw[length_append,length_singleton]at hj;show(S.2++[2 ^ 2 ^ m - 1]).getD j 0 &&& bd=0;rw[getD_eq_getElem?_getD,getElem?_append_left (by omega),←getD_eq_getElem?_getD]
  by_cases e:j+1 < S.2.length
  ·exact h.nb j e
  ·rw[show j=S.2.length - 1 by omega]; exact o2
theorem Snd.init {m st bd:Nat} {af:List Nat} (G:GoodC m st bd af) (hz:st &&& bd=0):Snd m st bd af ([],[st,2 ^ 2 ^ m - 1]):=
 ⟨ZoA G.st G.af,fun k hk=>by
  have:k=0:=by simp at hk; omega
  subst this
  exact hz,fun q hq=>by cases hq⟩
theorem ZmC (bs:List Bar):(srtB bs).Perm bs:=by
 classical
 have tr:∀a b c:Bar,decide (ple (ib a) (ib b))=true→decide (ple (ib b) (ib c))=true→decide (ple (ib a) (ib c))=true:=fun a b c h1 h2=>decide_eq_true (Zsc (of_decide_eq_true h1) (of_decide_eq_true h2))
 have to:∀a b:Bar,(decide (ple (ib a) (ib b)) || decide (ple (ib b) (ib a)))=true:=fun a b=>by
  rw[Bool.or_eq_true,decide_eq_true_iff,decide_eq_true_iff];unfold ple;omega
 have pw:=List.pairwise_mergeSort tr to bs;have pm:=List.mergeSort_perm bs fun a b=>decide (ple (ib a) (ib b));rw[←Zja pm (List.pairwise_map.mpr (pw.imp fun h=>of_decide_eq_true h))];exact pm
structure PQ (m st bd:Nat) (af:List Nat) (S0 S:PSt):Prop where
 ex:∃d2,S.2.2=S0.2.2++d2∧PlS m st bd af (S0.1,S0.2.1) (d2.map fun x=>.push x.1 x.2) (S.1,S.2.1)
 ln:S.2.1.length=S0.2.1.length
 bs:S.1.map (·.1)=S0.1.map (·.1)
theorem PQ.step {m st bd:Nat} {af:List Nat} {S0 S:PSt} {k:Nat} {b:Bar} (h:PQ m st bd af S0 S) (hl:k+1 < S0.2.1.length) (hb:(b,k)∈S.1):PQ m st bd af S0 (Zee m af k S b):=by
 unfold Zee
 split
 ·rename_i e
  obtain⟨d2,h1,h2⟩:=h.ex;refine⟨⟨d2++[(k,b)],by show S.2.2++[(k,b)]=_; rw[h1,append_assoc],?_⟩,by show(Zd5 _ _ _).length=_; rw[ZcR]; exact h.ln,by show(setL _ _ _).map (·.1)=_; rw[Zia]; exact h.bs⟩;rw[map_append];exact h2.app ⟨⟨hb,by rw[h.ln]; exact hl,e⟩,rfl⟩
 ·exact h
theorem ZpR {m:Nat} {af:List Nat} {S:PSt} {k:Nat} {b c:Bar} (hb:(c,k)∈S.1) (n:c≠b):(c,k)∈(Zee m af k S b).1:=by
 unfold Zee
 split
 ·exact Zgi hb n
 ·exact hb
theorem PQ.fold {m st bd:Nat} {af:List Nat} {S0:PSt} {k:Nat} (hl:k+1 < S0.2.1.length):∀(bs:List Bar) {S:PSt},bs.Nodup→(∀b∈bs,(b,k)∈S.1)→PQ m st bd af S0 S→PQ m st bd af S0 (bs.foldl (Zee m af k) S)
 | [],_,_,_,h=>h
 | b::bs,_,nd,hg,h=>PQ.fold hl bs (nodup_cons.mp nd).2 (fun x hx=>ZpR (hg x (List.mem_cons_of_mem _ hx)) fun z=>(nodup_cons.mp nd).1 (z ▸ hx)) (h.step hl (hg b mem_cons_self))
theorem Zo8 {L:List (Bar×Nat)} {k:Nat} {b:Bar}:b∈srtB (ownB L k) ↔ (b,k)∈L:=by
 rw[(ZmC _).mem_iff];unfold ownB;rw[mem_map]
 constructor
 ·rintro⟨q,hq,rfl⟩
  have:=mem_filter.mp hq;have e:q.2=k:=of_decide_eq_true this.2;rw[←e];exact this.1
 ·intro h
  exact⟨(b,k),mem_filter.mpr ⟨h,decide_eq_true rfl⟩,rfl⟩
theorem Zo9 {L:List (Bar×Nat)} {k:Nat} (nd:(L.map (·.1)).Nodup):(srtB (ownB L k)).Nodup:=by
 rw[(ZmC _).nodup_iff];exact List.Nodup.sublist (List.Sublist.map _ filter_sublist) nd
theorem PQ.push {m st bd:Nat} {af:List Nat} {S:PSt} (nd:(S.1.map (·.1)).Nodup):∀n,n+1 < S.2.1.length→PQ m st bd af S (ZgE m af n S)
 | 0,_=>⟨⟨[],by rw[append_nil]; rfl,rfl⟩,rfl,rfl⟩
 | n+1,hn=>by
  have ih:=PQ.push (m:=m) (st:=st) (bd:=bd) (af:=af) nd n (by omega);exact PQ.fold hn _ (Zo9 (by rw[ih.bs]; exact nd)) (fun b hb=>Zo8.mp hb) ih
theorem Trc.plS {m st bd:Nat} {af:List Nat} {L:List (Bar×Nat)} {cr:List Nat} {es:List Ev} {sb:Bool} (h:Trc m st bd af L cr es sb):PlS m st bd af ([],[st,2 ^ 2 ^ m - 1]) es (L,cr):=by
 induction h with
 | nil=>rfl
 | shut h si S ih=>exact ih.app ⟨S,rfl⟩
 | grow h si hb hP ih=>
  rename_i L L' cr cr' es due
  refine ih.app ⟨⟨rfl,hb⟩,?_⟩;have l2:=si.fi.len2;obtain⟨⟨d2,e1,e2⟩,_,_⟩:=PQ.push (m:=m) (st:=st) (bd:=bd) (af:=af) (S:=(L,cr++[2 ^ 2 ^ m - 1],[])) si.fi.nd (cr.length - 1) (by show cr.length - 1+1 < (cr++[_]).length; rw[length_append,length_singleton]; omega);rw[hP]at e1 e2;have e1:due=[]++d2:=e1;rw[List.nil_append]at e1;rw[e1];exact e2
section
variable {P:Program} {w:World} {K:W.Frag} {mg:Str→Option Value} {base:Heap} {t:Ad}
theorem Zsu {L:List (Bar×Nat)} (nd:(L.map (·.1)).Nodup) {b:Bar} {n:Nat} (h:(b,n)∈L):valV (lvK L) (kB b)=some (.int (n:Int)):=by
 induction L with
 | nil=>cases h
 | cons q r ih=>
  have nd':=nodup_cons.mp (show(q.1::r.map (·.1)).Nodup from nd);rw[show lvK (q::r)=(kB q.1,V.int (q.2:Int))::lvK r from rfl]
  rcases mem_cons.mp h with e | h
  ·rw[Zhh (show(kB q.1,V.int (q.2:Int)).1=kB b by rw[←e]),←e]
  ·have ne:q.1≠b:=fun e=>nd'.1 (mem_map.mpr ⟨(b,n),h,e.symm⟩)
   rw[Zhg (show ¬(kB q.1,V.int (q.2:Int)).1=kB b from fun e=>ne (Zl8 e))];exact ih nd'.2 h
theorem Zod {H:Hp} {e p:Addr} {L:List (Bar×Nat)} {b:Bar} {n:Nat} (h:Rd H e (.dT (lvK L))) (nd:(L.map (·.1)).Nodup) (m:(b,n)∈L) (hb:ZaO H p b):DGet H e (.ref p) (some (.int (n:Int))):=
 .inr ⟨lvK L,kB b,p,h,rfl,hb,(Zsu nd m).symm⟩
theorem Zs7 {H:Hp} {o:Obj} {L:List (Bar×Nat)} (h:Zqb H o (lvK L)) {i:Nat} {b:Bar} {n:Nat} (e:L[i]?=some (b,n)):ZaO H (Zkx o i) b:=by
 refine h i (kB b) (.int (n:Int)) ?_;unfold lvK;rw[getElem?_map,e];rfl
theorem ZpY (f:Nat→Bool) {H0 H:Hp} {σ:St} {e:Addr} {L:List (Bar×Nat)} {j:Nat} {ix:List Nat} {tc:TT} {Q:VK} (hσ:σ[j]?=some (some (.ref e))) (he:H e=some (.dT (lvK L))) (n0:∀o u,H0 e≠some (.frz o u)) (hz:L.length < 1000)
  (ht:∀(p:Addr) (b:Bar) (n:Nat) (H':Hp) (R:Bool→Hp→Prop),(b,n)∈L→Rd H' e (.dT (lvK L))→ZaO H' p b→R (f n) H'→tc (some (.ref p)::subS σ ix) H' R)
  (k:∀acc ps H',Same H H'→H acc=none→H' acc=some (.lst (ps.map V.ref))→Paired (ZaO H') ps ((L.filter fun q=>f q.2).map (·.1))→Q (.ref acc) H'):ZpW H0 (ZnB (ZsS (ZtK (tVar j))) ix tc (tVar 0)) σ H Q:=by
 refine Zs3 (Zop (Zot (ZqC hσ ⟨e,lvK L,rfl,he,fun o=>?_⟩)));have hf:(upd H e (.frz o (.dT (lvK L)))) e=some (.frz o (.dT (lvK L))):=Zak;have b0:But e H (upd H e (.frz o (.dT (lvK L)))):=Zeh
 have bk:∀x,upd H e (.frz o (.dT (lvK L))) x=none→H x=none:=fun x hx=>by
  cases z:H x with
  | none=>rfl
  | some u=>
   by_cases hxe:x=e
   ·subst hxe; rw[hf]at hx; cases hx
   ·rw[b0 _ _ hxe z]at hx; cases hx
 generalize upd H e (.frz o (.dT (lvK L)))=H1 at hf b0 bk ⊢;refine⟨e,o,lvK L,rfl,hf,fun hK=>?_⟩
 have hlv:(lvK L).length=L.length:=by unfold lvK; rw[length_map]
 refine ZfB (fun i ys=>∃ps:List Addr,ys=ps.map V.ref∧Paired (ZaO H1) ps (((L.take i).filter fun q=>f q.2).map (·.1))) (ZtQ hf) (by rw[length_map]; unfold Zf6; rw[length_map,length_range,hlv]; omega) ⟨[],rfl,.nil⟩ ?_ ?_
 ·rintro i x ys acc H' hx s1 hacc ea ⟨ps,rfl,hp⟩ hyl R kk
  obtain⟨rfl,hi⟩:=Zna hx;rw[hlv]at hi;obtain⟨⟨b,n⟩,hL⟩ : ∃q,L[i]?=some q:=⟨L[i]'hi,List.getElem?_eq_getElem hi⟩;have hb:=Zs7 hK hL;refine ht _ b n H' _ (mem_of_getElem? hL) (.inr ⟨o,s1 _ _ hf⟩) (s1 _ _ hb) (kk _ H' (Same.refl _) (fun h=>⟨ps,rfl,?_⟩) fun h R2 k2=>?_)
  ·rw[Zbe hL,filter_append,filter_cons,h]
   simpa using hp
  ·refine ZqC rfl (k2 _ H' (Same.refl _) ⟨ps++[Zkx o i],by rw[map_append]; rfl,?_⟩)
   rw[Zbe hL,filter_append,filter_cons,h,if_pos rfl,filter_nil,map_append];exact ZeL hp hb
 ·rintro acc ys H' n1 s1 e1 ⟨ps,rfl,hp⟩
  rw[length_map,show(Zf6 o (lvK L).length).length=L.length by unfold Zf6; rw[length_map,length_range,hlv],take_length]at hp;have ed:=s1 _ _ hf;have nae:acc≠e:=(Zai hf n1).symm;refine⟨e,o,lvK L,ed,n0,k acc ps _ (fun b u z=>?_) (bk _ n1) (by rw[Zal nae]; exact e1) ?_⟩
  ·by_cases hbe:b=e
   ·subst hbe
    rw[Zak,←he,z]
   ·rw[Zal hbe]
    exact s1 _ _ (b0 _ _ hbe z)
  ·exact Zax (fun p b z=>by
    have hpe:p≠e:=ZaK z hf (by intro y; cases y);show(upd H' e _) p=_;rw[Zal hpe]
    exact s1 _ _ z) hp
def geB (L:List (Bar×Nat)) (k:Nat):List Bar:=(L.filter fun q=>decide (k≤q.2)).map (·.1)
theorem ZsO {L:List (Bar×Nat)} {k:Nat} {b:Bar} (h:b∈geB L k):∃n,(b,n)∈L∧k≤n:=by
 obtain⟨q,hq,rfl⟩:=mem_map.mp h;obtain⟨h1,h2⟩:=mem_filter.mp hq;exact⟨q.2,h1,of_decide_eq_true h2⟩
theorem ZsN (L:List (Bar×Nat)) (k:Nat):(geB L k).length≤L.length:=by
 unfold geB;rw[length_map];exact length_filter_le _ _
def spIn:Sp:=fun vs H Q _=>∃(p q:Addr) (b c:Bar),vs=[.ref p,.ref q]∧ZaO H p b∧ZaO H q c∧b.good∧c.good∧Q (.bl (subB b c)) H
theorem ZmF {x y:Nat}:x - (x &&& y)=0 ↔ y &&& x=x:=by
 have:=Nat.and_le_left (n:=x) (m:=y);rw[Nat.and_comm y x];omega
theorem Zv1 (T:Txt K mg t):FnS P w K mg base 1 "_law_in" ["_law_one","_law_other"] (spIn):=by
 refine⟨_,_,T.ZdX.ok Znw (fun vs H Q E h=>?_) (fun _ _ _ _ H vs Q E hr h=>?_),T.Zkf,T.ZdX.kp,T.ZkH⟩
 ·obtain⟨p,p',b,c,rfl,hb,hc,g,g',q⟩:=h
  rfl
 obtain⟨p,p',b,c,rfl,hb,hc,g,g',q⟩:=h;refine⟨_,(Zad (Zas (Zg0 (ZcE (ZaN hr.units) (Zaf ZaL (ZaQ Zav (pv 1) Zac (fun _ _=>rfl)) (ZgD Zfy (ZaQ Zav (pv 0) Zac (fun _ _=>rfl)))) Zac (Zap _)) (ZhV (ZcE (ZaN hr.units) (Zaf ZaL (ZaQ Zav (pv 0) Zac (fun _ _=>rfl)) (ZaQ Zav (pv 1) Zac (fun _ _=>rfl))) (ZaQ Zav (pv 1) Zac (fun _ _=>rfl)) (Zap _)))))),?_⟩;walk_at "rd0";refine Zbk hc (v:=.int (c.1:Int)) rfl ?_;walk_at "";refine Zbk hb (v:=.int (b.1:Int)) rfl ?_;walk_at "";rw[Zba];refine ZdA (fun h1=>?_) (fun h1=>?_)
 ·walk_at ""
  refine Zbk hb (v:=.int (b.2:Int)) rfl ?_;walk_at "";refine Zbk hc (v:=.int (c.1:Int)) rfl ?_;walk_at "";refine Zbk hc (v:=.int (c.2:Int)) rfl ?_;walk_at "";rw[Za1]
  have e:decide (((b.2 &&& c.1:Nat):Int)=(c.2:Int))=subB b c:=by
   rw[Bool.eq_iff_iff,decide_eq_true_iff,←Zgk g g',←ZmF];exact⟨fun h=>⟨by omega,by omega⟩,fun h=>by omega⟩
  rw[e];exact q
 ·have e:subB b c=false:=by
   cases z:subB b c with
   | false=>rfl
   | true=>exact absurd (ZmF.mpr ((Zgk g g').mpr z).1) (by omega)
  rw[e]at q;exact q
def spAh:Sp:=fun vs H Q _=>∃(l:Addr) (af:List Nat) (s:Nat),vs=[.ref l,.int (s:Int)]∧H l=some (.lst ((nums af).map V.int))∧af.length≤64∧Q (.int ((ahN af s:Nat):Int)) H
theorem Zmk (T:Txt K mg t):FnS P w K mg base 1 "_law_ahead" ["_law_after","_law_crowd"] (spAh):=by
 refine⟨_,_,T.Zcg.ok Zdb (fun vs H Q E h=>?_) (fun _ _ _ _ H vs Q E hr h=>?_),T.ZgN,T.Zcg.kp,T.ZgV⟩
 ·obtain⟨l,af,n,rfl,hl,h64,q⟩:=h
  rfl
 obtain⟨l,af,n,rfl,hl,h64,q⟩:=h
 refine⟨_,(Zab (ss 2 Zdb.nd Zac)
   (Zab (Zco PassesOwn.never rfl (Zcv rfl T.B.range (Zaa (Zaw Zbq rfl T.B.len Zd4 (Zaa (pv 0) Zae)) Zae)) (sg 3 Zdb.nd)
   (Zad (Za0 (Zan (ZaN hr.units) (Zaf ZaL (Zaf ZeK (pv 1) (pv 3)) Zac) Zac (Zap _))
   (Zad (ss 2 Zdb.nd (Zaf Znr (pv 2) (ZaQ Zav (pv 0) (pv 3) (fun _ _=>rfl)))))
   Zar)))
   (Zad (Zas (pv 2))))),?_⟩
 walk_at "rd0";rw[ZaG];refine⟨_,rfl,by omega,by omega,?_⟩;rw[Int.toNat_natCast];refine ZhJ (fun i σ H'=>H'=H∧∃v,σ=[some (.ref l),some (.int (n:Int)),some (.int ((orUp (fun k=>if n.testBit k=true then af.getD k 0 else 0) i:Nat):Int)),v]) ⟨rfl,_,rfl⟩ ?_ ?_
 ·rintro i σ H' hi ⟨rfl,v,rfl⟩
  walk_at "";rw[ZoT];refine Zm7 (fun h1=>?_) (fun h1=>?_)
  ·walk_at ""
   refine Zfi hl (Za2 hi) ?_;walk_at "";rw[Zi5];refine⟨rfl,some (.int (i:Int)),?_⟩
   have e:orUp (fun k=>if n.testBit k=true then af.getD k 0 else 0) (i+1)=orUp (fun k=>if n.testBit k=true then af.getD k 0 else 0) i ||| af.getD i 0:=by
    show orUp _ i ||| (if n.testBit i=true then af.getD i 0 else 0)=_
    rw[if_pos h1]
   rw[e]
  ·walk_at ""
   refine⟨rfl,some (.int (i:Int)),?_⟩;rw[Zo7 (n:=i) (show(if n.testBit i=true then af.getD i 0 else 0)=0 by rw[h1,if_neg Bool.false_ne_true])]
 ·rintro σ H' ⟨rfl,v,rfl⟩
  walk_at "";exact q
theorem Zqi {y:Int} (h:0≤y) (m k:Nat):∃a:Nat,Builtin.bitAnd (y / 2 ^ ((k:Int)).toNat) (((2 ^ m:Nat):Int) - 1)=(a:Int)∧a < 2 ^ m:=by
 obtain⟨n,rfl⟩:=Int.eq_ofNat_of_zero_le h;have hp:0 < 2 ^ m:=Nat.two_pow_pos m;refine⟨n / 2 ^ k &&& (2 ^ m - 1),?_,Nat.lt_of_le_of_lt Nat.and_le_right (by omega)⟩;rw[show((n:Nat):Int) / 2 ^ ((k:Int)).toNat=((n / 2 ^ k:Nat):Int) by rw[Int.toNat_natCast,Int.natCast_ediv,Int.natCast_pow]; rfl,show((2 ^ m:Nat):Int) - 1=((2 ^ m - 1:Nat):Int) by omega,Za1]
def ZpI:Sp:=fun vs H Q _=>∃(c:Int) (m:Nat),vs=[.int c,.int ((2 ^ m:Nat):Int)]∧m≤6∧∀r:Nat,r < 2 ^ 2 ^ m→Q (.int (r:Int)) H
theorem Zly (T:Txt K mg t):FnS P w K mg base 1 "_law_crowd_by" ["_law_cell","_law_size"] (ZpI):=by
 refine⟨_,_,T.Zbp.ok Zb8 (fun vs H Q E h=>?_) (fun _ _ _ _ H vs Q E hr h=>?_),T.ZeB,T.Zbp.kp,T.ZeI⟩
 ·obtain⟨c,m,rfl,hm,q⟩:=h
  rfl
 obtain⟨c,m,rfl,hm,q⟩:=h;have hp:=Zbt hm;have hp0:0 < 2 ^ m:=Nat.two_pow_pos m;have h2p:0 < 2 ^ 2 ^ m:=Nat.two_pow_pos _;obtain⟨a,ha,la⟩:=Zdw (c / 4) m;obtain⟨b,hb,lb⟩:=Zdw (c / 4 / ((2 ^ m:Nat):Int)) m;obtain⟨d,hd,ld⟩:=Zdw (c / 4) (2 ^ m)
 refine⟨_,(Zab (ss 2 Zb8.nd (Zaf Zb0 (pv 0) Zac))
   (Zab (Za0 (Zan (ZaN hr.units) (Zaf Zbw (pv 0) Zac) Zac (Zap _))
   (Zad (Zas (Zaf Zbw (pv 2) (Zaf ZbF Zac (pv 1)))))
   Zar)
   (Zab (Za0 (Zan (ZaN hr.units) (Zaf Zbw (pv 0) Zac) Zac (Zap _))
   (Zad (Zas Zac))
   Zar)
   (Zab (ss 3 Zb8.nd (Zaf ZbF Zac (Zaf Zbw (pv 2) (pv 1))))
   (Zab (Za0 (Zan (ZaN hr.units) (Zaf Zbw (pv 0) Zac) Zac (Zap _))
   (Zad (ss 3 Zb8.nd (Zaf Znr (pv 3) (Zaf ZbF Zac (Zaf Zbw (Zaf Zb0 (pv 2) (pv 1)) (pv 1))))))
   Zar)
   (Zad (Zas (pv 3)))))))),?_⟩
 walk_at "rd0";refine ZdA (fun h1=>?_) (fun h1=>?_)
 ·walk_at ""
  rw[ZaZ];refine i_rI (by show(0:Int) < _; omega) ?_;rw[hd];exact q _ ld
 walk_at "";refine ZdA (fun h3=>?_) (fun h3=>?_)
 ·walk_at ""
  exact q 0 h2p
 walk_at "";rw[ha];walk_at "";rw[ZaZ];refine ZdA (fun h2=>?_) (fun h2=>?_)
 ·walk_at ""
  rw[hb];walk_at "";rw[ZaZ,Zi5];exact q _ (Nat.or_lt_two_pow (ZeN la) (ZeN lb))
 ·walk_at ""
  exact q _ (ZeN la)
def Zv7 (K:W.Frag):Sp:=fun vs H Q _=>∃(sc:Addr) (ns:List Int) (m:Nat),vs=[.ref sc,.int ((2 ^ m:Nat):Int)]∧SqL K H sc (ns.map V.int)∧m≤6∧∀l H' af,Same H H'→H l=none→AF l af m H'→Q (.ref l) H'
theorem ZkL (T:Txt K mg t):FnS P w K mg base 2 "_law_own_steps" ["_law_script","_law_size"] ((Zv7 K)):=by
 refine⟨_,_,T.Za9.ok Za7 (fun vs H Q E h=>?_) (fun _ _ _ _ H vs Q E hr h=>?_),T.Zet,T.Za9.kp,T.Zev⟩
 ·obtain⟨sc,ns,m,rfl,hS,hm,q⟩:=h
  rfl
 obtain⟨sc,ns,m,rfl,hS,hm,q⟩:=h;have ZaR:=ZgC (P:=P) (w:=w) (base:=base) T;have hp:=Zbt hm;have hp0:0 < 2 ^ m:=Nat.two_pow_pos m;have h2p:0 < 2 ^ 2 ^ m:=Nat.two_pow_pos _
 refine⟨_,(Zab (ss 2 Za7.nd (Zgd Zae))
   (Zab (Zco PassesOwn.never rfl (Zcv rfl T.B.range (Zaa (pv 1) Zae)) (sg 3 Za7.nd)
   (Zab (ss 4 Za7.nd (ZaY ZaR hr (Zaa (pv 0) (Zaa (Zaf ZaM Zac (pv 3)) Zae))))
   (Zab (ss 5 Za7.nd (Zaf Zbw (Zaf Zb0 (pv 4) Zac) (Zaf ZbF Zac (pv 1))))
   (Zab (Za0 (Zan (ZaN hr.units) (Zaf Zbw (pv 4) Zac) Zac (Zap _))
   (Zad (ss 5 Za7.nd (Zaf ZeK (Zaf ZbF Zac (Zaf Zbw (Zaf Zb0 (pv 4) Zac) (Zaf ZaM (pv 1) Zac))) Zac)))
   Zar)
   (Zad (Zbu (ZkO PySem.F.plainAttrs_list PySem.F.slot_list_append PySem.F.type_list_append Zb4 (pv 2) (Zaa (pv 5) Zae))))))))
   (Zad (Zas (pv 2))))),?_⟩
 walk_at "rd0";refine Zjz (by simp) fun l H1 s1 n1 e1=>?_;walk_at "";refine⟨_,rfl,by omega,by omega,?_⟩;rw[Int.toNat_natCast];refine ZhJ (n:=2 ^ m) (fun i σ H'=>∃(af:List Nat) (v3 v4 v5:Option V),Same H H'∧H' l=some (.lst ((nums af).map V.int))∧af.length=i∧(∀x∈af,x < 2 ^ 2 ^ m)∧σ=[some (.ref sc),some (.int ((2 ^ m:Nat):Int)),some (.ref l),v3,v4,v5]) ⟨[],_,_,_,s1,e1,rfl,(fun x hx=>by cases hx),rfl⟩ ?_ ?_
 ·rintro i σ H2 hi ⟨af,v3,v4,v5,s2,e2,hl,hb,rfl⟩
  walk_at "";refine⟨sc,ns,5+i,by rw[show(5:Int)+(i:Int)=((5+i:Nat):Int) by omega],s2.seq hS,?_⟩;generalize cell ns (5+i) % 10 ^ 60=c;obtain⟨a,ha,la⟩:=Zdw (c / 2) (2 ^ m)
  obtain⟨b,hb',lb⟩ : ∃b:Nat,c / 2 % (((2 ^ m:Nat):Int)+1)=(b:Int)∧b≤2 ^ m:=by
   have v1:=Int.emod_nonneg (c / 2) (show(((2 ^ m:Nat):Int)+1)≠0 by omega);have v2:=Int.emod_lt_of_pos (c / 2) (show(0:Int) < ((2 ^ m:Nat):Int)+1 by omega);exact⟨(c / 2 % (((2 ^ m:Nat):Int)+1)).toNat,by omega,by omega⟩
  have lb2:2 ^ b / 2 < 2 ^ 2 ^ m:=by
   have:2 ^ b≤2 ^ 2 ^ m:=Nat.pow_le_pow_right (by decide) lb;omega
  walk_at "";rw[ZaZ];refine i_rI (by show(0:Int) < _; omega) ?_;rw[ha]
  have al:((nums af).map V.int).length < 1000000:=by rw[ZaG]; omega
  have app:∀(v:Nat),v < 2 ^ 2 ^ m→∀H'',But l H2 H''→H'' l=some (.lst ((nums af).map V.int++[.int (v:Int)]))→Same H H''∧H'' l=some (.lst ((nums (af++[v])).map V.int))∧(af++[v]).length=i+1∧(∀x∈af++[v],x < 2 ^ 2 ^ m):=fun v hv H'' b e=>by
   refine⟨b.same n1 s2,by rw[ZcS]; exact e,by rw[length_append,hl]; rfl,fun x hx=>?_⟩
   rcases mem_append.mp hx with h | h
   ·exact hb x h
   ·rw[mem_singleton.mp h]; exact hv
  walk_at "";refine ZdA (fun h1=>?_) (fun h1=>?_)
  ·walk_at ""
   rw[hb'];walk_at "";rw[ZaZ,show(1:Int)=((1:Nat):Int) from rfl,ZpA,Nat.pow_one];refine⟨tyL e2,?_⟩;walk_at "";refine Zb7 e2 al fun H4 b4 e4=>?_;obtain⟨x1,x2,x3,x4⟩:=app _ lb2 _ b4 e4;walk_at "";exact⟨_,_,_,_,x1,x2,x3,x4,rfl⟩
  ·walk_at ""
   refine⟨tyL e2,?_⟩;walk_at "";refine Zb7 e2 al fun H4 b4 e4=>?_;obtain⟨x1,x2,x3,x4⟩:=app _ la _ b4 e4;walk_at "";exact⟨_,_,_,_,x1,x2,x3,x4,rfl⟩
 ·rintro σ H2 ⟨af,v3,v4,v5,s2,e2,hl,hb,rfl⟩
  walk_at "";exact q l H2 af s2 n1 ⟨e2,hl,hb⟩
def ZpE (K:W.Frag):Sp:=fun vs H Q _=>∃(sc:Addr) (ns:List Int) (m:Nat),vs=[.ref sc,.int (m:Int)]∧SqL K H sc (ns.map V.int)∧ns.length≤1000∧m≤5∧∀l H' af,Same H H'→H l=none→AF l af m H'→Q (.ref l) H'
theorem Zlw (T:Txt K mg t):FnS P w K mg base 2 "_law_after_by" ["_law_script","_law_many"] ((ZpE K)):=by
 refine⟨_,_,T.Zbo.ok Zao (fun vs H Q E h=>?_) (fun _ _ _ _ H vs Q E hr h=>?_),T.ZeA,T.Zbo.kp,T.ZeH⟩
 ·obtain⟨sc,ns,m,rfl,hS,hns,hm5,q⟩:=h
  rfl
 obtain⟨sc,ns,m,rfl,hS,hns,hm5,q⟩:=h;have ZaR:=ZgC (P:=P) (w:=w) (base:=base) T
 have hm:m≤6:=by omega
 have hp:=Zbt hm;have h32:2 ^ m≤32:=Nat.pow_le_pow_right (n:=2) (by decide) hm5;have hp0:0 < 2 ^ m:=Nat.two_pow_pos m;have h2p:0 < 2 ^ 2 ^ m:=Nat.two_pow_pos _;have c0:0≤cell ns 3 % 10 ^ 60:=Int.emod_nonneg _ (by decide);have c1:cell ns 3 % 10 ^ 60 < 10 ^ 60:=Int.emod_lt_of_pos _ (by decide)
 refine⟨_,(Zab (ss 2 Zao.nd (Zaf ZbF Zac (pv 1)))
   (Zab (ss 3 Zao.nd (ZaY ZaR hr (Zaa (pv 0) (Zaa Zac Zae))))
   (Zab (ss 4 Zao.nd (Zgd Zae))
   (Zab (Zco PassesOwn.never rfl (Zcv rfl T.B.range (Zaa (pv 2) Zae)) (sg 5 Zao.nd)
   (Zab (ss 6 Zao.nd (Zaf ZaL (Zaf ZeK (Zaf Zb0 (pv 3) Zac) (Zaf ZjN (pv 1) (pv 5))) (Zaf Zea (pv 2) Zac)))
   (Zab (ss 7 Zao.nd Zac)
   (Zab (Za0 (Zan (ZgZ hr.units) (pv 6) (Zaf Zea (pv 2) Zac) (Zap _))
   (Zad (ss 7 Zao.nd (Zaf ZbF Zac (Zaf Zbw (Zaf ZaM (Zaf ZaM (pv 6) (pv 5)) Zac) (pv 2)))))
   Zar)
   (Zab (Za0 (PW.pt (Zms (Zan (ZaN hr.units) (Zaf Zbw (pv 3) Zac) Zac (Zap _)) (ZjU (Zan Znq (pv 2) Zac (Zap _)))))
   (Zad (ss 7 Zao.nd (Zaf ZaL (Zaf Zbw (Zaf ZaM (Zaf ZjN (Zaf Zb0 (pv 3) Zac) (Zaf ZaM (Zaf ZjN Zac (pv 5)) Zac)) (Zaf ZeK (pv 3) (pv 5))) (Zaf ZbF Zac (pv 2))) (Zaf Zb0 (Zaf ZbF Zac (pv 2)) Zac))))
   Zar)
   (Zad (Zbu (ZkO PySem.F.plainAttrs_list PySem.F.slot_list_append PySem.F.type_list_append Zb4 (pv 4) (Zaa (pv 7) Zae)))))))))
   (Zab (Zco PassesOwn.never rfl (ZeM rfl T.B.range (Zaa Zac (Zaa (Zaw (Zn3 rfl) rfl T.B.min Zt4 (Zaa (Zaw Zbq rfl T.B.len Zd4 (Zaa (pv 0) Zae)) (Zaa Zac Zae))) Zae))) (sg 8 Zao.nd)
   (Zab (ss 9 Zao.nd (ZaY ZaR hr (Zaa (pv 0) (Zaa (pv 8) Zae))))
   (Zab (ss 10 Zao.nd (Zaf Zbw (Zaf ZaM (Zaf Zb0 (pv 9) Zac) (pv 8)) (pv 2)))
   (Zab (ss 11 Zao.nd (Zaf Zbw (Zaf Zb0 (Zaf Zb0 (pv 9) Zac) (pv 2)) (pv 2)))
   (Zad (Za0 (Zan (ZaN hr.units) (Zaf Zbw (pv 9) Zac) Zac (Zap _))
   (Zad (Zi7 (Zaf Znr (ZaQ Zav (pv 4) (pv 10) (fun _ _=>rfl)) (Zaf ZbF Zac (pv 11))) (ZkP (pv 4) (pv 10) Zgj)))
   (Zad (Za0 (Zan (ZaN hr.units) (Zaf Zbw (pv 9) Zac) Zac (Zap _))
   (Zad (Zi7 (Zaf ZbF Zac (pv 11)) (ZkP (pv 4) (pv 10) Zgj)))
   (Zad (Za0 (Zan Znq (Zaf Zbw (pv 9) Zac) Zac (Zap _))
   (Zad (Zi7 (Zaf ZbF Zac (Zaf Zbw (Zaf ZaM (pv 10) (Zaf Zb0 (Zaf Zbw (pv 9) Zac) Zac)) (pv 2))) (ZkP (pv 4) (pv 10) Zgj)))
   (Zad (Zco PassesOwn.never rfl (Zcv rfl T.B.range (Zaa (Zaf ZaM Zac (pv 11)) Zae)) (sg 12 Zao.nd)
   (Zad (Zi7 (Zaf ZbF Zac (Zaf Zbw (Zaf ZaM (Zaf ZaM (pv 10) (pv 12)) Zac) (pv 2))) (ZkP (pv 4) (Zaf Zbw (Zaf ZaM (pv 10) (pv 12)) (pv 2)) Zgj)))))))))))))))
   (Zad (Zas (pv 4)))))))),?_⟩
 walk_at "rd0";rw[ZaZ];refine⟨sc,ns,3,rfl,hS,?_⟩;generalize cell ns 3 % 10 ^ 60=y3 at c0 c1;walk_at "";refine Zjz (by simp) fun l H1 s1 n1 e1=>?_;walk_at "";refine⟨_,rfl,by omega,by omega,?_⟩;rw[Int.toNat_natCast];refine ZhJ (n:=2 ^ m) (fun i σ H'=>∃(af:List Nat) (v5 v6 v7:Option V),Same H H'∧H' l=some (.lst ((nums af).map V.int))∧af.length=i∧(∀x∈af,x < 2 ^ 2 ^ m)∧σ=[some (.ref sc),some (.int (m:Int)),some (.int ((2 ^ m:Nat):Int)),some (.int y3),some (.ref l),v5,v6,v7,none,none,none,none,none]) ⟨[],_,_,_,s1,e1,rfl,(fun x hx=>by cases hx),rfl⟩ ?_ ?_
 ·rintro i σ H2 hi ⟨af,v5,v6,v7,s2,e2,hl,hb,rfl⟩
  have al:((nums af).map V.int).length < 1000000:=by rw[ZaG]; omega
  have app:∀(v:Nat),v < 2 ^ 2 ^ m→∀H'',But l H2 H''→H'' l=some (.lst ((nums af).map V.int++[.int (v:Int)]))→Same H H''∧H'' l=some (.lst ((nums (af++[v])).map V.int))∧(af++[v]).length=i+1∧(∀x∈af++[v],x < 2 ^ 2 ^ m):=fun v hv H'' b e=>by
   refine⟨b.same n1 s2,by rw[ZcS]; exact e,by rw[length_append,hl]; rfl,fun x hx=>?_⟩
   rcases mem_append.mp hx with h | h
   ·exact hb x h
   ·rw[mem_singleton.mp h]; exact hv
  have mj:(m:Int) * (i:Int)=((m * i:Nat):Int):=by rw[Int.natCast_mul]
  have mjl:m * i < 1000:=Nat.lt_of_le_of_lt (Nat.mul_le_mul hm (Nat.le_of_lt (Nat.lt_of_lt_of_le hi hp))) (by decide);obtain⟨a,ha,la⟩:=Zqi (show 0≤y3 / 2 by omega) m (m * i);obtain⟨d,hd,ld⟩:=Zdw ((a:Int)+(i:Int)+1) m;obtain⟨f,hf,lf⟩:=Zdw (y3 / 2 * (2 * (i:Int)+1)+y3 / 2 ^ ((i:Int)).toNat) (2 ^ m)
  have hthird:((2 ^ 2 ^ m:Nat):Int) / 3=((2 ^ 2 ^ m / 3:Nat):Int):=by omega
  walk_at "";refine ZiV (by first | exact .inl ⟨by omega,by omega⟩ | exact .inr ⟨by omega,by omega⟩) ?_;rw[mj];walk_at "";rw[ha];walk_at "";refine Zov (fun h1=>?_) (fun h1=>?_)
  ·walk_at ""
   rw[hd];walk_at "";rw[ZaZ];refine ZdA (fun h2=>?_) (fun h2=>?_)
   ·walk_at ""
    refine Zca (decide_eq_true (by omega)) ?_;walk_at "";refine ZiV (by first | exact .inl ⟨by omega,by omega⟩ | exact .inr ⟨by omega,by omega⟩) ?_;walk_at "";refine ZiV (by first | exact .inl ⟨by omega,by omega⟩ | exact .inr ⟨by omega,by omega⟩) ?_;walk_at "";rw[ZaZ];refine i_rI (by show(0:Int) < _; omega) ?_;rw[hf];walk_at "";rw[ZaZ,hthird,Za1];refine⟨tyL e2,?_⟩;walk_at "";refine Zb7 e2 al fun H4 b4 e4=>?_;obtain⟨x1,x2,x3,x4⟩:=app _ (Nat.lt_of_le_of_lt Nat.and_le_left lf) _ b4 e4;walk_at "";exact⟨_,_,_,_,x1,x2,x3,x4,rfl⟩
   ·refine ZaF rfl ?_
    walk_at "";refine⟨tyL e2,?_⟩;walk_at "";refine Zb7 e2 al fun H4 b4 e4=>?_;obtain⟨x1,x2,x3,x4⟩:=app _ (ZeN ld) _ b4 e4;walk_at "";exact⟨_,_,_,_,x1,x2,x3,x4,rfl⟩
  ·walk_at ""
   refine ZdA (fun h2=>?_) (fun h2=>?_)
   ·walk_at ""
    refine Zca (decide_eq_true (by omega)) ?_;walk_at "";refine ZiV (by first | exact .inl ⟨by omega,by omega⟩ | exact .inr ⟨by omega,by omega⟩) ?_;walk_at "";refine ZiV (by first | exact .inl ⟨by omega,by omega⟩ | exact .inr ⟨by omega,by omega⟩) ?_;walk_at "";rw[ZaZ];refine i_rI (by show(0:Int) < _; omega) ?_;rw[hf];walk_at "";rw[ZaZ,hthird,Za1];refine⟨tyL e2,?_⟩;walk_at "";refine Zb7 e2 al fun H4 b4 e4=>?_;obtain⟨x1,x2,x3,x4⟩:=app _ (Nat.lt_of_le_of_lt Nat.and_le_left lf) _ b4 e4;walk_at "";exact⟨_,_,_,_,x1,x2,x3,x4,rfl⟩
   ·refine ZaF rfl ?_
    walk_at "";refine⟨tyL e2,?_⟩;walk_at "";refine Zb7 e2 al fun H4 b4 e4=>?_;obtain⟨x1,x2,x3,x4⟩:=app _ h2p _ b4 e4;walk_at "";exact⟨_,_,_,_,x1,x2,x3,x4,rfl⟩
 rintro σ H2 ⟨af,v5,v6,v7,s2,e2,hl,hb,rfl⟩;have A2:AF l af m H2:=⟨e2,hl,hb⟩;clear e2 hl hb;walk_at "";refine Zox (s2.seq hS) ?_;rw[length_map];walk_at "";refine⟨5,_,rfl,by omega,?_⟩;refine Zv0 (fun i σ H'=>∃(af:List Nat) (v8 v9 v10 v11 v12:Option V),Same H H'∧AF l af m H'∧σ=[some (.ref sc),some (.int (m:Int)),some (.int ((2 ^ m:Nat):Int)),some (.int y3),some (.ref l),v5,v6,v7,v8,v9,v10,v11,v12]) ⟨af,_,_,_,_,_,s2,A2,rfl⟩ ?_ ?_
 ·clear A2 s2 af H2
  rintro i σ H2 hi ⟨af,v8,v9,v10,v11,v12,s2,A2,rfl⟩;rw[show(5:Int)+(i:Int)=((5+i:Nat):Int) by omega];walk_at "";refine⟨sc,ns,5+i,rfl,s2.seq hS,?_⟩;generalize cell ns (5+i) % 10 ^ 60=c;walk_at "";obtain⟨a,ha,la⟩:=Zdw (c / 8+((5+i:Nat):Int)) m;obtain⟨b,hb,lb⟩:=Zdw (c / 8 / ((2 ^ m:Nat):Int)) m;obtain⟨d,hd,ld⟩:=Zdw ((a:Int)+c % 8 / 2) m;have fin:∀(H3:Hp) (j v:Nat),v < 2 ^ 2 ^ m→But l H2 H3→H3 l=some (.lst (((nums af).map V.int).set j (.int (v:Int))))→Same H H3∧AF l (af.set j v) m H3:=fun H2 j v hv b2 e2=>⟨b2.same n1 s2,A2.set e2 hv⟩;rw[ha];walk_at "";rw[hb];walk_at "";refine ZdA (fun h1=>?_) (fun h1=>?_)
  ·walk_at ""
   refine Zfi A2.fl (Za2 (by rw[A2.len]; exact la)) ?_;walk_at "";rw[ZaZ,Zi5];refine ZoI A2.fl (by rw[ZaG,A2.len]; exact la) fun H3 b3 e3=>?_;obtain⟨c1,c2⟩:=fin H3 _ _ (Nat.or_lt_two_pow (Zhx A2.bd h2p) (ZeN lb)) b3 e3;walk_at "";exact⟨_,_,_,_,_,_,c1,c2,rfl⟩
  walk_at "";refine ZdA (fun h2=>?_) (fun h2=>?_)
  ·walk_at ""
   rw[ZaZ];refine ZoI A2.fl (by rw[ZaG,A2.len]; exact la) fun H3 b3 e3=>?_;obtain⟨c1,c2⟩:=fin H3 _ _ (ZeN lb) b3 e3;walk_at "";exact⟨_,_,_,_,_,_,c1,c2,rfl⟩
  walk_at "";refine ZdA (fun h3=>?_) (fun h3=>?_)
  ·walk_at ""
   rw[hd];walk_at "";rw[ZaZ];refine ZoI A2.fl (by rw[ZaG,A2.len]; exact la) fun H3 b3 e3=>?_;obtain⟨c1,c2⟩:=fin H3 _ _ (ZeN ld) b3 e3;walk_at "";exact⟨_,_,_,_,_,_,c1,c2,rfl⟩
  walk_at "";refine⟨_,rfl,by omega,by omega,?_⟩;rw[show(1+(b:Int)).toNat=1+b by omega];refine ZhJ (n:=1+b) (fun j σ H'=>∃af v12,Same H H'∧AF l af m H'∧σ=[some (.ref sc),some (.int (m:Int)),some (.int ((2 ^ m:Nat):Int)),some (.int y3),some (.ref l),v5,v6,v7,some (.int ((5+i:Nat):Int)),some (.int c),some (.int (a:Int)),some (.int (b:Int)),v12]) ⟨af,_,s2,A2,rfl⟩ ?_ ?_
  ·clear fin A2 s2 af H2
   rintro j σ H2 hj ⟨af,v12,s2,A2,rfl⟩;obtain⟨x,hx,lx⟩:=Zdw ((a:Int)+(j:Int)) m;obtain⟨y,hy,ly⟩:=Zdw ((a:Int)+(j:Int)+1) m;walk_at "";rw[hy];walk_at "";rw[ZaZ,hx];refine ZoI A2.fl (by rw[ZaG,A2.len]; exact lx) fun H3 b3 e3=>?_;walk_at "";exact⟨_,_,b3.same n1 s2,A2.set e3 (ZeN ly),rfl⟩
  ·rintro σ H3 ⟨af',v12,s3,A3,rfl⟩
   walk_at "";exact⟨_,_,_,_,_,_,s3,A3,rfl⟩
 ·rintro σ H3 ⟨af',v8,v9,v10,v11,v12,s3,A3,rfl⟩
  walk_at "";exact q l H3 af' s3 n1 A3
end
theorem Zl3 {m k:Nat} {af:List Nat}:∀(bs:List Bar) {S:PSt},(∀j,j≤k→(bs.foldl (Zee m af k) S).2.1.getD j 0=S.2.1.getD j 0)∧∀b j,j≤k→(b,j)∈(bs.foldl (Zee m af k) S).1→(b,j)∈S.1∧(j=k→b∈bs→behN af (Zaq (2 ^ m) b) &&& S.2.1.getD k 0≠0)
 | [],S=>⟨fun j _=>rfl,fun b j _ h=>⟨h,fun _ z=>by cases z⟩⟩
 | b0::bs,S=>by
  obtain⟨a1,a2⟩:=Zl3 (m:=m) (k:=k) (af:=af) bs (S:=Zee m af k S b0)
  have h1:∀j,j≤k→(Zee m af k S b0).2.1.getD j 0=S.2.1.getD j 0:=fun j hj=>by
   unfold Zee
   split
   ·show(Zd5 S.2.1 _ (k+1)).getD j 0=_
    unfold Zd5;rw[getD_eq_getElem?_getD,List.getElem?_set_ne (by omega),←getD_eq_getElem?_getD]
   ·rfl
  refine⟨fun j hj=>(a1 j hj).trans (h1 j hj),fun b j hj h=>?_⟩;obtain⟨c1,c2⟩:=a2 b j hj h;rw[h1 k (Nat.le_refl _)]at c2;unfold Zee at c1
  split at c1
  ·rcases Zel (show(b,j)∈setL S.1 b0 (k+1) from c1) with⟨_,z⟩ | ⟨z,hq⟩
   ·have z:j=k+1:=z
    omega
   ·refine⟨hq,fun hjk hb=>?_⟩
    rcases mem_cons.mp hb with e | e
    ·exact absurd e z
    ·exact c2 hjk e
  ·rename_i hc
   refine⟨c1,fun hjk hb=>?_⟩
   rcases mem_cons.mp hb with e | e
   ·rw[e]; exact hc
   ·exact c2 hjk e
theorem ZkR {m:Nat} {af:List Nat} {S:PSt}:∀n k,1≤k→k≤n→∀b,(b,k)∈(ZgE m af n S).1→behN af (Zaq (2 ^ m) b) &&& (ZgE m af n S).2.1.getD k 0≠0
 | 0,k,h1,h2,b,h=>by omega
 | n+1,k,h1,h2,b,h=>by
  obtain⟨a1,a2⟩:=Zl3 (m:=m) (k:=n+1) (af:=af) (srtB (ownB (ZgE m af n S).1 (n+1))) (S:=ZgE m af n S);have a1:=a1 k h2;obtain⟨c1,c2⟩:=a2 b k h2 h;show behN af (Zaq (2 ^ m) b) &&& (rowP m af (n+1) (ZgE m af n S)).2.1.getD k 0≠0;unfold rowP;rw[a1]
  by_cases e:k=n+1
  ·subst e
   exact c2 rfl (Zo8.mpr c1)
  ·exact ZkR n k h1 (by omega) b c1
theorem ZuP {m st:Nat} {af:List Nat} {L:List (Bar×Nat)} {cr:List Nat} {k:Nat} (F:FI m st af L cr) (h1:1≤k) (h2:k+1 < cr.length) (e:cr.getD k 0=cr.getD (k+1) 0) (hp:∀b,(b,k)∈L→behN af (Zaq (2 ^ m) b) &&& cr.getD k 0≠0):∀b,(b,k)∉L:=fun b hb=>by
 refine hp b hb (Zaj.mpr fun s hs=>?_);unfold behN at hs;rw[ZaU,Bool.and_eq_true,decide_eq_true_iff,decide_eq_true_iff]at hs
 cases z:(cr.getD k 0).testBit s with
 | false=>rfl
 | true=>
  exfalso
  refine hs.2 (Zaj.mpr fun x hx=>?_);have y:=F.stp k h2 s x z hx;rw[←e]at y;have y:=((F.kp k h1 (by omega) x).mp y).2 _ hb (Nat.le_refl _);unfold Zaq;rw[ZaU,y,Bool.and_false]
theorem Zrn {m st:Nat} {af:List Nat} {L:List (Bar×Nat)} {cr:List Nat} {j:Nat} (F:FI m st af L cr) (h1:1≤j) (h2:j+1 < cr.length) (e:cr.getD j 0≠cr.getD (j+1) 0):∃b,(b,j)∈L:=by
 refine Classical.byContradiction fun hn=>e (Nat.eq_of_testBit_eq fun s=>?_);have hn:∀q∈L,q.2≠j:=fun q hq z=>hn ⟨q.1,by rw[←z]; exact hq⟩;have k1:=F.kp j h1 (by omega) s;have k2:=F.kp (j+1) (by omega) h2 s;have:(cr.getD j 0).testBit s=true ↔ (cr.getD (j+1) 0).testBit s=true:=k1.trans (Iff.trans ⟨fun h=>⟨h.1,fun q hq hl=>h.2 q hq (by omega)⟩,fun h=>⟨h.1,fun q hq hl=>h.2 q hq (by have:=hn q hq; omega)⟩⟩ k2.symm)
 cases e1:(cr.getD j 0).testBit s <;> cases e2:(cr.getD (j+1) 0).testBit s
 ·rfl
 ·have:=this.mpr e2; rw[e1]at this; cases this
 ·have:=this.mp e1; rw[e2]at this; cases this
 ·rfl
theorem Trc.left {m st bd:Nat} {af:List Nat} {L:List (Bar×Nat)} {cr:List Nat} {es:List Ev} {sb:Bool} (h:Trc m st bd af L cr es sb) (hs:sb=true):∀k,1≤k→k+1 < cr.length→∀b,(b,k)∈L→behN af (Zaq (2 ^ m) b) &&& cr.getD k 0≠0:=by
 cases h with
 | nil=>cases hs
 | shut=>cases hs
 | grow h si hb hP=>
  rename_i L0 cr0 es0 due
  intro k h1 h2 b hb';have l2:=si.fi.len2;obtain⟨_,e3,_⟩:=PQ.push (m:=m) (st:=st) (bd:=bd) (af:=af) (S:=(L0,cr0++[2 ^ 2 ^ m - 1],[])) si.fi.nd (cr0.length - 1) (by show cr0.length - 1+1 < (cr0++[_]).length; rw[length_append,length_singleton]; omega);rw[hP]at e3;have e3:cr.length=(cr0++[2 ^ 2 ^ m - 1]).length:=e3;rw[length_append,length_singleton]at e3;have:=ZkR (m:=m) (af:=af) (S:=(L0,cr0++[2 ^ 2 ^ m - 1],[])) (cr0.length - 1) k h1 (by omega) b;rw[hP]at this;exact this hb'
def adds:List Ev→Nat
 | []=>0
 | .add _::es=>adds es+1
 | _::es=>adds es
theorem PlS.adds {m st bd:Nat} {af:List Nat}:∀{es:List Ev} {a b:FS},PlS m st bd af a es b→b.2.length=a.2.length+adds es
 | [],_,_,h=>by
  have h:_=_:=h;rw[h];rfl
 | .add n::es,a,_,h=>by
  rw[PlS.adds (es:=es) h.2];show(a.2++[_]).length+LW.adds es=_+(LW.adds es+1);rw[length_append,length_singleton];omega
 | .shut k b::es,a,_,h=>by
  rw[PlS.adds (es:=es) h.2];show(cutC _ _ _).length+LW.adds es=_+LW.adds es;rw[ZbX]
 | .push k b::es,a,_,h=>by
  rw[PlS.adds (es:=es) h.2];show(Zd5 _ _ _).length+LW.adds es=_+LW.adds es;rw[ZcR]
theorem Zd2:∀(es:List Ev) (e:Ev),adds (es++[e])=adds es+adds [e]
 | [],e=>by show adds [e]=0+adds [e]; omega
 | .add n::es,e=>by
  show adds (es++[e])+1=adds es+1+adds [e];rw[Zd2 es e];omega
 | .shut k b::es,e=>Zd2 es e
 | .push k b::es,e=>Zd2 es e
theorem PlS.snd {m st bd:Nat} {af:List Nat} (G:GoodC m st bd af):∀{es:List Ev} {a b:FS},PlS m st bd af a es b→Snd m st bd af a→Snd m st bd af b
 | [],_,_,h,s=>by
  have h:_=_:=h;rw[←h];exact s
 | _::es,_,_,h,s=>PlS.snd G (es:=es) h.2 (s.step G h.1)
section
variable {P:Program} {w:World} {K:W.Frag} {mg:Str→Option Value} {base:Heap} {t:Ad}
theorem ZuK (s k:Nat):decide (Builtin.bitAnd ((s:Int) / 2 ^ ((k:Int)).toNat) 1=0) = !s.testBit k:=by
 rw[ZjG]
 cases s.testBit k <;> decide
def Zvv:Sp:=fun vs H Q _=>∃(a l:Addr) (m st bd n:Nat) (af ws:List Nat),vs=[.ref a,.int (st:Int),.int (bd:Int),.ref l,.int (n:Int)]∧H a=some (.lst ((nums ws).map V.int))∧AF l af m H∧Way m st bd af (n+1) ws∧n≤1000∧Q (.bl true) H
theorem ZuS (T:Txt K mg t):FnS P w K mg base 1 "_law_way" ["_law_way_here","_law_starts","_law_bads","_law_after","_law_steps"] (Zvv):=by
 refine⟨_,_,T.Zdc.ok Zh8 (fun vs H Q E h=>?_) (fun _ _ _ _ H vs Q E hr h=>?_),T.ZiJ,T.Zdc.kp,T.ZiY⟩
 ·obtain⟨a,l,m,st,bd,n,af,ws,rfl,ha,A,W,hn,q⟩:=h
  rfl
 obtain⟨a,l,m,st,bd,n,af,ws,rfl,ha,A,W,hn,q⟩:=h;have hfl:=A.fl;have hln:=W.ln
 refine⟨_,(Zab (Za0 (PW.pt (Zge (Zc1 (Zay (Zaw Zcq rfl T.B.isinstance ZaD (Zaa (pv 0) (Zaa (Zdx (v:=.ty "list") rfl T.B.list Zgs rfl) Zae))) (fun _=>rfl))) (ZeO (Zan (ZgZ hr.units) (Zaw Zbq rfl T.B.len Zd4 (Zaa (pv 0) Zae)) (Zaf ZaM (pv 4) Zac) (Zap _)))))
   (Zad (Zas ZhT))
   Zar)
   (Zab (Zco PassesOwn.never rfl (Zcv rfl T.B.range (Zaa (Zaw Zbq rfl T.B.len Zd4 (Zaa (pv 0) Zae)) Zae)) (sg 5 Zh8.nd)
   (Zab (Za0 (PW.pt (Zge (Zc1 (Zay (Zaw Zcq rfl T.B.isinstance ZaD (Zaa (ZaQ Zav (pv 0) (pv 5) (fun _ _=>rfl)) (Zaa (Zdx (v:=.ty "int") rfl T.B.int Zrx rfl) Zae))) (fun _=>rfl))) (Zge (Zay (Zaw Zcq rfl T.B.isinstance ZaD (Zaa (ZaQ Zav (pv 0) (pv 5) (fun _ _=>rfl)) (Zaa (Zdx (v:=.ty "bool") rfl T.B.bool Zje rfl) Zae))) (fun _=>rfl)) (ZeO (Zc1 (Zrc ZqZ Znq Zac (ZaQ Zav (pv 0) (pv 5) (fun _ _=>rfl)) (Zaw Zbq rfl T.B.len Zd4 (Zaa (pv 3) Zae))))))))
   (Zad (Zas ZhT))
   Zar)
   (Zad (Za0 (PW.pt (Zms (Zan Zo5 (pv 5) Zac (Zap _)) (ZjU (Zan (ZaN hr.units) (Zaf ZaL (Zaf ZeK (ZaQ Zav (pv 3) (ZaQ Zav (pv 0) (Zaf Zea (pv 5) Zac) (fun _ _=>rfl)) (fun _ _=>rfl)) (ZaQ Zav (pv 0) (pv 5) (fun _ _=>rfl))) Zac) Zac (Zap _)))))
   (Zad (Zas ZhT))
   Zar))))
   (Zad (Zas (Zg0 (ZcE (ZaN hr.units) (Zaf ZaL (Zaf ZeK (pv 1) (ZaQ Zav (pv 0) Zac (fun _ _=>rfl))) Zac) Zac (Zap _)) (ZhV (ZcE (ZaN hr.units) (Zaf ZaL (Zaf ZeK (pv 2) (ZaQ Zav (pv 0) (ZgD Zp3 Zac) (fun _ _=>rfl))) Zac) Zac (Zap _)))))))),?_⟩
 walk_at "rd0";refine ZaF rfl ?_;walk_at "";rw[ZaG,hln];refine ZaF (by rw[decide_eq_true (by omega)]; rfl) ?_;walk_at "";rw[ZaG,hln];refine⟨_,rfl,by omega,by omega,?_⟩;rw[Int.toNat_natCast];refine ZhJ (n:=n+1) (fun i σ H'=>H'=H∧∃v5,σ=[some (.ref a),some (.int (st:Int)),some (.int (bd:Int)),some (.ref l),some (.int (n:Int)),v5]) ⟨rfl,_,rfl⟩ ?_ ?_
 ·rintro i σ H' hi ⟨rfl,v5,rfl⟩
  have hw:∀j,j < n+1→ws[j]?=some (ws.getD j 0):=fun j hj=>by
   rw[getD_eq_getElem?_getD,List.getElem?_eq_getElem (by omega)];rfl
  have hlt:ws.getD i 0 < 2 ^ m:=W.lt _ (mem_of_getElem? (hw i hi));have hal:=A.len;walk_at "";refine Zfi ha (Za2 (by omega)) ?_;walk_at "";refine ZaF rfl ?_;walk_at "";refine Zfi ha (Za2 (by omega)) ?_;walk_at "";refine ZaF rfl ?_;walk_at "";refine Zfi ha (Za2 (by omega)) ?_;walk_at "";refine Zca (decide_eq_true (by omega)) ?_;walk_at "";rw[ZaG];refine ZaF (by rw[decide_eq_true (by omega)]; rfl) ?_;walk_at ""
  by_cases h0:i=0
  ·refine ZaF (decide_eq_false (by omega)) ?_
   refine ZaF rfl ?_;walk_at "";exact⟨rfl,_,rfl⟩
  ·refine Zca (decide_eq_true (by omega)) ?_
   have hlt2:ws.getD (i - 1) 0 < 2 ^ m:=W.lt _ (mem_of_getElem? (hw (i - 1) (by omega)));have hsp:=W.sp (i - 1) _ _ (hw (i - 1) (by omega)) (show ws[i - 1+1]?=some (ws.getD i 0) by rw[show i - 1+1=i by omega]; exact hw i hi);walk_at "";rw[show((i:Int) - 1)=((i - 1:Nat):Int) by omega];refine Zfi ha (Za2 (by omega)) ?_;walk_at "";refine Zfi A.fl (Za2 (by omega)) ?_;walk_at "";refine Zfi ha (Za2 (by omega)) ?_;walk_at "";rw[ZuK,hsp];refine ZaF rfl ?_;walk_at "";exact⟨rfl,_,rfl⟩
 ·rintro σ H' ⟨rfl,v5,rfl⟩
  obtain⟨x,hx,hxs⟩:=W.hd;obtain⟨y,hy,hyb⟩:=W.la;rw[show n+1 - 1=n by omega]at hy
  have ex:ws.getD 0 0=x:=by rw[getD_eq_getElem?_getD,hx]; rfl
  have ey:ws.getD n 0=y:=by rw[getD_eq_getElem?_getD,hy]; rfl
  walk_at "";have g0:atI ((nums ws).map V.int) ((0:Nat):Int)=some (.int ((ws.getD 0 0:Nat):Int)):=Zlc (Za2 (by omega));refine Zow ha g0 ?_;walk_at "";rw[ex,ZoT,hxs];refine Zca rfl ?_;walk_at "";refine Zow ha (Zqj (n:=n) (by rw[ZaG]; omega) (Za2 (by omega))) ?_;walk_at "";rw[ey,ZoT,hyb];exact q
def Zvt:Sp:=fun vs H Q _=>∃(bl:Addr) (n:Nat) (ps:List Addr) (bs:List Bar),vs=[.int (n:Int),.ref bl]∧n≤64∧H bl=some (.lst (ps.map V.ref))∧Paired (ZaO H) ps bs∧(∀b∈bs,b.good)∧∀X:Nat,(∀s,X.testBit s=true ↔ (s < n∧∀b∈bs,lies s b=false))→Q (.int (X:Int)) H
theorem Ztm (T:Txt K mg t):FnS P w K mg base 1 "_law_left" ["_law_size","_law_bars"] (Zvt):=by
 refine⟨_,_,T.ZcA.ok ZcT (fun vs H Q E h=>?_) (fun _ _ _ _ H vs Q E hr h=>?_),T.Zhq,T.ZcA.kp,T.ZhM⟩
 ·obtain⟨bl,n,ps,bs,rfl,hn,hb,hp,hg,q⟩:=h
  rfl
 obtain⟨bl,n,ps,bs,rfl,hn,hb,hp,hg,q⟩:=h;have pl:=ZaC hp
 refine⟨_,(Zab (ss 2 ZcT.nd (Zaf Zea (Zaf ZbF Zac (pv 0)) Zac))
   (Zab (Zco PassesOwn.never rfl (Zfx (pv 1)) (sg 3 ZcT.nd)
   (Zad (Zco PassesOwn.never rfl (Zcv rfl T.B.range (Zaa (pv 0) Zae)) (sg 4 ZcT.nd)
   (Zad (Za0 (Zan (ZaN hr.units) (Zaf ZaL (pv 4) (ZaQ Zav (pv 3) Zac (fun _ _=>rfl))) (ZaQ Zav (pv 3) Zac (fun _ _=>rfl)) (Zap _))
   (Zad (ss 2 ZcT.nd (Zaf ZaL (pv 2) (ZgD Zfy (Zaf ZbF Zac (pv 4))))))
   Zar)))))
   (Zad (Zas (pv 2))))),?_⟩
 walk_at "rd0"
 rw[show(1:Int) * 2 ^ ((n:Int)).toNat - 1=((2 ^ n - 1:Nat):Int) by
  have:1≤2 ^ n:=Nat.one_le_two_pow
  rw[Int.toNat_natCast,Int.one_mul,Int.natCast_sub this,Int.natCast_pow]; rfl]
 refine seqL (xs:=ps.map V.ref) (fun i σ H'=>H'=H∧∃(X:Nat) (v3 v4:Option V),(∀s,X.testBit s=true ↔ (s < n∧∀b∈bs.take i,lies s b=false))∧σ=[some (.int (n:Int)),some (.ref bl),some (.int (X:Int)),v3,v4]) ⟨rfl,_,_,_,fun s=>?_,rfl⟩ (fun i σ H' _ hp=>by obtain⟨rfl,_⟩:=hp; exact SqL.of hb) ?_ ?_
 ·rw[Nat.testBit_two_pow_sub_one,decide_eq_true_iff,List.take_zero]
  exact⟨fun h=>⟨h,fun b hb=>by cases hb⟩,fun h=>h.1⟩
 ·rintro i x σ H' hx ⟨rfl,X,v3,v4,hX,rfl⟩
  obtain⟨pa,rfl,hpa⟩:=ZeF hx;obtain⟨b,hbi,hB⟩:=ZbM hp hpa;have hgb:=hg b (mem_of_getElem? hbi);walk_at "";refine⟨_,rfl,by omega,by omega,?_⟩;rw[Int.toNat_natCast];refine ZhJ (n:=n) (fun j σ H''=>H''=H'∧∃(Y:Nat) (v4:Option V),(∀s,Y.testBit s=true ↔ (X.testBit s=true∧(s < j→lies s b=false)))∧σ=[some (.int (n:Int)),some (.ref bl),some (.int (Y:Int)),some (.ref pa),v4]) ⟨rfl,X,_,fun s=>⟨fun h=>⟨h,fun z=>by omega⟩,fun h=>h.1⟩,rfl⟩ ?_ ?_
  ·rintro j σ H'' hj ⟨rfl,Y,v4,hY,rfl⟩
   walk_at "";refine Zbk hB (v:=.int (b.1:Int)) rfl ?_;walk_at "";refine Zbk hB (v:=.int (b.2:Int)) rfl ?_;walk_at ""
   have li:decide (Builtin.bitAnd (j:Int) (b.1:Int)=(b.2:Int))=lies j b:=by
    rw[Za1,←ZjF hgb];exact decide_eq_decide.mpr (by omega)
   rw[li];refine Zm7 (fun h1=>?_) (fun h1=>?_)
   ·walk_at ""
    rw[show(1:Int) * 2 ^ ((j:Int)).toNat=((2 ^ j:Nat):Int) from ZaZ j,Zba];refine⟨rfl,_,_,fun s=>?_,rfl⟩;rw[ZaA,Bool.and_eq_true,hY,Nat.testBit_two_pow]
    by_cases e:s=j
    ·subst e
     simp[h1]
    ·constructor
     ·rintro⟨⟨a1,a2⟩,_⟩
      exact⟨a1,fun z=>a2 (by omega)⟩
     ·rintro⟨a1,a2⟩
      exact⟨⟨a1,fun z=>a2 (by omega)⟩,by simp; omega⟩
   ·walk_at ""
    refine⟨rfl,Y,_,fun s=>?_,rfl⟩;rw[hY]
    by_cases e:s=j
    ·subst e
     exact⟨fun h=>⟨h.1,fun _=>h1⟩,fun h=>⟨h.1,fun z=>absurd z (Nat.lt_irrefl _)⟩⟩
    ·exact⟨fun h=>⟨h.1,fun z=>h.2 (by omega)⟩,fun h=>⟨h.1,fun z=>h.2 (by omega)⟩⟩
  ·rintro σ H'' ⟨rfl,Y,v4,hY,rfl⟩
   walk_at "";refine⟨rfl,Y,_,_,fun s=>?_,rfl⟩;rw[hY,hX,Zbe hbi]
   constructor
   ·rintro⟨⟨a1,a2⟩,a3⟩
    refine⟨a1,fun c hc=>?_⟩
    rcases mem_append.mp hc with z | z
    ·exact a2 c z
    ·rw[mem_singleton.mp z]; exact a3 a1
   ·rintro⟨a1,a2⟩
    exact⟨⟨a1,fun c hc=>a2 c (mem_append.mpr (.inl hc))⟩,fun _=>a2 b (mem_append.mpr (.inr (mem_singleton.mpr rfl)))⟩
 ·rintro σ H' ⟨rfl,X,v3,v4,hX,rfl⟩
  walk_at "";rw[length_map,pl,take_length]at hX;exact q X hX
end
section
variable {P:Program} {w:World} {K:W.Frag} {mg:Str→Option Value} {base:Heap} {t:Ad}
theorem ZsH {A B:List (Bar×Nat)} {b:Bar} {n:Nat} (nd:((A++(b,n)::B).map (·.1)).Nodup):ZfD (lvK (A++(b,n)::B)) (kB b)=lvK (A++B):=by
 have cut:∀M:List (Bar×Nat),(∀q∈M,q.1≠b)→ZfD (lvK M) (kB b)=lvK M:=fun M h=>Zl0 fun z=>by
  obtain⟨x,hx,e⟩:=mem_map.mp z;unfold lvK at hx;obtain⟨q,hq,rfl⟩:=mem_map.mp hx;exact h q hq (Zl8 e)
 rw[map_append,map_cons,List.nodup_append]at nd;obtain⟨n1,n2,n3⟩:=nd;have n2':=nodup_cons.mp n2;have hA:∀q∈A,q.1≠b:=fun q hq=>n3 _ (mem_map.mpr ⟨q,hq,rfl⟩) _ mem_cons_self;have hB:∀q∈B,q.1≠b:=fun q hq e=>n2'.1 (mem_map.mpr ⟨q,hq,e⟩);have cA:=cut A hA;have cB:=cut B hB
 have sp:lvK (A++(b,n)::B)=lvK A++(kB b,V.int (n:Int))::lvK B:=by unfold lvK; rw[map_append]; rfl
 rw[sp,show lvK (A++B)=lvK A++lvK B by unfold lvK; rw[map_append]];unfold ZfD at cA cB ⊢;rw[filter_append,filter_cons,if_neg (by simp),cA,cB]
theorem Zky {L:List (Bar×Nat)} {k i n:Nat} {b br:Bar} (hL:L[i]?=some (br,n)):Zdv (L.take (i+1)) k b=Zdv (L.take i) k b++(if (decide (k < n) || !subB br b)=true then [(br,n)] else []):=by
 unfold Zdv;rw[Zbe hL,filter_append,filter_cons];rfl
theorem Zof {α:Type} {l:List α} {i:Nat} {x:α} (h:l[i]?=some x):l.drop i=x::l.drop (i+1):=by
 obtain⟨hi,e⟩:=List.getElem?_eq_some_iff.mp h;rw[List.drop_eq_getElem_cons hi,e]
theorem ZkM (f:Nat→Nat) (k:Nat):∀n,(orUp f n).testBit k=true→∃s,s < n∧(f s).testBit k=true
 | 0,h=>by rw[show orUp f 0=0 from rfl,Nat.zero_testBit]at h; cases h
 | n+1,h=>by
  rw[show orUp f (n+1)=orUp f n ||| f n from rfl,Nat.testBit_or,Bool.or_eq_true]at h
  rcases h with h | h
  ·obtain⟨s,hs,hb⟩:=ZkM f k n h
   exact⟨s,by omega,hb⟩
  ·exact⟨n,by omega,h⟩
theorem ZnV {af:List Nat} {c y:Nat} (h:∀s t,c.testBit s=true→(af.getD s 0).testBit t=true→y.testBit t=true):∀t,(ahN af c).testBit t=true→y.testBit t=true:=fun t ht=>by
 unfold ahN at ht;obtain⟨s,_,hb⟩:=ZkM _ _ _ ht
 by_cases e:c.testBit s=true
 ·rw[if_pos e]at hb
  exact h s t e hb
 ·rw[if_neg e,Nat.zero_testBit]at hb
  cases hb
theorem subz {x y:Nat} (h:∀s,x.testBit s=true→y.testBit s=true):x - (x &&& y)=0:=by
 apply Nat.eq_of_testBit_eq;intro k;rw[ZaA,Nat.zero_testBit]
 cases e:x.testBit k with
 | false=>rfl
 | true=>rw[h k e]; rfl
theorem Zsa {x z y:Nat} (h:∀s,x.testBit s=true→y.testBit s=true) (k:∀s,z.testBit s=true→y.testBit s=true):∀s,(x ||| z).testBit s=true→y.testBit s=true:=fun s hs=>by
 rw[Nat.testBit_or,Bool.or_eq_true]at hs;exact hs.elim (h s) (k s)
theorem Zny {H:Hp} {acc:Addr} {ps:List Addr} {bs:List Bar} {Q:VK} (e:H acc=some (.lst (ps.map V.ref))) (hp:Paired (ZaO H) ps bs) (hz:bs.length < 100000) (k:∀l' ps' H',Same H H'→H l'=none→H' l'=some (.lst (ps'.map V.ref))→Paired (ZaO H') ps' (srtB bs)→(srtB bs).Perm bs→Q (.ref l') H'):Zsg K [.ref acc] H Q:=by
 have hpl:=ZaC hp;refine⟨acc,ps,_,rfl,SqL.of e,Zfc hp,by omega,fun l' ps' ks' hp' hpp hkp hs hl'=>?_⟩;obtain⟨bs',hb',rfl⟩:=Zeg hp' hpp hp;have eb:bs'=srtB bs:=Zja (Zen hkp) hs;subst eb;exact k l' ps' _ (Zbn hl' _) hl' Zak (Zax (fun p b z=>Zbn hl' _ _ _ z) hb') (Zen hkp)
def Zvq:Sp:=fun vs H Q _=>∃(dl:Addr) (qs:List Addr) (es:List Ev) (m st bd:Nat) (af:List Nat) (S F:FS),vs=[.ref dl]∧H dl=some (.lst (qs.map V.ref))∧Paired (EvAt H) qs es∧GoodC m st bd af∧m≤5∧PlS m st bd af S es F∧S.1=[]∧Snd m st bd af S∧F.2.length≤2 ^ m+3∧∀en H',Same H H'→H en=none→H' en=some (.dT (lvK F.1))→Q (.ref en) H'
theorem Ztj (T:Txt K mg t):FnS P w K mg base 2 "_law_ends" ["_law_diary"] (Zvq):=by
 refine⟨_,_,T.Zcz.ok ZdP (fun vs H Q E h=>?_) (fun _ _ _ _ H vs Q E hr h=>?_),T.Zhp,T.Zcz.kp,T.ZhL⟩
 ·obtain⟨dl,qs,es,m,st,bd,af,S,F,rfl,hd,hq,G,hm5,hP,h0,sn,hF,q⟩:=h
  rfl
 obtain⟨dl,qs,es,m,st,bd,af,S,F,rfl,hd,hq,G,hm5,hP,h0,sn,hF,q⟩:=h;have ZnO:=Zv1 (P:=P) (w:=w) (base:=base) T;have ql:=ZaC hq
 refine⟨_,(Zab (ss 1 ZdP.nd ZjP)
   (Zab (Zco PassesOwn.never rfl (Zfx (pv 0)) (sg 2 ZdP.nd)
   (Zab (Za0 (Zan (ZaN hr.units) (ZaQ Zav (pv 2) Zac (fun _ _=>rfl)) Zeb (Zap _))
   (Zab (Zco PassesOwn.never rfl (Zfx (ZhU (ZmY rfl) rfl T.B.list Zgs (Zaa (pv 1) Zae))) (sg 3 ZdP.nd)
   (Zad (Za0 (PW.pt (Zms (Zan ZqZ (Zpc (Nat.lt_of_le_of_lt (Nat.add_le_add_left (by decide) _) hr.units) (pv 1) (pv 3) (fun _ _=>rfl)) (ZaQ Zav (pv 2) Zac (fun _ _=>rfl)) (Zap _)) (ZjU (Zay (ZaY ZnO hr (Zaa (pv 3) (Zaa (ZaQ Zav (pv 2) Zac (fun _ _=>rfl)) Zae))) (fun _=>rfl)))))
   (Zad (Zbu (Zq3 (Nat.lt_of_le_of_lt (Nat.add_le_add_left (by decide) _) hr.units) (pv 1) (pv 3) ⟨rfl,rfl,rfl,rfl⟩)))
   Zar)))
   (Zad (ZhX (Nat.lt_of_le_of_lt (Nat.add_le_add_left (by decide) _) hr.units) (pv 1) (ZaQ Zav (pv 2) Zac (fun _ _=>rfl)) (ZaQ Zav (pv 2) Zac (fun _ _=>rfl)) rfl)))
   Zar)
   (Zad (Za0 (Zan (ZaN hr.units) (ZaQ Zav (pv 2) Zac (fun _ _=>rfl)) Zeb (Zap _))
   (Zad (ZhX (Nat.lt_of_le_of_lt (Nat.add_le_add_left (by decide) _) hr.units) (pv 1) (ZaQ Zav (pv 2) Zac (fun _ _=>rfl)) (Zaf ZaM (ZaQ Zav (pv 2) Zac (fun _ _=>rfl)) Zac) rfl))
   Zar))))
   (Zad (Zas (pv 1))))),?_⟩
 walk_at "rd0";refine ZoG fun en H1 s1 n1 e1=>?_;walk_at "";refine seqL (xs:=qs.map V.ref) (fun i σ H'=>∃(S:FS) (v2 v3:Option V),Same H H'∧H' en=some (.dT (lvK S.1))∧PlS m st bd af S (es.drop i) F∧Snd m st bd af S∧σ=[some (.ref dl),some (.ref en),v2,v3]) ⟨S,_,_,s1,by rw[h0]; exact e1,hP,sn,rfl⟩ (fun i σ H' _ hp=>by obtain⟨_,_,_,z,_⟩:=hp; exact SqL.of (z _ _ hd)) ?_ ?_
 ·rintro i x σ H2 hx ⟨S1,v2,v3,sm,ee,hPl,sn1,rfl⟩
  obtain⟨qa,rfl,hqa⟩:=ZeF hx;obtain⟨e,he,hE⟩:=ZbM hq hqa;have hE:=hE.keep fun b xs z=>sm _ _ z;have hi:=(List.getElem?_eq_some_iff.mp he).1;rw[List.drop_eq_getElem_cons hi]at hPl;rw[show es[i]'hi=e from(List.getElem?_eq_some_iff.mp he).2]at hPl;obtain⟨ok,hPl⟩:=hPl;have len':(rpS m S1 e).2.length≤F.2.length:=hPl.len;have len0:=Zpt m S1 e;have few:=SI.few (bd:=bd) (L:=S1.1) (cr:=S1.2) ⟨sn1.fi,sn1.nb,sn1.ml,by omega⟩ hm5
  cases e with
  | add n=>
   have hqt:H2 qa=some (.tup [.str "add",.int (n:Int)]):=hE;walk_at "";refine Zbk hqt (v:=.str "add") rfl ?_;walk_at "";refine ZaF (decide_eq_false (by decide)) ?_;walk_at "";refine Zbk hqt (v:=.str "add") rfl ?_;walk_at "";refine ZaF (decide_eq_false (by decide)) ?_;walk_at "";exact⟨rpS m S1 (.add n),_,_,sm,ee,hPl,sn1.step G ok,rfl⟩
  | push k b=>
   obtain⟨pb,hqt,hb⟩:=hE;obtain⟨o1,o2,o3⟩ : (b,k)∈S1.1∧k+1 < S1.2.length∧behN af (Zaq (2 ^ m) b) &&& S1.2.getD k 0=0:=ok;walk_at "";refine Zbk hqt (v:=.str "push") rfl ?_;walk_at "";refine ZaF (decide_eq_false (by decide)) ?_;walk_at "";refine Zbk hqt (v:=.str "push") rfl ?_;walk_at "";refine Zca (decide_eq_true rfl) ?_;walk_at "";refine ZiT ?_;walk_at "";refine Zbk hqt (v:=.int (k:Int)) rfl ?_;walk_at "";rw[show((k:Int)+1)=((k+1:Nat):Int) by omega];refine Zbk hqt (v:=.ref pb) rfl ?_;walk_at "";refine Zkw (k:=kB b) ee hb (by rw[ZgB]; omega) fun H4 b4 e4=>?_;rw[Zpk o1]at e4;walk_at "";exact⟨rpS m S1 (.push k b),_,_,b4.same n1 sm,e4,hPl,sn1.step G (e:=.push k b) ⟨o1,o2,o3⟩,rfl⟩
  | shut k b=>
   obtain⟨pb,hqt,hb⟩:=hE;have ok:ShOk m st bd af S1.2 k b:=ok;obtain⟨s0,w1,w2,w3,w4⟩:=ok.wt;have hcv:=Zjj sn1.fi ok.k1 ok.kl w2 w3;have hg:=ok.gd;walk_at "";refine Zbk hqt (v:=.str "shut") rfl ?_;walk_at "";refine Zca (decide_eq_true rfl) ?_;walk_at "";refine ZsZ ee fun ll ps H3 s3 n3 e3 p3=>?_
   have p3':Paired (ZaO H2) ps (S1.1.map (·.1)):=by
    have:(lvK S1.1).map (·.1)=(S1.1.map (·.1)).map kB:=by unfold lvK; rw[map_map,map_map]; rfl
    rw[this]at p3
    have go:∀{qs:List Addr} {ms:List Bar},Paired (KAt H2) qs (ms.map kB)→Paired (ZaO H2) qs ms:=by
     intro qs ms
     induction ms generalizing qs with
     | nil=>intro h; cases h; exact .nil
     | cons x r ih=>intro h; cases h with | cons a t=>exact .cons a (ih t)
    exact go p3
   have nle:ll≠en:=(Zai ee n3).symm;have pl:=ZaC p3';rw[length_map]at pl
   have ndS:∀i,((Zdv (S1.1.take i) k b++S1.1.drop i).map (·.1)).Nodup:=fun i=>by
    refine sn1.fi.nd.sublist (List.Sublist.map _ ?_);have:=List.Sublist.append (filter_sublist (p:=fun q:Bar×Nat=>decide (k < q.2) || !subB q.1 b) (l:=S1.1.take i)) (List.Sublist.refl (S1.1.drop i));rw[List.take_append_drop]at this;exact this
   walk_at "";refine seqL (xs:=ps.map V.ref) (fun i σ H'=>But en H2 H'∧H' ll=some (.lst (ps.map V.ref))∧H' en=some (.dT (lvK (Zdv (S1.1.take i) k b++S1.1.drop i)))∧∃v3,σ=[some (.ref dl),some (.ref en),some (.ref qa),v3]) ⟨fun x u _ z=>s3 _ _ z,e3,s3 _ _ ee,_,rfl⟩ (fun i σ H' _ hp=>SqL.of hp.2.1) ?_ ?_
   ·rintro i x σ H4 hx ⟨b4,l4,e4,v3,rfl⟩
    obtain⟨pa,rfl,hpa⟩:=ZeF hx;obtain⟨br,hbr,hB⟩:=ZbM p3' hpa;rw[getElem?_map]at hbr;obtain⟨⟨br',nn⟩,hL,rfl⟩:=Option.map_eq_some_iff.mp hbr;have dc:=Zof hL;have hB4:ZaO H4 pa br':=b4 _ _ (ZaK hB ee (by intro z; cases z)) hB;have hb4:ZaO H4 pb b:=b4 _ _ (ZaK hb ee (by intro z; cases z)) hb;have hq4:=b4 _ _ (ZaK hqt ee (by intro z; cases z)) hqt;have nds:=ndS i;rw[dc]at nds e4
    have nxt:(decide (k < nn) || !subB br' b)=true→∀H',H4=H'→But en H2 H'∧H' ll=some (.lst (ps.map V.ref))∧H' en=some (.dT (lvK (Zdv (S1.1.take (i+1)) k b++S1.1.drop (i+1)))):=fun z H' hh'=>by
     subst hh';refine⟨b4,l4,?_⟩;rw[Zky hL,if_pos z,append_assoc];exact e4
    walk_at "";refine⟨en,.int (nn:Int),rfl,Zod (.inl e4) nds (mem_append.mpr (.inr mem_cons_self)) hB4,?_⟩;walk_at "";refine Zbk hq4 (v:=.int (k:Int)) rfl ?_;walk_at "";refine ZdA (fun h1=>?_) (fun h1=>?_)
    ·walk_at ""
     refine Zbk hq4 (v:=.ref pb) rfl ?_;walk_at "";refine⟨pa,pb,br',b,rfl,hB4,hb4,sn1.fi.gd _ (mem_of_getElem? hL),hg,?_⟩;walk_at "";refine Zm7 (fun h2=>?_) (fun h2=>?_)
     ·walk_at ""
      refine⟨en,rfl,.inr ⟨_,.inl e4⟩,?_⟩;walk_at "";refine⟨_,kB br',pa,.int (nn:Int),e4,rfl,hB4,Zsu nds (mem_append.mpr (.inr mem_cons_self)),?_⟩;rw[ZsH nds];walk_at "";refine⟨fun x u hx z=>?_,?_,?_,_,rfl⟩
      ·rw[Zal hx]; exact b4 _ _ hx z
      ·rw[Zal nle]; exact l4
      ·rw[Zak,Zky hL,if_neg (by rw[h2,decide_eq_false (by omega)]; decide),append_nil]
     ·walk_at ""
      obtain⟨a1,a2,a3⟩:=nxt (by rw[h2]; simp) _ rfl;exact⟨a1,a2,a3,_,rfl⟩
    ·refine ZaF rfl ?_
     walk_at "";obtain⟨a1,a2,a3⟩:=nxt (by rw[decide_eq_true (show k < nn by omega)]; rfl) _ rfl;exact⟨a1,a2,a3,_,rfl⟩
   rintro σ H4 ⟨b4,l4,e4,v3',rfl⟩;rw[length_map,pl,take_length,List.drop_length,append_nil]at e4;have hb4:ZaO H4 pb b:=b4 _ _ (ZaK hb ee (by intro z; cases z)) hb;have hq4:=b4 _ _ (ZaK hqt ee (by intro z; cases z)) hqt;have kl:(Zdv S1.1 k b).length≤S1.1.length:=length_filter_le _ _;walk_at ""
   dsimp only
   refine ZiT ?_;walk_at "";refine Zbk hq4 (v:=.int (k:Int)) rfl ?_;walk_at "";refine Zbk hq4 (v:=.ref pb) rfl ?_;walk_at "";refine Zkw (k:=kB b) e4 hb4 (by rw[ZgB]; omega) fun H5 b5 e5=>?_;rw[Zpj (ZjI hcv)]at e5;have hq5:=b5 _ _ (ZaK hq4 e4 (by intro z; cases z)) hq4;walk_at "";refine Zbk hq5 (v:=.str "shut") rfl ?_;walk_at "";refine ZaF (decide_eq_false (by decide)) ?_;walk_at "";exact⟨rpS m S1 (.shut k b),_,_,b5.same n1 (b4.same n1 sm),e5,hPl,sn1.step G (e:=.shut k b) ok,rfl⟩
 ·rintro σ H2 ⟨S1,v2,v3,sm,ee,hPl,sn1,rfl⟩
  rw[length_map,ql,List.drop_length]at hPl;have hPl:S1=F:=hPl;subst hPl;walk_at "";exact q en H2 sm n1 ee
end
theorem Ztd (L:List (Bar×Nat)):(lvK L).map (·.2)=(L.map fun q=>((q.2:Nat):Int)).map V.int:=by
 unfold lvK;rw[map_map,map_map];rfl
theorem Zr7 {L:List (Bar×Nat)} {j:Nat}:((L.map fun q=>((q.2:Nat):Int)).any (· == (j:Int)))=true ↔ ∃b,(b,j)∈L:=by
 rw[any_map,any_eq_true]
 constructor
 ·rintro⟨q,hq,e⟩
  have e:((q.2:Nat):Int)=(j:Int):=by simpa using e
  have e:q.2=j:=by omega
  exact⟨q.1,by rw[←e]; exact hq⟩
 ·rintro⟨b,hb⟩
  exact⟨_,hb,by simp⟩
section
variable {P:Program} {w:World} {K:W.Frag} {mg:Str→Option Value} {base:Heap} {t:Ad}
def ZtC:Sp:=fun vs H Q _=>∃(a dl l:Addr) (qs:List Addr) (es:List Ev) (m st bd k:Nat) (af:List Nat) (L:List (Bar×Nat)) (cr:List Nat),vs=[.ref a,.ref dl,.int (st:Int),.int (bd:Int),.ref l]∧H dl=some (.lst (qs.map V.ref))∧Paired (EvAt H) qs es∧GoodC m st bd af∧m≤5∧PlS m st bd af ([],[st,2 ^ 2 ^ m - 1]) es (L,cr)∧st &&& bd=0∧cr.length≤2 ^ m+3∧Zic cr=some k∧(∀b,(b,k)∉L)∧ZnL H a ((L.filter fun q=>decide (k≤q.2)).map (·.1))∧AF l af m H∧∀H',Q (.bl true) H'
theorem ZqY (T:Txt K mg t):FnS P w K mg base 4 "_law_fence" ["_law_bars","_law_diary","_law_starts","_law_bads","_law_after"] (ZtC):=by
 refine⟨_,_,T.Zch.ok ZbE (fun vs H Q E h=>?_) (fun _ _ _ _ H vs Q E hr h=>?_),T.ZgO,T.Zch.kp,T.ZgW⟩
 ·obtain⟨a,dl,l,qs,es,m,st,bd,k,af,L,cr,rfl,hd,hq,G,hm5,hP,hz,hF,hk,hno,hB,A,q⟩:=h
  rfl
 obtain⟨a,dl,l,qs,es,m,st,bd,k,af,L,cr,rfl,hd,hq,G,hm5,hP,hz,hF,hk,hno,hB,A,q⟩:=h;have Zk7:=Ztj (P:=P) (w:=w) (base:=base) T;have Zk8:=Ztm (P:=P) (w:=w) (base:=base) T;have ZdB:=Zmk (P:=P) (w:=w) (base:=base) T;have hp:=Zbt G.m6;have h32:2 ^ m≤32:=Nat.pow_le_pow_right (n:=2) (by decide) hm5;have sn:Snd m st bd af (L,cr):=hP.snd G (Snd.init G hz);have fi:FI m st af L cr:=sn.fi;obtain⟨k1,k2,k3,k4⟩:=Zef (show Zbv cr (cr.length - 2) 1=some k from hk)
 have kl:k+1 < cr.length:=by omega
 have few:=SI.few (bd:=bd) (L:=L) (cr:=cr) ⟨fi,sn.nb,sn.ml,hF⟩ hm5;obtain⟨ps,bs,ea,pr,pm,ps2⟩:=hB;have ebs:bs=srtB (geB L k):=Zja pm ps2;have pl:=ZaC pr
 have bl:bs.length≤L.length:=by
  have z:=pm.length_eq;rw[length_map]at z;have z2:=length_filter_le (fun q:Bar×Nat=>decide (k≤q.2)) L;omega
 have bm:∀b,b∈bs ↔ ∃n,(b,n)∈L∧k≤n:=fun b=>by
  rw[pm.mem_iff]
  constructor
  ·intro h; exact ZsO (show b∈geB L k from h)
  ·rintro⟨n,h1,h2⟩
   exact mem_map.mpr ⟨(b,n),mem_filter.mpr ⟨h1,decide_eq_true h2⟩,rfl⟩
 have hfl:=A.fl
 refine⟨_,(Zab (ss 5 ZbE.nd (Zaw Zbq rfl T.B.len Zd4 (Zaa (pv 4) Zae)))
   (Zab (ss 6 ZbE.nd (ZaY Zk7 hr (Zaa (pv 1) Zae)))
   (Zab (ss 7 ZbE.nd Zac)
   (Zab (Zfd PassesOwn.never (Zu8 rfl (pv 7) (pv 6))
   (Zad (ss 7 ZbE.nd (Zaf ZaM (pv 7) Zac))))
   (Zab (Za0 (PW.pt (Zge (Zc1 (Zay (Zaw Zcq rfl T.B.isinstance ZaD (Zaa (pv 0) (Zaa (Zdx (v:=.ty "list") rfl T.B.list Zgs rfl) Zae))) (fun _=>rfl))) (ZeO (Zan (ZgZ hr.units) (pv 0) (Zaw Zgt rfl T.B.sorted Zhs (Zaa (Zq5 (ZfK (sc:=Zah ZdO) (N:=["_law_bars","_law_diary","_law_starts","_law_bads","_law_after","_law_size","_law_ends_here","_law_k","_law_bar","_law_left_here"]) (ns:=["_law_k","_law_ends_here"]) (ix:=[7,6]) rfl rfl (by decide +kernel) rfl (Ztr (ZjQ (pv 6))) (fun _ _ _ _=>(ZhY (Zan ZuW (Zpc (Nat.lt_of_le_of_lt (Nat.add_le_add_left (by decide) _) hr.units) (pv 2) (pv 0) (fun _ _=>rfl)) (pv 1) (Zap _)))) (fun _ _ _ _=>(pv 0)))) Zae)) (Zap _)))))
   (Zad (Zas ZhT))
   Zar)
   (Zab (Zco PassesOwn.never rfl (Zfx (pv 0)) (sg 8 ZbE.nd)
   (Zad (Za0 (PW.pt (Zge (Zc1 (Zay (Zaw Zcq rfl T.B.isinstance ZaD (Zaa (pv 8) (Zaa (Zdx (v:=.ty "tuple") rfl T.B.tuple Zjf rfl) Zae))) (fun _=>rfl))) (Zge (Zay (Zaw Zcq rfl T.B.isinstance ZaD (Zaa (ZaQ Zav (pv 8) Zac (fun _ _=>rfl)) (Zaa (Zdx (v:=.ty "bool") rfl T.B.bool Zje rfl) Zae))) (fun _=>rfl)) (ZeO (Zay (Zaw Zcq rfl T.B.isinstance ZaD (Zaa (ZaQ Zav (pv 8) Zac (fun _ _=>rfl)) (Zaa (Zdx (v:=.ty "bool") rfl T.B.bool Zje rfl) Zae))) (fun _=>rfl))))))
   (Zad (Zas ZhT))
   Zar)))
   (Zab (ss 9 ZbE.nd (ZaY Zk8 hr (Zaa (pv 5) (Zaa (pv 0) Zae))))
   (Zad (Zas (Zg0 (ZcE (ZaN hr.units) (Zaf ZaL (pv 2) (ZgD Zfy (pv 9))) Zac (Zap _)) (Zg0 (ZcE (ZaN hr.units) (Zaf ZaL (pv 3) (pv 9)) Zac (Zap _)) (ZhV (ZcE (ZaN hr.units) (Zaf ZaL (ZaY ZdB hr (Zaa (pv 4) (Zaa (pv 9) Zae))) (ZgD Zfy (pv 9))) Zac (Zap _)))))))))))))),?_⟩
 walk_at "rd0";rw[ZaG,A.len];refine⟨dl,qs,es,m,st,bd,af,([],[st,2 ^ 2 ^ m - 1]),(L,cr),rfl,hd,hq,G,hm5,hP,rfl,Snd.init G hz,hF,fun en H1 s1 n1 e1=>?_⟩;have e1:H1 en=some (.dT (lvK L)):=e1;walk_at "";refine⟨fun mm σ H'=>∃j:Nat,H'=H1∧1≤j∧j≤k∧mm=k - j∧σ=[some (.ref a),some (.ref dl),some (.int (st:Int)),some (.int (bd:Int)),some (.ref l),some (.int ((2 ^ m:Nat):Int)),some (.ref en),some (.int (j:Int)),none,none],⟨_,1,rfl,Nat.le_refl _,k1,rfl,rfl⟩,?_⟩;rintro mm σ H' ⟨j,rfl,j1,jk,rfl,rfl⟩;walk_at "";refine ZvQ ?_;walk_at "";refine⟨en,lvK L,L.map fun q=>((q.2:Nat):Int),_,rfl,rfl,e1,Ztd L,?_⟩;refine⟨_,rfl,?_⟩
 by_cases hj:j < k
 ·obtain⟨b,hb⟩:=Zrn fi j1 (by omega) (k4 j j1 hj)
  refine Zca (Zr7.mpr ⟨b,hb⟩) ⟨fun σ' H''=>∃m',m' < k - j∧∃j:Nat,H''=H'∧1≤j∧j≤k∧m'=k - j∧σ'=[some (.ref a),some (.ref dl),some (.int (st:Int)),some (.int (bd:Int)),some (.ref l),some (.int ((2 ^ m:Nat):Int)),some (.ref en),some (.int (j:Int)),none,none],fun _ _ z=>z,?_⟩;walk_at "";rw[show((j:Int)+1)=((j+1:Nat):Int) by omega];exact⟨k - (j+1),by omega,j+1,rfl,by omega,by omega,rfl,rfl⟩
 have hj:j=k:=by omega
 subst hj
 have hany:((L.map fun q=>((q.2:Nat):Int)).any (· == (j:Int)))=false:=by
  cases z:((L.map fun q=>((q.2:Nat):Int)).any (· == (j:Int))) with
  | false=>rfl
  | true=>
   obtain⟨b,hb⟩:=Zr7.mp z;exact absurd hb (hno b)
 refine ZaF hany ?_;have ea1:=s1 _ _ ea;have pr1:Paired (ZaO H') ps bs:=Zax (fun _ _ z=>s1 _ _ z) pr;walk_at "";refine ZaF rfl ?_;walk_at "";refine ZpY (H0:=H) (fun n=>decide (j≤n)) (L:=L) (e:=en) rfl e1 (fun o u z=>by rw[n1]at z; cases z) (by omega) ?_ ?_
 ·intro p b n H'' R hmm hr hb kk
  simp only [subS,map_cons,map_nil];walk_at "";refine⟨en,.int (n:Int),rfl,Zod hr fi.nd hmm hb,?_⟩;walk_at "";rw[show decide ((j:Int)≤(n:Int))=decide (j≤n) from decide_eq_decide.mpr (by omega)];exact kk
 intro acc ps0 H3 s3 n3 e3 p3;walk_at "";refine Zny (bs:=geB L j) e3 p3 (Nat.lt_of_le_of_lt (ZsN L j) (by omega)) fun r qs4 H4 s4 n4 er hps _=>?_;have s14:=s3.trans s4;have ea4:=s14 _ _ ea1;have pr4:Paired (ZaO H4) ps bs:=Zax (fun _ _ z=>s14 _ _ z) pr1;walk_at "";refine Zuq ea4 er (Zfc pr4) (Zfc hps) ?_;rw[←ebs,decide_eq_true rfl];walk_at "";refine ZaF rfl ?_;walk_at "";refine seqL (xs:=ps.map V.ref) (fun i σ H''=>H''=H4∧∃v8,σ=[some (.ref a),some (.ref dl),some (.int (st:Int)),some (.int (bd:Int)),some (.ref l),some (.int ((2 ^ m:Nat):Int)),some (.ref en),some (.int (j:Int)),v8,none]) ⟨rfl,_,rfl⟩ (fun i σ H'' _ hp=>by obtain⟨rfl,_⟩:=hp; exact SqL.of ea4) ?_ ?_
 ·rintro i x σ H'' hx ⟨rfl,v8,rfl⟩
  obtain⟨pa,rfl,hpa⟩:=ZeF hx;obtain⟨b,hbi,hB⟩:=ZbM pr4 hpa;have hBt:H'' pa=some (.tup [.int (b.1:Int),.int (b.2:Int)]):=hB;walk_at "";refine ZaF rfl ?_;walk_at "";refine Zbk hBt (v:=.int (b.1:Int)) rfl ?_;walk_at "";refine ZaF rfl ?_;walk_at "";refine Zbk hBt (v:=.int (b.2:Int)) rfl ?_;walk_at "";refine ZaF rfl ?_;walk_at "";exact⟨rfl,_,rfl⟩
 rintro σ H'' ⟨rfl,v8,rfl⟩;walk_at "";refine⟨a,2 ^ m,ps,bs,rfl,hp,ea4,pr4,fun b hb=>by obtain⟨n,h1,_⟩:=(bm b).mp hb; exact fi.gd _ h1,fun X hX=>?_⟩
 have hXe:X=cr.getD j 0:=Nat.eq_of_testBit_eq fun s=>by
  have h1:=(hX s).trans (Iff.trans ⟨fun h=>⟨h.1,fun q hq hl=>h.2 q.1 ((bm q.1).mpr ⟨q.2,hq,hl⟩)⟩,fun h=>⟨h.1,fun b hb=>by obtain⟨n,g1,g2⟩:=(bm b).mp hb; exact h.2 _ g1 g2⟩⟩ (fi.kp j k1 (by omega) s).symm)
  cases e1:X.testBit s <;> cases e2:(cr.getD j 0).testBit s
  ·rfl
  ·have:=h1.mpr e2; rw[e1]at this; cases this
  ·have:=h1.mp e1; rw[e2]at this; cases this
  ·rfl
 subst hXe;have l4:H'' l=some (.lst ((nums af).map V.int)):=s14 _ _ (s1 _ _ hfl);walk_at "";rw[Zba,subz (fun s hs=>fi.mono G.st (Nat.zero_le j) (by omega) (by rw[fi.st0]; exact hs))];refine Zca rfl ?_;walk_at "";rw[Za1,Nat.and_comm,show cr.getD j 0 &&& bd=0 from sn.nb j kl];refine Zca rfl ?_;walk_at "";refine⟨l,af,_,rfl,l4,by rw[A.len]; exact hp,?_⟩;walk_at "";rw[Zba,subz (ZnV fun s x hs hx=>by rw[k3]; exact fi.stp j kl s x hs hx)];exact q _
end
theorem Zsv {m st bd:Nat} {af:List Nat} {n:Nat} {ws:List Nat} (W:Way m st bd af n ws) {X:Nat} (h0:∀s,st.testBit s=true→X.testBit s=true) (h1:∀s x,X.testBit s=true→(af.getD s 0).testBit x=true→X.testBit x=true):∀(i x:Nat),ws[i]?=some x→X.testBit x=true
 | 0,x,h=>by
  obtain⟨y,hy,hs⟩:=W.hd;rw[hy]at h
  cases h
  exact h0 _ hs
 | i+1,x,h=>by
  have hi:=(List.getElem?_eq_some_iff.mp h).1;obtain⟨y,hy⟩ : ∃y,ws[i]?=some y:=⟨_,List.getElem?_eq_getElem (show i < ws.length by omega)⟩;exact h1 y x (Zsv W h0 h1 i y hy) (W.sp i y x hy h)
theorem Zmm (f:Nat→Nat) (k:Nat):∀n s,s < n→(f s).testBit k=true→(orUp f n).testBit k=true
 | 0,s,h,_=>by omega
 | n+1,s,h,hb=>by
  rw[show orUp f (n+1)=orUp f n ||| f n from rfl,Nat.testBit_or,Bool.or_eq_true]
  by_cases e:s=n
  ·subst e; exact .inr hb
  ·exact .inl (Zmm f k n s (by omega) hb)
theorem Zrt {af:List Nat} {c s x:Nat} (hs:s < af.length) (h1:c.testBit s=true) (h2:(af.getD s 0).testBit x=true):(ahN af c).testBit x=true:=by
 unfold ahN;refine Zmm _ _ _ s hs ?_;rw[if_pos h1];exact h2
theorem ZtX {af:List Nat} {s x:Nat} (h:(af.getD s 0).testBit x=true):s < af.length:=by
 rcases Nat.lt_or_ge s af.length with z | z
 ·exact z
 ·rw[getD_eq_getElem?_getD,List.getElem?_eq_none z]at h
  rw[show(Option.none:Option Nat).getD 0=0 from rfl,Nat.zero_testBit]at h
  cases h
theorem Zp6 {m st bd:Nat} {af:List Nat} {n:Nat} {ws:List Nat} (W:Way m st bd af n ws):∀(i x:Nat),ws[i]?=some x→(layN af st i).testBit x=true
 | 0,x,h=>by
  obtain⟨y,hy,hs⟩:=W.hd;rw[hy]at h
  cases h
  exact hs
 | i+1,x,h=>by
  have hi:=(List.getElem?_eq_some_iff.mp h).1;obtain⟨y,hy⟩ : ∃y,ws[i]?=some y:=⟨_,List.getElem?_eq_getElem (show i < ws.length by omega)⟩;have hsp:=W.sp i y x hy h;show(layN af st i ||| ahN af (layN af st i)).testBit x=true;rw[Nat.testBit_or,Bool.or_eq_true];exact .inr (Zrt (ZtX hsp) (Zp6 W i y hy) hsp)
theorem Zmd {af:List Nat} {st:Nat}:∀{i j:Nat},i≤j→∀s,(layN af st i).testBit s=true→(layN af st j).testBit s=true
 | i,0,h,s,hs=>by
  rw[show i=0 by omega]at hs;exact hs
 | i,j+1,h,s,hs=>by
  by_cases e:i=j+1
  ·rw[←e]; exact hs
  ·show(layN af st j ||| ahN af (layN af st j)).testBit s=true
   rw[Nat.testBit_or,Bool.or_eq_true];exact .inl (Zmd (by omega) s hs)
theorem ZgA {af:List Nat} {st X:Nat} (h0:∀s,st.testBit s=true→X.testBit s=true) (h1:∀s x,X.testBit s=true→(af.getD s 0).testBit x=true→X.testBit x=true):∀i s,(layN af st i).testBit s=true→X.testBit s=true
 | 0,s,hs=>h0 s hs
 | i+1,s,hs=>Zsa (ZgA h0 h1 i) (ZnV fun a b ha hb=>h1 a b (ZgA h0 h1 i a ha) hb) s (show(layN af st i ||| ahN af (layN af st i)).testBit s=true from hs)
theorem Zr4 {m st bd:Nat} {af:List Nat} {S:FS} (h:Snd m st bd af S) (hst:st < 2 ^ 2 ^ m):∀j,j < S.2.length→∀s,(layN af st j).testBit s=true→(S.2.getD j 0).testBit s=true
 | 0,_,s,hs=>by rw[h.fi.st0]; exact hs
 | j+1,hj,s,hs=>by
  have ih:=Zr4 h hst j (by omega);exact Zsa (fun s hs=>h.fi.mono hst (Nat.le_succ j) hj (ih s hs)) (ZnV fun x y hx hy=>h.fi.stp j hj x y (ih x hx) hy) s (show(layN af st j ||| ahN af (layN af st j)).testBit s=true from hs)
theorem ZqM {m st:Nat} {af:List Nat} (hb:∀x∈af,x < 2 ^ 2 ^ m) (hst:st < 2 ^ 2 ^ m) {n:Nat} (hne : ¬layN af st n ||| ahN af (layN af st n)=layN af st n):pc (layN af st n) (2 ^ m) < pc (layN af st (n+1)) (2 ^ m):=by
 obtain⟨x,hx⟩ : ∃x,(layN af st (n+1)).testBit x≠(layN af st n).testBit x:=Nat.exists_testBit_ne_of_ne hne
 have sub:∀x,(layN af st n).testBit x=true→(layN af st (n+1)).testBit x=true:=fun x hx=>by
  show(layN af st n ||| ahN af (layN af st n)).testBit x=true;rw[Nat.testBit_or,hx]; rfl
 have x1:(layN af st n).testBit x=false:=by
  cases e:(layN af st n).testBit x with
  | false=>rfl
  | true=>exact absurd ((sub x e).trans e.symm) hx
 have x2:(layN af st (n+1)).testBit x=true:=by
  cases e:(layN af st (n+1)).testBit x with
  | true=>rfl
  | false=>exact absurd (e.trans x1.symm) hx
 exact Zq1 sub x1 x2 (2 ^ m) (Zhr (ZoQ hb hst (n+1)) x2)
def Shy (af:List Nat) (st bd n:Nat):Prop:=layN af st n &&& bd=0∧∀s x,(layN af st n).testBit s=true→(af.getD s 0).testBit x=true→(layN af st n).testBit x=true
theorem Ztz {m st bd:Nat} {af:List Nat} {n k:Nat} {ws:List Nat} (h:Shy af st bd n) (W:Way m st bd af k ws):False:=by
 obtain⟨x,hx,hb⟩:=W.la;have:=Zsv W (X:=layN af st n) (fun s hs=>Zmd (Nat.zero_le n) s hs) h.2 _ x hx;have z:=Zaj.mp h.1 x this;rw[hb]at z
 cases z
theorem Zp7 {m st bd:Nat} {af:List Nat} {L:List (Bar×Nat)} {cr ws:List Nat} {n:Nat} (hst:st < 2 ^ 2 ^ m) (si:SI m st bd af L cr) (W:Way m st bd af cr.length ws) (hb:layN af st n &&& bd≠0) (hn:∀j,j < n→layN af st j &&& bd=0):cr.length=n+1:=by
 have l2:=si.fi.len2;obtain⟨x,hx,hxb⟩:=W.la;have h1:=Zp6 W _ x hx
 have le1:n≤cr.length - 1:=by
  rcases Nat.lt_or_ge (cr.length - 1) n with z | z
  ·have:=Zaj.mp (hn _ z) x h1
   rw[hxb]at this
   cases this
  ·exact z
 have le2:cr.length - 1≤n:=by
  rcases Nat.lt_or_ge n (cr.length - 1) with z | z
  ·refine absurd (Zaj.mpr fun s hs=>?_) hb
   exact Zaj.mp (si.nb n (by omega)) s (Zr4 (S:=(L,cr)) ⟨si.fi,si.nb,si.ml⟩ hst n (show n < cr.length by omega) s hs)
  ·exact z
 omega
section
variable {P:Program} {w:World} {K:W.Frag} {mg:Str→Option Value} {base:Heap} {t:Ad}
theorem Zr2 {l b:Addr} {xs zs:List V} {H:Hp} {Q:VK} (h1:H l=some (.lst xs)) (h2:H b=some (.lst zs)) (z:xs.length+zs.length≤1000000) (k:∀(p:Addr) (H':Hp),Same H H'→H p=none→H' p=some (.lst (xs++zs))→Q (.ref p) H'):Zpl (.ref l) (.ref b) H Q:=ZrD h1 h2 (Zrm z) fun p hp=>k p _ (Zbn hp _) hp Zak
theorem ok_law (T:Txt K mg t):FnOk P w K mg base CX0 20 t.f_law t.d_law ["_law_script"] (spLaw K):=by
 refine T.F_law.ok ZcU (fun vs H Q E h=>?_) (fun _ _ _ _ H vs Q E hr h=>?_)
 ·obtain⟨a,ns,rfl,_⟩:=h
  rfl
 obtain⟨sc,ns,rfl,hS,h63,hO,q⟩:=h;have ZaR:=ZgC (P:=P) (w:=w) (base:=base) T;have Zey:=Zly (P:=P) (w:=w) (base:=base) T;have Zhj:=Zlw (P:=P) (w:=w) (base:=base) T;have Zg4:=ZkL (P:=P) (w:=w) (base:=base) T;have ZdB:=Zmk (P:=P) (w:=w) (base:=base) T;have ZmL:=ZuS (P:=P) (w:=w) (base:=base) T;have Zj9:=ZqY (P:=P) (w:=w) (base:=base) T;have ZtS:=Ztl (P:=P) (w:=w) (base:=base) T;have Zsy:=ZqX (P:=P) (w:=w) (base:=base) T
 refine⟨_,(Zab (ss 1 ZcU.nd (ZaY ZaR hr (Zaa (pv 0) (Zaa Zac Zae))))
   (Zab (ss 2 ZcU.nd (Zaf ZaM Zac (Zaf Zbw (pv 1) Zac)))
   (Zab (Za0 (Zan (ZaN hr.units) (Zaf Zbw (Zaf Zb0 (pv 1) Zac) Zac) Zac (Zap _))
   (Zad (ss 2 ZcU.nd Zac))
   Zar)
   (Zab (ss 3 ZcU.nd (Zaf ZbF Zac (pv 2)))
   (Zab (ss 4 ZcU.nd (ZaY Zey hr (Zaa (Zaf ZaM (ZaY ZaR hr (Zaa (pv 0) (Zaa Zac Zae))) Zac) (Zaa (pv 3) Zae))))
   (Zab (ss 5 ZcU.nd (ZaY Zey hr (Zaa (Zaf Zea (Zaf ZaM (ZaY ZaR hr (Zaa (pv 0) (Zaa Zac Zae))) (Zaf ZjN Zac (pv 3))) Zac) (Zaa (pv 3) Zae))))
   (Zab (Za0 (Zan (ZgZ hr.units) (Zaf Zbw (ZaY ZaR hr (Zaa (pv 0) (Zaa Zac Zae))) Zac) Zac (Zap _))
   (Zad (ss 5 ZcU.nd (Zaf ZaL (pv 5) (ZgD Zfy (pv 4)))))
   Zar)
   (Zab (ss 6 ZcU.nd (ZaY Zhj hr (Zaa (pv 0) (Zaa (pv 2) Zae))))
   (Zab (Za0 (Zan (ZaN hr.units) (Zaf Zbw (Zaf Zb0 (pv 1) Zac) Zac) Zac (Zap _))
   (Zad (ss 6 ZcU.nd (ZaY Zg4 hr (Zaa (pv 0) (Zaa (pv 3) Zae)))))
   Zar)
   (Zab (Za0 (Zan (ZaN hr.units) (pv 2) Zac (Zap _))
   (Zad (ss 6 ZcU.nd (Zaf ZaM (Zaf ZaM (ZfK (sc:=Zah Zg9) (N:=["_law_script","_law_first","_law_many","_law_size","_law_starts","_law_bads","_law_after","_law_steps","_law_flood","_law_diary","_law_end"]) (ns:=["_law_bads","_law_after"]) (ix:=[5,6]) rfl rfl (by decide +kernel) rfl (Zcv rfl T.B.range (Zaa Zac Zae)) (fun _ _ _ _=>ZjT) (fun _ _ _ _=>(Zaf ZaL (ZaQ (Zjy (K:=K) rfl) (pv 2) (pv 0) (fun _ _=>rfl)) (pv 1)))) (Zq4 Zvj (pv 6) (Zpf Zac) (Zpf Zac))) (ZfK (sc:=Zah Zg9) (N:=["_law_script","_law_first","_law_many","_law_size","_law_starts","_law_bads","_law_after","_law_steps","_law_flood","_law_diary","_law_end"]) (ns:=["_law_after"]) (ix:=[6]) rfl rfl (by decide +kernel) rfl (ZeM rfl T.B.range (Zaa Zac (Zaa Zac Zae))) (fun _ _ _ _=>ZjT) (fun _ _ _ _=>(Zaf ZaL (ZaQ (Zjy (K:=K) rfl) (pv 1) (pv 0) (fun _ _=>rfl)) Zac))))))
   Zar)
   (Zab (ss 7 ZcU.nd Zac)
   (Zab (ss 8 ZcU.nd (pv 4))
   (Zab (Zfd PassesOwn.never (PW.pt (Zms (Zan (ZaN hr.units) (Zaf ZaL (pv 8) (pv 5)) Zac (Zap _)) (ZjU (Zan (ZgZ hr.units) (Zaf ZaL (ZaY ZdB hr (Zaa (pv 6) (Zaa (pv 8) Zae))) (ZgD Zfy (pv 8))) Zac (Zap _)))))
   (Zab (ss 8 ZcU.nd (Zaf Znr (pv 8) (ZaY ZdB hr (Zaa (pv 6) (Zaa (pv 8) Zae)))))
   (Zad (ss 7 ZcU.nd (Zaf ZaM (pv 7) Zac)))))
   (Zab (Zi7 (ZaY ZtS hr (Zaa (Zu5 Zsy hr (Zaa (pv 2) (Zaa (pv 4) (Zaa (pv 5) (Zaa (ZhU ZmX rfl T.B.list Zgs (Zaa (pv 6) Zae)) Zae))))) Zae)) (ZkQ rfl (ZcM (sg 9 ZcU.nd) (ZcM (sg 10 ZcU.nd) ZhW))))
   (Zab (Za0 (PW.pt (Zge (Zc1 (Zay (Zaw Zcq rfl T.B.isinstance ZaD (Zaa (pv 10) (Zaa (Zdx (v:=.ty "tuple") rfl T.B.tuple Zjf rfl) Zae))) (fun _=>rfl))) (ZeO (Zan (ZgZ hr.units) (Zaw Zbq rfl T.B.len Zd4 (Zaa (pv 10) Zae)) Zac (Zap _)))))
   (Zad (Zas ZhT))
   Zar)
   (Zab (Za0 (Zan (ZaN hr.units) (Zaf ZaL (pv 8) (pv 5)) Zac (Zap _))
   (Zad (Zas (Zg0 (ZcE (ZaN hr.units) (ZaQ Zav (pv 10) Zac (fun _ _=>rfl)) Zeb (Zap _)) (ZhV (ZaY Zj9 hr (Zaa (ZaQ Zav (pv 10) Zac (fun _ _=>rfl)) (Zaa (pv 9) (Zaa (pv 4) (Zaa (pv 5) (Zaa (pv 6) Zae))))))))))
   Zar)
   (Zab (Za0 (PW.pt (Zge (Zan (ZgZ hr.units) (ZaQ Zav (pv 10) Zac (fun _ _=>rfl)) Zeb (Zap _)) (ZeO (Zc1 (Zay (ZaY ZmL hr (Zaa (ZaQ Zav (pv 10) Zac (fun _ _=>rfl)) (Zaa (pv 4) (Zaa (pv 5) (Zaa (pv 6) (Zaa (pv 7) Zae)))))) (fun _=>rfl))))))
   (Zad (Zas ZhT))
   Zar)
   (Zab (Za0 (Zan (ZaN hr.units) (pv 7) Zac (Zap _))
   (Zad (Zas (ZcE (ZaN hr.units) (pv 9) (Zgd Zae) (Zap _))))
   Zar)
   (Zad (Zas (ZcE (ZaN hr.units) (Zaf ZaM Zac (Zaw Zbq rfl T.B.len Zd4 (Zaa (ZfK (sc:=Zah Zg9) (N:=["_law_script","_law_first","_law_many","_law_size","_law_starts","_law_bads","_law_after","_law_steps","_law_flood","_law_diary","_law_end"]) (ns:=[]) (ix:=[]) rfl rfl (by decide +kernel) rfl (Zfx (pv 9)) (fun _ _ _ _=>(ZhY (Zan (ZaN hr.units) (ZaQ (Zjy (K:=K) rfl) (pv 0) Zac (fun _ _=>rfl)) Zeb (Zap _)))) (fun _ _ _ _=>(pv 0))) Zae))) (pv 7) (Zap _)))))))))))))))))))))),?_⟩
 walk_at "rs0";refine Zoy ?_;walk_at "rs";refine⟨sc,ns,0,rfl,hS,?_⟩;generalize cell ns 0 % 10 ^ 60=y0;walk_at "rs";refine Zoy ?_;walk_at "rs";refine ZiU (fun σ H'=>∃m:Nat,H=H'∧1≤m∧m≤5∧σ=[some (.ref sc),some (.int y0),some (.int (m:Int)),none,none,none,none,none,none,none,none]) ?_ ?_
 rotate_left
 ·intro Kn hK
  walk_at "";refine ZdA (fun h1=>?_) (fun h1=>?_)
  ·walk_at ""
   exact hK _ _ ⟨5,rfl,by omega,by omega,rfl⟩
  ·walk_at ""
   exact hK _ _ ⟨(1+y0 % 4).toNat,rfl,by omega,by omega,by rw[show(((1+y0 % 4).toNat:Nat):Int)=1+y0 % 4 by omega]⟩
 rintro σ H0 ⟨m,rfl,hm1,hm5,rfl⟩
 have hm6:m≤6:=by omega
 have hp:=Zbt hm6;have h32:2 ^ m≤32:=Nat.pow_le_pow_right (n:=2) (by decide) hm5;have hp0:0 < 2 ^ m:=Nat.two_pow_pos m;have h2p:0 < 2 ^ 2 ^ m:=Nat.two_pow_pos _;walk_at "";rw[ZaZ];refine⟨sc,ns,1,rfl,hS,?_⟩;walk_at "";refine⟨_,m,rfl,hm6,fun st hst=>?_⟩;walk_at "";refine⟨sc,ns,2,rfl,hS,?_⟩;walk_at "";refine ZiV (.inl ⟨by omega,by omega⟩) ?_;walk_at "";refine⟨_,m,rfl,hm6,fun b0 hb0=>?_⟩
 dsimp only [Zhw]
 refine ZiU (fun σ H'=>∃bd:Nat,H=H'∧bd < 2 ^ 2 ^ m∧σ=[some (.ref sc),some (.int y0),some (.int (m:Int)),some (.int ((2 ^ m:Nat):Int)),some (.int (st:Int)),some (.int (bd:Int)),none,none,none,none,none]) ?_ ?_
 rotate_left
 ·intro Kn hK
  walk_at "";refine⟨sc,ns,4,rfl,hS,?_⟩;walk_at "";refine Zov (fun h1=>?_) (fun h1=>?_)
  ·walk_at ""
   rw[Zba];exact hK _ _ ⟨_,rfl,by omega,rfl⟩
  ·walk_at ""
   exact hK _ _ ⟨_,rfl,hb0,rfl⟩
 clear hb0 b0;rintro σ H0 ⟨bd,rfl,hbd,rfl⟩;walk_at "";refine⟨sc,ns,m,rfl,hS,by omega,hm5,fun l0 H1 af0 s1 n1 A1=>?_⟩
 dsimp only [Zhw]
 refine ZiU (fun σ H'=>∃l af,Same H H'∧AF l af m H'∧σ=[some (.ref sc),some (.int y0),some (.int (m:Int)),some (.int ((2 ^ m:Nat):Int)),some (.int (st:Int)),some (.int (bd:Int)),some (.ref l),none,none,none,none]) ?_ ?_
 rotate_left
 ·intro Kn hK
  walk_at "";refine ZdA (fun h1=>?_) (fun h1=>?_)
  ·walk_at ""
   refine⟨sc,ns,m,rfl,s1.seq hS,hm6,fun l' H3 af' s3 n3 A3=>?_⟩;walk_at "";exact hK _ _ ⟨_,_,s1.trans s3,A3,rfl⟩
  ·walk_at ""
   exact hK _ _ ⟨_,_,s1,A1,rfl⟩
 clear n1 A1 s1 H1 af0 l0;rintro σ H2 ⟨l,af,s2,A2,rfl⟩;refine ZiU (fun σ H'=>∃l af,Same H H'∧AF l af m H'∧σ=[some (.ref sc),some (.int y0),some (.int (m:Int)),some (.int ((2 ^ m:Nat):Int)),some (.int (st:Int)),some (.int (bd:Int)),some (.ref l),none,none,none,none]) ?_ ?_
 rotate_left
 ·intro Kn hK
  walk_at "";refine ZdA (fun h1=>?_) (fun h1=>?_)
  rotate_left
  ·walk_at ""
   exact hK _ _ ⟨_,_,s2,A2,rfl⟩
  have hm:m=5:=by omega
  subst hm;walk_at "";refine⟨10,rfl,by omega,by omega,?_⟩;have lf:af.length=32:=A2.len;refine ZfB (fun i ys=>ys=(nums ((List.range i).map fun s=>af.getD s 0 &&& bd)).map V.int) (Zj5 0 10 H2) (by simp) rfl ?_ ?_
  ·intro i x ys acc H' hx s1 hacc ea hy _ R k
   obtain⟨hi,rfl⟩:=Zhy hx;rw[Int.zero_add];simp only [subS,map_cons,map_nil];walk_at "";rw[Int.zero_add]at k;refine k _ H' (Same.refl _) (fun z=>by cases z) fun z R2 k2=>?_;walk_at "";refine Zfi (s1 _ _ A2.fl) (Za2 (by omega)) ?_;walk_at "";rw[Za1];refine k2 _ H' (Same.refl _) ?_;rw[hy,range_succ,map_append,List.map_singleton,ZcS]
  intro a1 ys H3 m1 t1 e3 hy;rw[length_map,length_range]at hy;subst hy;walk_at "";refine ZvW (SqL.of (t1 _ _ A2.fl)) ((ZsG _ 10 22).trans (Zls _ 10 12)) fun a2 H4 t2 m2 e4=>?_;walk_at "";refine Zr2 (t2 _ _ e3) e4 (by simp[nums,lf]) fun a3 H5 t3 m3 e5=>?_;walk_at "";refine⟨22,32,rfl,by omega,?_⟩;refine ZfB (fun i ys=>ys=(nums ((List.range i).map fun s=>af.getD (22+s) 0 &&& 15)).map V.int) (Zj5 22 10 H5) (by simp) rfl ?_ ?_
  ·intro i x ys acc H' hx s1 hacc ea hy _ R k
   obtain⟨hi,rfl⟩:=Zhy hx;simp only [subS,map_cons,map_nil];walk_at "";refine k _ H' (Same.refl _) (fun z=>by cases z) fun z R2 k2=>?_;walk_at "";rw[show(22:Int)+(i:Int)=((22+i:Nat):Int) by omega];refine Zfi (s1 _ _ (t3 _ _ (t2 _ _ (t1 _ _ A2.fl)))) (Za2 (by omega)) ?_;walk_at "";rw[show(15:Int)=((15:Nat):Int) from rfl,Za1];refine k2 _ H' (Same.refl _) ?_;rw[hy,range_succ,map_append,List.map_singleton,ZcS]
  intro a4 ys H6 m4 t4 e6 hy;rw[length_map,length_range]at hy;subst hy;walk_at "";refine Zr2 (t4 _ _ e5) e6 (by simp[nums,lf]) fun a5 H7 t5 m5 e7=>?_;walk_at "";refine hK _ _ ⟨a5,((List.range 10).map fun s=>af.getD s 0 &&& bd)++(af.drop 10).take 12++((List.range 10).map fun s=>af.getD (22+s) 0 &&& 15),s2.trans (t1.trans (t2.trans (t3.trans (t4.trans t5)))),⟨?_,by simp[lf],fun x hx=>?_⟩,rfl⟩
  ·rw[e7]
   simp only [nums,map_append,List.map_take,List.map_drop]
  ·rw[mem_append,mem_append]at hx
   rcases hx with(hx | hx) | hx
   ·obtain⟨s,_,rfl⟩:=mem_map.mp hx
    exact Nat.lt_of_le_of_lt Nat.and_le_left (Zhx A2.bd h2p)
   ·exact A2.bd x (List.mem_of_mem_drop (List.mem_of_mem_take hx))
   ·obtain⟨s,_,rfl⟩:=mem_map.mp hx
    exact Nat.lt_of_le_of_lt Nat.and_le_left (Zhx A2.bd h2p)
 clear s2 A2 af H2 l;rintro σ H2 ⟨l,af,s2,A2,rfl⟩;have G:GoodC m st bd af:=⟨hm1,hm6,hst,hbd,A2.len,A2.bd⟩;have ln2:=A2.len;walk_at "rs";refine Zoy ?_;walk_at "rs";refine Zoy ?_;walk_at "rs";refine ZiU (fun σ H'=>∃n:Nat,H2=H'∧n≤64∧(∀j,j < n→layN af st j &&& bd=0)∧(layN af st n &&& bd≠0∨Shy af st bd n)∧σ=[some (.ref sc),some (.int y0),some (.int (m:Int)),some (.int ((2 ^ m:Nat):Int)),some (.int (st:Int)),some (.int (bd:Int)),some (.ref l),some (.int (n:Int)),some (.int ((layN af st n:Nat):Int)),none,none]) ?_ ?_
 rotate_left
 ·intro Kn hK
  walk_at "";refine⟨fun mm σ H'=>∃n:Nat,H2=H'∧n≤pc (layN af st n) (2 ^ m)∧(∀j,j < n→layN af st j &&& bd=0)∧mm=2 ^ m - pc (layN af st n) (2 ^ m)∧σ=[some (.ref sc),some (.int y0),some (.int (m:Int)),some (.int ((2 ^ m:Nat):Int)),some (.int (st:Int)),some (.int (bd:Int)),some (.ref l),some (.int (n:Int)),some (.int ((layN af st n:Nat):Int)),none,none],⟨_,0,rfl,Nat.zero_le _,fun j hj=>absurd hj (Nat.not_lt_zero _),rfl,rfl⟩,?_⟩;rintro mm σ H4 ⟨n,rfl,hn,hj,rfl,rfl⟩;have pl:=ZlC (layN af st n) (2 ^ m);walk_at "";rw[Za1]
  by_cases h1:layN af st n &&& bd=0
  rotate_left
  ·refine ZaF (decide_eq_false (by omega)) ?_
   refine ZaF rfl ?_;exact hK _ _ ⟨n,rfl,by omega,hj,.inl h1,rfl⟩
  ·refine Zca (decide_eq_true (by omega)) ?_
   walk_at "";refine⟨l,af,layN af st n,rfl,A2.fl,by omega,?_⟩;walk_at "";rw[Zba]
   by_cases h2:ahN af (layN af st n) - (ahN af (layN af st n) &&& layN af st n)=0
   ·refine ZaF (by rw[h2]; rfl) ?_
    refine hK _ _ ⟨n,rfl,by omega,hj,.inr ⟨h1,fun s x hs hx=>?_⟩,rfl⟩;have ha:=Zrt (ZtX hx) hs hx
    have z:(ahN af (layN af st n) - (ahN af (layN af st n) &&& layN af st n)).testBit x=false:=by rw[h2]; exact Nat.zero_testBit x
    rw[ZaA,ha,Bool.true_and]at z
    simpa using z
   ·have more:pc (layN af st n) (2 ^ m) < pc (layN af st (n+1)) (2 ^ m):=ZqM A2.bd hst fun z=>h2 (subz fun s hs=>by rw[←z,Nat.testBit_or,hs,Bool.or_true])
    have pl2:=ZlC (layN af st (n+1)) (2 ^ m);refine Zca (by rw[decide_eq_false (by omega)]; rfl) ⟨fun σ' H'=>∃mm',mm' < 2 ^ m - pc (layN af st n) (2 ^ m)∧∃n:Nat,H2=H'∧n≤pc (layN af st n) (2 ^ m)∧(∀j,j < n→layN af st j &&& bd=0)∧mm'=2 ^ m - pc (layN af st n) (2 ^ m)∧σ'=[some (.ref sc),some (.int y0),some (.int (m:Int)),some (.int ((2 ^ m:Nat):Int)),some (.int (st:Int)),some (.int (bd:Int)),some (.ref l),some (.int (n:Int)),some (.int ((layN af st n:Nat):Int)),none,none],fun _ _ z=>z,?_⟩;walk_at "";refine⟨l,af,layN af st n,rfl,A2.fl,by omega,?_⟩;walk_at "";rw[Zi5,show((n:Int)+1)=((n+1:Nat):Int) by omega]
    exact⟨_,by omega,n+1,rfl,by omega,fun j hj'=>by
     by_cases e:j=n
     ·rw[e]; exact h1
     ·exact hj j (by omega),rfl,rfl⟩
 rintro σ H4 ⟨n,rfl,hn,hj,hfl,rfl⟩;walk_at "";refine ZuB (.inl (SqL.of A2.fl)) fun d H5 s5 n5 e5=>?_;walk_at "";refine ZsV e5 G fun c H6 s6 n6 hC=>?_;walk_at "";refine⟨c,m,st,bd,af,rfl,hC,G,hm5,fun r dl ep a es H7 R=>?_⟩;have s27:=s5.trans (s6.trans R.sm);have A7:AF l af m H7:=⟨s27 _ _ A2.fl,A2.len,A2.bd⟩;obtain⟨qs,ed,hq⟩:=R.dy;have er:=R.er;have ql:=ZaC hq;walk_at "";refine Zou er ?_
 rcases R.out with⟨x,x1,x2,x3,x4,x5,x6⟩ | ⟨hz,L,cr,sb,tr,si,⟨ws,hsb,e1,ea,W,hbad⟩ | ⟨k,hk,hsb,e1,hB⟩⟩
 ·have nz:st &&& bd≠0:=fun z=>by
   have:=Zaj.mp z x x1;rw[x2]at this
   cases this
  have n0:n=0:=by
   rcases Nat.eq_zero_or_pos n with z | z
   ·exact z
   ·exact absurd (hj 0 z) nz
  subst n0;have W:Way m st bd af (0+1) [x]:=⟨rfl,⟨x,rfl,x1⟩,⟨x,rfl,x2⟩,fun i a b h1 h2=>by simp at h2,fun y hy=>by rw[mem_singleton.mp hy]; exact x3⟩;walk_at "";refine ZaF rfl ?_;walk_at "";refine ZaF (by simp) ?_;walk_at "";rw[Za1];refine ZaF (decide_eq_false (by show ¬((st &&& bd:Nat):Int)=0; omega)) ?_;walk_at "";refine Zbk x5 (v:=.str "ever") rfl ?_;walk_at "";refine ZaF (by rw[decide_eq_true rfl]; rfl) ?_;walk_at "";refine Zbk x5 (v:=.ref a) rfl ?_;walk_at "";refine⟨a,l,m,st,bd,0,af,[x],rfl,x6,A7,W,by omega,?_⟩;walk_at "";refine ZaF rfl ?_;walk_at "";refine Zca (decide_eq_true rfl) ?_;walk_at ""
  have qn:qs=[]:=by
   rw[x4]at ql;exact List.length_eq_zero_iff.mp ql
  rw[qn]at ed;refine Zjz (by simp) fun nl H8 s8 n8 e8=>?_;walk_at "";refine .inr ⟨.list [],.list [],?_,?_,by decide +kernel,by decide +kernel,by decide,?_⟩
  ·rw[DV]
   exact⟨dl,[],rfl,s8 _ _ ed,by rw[DVs]⟩
  ·rw[DV]
   exact⟨nl,[],rfl,e8,by rw[DVs]⟩
  rw[show PyData.eqv (.list []) (.list [])=true by simp[PyData.eqv,PyData.eqvAll]];exact q _
 ·have hb:layN af st n &&& bd≠0:=by
   rcases hfl with z | z
   ·exact z
   ·exact absurd (Ztz z W) id
  have ln:=Zp7 hst si W hb hj;have l2:=si.fi.len2
  have W':Way m st bd af (n+1) ws:=by rw[←ln]; exact W
  have hadd:=tr.plS.adds;have hadd:cr.length=2+adds es:=hadd;walk_at "";refine ZaF rfl ?_;walk_at "";refine ZaF (by simp) ?_;walk_at "";rw[Za1];refine ZaF (decide_eq_false (by omega)) ?_;walk_at "";refine Zbk e1 (v:=.str "ever") rfl ?_;walk_at "";refine ZaF (by rw[decide_eq_true rfl]; rfl) ?_;walk_at "";refine Zbk e1 (v:=.ref a) rfl ?_;walk_at "";refine⟨a,l,m,st,bd,n,af,ws,rfl,ea,A7,W',by omega,?_⟩;walk_at "";refine ZaF rfl ?_;walk_at "";refine ZaF (decide_eq_false (by omega)) ?_;walk_at "";have zz:=R.zz;refine .inl ⟨dl,_,rfl,SqL.of ed,?_⟩;refine ZfB (fun i ys=>ys.length=adds (es.take i)) (ZlN (SqL.of ed)) (by rw[length_map]; omega) rfl ?_ ?_
  ·intro i x ys acc H' hx s1 hacc ea' hy _ R' kk
   obtain⟨qa,rfl,hqa⟩:=ZeF hx;obtain⟨e,he,hE⟩:=ZbM hq hqa;have hE:=hE.keep fun b xs z=>s1 _ _ z;have tk:=Zbe he;simp only [subS,map_cons,map_nil];walk_at ""
   cases e with
   | add j=>
    have hqt:H' qa=some (.tup [.str "add",.int (j:Int)]):=hE;refine Zbk hqt (v:=.str "add") rfl ?_;walk_at "";rw[decide_eq_true rfl];refine kk _ H' (Same.refl _) (fun z=>by cases z) fun _ R2 k2=>?_;walk_at "";refine k2 _ H' (Same.refl _) ?_;rw[tk,Zd2,length_append,hy];rfl
   | shut j b=>
    obtain⟨pb,hqt,_⟩:=hE;refine Zbk hqt (v:=.str "shut") rfl ?_;walk_at "";rw[decide_eq_false (by decide)]
    refine kk _ H' (Same.refl _) (fun _=>?_) fun z=>by cases z
    rw[tk,Zd2,hy];rfl
   | push j b=>
    obtain⟨pb,hqt,_⟩:=hE;refine Zbk hqt (v:=.str "push") rfl ?_;walk_at "";rw[decide_eq_false (by decide)]
    refine kk _ H' (Same.refl _) (fun _=>?_) fun z=>by cases z
    rw[tk,Zd2,hy];rfl
  intro acc ys H8 n8 s8 e8 hy;rw[length_map,ql,take_length]at hy;walk_at "";rw[hy,decide_eq_true (by omega)];exact q _
 ·have hb:layN af st n &&& bd=0:=by
   rcases hfl with z | z
   ·obtain⟨k1,k2,k3,_⟩:=Zef (show Zbv cr (cr.length - 2) 1=some k from hk)
    refine absurd (Zaj.mpr fun s hs=>?_) z;exact Zaj.mp (si.nb k (by omega)) s (ZgA (X:=cr.getD k 0) (fun s hs=>si.fi.mono G.st (Nat.zero_le _) (by omega) (by rw[si.fi.st0]; exact hs)) (fun s x h1 h2=>by rw[k3]; exact si.fi.stp k (by omega) s x h1 h2) n s hs)
   ·exact z.1
  obtain⟨k1,k2,k3,_⟩:=Zef (show Zbv cr (cr.length - 2) 1=some k from hk);walk_at "";refine ZaF rfl ?_;walk_at "";refine ZaF (by simp) ?_;walk_at "";rw[Za1,hb];refine Zca rfl ?_;walk_at "";refine Zbk e1 (v:=.str "never") rfl ?_;walk_at "";refine Zca (decide_eq_true rfl) ?_;walk_at "";refine Zbk e1 (v:=.ref a) rfl ?_;walk_at "";exact⟨a,dl,l,qs,es,m,st,bd,k,af,L,cr,rfl,ed,hq,G,hm5,tr.plS,hz,si.ln,hk,ZuP si.fi k1 (by omega) k3 (tr.left hsb k k1 (by omega)),hB,A7,fun H'=>q H'⟩
end
end LW
structure PySem.W.Fast : Prop where
 (tw13901330819958160194 tw16220537670360961729 tw12962313429059501165 tw1969464225727766161 tw2573583699584714444 tw2499800537345242424 tw8736730063732639973 tw12794927252900104238 tw9164242135856489089 tw609138631228130021 tw6877985338295259061 tw7175610925012399635 tw14753131467582570861 tw11440197289466439273 tw7322828498306855808 tw17864785675482800728 tw15676334723703143416 tw9853943672040482363 tw7384430523753645604 tw17821629037500584032 tw17311746468488193982 tw3351779984438662610 tw13246448655347259330 tw6699265014128836660 tw13736495350620208355 tw2985603490496394048 tw801799108195421456 tw13090210751206532591 tw7548724026930317949 tw9725843132876039369 tw5639944398517652073 tw7231530583942475468 tw2495093978468367009 tw4725474642884051029 tw18057871058624627799 tw12752026066317018852 tw6338996421361229251 tw1821972741573145007 tw8391178391964716300 tw10298974627175631752 tw8507329262371421264 tw2140219430734864532 tw4209393118975960269 tw5583327970311689146 tw18363353122754510453 tw14617224532234421646 tw811819758370024817 tw15608548304233881608 tw12404826466852180611 tw18137143280588617709 tw11910281525574158551 tw17067555721106199081 tw14240309591147292076 tw3332181998492511389 tw9941253931293925954 tw13474458578662390921 tw7546222198350420366 tw10673298396034735044 tw5785081634833982705 tw11273860034443609972 tw12777505579088445042 tw359335482528210865 tw5264585311769377299 tw15257176452074272555 tw13674871210948165698 tw294563161284905328 tw13920753158647278380 tw1499665967511524029 tw3245030414264537631 tw9535888718047702703 tw4288578874375243589 tw2435160292717764828 tw3179861575612372222 tw18381894983753306035 tw8344685603690379684 tw6673252891836117442 tw11039253577740368344 tw6558401409575553591 tw517480243595303921 tw18106000123534471362 tw4613249845681028789 tw6165429055157724144 tw5481012048835806482 tw13966709425301730615 tw10325475319351478025 tw4665614877511784152 tw16294529559730130013 tw9028453020275294052 tw38234477174386076 tw11159010701767915138 tw8281830462857473269 tw14731054002785856437 tw6409750948547808231 tw16800340282497284925 tw7231771944660448948 tw6653922427773638658 tw11952622080757941600 tw10526562988463828804 tw2118036677275406909 tw1738573871259971553 tw9648191885104657192 tw358839816829520991 tw653346036400386133 tw10242101123195625818 tw9103275228135869859 tw9092299795900469122 tw8228500346200755777 tw14093650852899557285 tw2449536388084772796 tw13232481637482100398 tw3906870336063484293 tw16582198254786285095 tw15341766862979424330 tw1490220438213453597 tw8529556764715793869 tw5199679330862674081 tw9010238366361960782 tw9873611779865059647 tw17342156239437638281 tw16770362817467881876 tw9417383568714576309 tw11934331108220962108 tw9743459856990062628 tw4906731110222517202 tw8293346859408591748 tw4419882831567346425 tw11714491202913083074 tw4374610613486720756 tw17011413512814713107 tw12263655589804434823 tw4119394898878588 tw11169839067655584126 tw7285360161700408769 tw13865524982320973983 tw14419893150715509428 tw12733354823730097441 tw10165995061454721788 tw15760932054636056327 tw385353340336368675 tw2528982412196215315 tw451662062073591252 tw12213166295720629078 tw13189324144458825673 tw1834363034504952054 tw14478507707697268686 tw6671108463811911841 tw18102088383061432361 tw13557848717679728121 tw18269589349708507077 tw17561070692752201817 tw16551946082630321148 tw6899894248640207244 tw12782269045555303001 tw15405872968167593844 tw17051692885868777907 tw15236917850717640135 tw3294849768947725284 tw8487878994291745248 tw11917250253037837591 tw3087103135093524516 tw2020639114928910505 tw12337323831233066165 tw4397216817419323666 tw17002318360364568535 tw16404017409190917664 tw17057227948781713227 tw4742993643586508236 tw5356942064604061130 tw17146120139273159728 tw7231648965678945838 tw404299866176674467 tw16283714291912344882 tw9653886153796887199 tw7698785557452670810 tw6111747442721753750 tw4999124063168385954 tw17611490495125547160 tw3865360729063254689 tw412064753737127226 tw7113443539744501736 tw14103588156044005347 tw5149198037805889887 tw16580698885861191683 tw8965940671351620664 tw17945264404243670024 tw10768815392710577445 tw188231310813400795 tw17195559011552816968 tw4716043138046724053 tw13317150298742809234 tw3965340165030501638 tw9724352069937314311 tw14895203022559350663 tw11806739459500091082 tw15398312195761467857 tw5613029326896722230 tw10409637122340875794 tw2104103019914730905 tw1915777210180982618 tw8484436573231985641 tw10267431087300870440 tw16652216118951594628 tw9593651378901772328 tw17668062431161607206 tw18399713300803899486 tw9961477133762446695 tw18108547865431819743 tw6172339378409503527 tw7974169307740878250 tw7143024157264432877 tw15535251186724735316 tw10518478747606523089 tw681318979181887152 tw9908893466985992894 tw6931078503938494674 tw13500156005309304515 tw12554901287289816539 tw13722640107972411402 tw8862582720013898956 tw8887803859071423026 tw17065864292482718574 tw12154949856872834251 tw9975604821597898964 tw10213561518698885611 tw3275534262951327165 tw5527578460130288251 tw13224443345300153160 tw15056206549226314902 tw15989577551148362606 tw12632114103310803329 tw10241765049687860385 tw15013159646492355431 tw8459244590632714733 tw1601104225077656214 tw14487624397145491647 tw1363918918632514038 tw14046631242774251079 tw3030633522263183064 tw6883472796576131164 tw3258638076356407804 tw7045769445632895907 tw9989177128924086693 tw3193075648272444142 tw5569237545051995614 tw7012363510846338301 tw3283854392034973061 tw6481496216018489877 tw11122920125586138595 tw1395110279324747996 tw12795672072347228811 tw3923536741294404943 tw11665455407370446245 tw622690538646334703 tw15967669849057466247 tw7669324060193763881 tw5169799799612351804 tw6271336096871881890 tw16232163551905487336 tw16013754166009335772 tw2181432248855827347 tw60817940617214215 tw8947270593517859260 tw17284900029427796495 tw8529469899783125371 tw17886047248730660011 tw14427159891537269852 tw17195926211464284511 tw18110243568787605966 tw7474238527920117867 tw7698719816592687621 tw16678906843123485437 tw2256716239676758865 tw3921302777263213659 tw3749217338954672917 tw7351659814026732526 tw11519755592986103637 tw1368140613398302590 tw2769340490007218236 tw4194978700510865446 tw15269143603693600034 tw10249414277311461365 tw12805962065456603969 tw14529533437405924808 tw16017371417960249602 tw11260075281062797357 tw3418041172673353250 tw17300372486480613214 tw17601892321420499592 tw3392997326996416797 tw2533149517984733713 tw14860917466449966711 tw10373634732752482672 tw12936982000297440730 tw2752838831758703221 tw402982341315939324 tw12376849403855065734 tw5478889184958905914 tw16856596613017775075 tw11132835992786291547 tw11277344585184283725 tw10948450179299207563 tw13646164089289785974 tw2481813609217623649 tw3530863770681800264 tw12630712100371812223 tw18057076094378621399 tw12647228858349253273 tw10576752436894959525 tw8372341003761834228 tw9868045870982067932 tw15008432841500951516 tw2063710593059800598 tw11117900484820450330 tw6195523969297593306 tw9048262088134047740 tw15689829608605520944 tw11886789197288137002 tw4145128187182149809 tw7844077634420102823 tw1109586024793572901 tw912290343319761405 tw7387105777174247325 tw650677285282037954 tw1550760533355652685 tw9550816557805873282 tw18266220190138030566 tw7228327188182909837 tw3537208339118260643 tw11712018623151724004 tw9572778922520343151 tw15657041959829686913 tw9745301799107517256 tw13215513391010884446 tw16313152828110908605 tw796615609141349447 tw4679362228573983048 tw7299986519105149182 tw11576716323213717648 tw1023883523935207217 tw8635266702084008433 tw15110555648136298540 tw6072813543063376933 tw17119379616342340430 tw14631047186983159127 tw11694370653889784578 tw5120111801826441589 tw1162945927194666285 tw8946005274746188232 tw3182587394824579694 tw3309937542711036845 tw4540448137254699757 tw2500076942510430018 tw18213056970105795455 tw6918527987691200054 tw14819606651655282526 tw7274807056276994100 tw14269755354057379724 tw10713346932199840309 tw7341346461949979580 tw1342446286036979887 tw14185947335414088557 tw7169575996014320472 tw916757554233007642 tw14998672843289756349 tw8682622082586211433 tw759299808348621967 tw10574530077866185394 tw17265838898421114476 tw12674042650435653095 tw12197823479514840612 tw15440895343873722170 tw9302122666360819045 tw10173310166626379429 tw9503816749712069716 tw6627664252081525661 tw146989214559163371 tw15980660881617217000 tw755707292029347662 tw6223524924483204299 tw14951670146555962949 tw16941003171008088848 tw12911705990041664454 tw5829369145434180122 tw18048088001757020937 tw14676001980288629817 tw12121844558377917068 tw7740713408595561336 tw14259173905318392080 tw5471709745770906034 tw2014146014824217031 tw18427582651542585666 tw7866022352074904313 tw8680349722109782208 tw2505078932835267211 tw18307567807788079037 tw5223977248392241608 tw8846749118045350634 tw14363193680730808066 tw16268406322442065888 tw1107347214898585357 tw10095276791878069297 tw1425154874861427587 tw7037157173153489875 tw17962909824977652494 tw9662367724403607812 tw12077379109639770226 tw4532476966258100136 tw4403314453118105489 tw8252722071378986820 tw17821115346497410588 tw10754598855796238699 tw1698772746309013191 tw15364506053017278902 tw13993377498226455571 tw16446709771576611716 tw11637347686231651706 tw12946080036830224924 tw2759891763942523396 tw13674335205783096209 tw3966152924250896725 tw17489860032609098249 tw5300474138539084380 tw10723884229879381124 tw15370377663453560468 tw1330687073578976364 tw3095036015603948067 tw6002334958102848911 tw11038706485754429980 tw3809345564130960297 tw10837426412296261918 tw16868952413455329009 tw43326560776048985 tw2604481476320829331 tw17811754387852614579 tw3965283060310467251 tw2181728282384964610 tw3158504444685913052 tw3418701754347046104 tw4996357073587800736 tw7324262957368874076 tw4518661257368288256 tw10199188303075820558 tw9853622987180438289 tw5511497581110015055 tw210960073976425423 tw15378068797413249283 tw5698467272812160781 tw3615731958105025645 tw7602519042915054867 tw7232938103390799346 tw12355696501562032492 tw3999022018848773651 tw3591434679414223159 tw10029258968313638347 tw14798902620003073767 tw11458072690408616264 tw1212773444218447569 tw10512926219080592787 tw9739196029186499436 tw3154804834269917909 tw16412251187518273216 tw16006409556157548954 tw12640179299724319897 tw8448757687351489644 tw17265308652813317863 tw2492965107011053906 tw7570639255092467199 tw18075936200104667114 tw6103834156787587142 tw7902942518801730113 tw2880206970517194433 tw18353299064187051937 tw15762680839320365913 tw5998846399463302969 tw9292305635209579148 tw4805434947116649509 tw6850684142738213894 tw12649727233648387420 tw18140378974160134676 tw7957815139246012535 tw12128846791676295808 tw8526149353742013674 tw6620970972259745259 tw1923245559110881313 tw7563118726993553675 tw15613463519549587516 tw15534772476162543274 tw5482308260457815639 tw6956195782930514181 tw1780251652133963700 tw6983479287886056158 tw892712210692447505 tw850478685746862349 tw11883480928371416465 tw14869266026663099969 tw16408280948232110883 tw8014482057067980879 tw6840882902980680501 tw7439436620794718883 tw16795711752302747009 tw13619011373468318676 tw10271878889591524753 tw4764025977137153941 tw16270031248890965286 tw2394380602736866935 tw6771541545599785356 tw11557729121948883313 tw16273348933261560068 tw10979178674415292045 tw6143970324414920637 tw3608480998298678959 tw12099519476188032855 tw2123283568704528048 tw14868588368882032113 tw18167033304502906301 tw16171777229929222858 tw9644189439417210418 tw17090550821644791208 tw9113225309933387844 tw4678375777874661417 tw14606896604310135156 tw4214014727557576023 tw12739394717027994747 tw8368588670608380131 tw4715944119027978234 tw4545667172503159725 tw14631919909517533355 tw7672490039355678800 tw6023686970635058314 tw7010188798615224227 tw3442013481476988978 tw11523109203734834400 tw5754862324269527202 tw2688771515524954196 tw16283184319845108857 tw1308848151115980296 tw4726996594247561252 tw2320120523094804718 tw15587089594642525853 tw4086818941231142738 tw4163808781372690515 tw11934451309776504114 tw7233520880220959462 tw2894853882946723208 tw7688494915328704175 tw13433682360050727851 tw4102935816219339406 tw15750907411435241688 tw7584853571142292052 tw3275672075345073172 tw12824041517114450743 tw16975073944486570237 tw18159630090894779881 tw14383068729767909615 tw14192956403759606641 tw12906214944297215087 tw4246944253348353659 tw16286581152917002148 tw4095917817530849093 tw10149361127061819928 tw5909328092880340077 tw10452219527329095019 tw76831546663216206 tw14123033895358276106 tw16039185470631004695 tw7995554354321226149 tw16390846514079284416 tw1889820106870751078 tw4887995490272545540 tw7267741928183395568 tw7802189835993829299 tw15413878030988651945 tw9127129296505515727 tw2858986034795102771 tw15789959296568085000 tw3928538678788414634 tw10908058401937052719 tw4266865212932524230 tw11696653578297202017 tw14482184357142813390 tw13719009041538456050 tw11500592767574456223 tw1958257414190438883 tw14290825502399137915 tw6655357017826234665 tw17463917935485122112 tw368724019767828990 tw6980196311022084908 tw17309289570461544878 tw9051346337225565495 tw16914576819565798057 tw1420815655530113873 tw7041977573958349021 tw6994972573198131243 tw5500781963011318259 tw4099571849449252155 tw1753359156746345290 tw16545023396955501670 tw10351052596349455003 tw6614446145729601402 tw12515338841827054236 tw10002305914351414234 tw4067226629977104696 tw10418681492983122080 tw14543784441978276500 tw2645489068448992023 tw11229823672511971575 tw8818635292420865264 tw16826090698311549024 tw5549041975077981406 tw7996817057125363638 tw7258008054792292555 tw10153102815899949661 tw17012339409490781762 tw11125822883276258861 tw16609915066542541926 tw4148841162671792530 tw17992715630334568039 tw7487529694290700179 tw18218813763936245903 tw9737521977760710129 tw6646616380332806462 tw13230126907710926817 tw6044764878720043732 tw16454200160713124280 tw16365304384636429571 tw1907777067306710379 tw17998571735286348625 tw1448992301279426457 tw1986206772295774564 tw5170368085936242233 tw13057370202425782849 tw8625342096642567392 tw3557404126617338967 tw39941904714061203 tw13095952516419671997 tw13660561931865568529 tw9025236731611749426 tw14483058517607536328 tw11774393532131262615 tw11802340178972853244 tw9140330055036475817 tw3017705847365851310 tw13181119423050817090 tw636254579889858927 tw4879927757770431962 tw5471735047879924434 tw2160135950494340432 tw16670205377189853905 tw6240466711251910275 tw7386150385405665802 tw7037485694896848342 tw5535554269539742000 tw18182256326828674293 tw865980188045509884 tw14025766372409170849 tw7669124498327665825 tw2231153021848581464 tw16087833874859677387 tw8428918447928997279 tw16403089519607120107 tw14198504291133021087 tw12695984020019588531 tw16278337784379894035 tw3644491008585016590 tw7227180034647982422 tw10496418474009390212 tw6800933170196209647 tw6589388340458160795 tw9093248029671211805 tw4048412525281332598 tw14232190435671352019 tw15977007781102598231 tw11120305320690893920 tw17501403800632061494 tw4562717114016578768 tw12619775844230550085 tw11078159230635022168 tw790928927069071640 tw18319339881976144336 tw17173398318256865394 tw887061203102341559 tw14720237513251936755 tw9169198215803898920 tw9181130879214586594 tw14828885409443781601 tw1810075640374189552 tw15276600338724163948 tw4096727012870783937 tw3748768444886023578 tw7942315031232084473 tw9187071616867413852 tw552221386486916835 tw8305555454222222964 tw1729959307900197639 tw3846554593726930970 tw17523467751825321392 tw16877839783750667855 tw1905612147246298800 tw11754323083884708192 tw2592148789159496561 tw12138263245916054171 tw5189378242874539404 tw8238071769288983733 tw614869310111355574 tw7495488468837743630 tw14404803170676924481 tw12565481566482267112 tw2855583389432861320:True)
open PySem PySem.W PyProof.Rows
set_option maxRecDepth 100000 in
set_option maxHeartbeats 0 in
theorem PySem.Challenge.cw_evernever_k37_end_of_a_hunt_holds : PySem.Challenge.rw_evernever_k37_end_of_a_hunt.Holds := by
 w_on; o_law; k_head; (case hw=>w_witness2)
 k_fill
 refine L2.walk_ofK (l:=PySem.Challenge.rw_evernever_k37_end_of_a_hunt) (n:=63) (k:=20) (x:="_law_script") (CX:=L2.CX0) (sp:=LW.spLaw) rfl (by decide) rfl ⟨rfl,by decide,by decide⟩ (fun w h Y=>W.kIn_of Y) ?F ?S ?C
 case F=>
  intro w mg fa h KX G hmg
  have T:∃t,LW.Txt (L2.KOf KX) mg t:=by
   dsimp only [L2.KOf]
   refine' LW.txt_mk KX G ?_ ?_ ?_ ?_ ?_ ?_ ?_ ?_ ?_ ?_ ?_ ?_ ?_ ?_ ?_ ?_ ?_ ?_ ?_ ?_ ?_ ?_ ?_ ?_ ?_ ?_ ?_ ?_ ?_ ?_ ?_ ?_ ?_ ?_ ?ZgK ?_ ?_ ?_ ?_ ?_ ?_ ?_ ?_ ?_ ?_ ?_ ?_ ?_ ?_ ?_ ?_ ?_ (LW.dmk ?_ ?_ ?_) (LW.dmk ?_ ?_ ?_) (LW.dmk ?_ ?_ ?_) (LW.dmk ?_ ?_ ?_) (LW.dmk ?_ ?_ ?_) (LW.dmk ?_ ?_ ?_) (LW.dmk ?_ ?_ ?_) (LW.dmk ?_ ?_ ?_) (LW.dmk ?_ ?_ ?_) (LW.dmk ?_ ?_ ?_) (LW.dmk ?_ ?_ ?_) (LW.dmk ?_ ?_ ?_) (LW.dmk ?_ ?_ ?_) (LW.dmk ?_ ?_ ?_) (LW.dmk ?_ ?_ ?_) (LW.dmk ?_ ?_ ?_) (LW.dmk ?_ ?_ ?_) (LW.dmk ?_ ?_ ?_) (LW.dmk ?_ ?_ ?_) (LW.dmk ?_ ?_ ?_) (LW.dmk ?_ ?_ ?_) (LW.dmk ?_ ?_ ?_) (LW.dmk ?_ ?_ ?_) (LW.dmk ?_ ?_ ?_) (LW.dmk ?_ ?_ ?_) (LW.dmk ?_ ?_ ?_) (LW.dmk ?_ ?_ ?_) (LW.dmk ?_ ?_ ?_) ?_ ?_ ?_ (LW.dmk ?_ ?_ ?_) ?_ (LW.dmk ?_ ?_ ?_) ?_ (LW.dmk ?_ ?_ ?_) ?_ (LW.dmk ?_ ?_ ?_) ?_ (LW.dmk ?_ ?_ ?_) ?_ (LW.dmk ?_ ?_ ?_) ?_ (LW.dmk ?_ ?_ ?_) ?_ (LW.dmk ?_ ?_ ?_) ?_ (LW.dmk ?_ ?_ ?_) ?_ (LW.dmk ?_ ?_ ?_) ?_ (LW.dmk ?_ ?_ ?_) ?_ (LW.dmk ?_ ?_ ?_) ?_ (LW.dmk ?_ ?_ ?_) ?_ ?_ ?_ ?_ ?_ ?_ ?_ ?_ ?_ ?_ ?_ ?_ ?_ ?_ ?_ ?_ ?_ ?_ ?_ ?_ ?_ ?_ ?_ ?_ ?_ ?_ ?_ ?_ ?_ ?_ ?_ ?_ ?_ ?_ ?_ ?_ ?_ ?_ ?_ ?_
   all_goals (try k_is)
   (case ZgK=>k_exc)
  obtain⟨t,T⟩:=T;have e0:=hmg.symm.trans T.m_law
  cases e0
  exact⟨_,T.bl,fun base _ _=>LW.ok_law T⟩
 case S=>exact fun K H a ns hl hO hS=>⟨a,ns,rfl,hS,hl,hO,fun _=>rfl⟩
 case C=>exact fun _ _ _ _ z=>z
#print axioms PySem.Challenge.cw_evernever_k37_end_of_a_hunt_holds
