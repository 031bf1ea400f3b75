import PyProof.Rows.All
import Wide.All
import OpenK.AllK
import Wide.FinOn
import Lean
import PyProof.EqAt
import PyProof.EqKinds
import PyProof.TupleCall
import KE.KRevIter
import PyProof.EnumMake
import PyProof.EnumFor
import PyProof.ListRange
import PyProof.Rows.Range3
import PyProof.ZipIter
import PyProof.SumWalk
import PyProof.WalksMore
import PyProof.Rows.SetFrom
import PyProof.SetRoads
import PyProof.Rows.SortRunsK
import PyProof.Rows.SortWalk
import KE.KSortTup
import PyProof.Rows.Own
import PyProof.StationsW
import OpenK.KRaise
import KE.KIsAll
import PyProof.ExcArgsOwn
import PyProof.RulesAs
import PyProof.Ns1
import PyProof.Rows.Catch
import OpenK.KOwn
import PyProof.ExcBaseAll.ValueError
import KE.KDictSum
import PyProof.AttrMiss
import PyProof.IsiH_list
import KE.KDictOf
import PyProof.DictList
import KE.KDictList
import PyProof.FactsAll.set
import PyProof.Rows.TupAdd
import KE.KDictMeth
import PyProof.DictWalks
import PyProof.TupleKey
import PyProof.DictStraight
import PyProof.IsRules
import KE.KRevSl
import PyProof.Rows.CallKwBuiltin
import PyProof.Rows.SortShell
import KE.KSortKey
import KE.KLam
import KE.KNestM
import PySem.Challenge.RW_sinceply_k41_pared_judged
noncomputable section
set_option Elab.async false
set_option linter.all false

set_option maxRecDepth 100000
namespace L2
open PySem PySem.Spec PyProof.Rows
noncomputable abbrev Key:=Sum Int Str
noncomputable def oQ:Key→Value→Bool
 | .inl k,v=>Value.isInt k v
 | .inr x,v=>Value.isStrOf x v
noncomputable def Nx (w:World):Key→Int
 | .inl k=>hashInt k
 | .inr x=>hashStr w x
theorem bJ:∀ {k:Key} {v:Value},oQ k v=true→(∃ i t,k=Sum.inl i∧v=Value.int i t)∨(∃ x t,k=Sum.inr x∧v=Value.str x t)
 | .inl i,v,h=>by
  obtain ⟨t,e⟩:=Value.isInt_shape (k:=i) (v:=v) h
  exact .inl ⟨i,t,rfl,e⟩
 | .inr x,v,h=>by
  obtain ⟨t,e⟩:=Value.isStrOf_shape (x:=x) (v:=v) h
  exact .inr ⟨x,t,rfl,e⟩
theorem yo (i:Int) (t:Tok):oQ (.inl i) (.int i t)=true:=by simp [oQ,Value.isInt]
theorem yp (x:Str) (t:Tok):oQ (.inr x) (.str x t)=true:=by simp [oQ,Value.isStrOf]
theorem HC (a b:Int):decide ((Sum.inl a:Key)=Sum.inl b)=(a == b):=by
 by_cases e:a=b
 ·subst e;simp
 ·have h:¬ (Sum.inl a:Key)=Sum.inl b:=fun q=>e (Sum.inl.inj q)
  rw [decide_eq_false h]
  exact (beq_eq_false_iff_ne.mpr e).symm
theorem HD (a b:Str):decide ((Sum.inr a:Key)=Sum.inr b)=decide (a=b):=by
 by_cases e:a=b
 ·subst e;simp
 ·have h:¬ (Sum.inr a:Key)=Sum.inr b:=fun q=>e (Sum.inr.inj q)
  rw [decide_eq_false h,decide_eq_false e]
theorem HE (a:Int) (b:Str):decide ((Sum.inl a:Key)=Sum.inr b)=false:=decide_eq_false (fun q=>nomatch q)
theorem HF (a:Str) (b:Int):decide ((Sum.inr a:Key)=Sum.inl b)=false:=decide_eq_false (fun q=>nomatch q)
noncomputable def a_ (prog:Program) (w:World):PySem.KeyKind prog w Key where
 is:=oQ
 hash:=Nx w
 inj:=fun v a b ha hb=>by
  rcases bJ ha with ⟨i,t,rfl,rfl⟩ | ⟨x,t,rfl,rfl⟩
  ·rcases bJ hb with ⟨j,u,rfl,e⟩ | ⟨y,u,rfl,e⟩
   ·injection e with e1 _;rw [e1]
   ·exact nomatch e
  ·rcases bJ hb with ⟨j,u,rfl,e⟩ | ⟨y,u,rfl,e⟩
   ·exact nomatch e
   ·injection e with e1 _;rw [e1]
 byValue:=fun k v h=>by
  rcases bJ h with ⟨i,t,rfl,rfl⟩ | ⟨x,t,rfl,rfl⟩<;>rfl
 pyHash:=fun hv h=>by
  rcases bJ hv with ⟨i,t,rfl,rfl⟩ | ⟨x,t,rfl,rfl⟩
  ·exact wpAny_pyHash_int h
  ·exact wpAny_pyHash_str h
 eqBool:=fun hu hv h=>by
  rcases bJ hu with ⟨i,t,rfl,rfl⟩ | ⟨x,t,rfl,rfl⟩
  ·rcases bJ hv with ⟨j,u,rfl,rfl⟩ | ⟨y,u,rfl,rfl⟩
   ·rw [HC] at h;exact wpAny_eqBool_int h
   ·rw [HE] at h;exact SeqAt.EqAt.int_str i t y u _ _ _ _ h
  ·rcases bJ hv with ⟨j,u,rfl,rfl⟩ | ⟨y,u,rfl,rfl⟩
   ·rw [HF] at h;exact SeqAt.EqAt.str_int x t j u _ _ _ _ h
   ·rw [HD] at h;exact wpAny_eqBool_str h
 «strs»:=fun k x t v h=>by
  rcases bJ h with ⟨i,u,rfl,e⟩ | ⟨y,u,rfl,e⟩
  ·exact nomatch e
  ·injection e with e1 _
   subst e1
   cases v<;>rfl
theorem qX (prog:Program) (w:World) (i:Int) (t:Tok):(a_ prog w).is (.inl i) (.int i t)=true:=yo i t
theorem qY (prog:Program) (w:World) (x:Str) (t:Tok):(a_ prog w).is (.inr x) (.str x t)=true:=yp x t
inductive V where
 | non | bl (b:Bool) | int (i:Int) | str (x:Str) | byt (b:Array UInt8) | flt (b:UInt64) | ref (a:Addr) | ty (n:String)
 deriving DecidableEq
noncomputable def RelV:V→Value→Prop
 | .non,u=>u=Value.none
 | .bl b,u=>u=Value.bool b
 | .int i,u=>∃ t,u=Value.int i t
 | .str x,u=>∃ t,u=Value.str x t
 | .byt b,u=>∃ t,u=Value.bytes b t
 | .flt b,u=>∃ t,u=Value.float b t
 | .ref a,u=>u=Value.ref a
 | .ty n,u=>u=Value.type n
noncomputable abbrev Vals:List V→List Value→Prop:=Paired RelV
theorem Vals.length {xs:List V} {us:List Value} (r:Vals xs us):xs.length=us.length:=Paired.length r
theorem Vals.get:∀ {xs:List V} {us:List Value} {i:Nat} {x:V},Vals xs us→xs[i]?=some x→∃ u,us[i]?=some u∧RelV x u
 | _,_,_,_,.nil,e=>by simp at e
 | _,_,0,_,.cons r _,e=>by simp at e;subst e;exact ⟨_,rfl,r⟩
 | _,_,i+1,x,.cons _ t,e=>by
  obtain ⟨u,h1,h2⟩:=Vals.get (i:=i) (x:=x) t (by simpa using e)
  exact ⟨u,by simpa using h1,h2⟩
theorem Vals.set {x:V} {u:Value} (r:RelV x u):∀ {xs:List V} {us:List Value} (i:Nat),Vals xs us→Vals (xs.set i x) (us.set i u)
 | _,_,_,.nil=>.nil
 | _,_,0,.cons _ t=>.cons r t
 | _,_,i+1,.cons q t=>.cons q (Vals.set r i t)
theorem Vals.append:∀ {xs ys:List V} {us ws:List Value},Vals xs us→Vals ys ws→Vals (xs++ys) (us++ws)
 | _,_,_,_,.nil,s=>s
 | _,_,_,_,.cons r t,s=>.cons r (Vals.append t s)
theorem Vals.take:∀ {xs:List V} {us:List Value} (n:Nat),Vals xs us→Vals (xs.take n) (us.take n)
 | _,_,0,_=>.nil
 | _,_,_+1,.nil=>.nil
 | _,_,n+1,.cons r t=>.cons r (Vals.take n t)
theorem Vals.drop:∀ {xs:List V} {us:List Value} (n:Nat),Vals xs us→Vals (xs.drop n) (us.drop n)
 | _,_,0,r=>r
 | _,_,_+1,.nil=>.nil
 | _,_,n+1,.cons _ t=>Vals.drop n t
noncomputable def i8:Option V→Option Value→Prop
 | some v,some u=>RelV v u
 | none,none=>True
 | _,_=>False
noncomputable def KV {κ:Type}:List (κ×V)→List (κ×Value)→Prop:=Paired fun (p:κ×V) (q:κ×Value)=>p.1=q.1∧RelV p.2 q.2
noncomputable def kV:Key→V
 | .inl i=>.int i
 | .inr x=>.str x
inductive HO where
 | lst (xs:List V)
 | tup (xs:List V)
 | dK (kvs:List (Key×V)) | dT (kvs:List (List Key×V)) (ts:List Addr)
 | set (S:Int→Bool) (n:Nat)
 | ins (C dx:Addr) (fs:List (Str×V))
 | own (x:Addr)
 | xd (fs:List (Str×V))
 | met (f x:Addr)
 | rng (lo hi:Int)
 | frz (o:Obj) (u:HO)
 | tbl (ln cl:Value) (q:Str)
 | ext (φ:Heap→Prop)
noncomputable abbrev Hp:=Addr→Option HO
noncomputable def upd (H:Hp) (a:Addr) (o:HO):Hp:=fun b=>if b=a then some o else H b
theorem ay {H:Hp} {a:Addr} {o:HO}:upd H a o a=some o:=by unfold upd;rw [if_pos rfl]
theorem aB {H:Hp} {a b:Addr} {o:HO} (h:b≠a):upd H a o b=H b:=by unfold upd;rw [if_neg h]
theorem K5 {H:Hp} {a b:Addr} {o u:HO} (h:H a=some o) (h':H b=some u) (d:o≠u):a≠b:=by
 intro e;subst e;rw [h] at h';exact d (Option.some.inj h')
theorem aP {H:Hp} {a b:Addr} {o:HO} (h:H a=some o) (h':H b=none):a≠b:=by
 intro e;subst e;rw [h] at h';cases h'
section
variable (P:Program) (w:World)
noncomputable def bx (H:Hp) (h:Heap) (a:Addr):HO→Prop
 | .lst xs=>xs.length≤sizeLine∧∃ (its:List Value) (n:Nat),Vals xs its∧h.get? a=some { cls:=.type "list",data:=.seq its.toArray n }
 | .tup xs=>xs.length≤sizeLine∧∃ its:List Value,Vals xs its∧IsTup h a its.toArray
 | .dK kvs=>kvs.length≤sizeLine∧(a == sysModules)=false∧∃ vs,KV kvs vs∧h.DictOf (a_ P w) a vs
 | .dT kvs ts=>kvs.length≤sizeLine∧(a == sysModules)=false∧∃ xs:List (List Key×Addr×Value),
   Paired (fun (p:List Key×V) (q:List Key×Addr×Value)=>p.1=q.1∧H q.2.1=some (.tup (p.1.map kV))∧RelV p.2 q.2.2) kvs xs ∧
   ∃ o es ep,h.get? a=some o∧o.ExactDict∧o.data=.dict es ep∧es.toList=xs.map (entryOfKey (tupleKind (a_ P w)))∧(xs.map (·.1)).Nodup∧xs.map (·.2.1)=ts
 | .set S n=>h.SetOf (intKind P w) a S n
 | .ins C dx fs=>H dx=some (.own a)∧fs.length≤1000∧dx≠a∧h.get? a=some (PySem.W.instObj C dx) ∧
   ∃ mA,h.Ns1 dx mA∧(∀ f,i8 (fs.lookup f) (mA f))∧PySem.Within mA (fs.map (·.1))
 | .own _=>∃ o,h.get? a=some o
 | .xd fs=>∃ mA,h.Ns1 a mA∧∀ f,i8 (fs.lookup f) (mA f)
 | .rng lo hi=>∃ t u v,h.get? a=some { cls:=.type "range",data:=.fields #[.int lo t,.int hi u,.int 1 v] }
 | .frz o u=>h.get? a=some o∧bx H h a u
 | .tbl ln cl q=>∃ ps:Array Value,h.get? a=some { cls:=.none,data:=.fields ps }∧(ps=#[]∨∃ (c:Addr) (oc:Obj) (vs:Array Value) (t:Tok),ps=#[ln,cl,.ref c]∧H c=some (.frz oc (.own a))∧oc.data=.fields vs∧vs[1]?=some (.str q t))
 | .met f x=>h.get? a=some (PySem.W.methodObj (.ref f) (.ref x))
 | .ext φ=>φ h∧(∃ o,h.get? a=some o)∧∀ h1 h2:Heap,φ h1→(∀ o,h1.get? a=some o→h2.get? a=some o)→φ h2
noncomputable def HOk (H:Hp) (h:Heap):Prop:=∀ a o,H a=some o→bx P w H h a o
end
section
variable {P:Program} {w:World} {H H':Hp} {h h':Heap} {a:Addr} {o:HO}
theorem bx.lt (x:bx P w H h a o):a<h.objs.size:=by
 cases o with
 | lst xs=>obtain ⟨_,_,_,_,e⟩:=x;exact Heap.lt_size e
 | tup xs=>obtain ⟨_,_,_,p⟩:=x;exact p.lt
 | dK kvs=>obtain ⟨_,_,_,_,o,_,_,e,_⟩:=x;exact Heap.lt_size e
 | dT kvs ts=>obtain ⟨_,_,_,_,o,_,_,e,_⟩:=x;exact Heap.lt_size e
 | set S n=>obtain ⟨o,_,_,_,e,_⟩:=x;exact Heap.lt_size e
 | ins C dx fs=>obtain ⟨_,_,_,e,_⟩:=x;exact Heap.lt_size e
 | own y=>obtain ⟨_,e⟩:=x;exact Heap.lt_size e
 | xd fs=>obtain ⟨_,⟨_,_,_,e,_⟩,_⟩:=x;exact Heap.lt_size e
 | rng lo hi=>obtain ⟨_,_,_,e⟩:=x;exact Heap.lt_size e
 | frz ob u=>obtain ⟨e,_⟩:=x;exact Heap.lt_size e
 | tbl ln cl q=>obtain ⟨_,e,_⟩:=x;exact Heap.lt_size e
 | met f y=>exact Heap.lt_size (show h.get? a=some _ from x)
 | ext φ=>obtain ⟨_,⟨_,e⟩,_⟩:=x;exact Heap.lt_size e
theorem Paired.HG {α β:Type} {F G:α→β→Prop}:∀ {l₁:List α} {l₂:List β},Paired F l₁ l₂→(∀ a b,F a b→G a b)→Paired G l₁ l₂
 | _,_,.nil,_=>.nil
 | _,_,.cons r t,f=>.cons (f _ _ r) (Paired.HG t f)
theorem bx.stay (x:bx P w H h a o) (k:∀ b u,(b=a∨H b=some (.own a))→h.get? b=some u→h'.get? b=some u)
  (ho:∀ b,H b=some (.own a)→H' b=some (.own a)) (hf:∀ b o c,H b=some (.frz o (.own c))→H' b=some (.frz o (.own c))) (ht:∀ b xs,H b=some (.tup xs)→H' b=some (.tup xs)):bx P w H' h' a o:=by
 induction o with
 | lst xs=>obtain ⟨z,its,n,r,e⟩:=x;exact ⟨z,its,n,r,k _ _ (.inl rfl) e⟩
 | tup xs=>obtain ⟨z,its,r,ob,e,c⟩:=x;exact ⟨z,its,r,ob,k _ _ (.inl rfl) e,c⟩
 | dK kvs=>obtain ⟨z,y,vs,r,ob,es,ep,e,c⟩:=x;exact ⟨z,y,vs,r,ob,es,ep,k _ _ (.inl rfl) e,c⟩
 | dT kvs ts=>
  obtain ⟨z,y,xs,r,ob,es,ep,e,c⟩:=x
  exact ⟨z,y,xs,Paired.HG r fun p q z=>⟨z.1,ht _ _ z.2.1,z.2.2⟩,ob,es,ep,k _ _ (.inl rfl) e,c⟩
 | set S n=>obtain ⟨ob,es,ep,t,e,c⟩:=x;exact ⟨ob,es,ep,t,k _ _ (.inl rfl) e,c⟩
 | ins C dx fs=>
  obtain ⟨d,z,ne,e,mA,⟨od,es,ep,e2,c⟩,r⟩:=x
  exact ⟨ho _ d,z,ne,k _ _ (.inl rfl) e,mA,⟨od,es,ep,k _ _ (.inr d) e2,c⟩,r⟩
 | own y=>obtain ⟨ob,e⟩:=x;exact ⟨ob,k _ _ (.inl rfl) e⟩
 | xd fs=>obtain ⟨mA,⟨od,es,ep,e,c⟩,r⟩:=x;exact ⟨mA,⟨od,es,ep,k _ _ (.inl rfl) e,c⟩,r⟩
 | rng lo hi=>obtain ⟨t,u,v,e⟩:=x;exact ⟨t,u,v,k _ _ (.inl rfl) e⟩
 | frz ob u ih=>obtain ⟨e,q⟩:=x;exact ⟨k _ _ (.inl rfl) e,ih q⟩
 | tbl ln cl q=>
  obtain ⟨ps,e,d⟩:=x
  refine ⟨ps,k _ _ (.inl rfl) e,?_⟩
  rcases d with d | ⟨c,oc,vs,t,d,d2,d3⟩
  ·exact .inl d
  ·exact .inr ⟨c,oc,vs,t,d,hf _ _ _ d2,d3⟩
 | met f y=>
  have e:h.get? a=some (PySem.W.methodObj (.ref f) (.ref y)):=x
  show h'.get? a=some (PySem.W.methodObj (.ref f) (.ref y))
  exact k a _ (.inl rfl) e
 | ext φ=>obtain ⟨p,⟨o,e⟩,st⟩:=x;exact ⟨st _ _ p fun o q=>k _ _ (.inl rfl) q,⟨o,k _ _ (.inl rfl) e⟩,st⟩
theorem HOk.lt (x:HOk P w H h) (e:H a=some o):a<h.objs.size:=(x a o e).lt
theorem HOk.fresh (x:HOk P w H h) (e:h.objs.size≤a):H a=none:=by
 cases q:H a with
 | none=>rfl
 | some u=>exact absurd (Nat.lt_of_lt_of_le (x.lt q) e) (Nat.lt_irrefl _)
theorem HOk.kept (x:HOk P w H h) (k:∀ b u,h.get? b=some u→h'.get? b=some u):HOk P w H h':=fun a o e=>
 (x a o e).stay (fun b u _ q=>k b u q) (fun _ q=>q) (fun _ _ _ q=>q) fun _ _ q=>q
theorem HOk.laid (x:HOk P w H h) (k:∀ b u,h.get? b=some u→h'.get? b=some u) (hp:h.objs.size≤a) (new:bx P w (upd H a o) h' a o):HOk P w (upd H a o) h':=fun b u e=>by
 have hn:=x.fresh hp
 by_cases hb:b=a
 ·subst hb;rw [ay] at e;cases e;exact new
 ·rw [aB hb] at e
  exact (x b u e).stay (fun c v _ q=>k c v q) (fun c q=>by rw [aB (aP q hn)];exact q) (fun c _ _ q=>by rw [aB (aP q hn)];exact q) fun c xs q=>by rw [aB (aP q hn)];exact q
end
noncomputable def Rd (H:Hp) (a:Addr) (u:HO):Prop:=H a=some u∨∃ o,H a=some (.frz o u)
theorem Rd.ok {P:Program} {w:World} {H:Hp} {h:Heap} {a:Addr} {u:HO} (r:Rd H a u) (x:HOk P w H h):bx P w H h a u:=by
 rcases r with r | ⟨o,r⟩
 ·exact x a u r
 ·obtain ⟨_,q⟩:=x a _ r
  exact q
noncomputable def Mut:Option HO→Prop
 | some (.lst _)=>True
 | some (.dK _)=>True
 | some (.dT _ _)=>True
 | some (.set _ _)=>True
 | some (.ins _ _ _)=>True
 | some (.ext _)=>True
 | _=>False
section
variable {P:Program} {w:World} {H:Hp} {h h':Heap} {x e:Addr} {o':HO}
theorem HOk.write (ok:HOk P w H h) (mu:Mut (H x)) (he:e=x∨H e=some (.own x)) (k:∀ b u,b≠e→h.get? b=some u→h'.get? b=some u) (heo:∃ u,h'.get? e=some u)
  (new:bx P w (upd H x o') h' x o'):HOk P w (upd H x o') h':=fun b u q=>by
 have K6:∀ c y,H c=some (.own y)→c≠x:=fun c y r z=>by subst z;rw [r] at mu;exact mu
 have Ny:∀ c xs,H c=some (.tup xs)→c≠x:=fun c xs r z=>by subst z;rw [r] at mu;exact mu
 have Nz:∀ c o y,H c=some (.frz o y)→c≠x:=fun c o y r z=>by subst z;rw [r] at mu;exact mu
 by_cases hb:b=x
 ·subst hb;rw [ay] at q;cases q;exact new
 ·rw [aB hb] at q
  by_cases hbe:b=e
  ·have q':H b=some (.own x):=by
    rcases he with z | z
    ·exact absurd (hbe.trans z) hb
    ·rw [hbe];exact z
   rw [q] at q';cases q'
   obtain ⟨v,hv⟩:=heo
   exact ⟨v,by rw [hbe];exact hv⟩
  ·refine (ok b u q).stay (fun c v hc r=>k c v ?_ r) (fun c r=>by rw [aB (K6 c b r)];exact r) (fun c _ _ r=>by rw [aB (Nz c _ _ r)];exact r) fun c xs r=>by rw [aB (Ny c xs r)];exact r
   rcases hc with rfl | hc
   ·exact hbe
   ·rintro rfl
    rcases he with z | z
    ·exact K6 c b hc z
    ·rw [hc] at z;cases z;exact hb rfl
end
structure Un (fs ex:List Addr) (H H':Hp) (h h':Heap):Prop where
 keep:∀ b o,h.get? b=some o→H b=none→b∉fs→b∉ex→h'.get? b=some o
 slot:∀ b o,h.get? b=some o→H b=none→b∈fs→b∉ex→∃ sl,h'.get? b=some { o with slots:=sl }
 free:∀ b o,h.get? b=some o→H b=none→b∉ex→H' b=none
 there:∀ b o,h.get? b=some o→b∉ex→∃ o',h'.get? b=some o'
 tups:∀ b xs,H b=some (.tup xs)→H' b=some (.tup xs)
 p6:∀ b o u,H b=some (.frz o u)→H' b=some (.frz o u)
 qZ:∀ b x y z,H b=some (.tbl x y z)→H' b=some (.tbl x y z)
section
variable {fs fs' ex ex':List Addr} {H H1 H2:Hp} {h h1 h2 h':Heap} {a x e:Addr} {o:HO}
theorem Un.any (u:Un fs ex H H1 h h1) {b:Addr} {ob:Obj} (q:h.get? b=some ob) (n:H b=none) (hx:b∉ex):∃ sl,h1.get? b=some { ob with slots:=sl }:=by
 by_cases hb:b∈fs
 ·exact u.slot b ob q n hb hx
 ·exact ⟨ob.slots,u.keep b ob q n hb hx⟩
theorem Un.kept (k:∀ b u,h.get? b=some u→h'.get? b=some u):Un fs ex H H h h':=
 ⟨fun b ob q _ _ _=>k b ob q,fun b ob q _ _ _=>⟨ob.slots,k b ob q⟩,fun _ _ _ n _=>n,fun b ob q _=>⟨ob,k b ob q⟩,fun _ _ q=>q,fun _ _ _ q=>q,fun _ _ _ _ q=>q⟩
theorem Un.refl:Un fs ex H H h h:=Un.kept fun _ _ q=>q
theorem Un.laid (k:∀ b u,h.get? b=some u→h'.get? b=some u) (hp:h.objs.size≤a) (hn:H a=none):Un fs ex H (upd H a o) h h' where
 keep:=fun b u q _ _ _=>k b u q
 slot:=fun b u q _ _ _=>⟨u.slots,k b u q⟩
 free:=fun b u q n _=>by rw [aB (Nat.ne_of_lt (Nat.lt_of_lt_of_le (Heap.lt_size q) hp))];exact n
 there:=fun b u q _=>⟨u,k b u q⟩
 tups:=fun b xs q=>by rw [aB (aP q hn)];exact q
 p6:=fun b u xs q=>by rw [aB (aP q hn)];exact q
 qZ:=fun b _ _ _ q=>by rw [aB (aP q hn)];exact q
theorem Un.write (mu:Mut (H x)) (he:e=x∨H e=some (.own x)) (k:∀ b u,b≠e→h.get? b=some u→h'.get? b=some u) (heo:∃ u,h'.get? e=some u):Un fs ex H (upd H x o) h h':=by
 have hx:∀ b,H b=none→b≠x:=fun b n z=>by subst z;rw [n] at mu;exact mu
 have hb:∀ b,H b=none→b≠e:=fun b n z=>by
  subst z
  rcases he with r | r
  ·exact hx b n r
  ·rw [n] at r;cases r
 have hm:∀ b u,H b=some u→¬ Mut (some u)→b≠x:=fun b u q nm z=>by subst z;rw [q] at mu;exact nm mu
 refine ⟨fun b u q n _ _=>k b u (hb b n) q,fun b u q n _ _=>⟨u.slots,k b u (hb b n) q⟩,fun b u q n _=>by rw [aB (hx b n)];exact n,fun b u q _=>?_,
  fun b xs q=>by rw [aB (hm b _ q fun z=>z)];exact q,fun b u xs q=>by rw [aB (hm b _ q fun z=>z)];exact q,fun b _ _ _ q=>by rw [aB (hm b _ q fun z=>z)];exact q⟩
 by_cases hbe:b=e
 ·subst hbe;exact heo
 ·exact ⟨u,k b u hbe q⟩
end
noncomputable def trk (h:Heap) (H:Hp):List Addr:=(List.range h.objs.size).filter fun a=>(H a).isSome
noncomputable def p7 (h:Heap) (H:Hp):Heap:=PySem.W.hideAll h (trk h H)
theorem yq (h:Heap) (H:Hp):(p7 h H).objs.size=h.objs.size:=PySem.W.hideAll_size _ _
theorem zE {h:Heap} {H:Hp} {b:Addr} {o:Obj} (e:h.get? b=some o) (n:H b=none):(p7 h H).get? b=some o:=
 PySem.W.hideAll_get _ e fun hm=>by
  have q:(H b).isSome=true:=(List.mem_filter.mp hm).2
  rw [n] at q;simp at q
theorem Dy {h:Heap} {H:Hp} {b:Addr} {o:Obj} (e:(p7 h H).get? b=some o):h.get? b=some o∧H b=none:=by
 have e':h.get? b=some o:=PySem.W.of_hideAll (trk h H) e
 refine ⟨e',?_⟩
 cases q:H b with
 | none=>rfl
 | some x=>
  have hm:b∈trk h H:=List.mem_filter.mpr ⟨List.mem_range.mpr (Heap.lt_size e'),by simp [q]⟩
  have z:(p7 h H).get? b=none:=PySem.W.hideAll_none (trk h H) hm
  rw [z] at e;cases e
structure Mod (K:PySem.W.Frag) (mg:Str→Option Value) (base:Heap):Prop where
 kin:K.In base
 glob:base.Ns mainGlobals mg
 blt:∃ mb,base.Ns builtinsNs mb∧∀ x:Str,x ≠ "__name__" → mb x=bootBuiltins x
 nolimit:base.NoLimit
structure Cx where
 prog:Program
 w:World
 K:PySem.W.Frag
 mg:Str→Option Value
 base:Heap
 A:Around
 N:List Str
 s₀:Shared
 H₀:Hp
 env:Env
 outer:List Env
 stack:List Env
 ex:List Addr
 fn:Str→Bool
 calm:Bool
 pn:List (Addr×Obj)
 xe:Value→Shared→Prop
noncomputable def frs (l:List Env):List Addr:=l.filterMap (·.frame)
noncomputable abbrev Cx.fs (X:Cx):List Addr:=frs X.outer
noncomputable def Vis (sc:Scope) (x:Str):Prop:=sc.names.lookup x=some .local∨sc.names.lookup x=some .cell∨sc.names.lookup x=some .free
noncomputable def Loc (sc:Scope) (x:Str):Prop:=sc.names.lookup x=some .local∨sc.names.lookup x=some .cell
noncomputable def Look (env:Env) (h:Heap) (m:Str→Option Value) (x:Str) (u:Value):Prop:=
 (env.kindOf x=some .local∧m x=some u)∨((env.kindOf x=some .cell∨env.kindOf x=some .free)∧∃ c,env.cells.lookup x=some c∧h.IsCell c (some u))
structure Cx.Ok (X:Cx):Prop where
 mod:Mod X.K X.mg X.base
 kind:X.env.scope.kind=.function
 glob:X.env.globals=mainGlobals
 blt:X.env.builtins=builtinsNs
 above:X.s₀.heap.objs.size≤X.env.locals
 inj:∀ x y c,X.env.cells.lookup x=some c→X.env.cells.lookup y=some c→x=y
 has:∀ x,(X.env.kindOf x=some .cell∨X.env.kindOf x=some .free)→∃ c,X.env.cells.lookup x=some c
 cab:∀ x c,X.fn x=true→X.env.cells.lookup x=some c→X.s₀.heap.objs.size≤c
 hd:X.calm=true→X.A.handled=none
 frames:X.A.frames=some X.stack
 stk:X.stack=X.outer∨(X.stack=X.env::X.outer∧X.env.frame=some X.env.locals)
 exf:∀ b∈X.ex,b≠X.env.locals∧∀ x c,X.env.cells.lookup x=some c→c≠b
 bs:∀ b o,X.base.get? b=some o→X.s₀.heap.get? b=some o∧X.H₀ b=none
 bsz:X.base.objs.size≤X.s₀.heap.objs.size
 zF:∀ b o,X.base.get? b=some o→b∉X.ex
 Dz:∀ b∈X.ex,b∉X.fs
 k_:X.s₀.heap.FunFrames X.base X.outer
 frf:∀ b∈X.fs,X.H₀ b=none
structure Inv (X:Cx) (pins:List (Addr×Obj)) (σ:List (Option V)) (H:Hp) (s:Shared):Prop where
 ok:X.Ok
 os:s.os=X.s₀.os
 bare:AllBare s.gens
 base:Un X.fs X.ex X.H₀ H X.s₀.heap s.heap
 loc:∃ m,s.heap.Ns X.env.locals m∧∀ (i:Nat) (x:Str) (v:V),X.N[i]?=some x→σ[i]?=some (some v)→Vis X.env.scope x→∃ u,RelV v u∧Look X.env s.heap m x u
 cell:∀ x c,X.env.cells.lookup x=some c→∃ v,s.heap.IsCell c v
 free:H X.env.locals=none
 gH:∀ x c,X.env.cells.lookup x=some c→H c=none
 pin:∀ p∈X.pn++pins,s.heap.get? p.1=some p.2∧H p.1=none∧p.1≠X.env.locals∧p.1∉X.fs∧∀ v,p.2.data≠.cell v
 hok:HOk X.prog X.w H s.heap
 len:σ.length=X.N.length
section
variable {X:Cx} {pins:List (Addr×Obj)} {σ:List (Option V)} {H H':Hp} {s:Shared} {h':Heap}
theorem Cx.Ok.NB (ok:X.Ok) {b:Addr} {o:Obj} (e:X.base.get? b=some o):b∉X.fs:=fun hb=>by
 have:=(ok.k_.mem hb).1
 rw [e] at this;cases this
theorem Inv.bs (I:Inv X pins σ H s):∀ b o,X.base.get? b=some o→s.heap.get? b=some o∧H b=none:=fun b o e=>
 ⟨I.base.keep b o (I.ok.bs b o e).1 (I.ok.bs b o e).2 (I.ok.NB e) (I.ok.zF b o e),I.base.free b o (I.ok.bs b o e).1 (I.ok.bs b o e).2 (I.ok.zF b o e)⟩
theorem Inv.bk (I:Inv X pins σ H s):∀ b o,X.base.get? b=some o→s.heap.get? b=some o:=fun b o e=>(I.bs b o e).1
theorem Inv.mod (I:Inv X pins σ H s):Mod X.K X.mg X.base:=I.ok.mod
theorem Inv.kIn (I:Inv X pins σ H s):X.K.In s.heap:=I.ok.mod.kin.keeps I.bk
theorem Inv.lt (I:Inv X pins σ H s):X.env.locals<s.heap.objs.size:=let ⟨_,hn,_⟩:=I.loc;hn.lt
theorem Inv.sz (I:Inv X pins σ H s):X.s₀.heap.objs.size≤s.heap.objs.size:=Nat.le_trans I.ok.above (Nat.le_of_lt I.lt)
theorem Inv.NC (I:Inv X pins σ H s) {a:Addr} (h:s.heap.objs.size≤a):a∉X.fs:=fun hb=>by
 obtain ⟨_,o,ho,_⟩:=I.ok.k_.mem hb
 exact absurd (Nat.lt_of_lt_of_le (Heap.lt_size ho) (Nat.le_trans I.sz h)) (Nat.lt_irrefl _)
theorem Inv.cne (I:Inv X pins σ H s):∀ x c,X.env.cells.lookup x=some c→c≠X.env.locals:=fun x c e z=>by
 obtain ⟨v,o,ho,hd⟩:=I.cell x c e
 obtain ⟨m,⟨o',es,ep,ho',hd',_⟩,_⟩:=I.loc
 rw [z,ho'] at ho;cases ho;rw [hd'] at hd;cases hd
theorem Inv.k_ (I:Inv X pins σ H s):s.heap.FunFrames X.base X.outer:=by
 have all:∀ (l:List Env),(∀ b∈frs l,b∈X.fs)→X.s₀.heap.FunFrames X.base l→s.heap.FunFrames X.base l:=by
  intro l
  induction l with
  | nil=>intro _ _;trivial
  | cons env r ih=>
   intro hs hl
   obtain ⟨hk,⟨L,o,hf,hn,ho,hd⟩,hr⟩:=hl
   have hL:L∈X.fs:=hs L (by unfold frs;rw [List.filterMap_cons,hf];exact List.mem_cons_self)
   obtain ⟨sl,e⟩:=I.base.slot L o ho (I.ok.frf L hL) hL fun z=>I.ok.Dz L z hL
   exact ⟨hk,⟨L,_,hf,hn,e,hd⟩,ih (fun b hb=>hs b (by unfold frs;rw [List.filterMap_cons,hf];exact List.mem_cons_of_mem _ hb)) hr⟩
 exact all X.outer (fun _ hb=>hb) I.ok.k_
theorem Inv.stack (I:Inv X pins σ H s):s.heap.FunFrames X.base X.stack:=by
 rcases I.ok.stk with e | ⟨e,hf⟩
 ·rw [e];exact I.k_
 ·rw [e]
  obtain ⟨m,hn,_⟩:=I.loc
  refine .cons (by rw [I.ok.kind];decide) hf hn ?_ I.k_
  exact Heap.get?_none_of_le (Nat.le_trans I.ok.bsz I.ok.above)
theorem Inv.uB (I:Inv X pins σ H s):∀ b∈frs X.stack,b∈X.env.locals::X.fs:=fun b hb=>by
 rcases I.ok.stk with e | ⟨e,hf⟩
 ·rw [e] at hb;exact List.mem_cons_of_mem _ hb
 ·rw [e] at hb
  unfold frs at hb
  rw [List.filterMap_cons,hf] at hb
  exact hb
theorem Inv.v_ (I:Inv X pins σ H s):∀ b∈frs X.stack,H b=none:=fun b hb=>by
 rcases List.mem_cons.mp (I.uB b hb) with e | hb
 ·rw [e];exact I.free
 ·obtain ⟨_,o,ho,_⟩:=I.ok.k_.mem hb
  exact I.base.free b o ho (I.ok.frf b hb) fun z=>I.ok.Dz b z hb
theorem Inv.step {g':Array GenState} {t':Nat} {d':Drawn} {ch:List Addr} (I:Inv X pins σ H s)
  (hch:∀ b∈ch,(b∈X.ex∨X.s₀.heap.objs.size≤b)∧b≠X.env.locals∧(∀ x c,X.env.cells.lookup x=some c→c≠b)∧∀ p∈X.pn++pins,p.1≠b)
  (keep:∀ b o,b≠X.env.locals→b∉X.fs→b∉ch→s.heap.get? b=some o→H b=none→h'.get? b=some o)
  (slot:∀ b o,b≠X.env.locals→b∈X.fs→b∉ch→s.heap.get? b=some o→H b=none→∃ sl,h'.get? b=some { o with slots:=sl }) (free:∀ b o,b∉ch→s.heap.get? b=some o→H b=none→H' b=none)
  (there:∀ b o,b∉ch→s.heap.get? b=some o→∃ o',h'.get? b=some o')
  (tups:∀ b xs,H b=some (.tup xs)→H' b=some (.tup xs)) (p6:∀ b o u,H b=some (.frz o u)→H' b=some (.frz o u)) (qZ:∀ b x y z,H b=some (.tbl x y z)→H' b=some (.tbl x y z))
  (ns:∀ m,s.heap.Ns X.env.locals m→h'.Ns X.env.locals m) (hok:HOk X.prog X.w H' h') (hg:AllBare g') :
  Inv X pins σ H' { s with heap:=h',gens:=g',drawn:=d',toks:=t' }:=by
 have neL:∀ b o,X.s₀.heap.get? b=some o→b≠X.env.locals:=fun b o e=>Nat.ne_of_lt (Nat.lt_of_lt_of_le (Heap.lt_size e) I.ok.above)
 have neC:∀ b o,X.s₀.heap.get? b=some o→b∉X.ex→b∉ch:=fun b o e hx hb=>by
  rcases (hch b hb).1 with z | z
  ·exact hx z
  ·exact absurd (Nat.lt_of_lt_of_le (Heap.lt_size e) z) (Nat.lt_irrefl _)
 have cellK:∀ x c,X.env.cells.lookup x=some c→∀ v,s.heap.IsCell c v→h'.IsCell c v:=fun x c e v ⟨o,ho,hd⟩=>by
  have nch:c∉ch:=fun z=>(hch c z).2.2.1 x c e rfl
  by_cases hc:c∈X.fs
  ·obtain ⟨sl,q⟩:=slot c o (I.cne x c e) hc nch ho (I.gH x c e)
   exact ⟨_,q,hd⟩
  ·exact ⟨o,keep c o (I.cne x c e) hc nch ho (I.gH x c e),hd⟩
 refine ⟨I.ok,I.os,hg,⟨fun b o e n hb hx=>?_,fun b o e n hb hx=>?_,fun b o e n hx=>?_,fun b o e hx=>?_,fun b xs e=>tups b xs (I.base.tups b xs e),fun b o xs e=>p6 b o xs (I.base.p6 b o xs e),fun b x y z e=>?_⟩,?_,fun x c e=>?_,?_,fun x c e=>?_,fun p hp=>?_,hok,I.len⟩
 ·exact keep b o (neL b o e) hb (neC b o e hx) (I.base.keep b o e n hb hx) (I.base.free b o e n hx)
 ·obtain ⟨sl,e1⟩:=I.base.slot b o e n hb hx
  obtain ⟨sl',e2⟩:=slot b _ (neL b o e) hb (neC b o e hx) e1 (I.base.free b o e n hx)
  exact ⟨sl',e2⟩
 ·obtain ⟨o',e1⟩:=I.base.there b o e hx
  exact free b o' (neC b o e hx) e1 (I.base.free b o e n hx)
 ·obtain ⟨o',e1⟩:=I.base.there b o e hx
  exact there b o' (neC b o e hx) e1
 ·exact qZ _ _ _ _ (I.base.qZ _ _ _ _ e)
 ·obtain ⟨m,hn,hl⟩:=I.loc
  refine ⟨m,ns m hn,fun i x v e1 e2 e3=>?_⟩
  obtain ⟨u,r,l⟩:=hl i x v e1 e2 e3
  refine ⟨u,r,?_⟩
  rcases l with l | ⟨k,c,e,z⟩
  ·exact .inl l
  ·exact .inr ⟨k,c,e,cellK x c e _ z⟩
 ·obtain ⟨v,z⟩:=I.cell x c e
  exact ⟨v,cellK x c e v z⟩
 ·obtain ⟨m,⟨o,_,_,ho,_⟩,_⟩:=I.loc
  exact free _ o (fun z=>(hch _ z).2.1 rfl) ho I.free
 ·obtain ⟨v,o,ho,hd⟩:=I.cell x c e
  exact free c o (fun z=>(hch c z).2.2.1 x c e rfl) ho (I.gH x c e)
 ·obtain ⟨e,n,ne,nf,d⟩:=I.pin p hp
  have nch:p.1∉ch:=fun z=>(hch p.1 z).2.2.2 p hp rfl
  exact ⟨keep p.1 p.2 ne nf nch e n,free p.1 p.2 nch e n,ne,nf,d⟩
theorem Inv.un {t':Nat} (I:Inv X pins σ H s) (u:Un X.fs [] H H' s.heap h') (hok:HOk X.prog X.w H' h'):Inv X pins σ H' { s with heap:=h',toks:=t' }:=by
 obtain ⟨m,⟨o,es,ep,ho,r⟩,_⟩:=id I.loc
 obtain ⟨sl,hL⟩:=u.any ho I.free (by simp)
 exact I.step (g':=s.gens) (d':=s.drawn) (ch:=[]) (fun _ z=>nomatch z) (fun b o _ hb _ e n=>u.keep b o e n hb (by simp)) (fun b o _ hb _ e n=>u.slot b o e n hb (by simp)) (fun b o _ e n=>u.free b o e n (by simp)) (fun b o _ e=>u.there b o e (by simp)) u.tups u.p6 u.qZ (fun m' hm=>by
  obtain ⟨o',es',ep',ho',r'⟩:=hm
  rw [ho] at ho';cases ho'
  exact ⟨_,es',ep',hL,r'⟩) hok I.bare
theorem Inv.call {g':Array GenState} {t':Nat} {d':Drawn} {ch:List Addr} (I:Inv X pins σ H s) (u:Un (frs X.stack) ch H H' s.heap h') (hok:HOk X.prog X.w H' h') (hg:AllBare g')
  (hch:∀ b∈ch,(b∈X.ex∨X.s₀.heap.objs.size≤b)∧b≠X.env.locals∧(∀ x c,X.env.cells.lookup x=some c→c≠b)∧∀ p∈X.pn++pins,p.1≠b) :
  Inv X pins σ H' { s with heap:=h',gens:=g',drawn:=d',toks:=t' }:=by
 obtain ⟨m,⟨o,es,ep,ho,r⟩,_⟩:=id I.loc
 obtain ⟨sl,hL⟩:=u.any ho I.free fun z=>(hch _ z).2.1 rfl
 exact I.step (ch:=ch) hch (fun b o hL hb hc e n=>u.keep b o e n (fun z=>(List.mem_cons.mp (I.uB b z)).elim hL hb) hc) (fun b o _ _ hc e n=>u.any e n hc) (fun b o hc e n=>u.free b o e n hc) (fun b o hc e=>u.there b o e hc) u.tups u.p6 u.qZ (fun m' hm=>by
  obtain ⟨o',es',ep',ho',r'⟩:=hm
  rw [ho] at ho';cases ho'
  exact ⟨_,es',ep',hL,r'⟩) hok hg
theorem Inv.turned {t':Nat} {it:Addr} (I:Inv X pins σ H s) (k:∀ b o,b≠it→s.heap.get? b=some o→h'.get? b=some o) (hn:H it=none) (hL:it≠X.env.locals)
  (h1:it∈X.ex∨X.s₀.heap.objs.size≤it) (h2:∀ x c,X.env.cells.lookup x=some c→c≠it) (h3:∀ p∈X.pn++pins,p.1≠it):Inv X pins σ H { s with heap:=h',toks:=t' }:=by
 have nit:∀ b u,H b=some u→b≠it:=fun b u e z=>by rw [z,hn] at e;cases e
 refine I.step (g':=s.gens) (d':=s.drawn) (ch:=[it]) (fun b hb=>?_) (fun b o _ _ hc e _=>k b o (fun z=>hc (by simp [z])) e) (fun b o _ _ hc e _=>⟨o.slots,k b o (fun z=>hc (by simp [z])) e⟩) (fun _ _ _ _ n=>n)
  (fun b o hc e=>⟨o,k b o (fun z=>hc (by simp [z])) e⟩) (fun _ _ e=>e) (fun _ _ _ e=>e) (fun _ _ _ _ e=>e) (fun m hm=>?_) (fun b u e=>?_) I.bare
 ·have e:b=it:=by simpa using hb
  subst e
  exact ⟨h1,hL,h2,h3⟩
 ·obtain ⟨o,es,ep,ho,r⟩:=hm
  exact ⟨o,es,ep,k _ o (Ne.symm hL) ho,r⟩
 ·refine (I.hok b u e).stay (fun c v hc q=>k c v ?_ q) (fun _ q=>q) (fun _ _ _ q=>q) fun _ _ q=>q
  rcases hc with z | z
  ·rw [z];exact nit b u e
  ·exact nit c _ z
theorem Inv.tok (I:Inv X pins σ H s) (t:Nat):Inv X pins σ H { s with toks:=t }:=I.un (h':=s.heap) (t':=t) Un.refl I.hok
theorem Inv.kept {t':Nat} (I:Inv X pins σ H s) (k:∀ b u,s.heap.get? b=some u→h'.get? b=some u):Inv X pins σ H { s with heap:=h',toks:=t' }:=I.un (Un.kept k) (I.hok.kept k)
theorem Inv.laid {a:Addr} {o:HO} {t':Nat} (I:Inv X pins σ H s) (k:∀ b u,s.heap.get? b=some u→h'.get? b=some u) (hp:s.heap.objs.size≤a) (new:bx X.prog X.w (upd H a o) h' a o) :
  Inv X pins σ (upd H a o) { s with heap:=h',toks:=t' }:=I.un (Un.laid k hp (I.hok.fresh hp)) (I.hok.laid k hp new)
theorem Inv.write {x e:Addr} {o:HO} {t':Nat} (I:Inv X pins σ H s) (mu:Mut (H x)) (he:e=x∨H e=some (.own x)) (k:∀ b u,b≠e→s.heap.get? b=some u→h'.get? b=some u) (heo:∃ u,h'.get? e=some u)
  (new:bx X.prog X.w (upd H x o) h' x o):Inv X pins σ (upd H x o) { s with heap:=h',toks:=t' }:=I.un (Un.write mu he k heo) (I.hok.write mu he k heo new)
theorem Inv.wc {F6:List (Addr×Obj)} (I:Inv X pins σ H s) (h:∀ p∈F6,s.heap.get? p.1=some p.2∧H p.1=none∧p.1≠X.env.locals∧p.1∉X.fs∧∀ v,p.2.data≠.cell v):Inv X F6 σ H s:=
 ⟨I.ok,I.os,I.bare,I.base,I.loc,I.cell,I.free,I.gH,fun p hp=>(List.mem_append.mp hp).elim (fun z=>I.pin p (List.mem_append_left _ z)) (h p),I.hok,I.len⟩
theorem q_ {N:List Str} (hN:N.Nodup) {i j:Nat} {x:Str} (a:N[i]?=some x) (b:N[j]?=some x):i=j:=by
 obtain ⟨h1,e1⟩:=List.getElem?_eq_some_iff.mp a
 obtain ⟨h2,e2⟩:=List.getElem?_eq_some_iff.mp b
 exact (List.getElem_inj hN).mp (e1.trans e2.symm)
theorem oR {M:Model} {A:Around} {E:Value→Shared→Prop} {i:Nat} {x:Str} {v:V} {u:Value} {Q:Unit→Shared→Prop} (I:Inv X pins σ H s) (hN:X.N.Nodup) (hi:X.N[i]?=some x) (hx:Loc X.env.scope x) (r:RelV v u)
  (h:∀ s',Inv X pins (σ.set i (some v)) H s'→(∃ a,Heap.SameBut a s.heap s'.heap∧(a=X.env.locals∨X.env.cells.lookup x=some a))→Q () s') (hf:X.fn x=true∨X.env.scope.names.lookup x=some .local:=by first | exact .inl rfl | exact .inr rfl | assumption):wpAny M A (storeName X.env x u) Q E s:=by
 obtain ⟨m,hn,hl⟩:=id I.loc
 have hcls:(X.env.scope.kind == .class||(X.env.scope.kind == .module&&X.env.locals != X.env.globals))=false:=by rw [I.ok.kind];rfl
 have hiσ:i<σ.length:=by rw [I.len];exact (List.getElem?_eq_some_iff.mp hi).1
 have cne:=I.cne
 have tracked:∀ {a:Addr} {h':Heap},(∃ o,s.heap.get? a=some o∧H a=none)→Heap.SameBut a s.heap h'→HOk X.prog X.w H h':=fun {a h'} ha hs b ob e=>by
  obtain ⟨_,_,hfree⟩:=ha
  refine (I.hok b ob e).stay (fun c w' hc q=>(hs.2 c ?_).trans q) (fun _ q=>q) (fun _ _ _ q=>q) fun _ _ q=>q
  rintro rfl
  rcases hc with rfl | hc
  ·rw [hfree] at e;cases e
  ·rw [hfree] at hc;cases hc
 rcases hx with hk | hk
 ·refine wpAny_storeName_local hk hn (fun h' hn' hs=>?_) hcls
  obtain ⟨oL,_,_,hoL,_⟩:=id hn
  refine h _ ⟨I.ok,I.os,I.bare,⟨fun b o e n hb hx=>?_,fun b o e n hb hx=>?_,I.base.free,fun b o e hx=>?_,I.base.tups,I.base.p6,I.base.qZ⟩,⟨_,hn',fun j y v' e1 e2 e3=>?_⟩,fun y c e=>?_,I.free,I.gH,fun p hp=>?_,tracked ⟨oL,hoL,I.free⟩ hs,by simpa using I.len⟩ ⟨_,hs,.inl rfl⟩
  ·exact (hs.2 b (Nat.ne_of_lt (Nat.lt_of_lt_of_le (Heap.lt_size e) I.ok.above))).trans (I.base.keep b o e n hb hx)
  ·obtain ⟨sl,e1⟩:=I.base.slot b o e n hb hx
   exact ⟨sl,(hs.2 b (Nat.ne_of_lt (Nat.lt_of_lt_of_le (Heap.lt_size e) I.ok.above))).trans e1⟩
  ·obtain ⟨o',e1⟩:=I.base.there b o e hx
   exact ⟨o',(hs.2 b (Nat.ne_of_lt (Nat.lt_of_lt_of_le (Heap.lt_size e) I.ok.above))).trans e1⟩
  ·by_cases hj:j=i
   ·subst hj
    rw [hi] at e1;cases e1
    rw [List.getElem?_set_self hiσ] at e2
    cases e2
    exact ⟨u,r,.inl ⟨hk,by simp⟩⟩
   ·rw [List.getElem?_set_ne (Ne.symm hj)] at e2
    obtain ⟨u',r',q⟩:=hl j y v' e1 e2 e3
    refine ⟨u',r',?_⟩
    rcases q with ⟨k,e⟩ | ⟨k,c,e,z⟩
    ·refine .inl ⟨k,?_⟩
     have:y≠x:=fun e=>hj (q_ hN e1 (e▸hi))
     simp [this,e]
    ·exact .inr ⟨k,c,e,z.sameBut hs (cne y c e)⟩
  ·obtain ⟨w',z⟩:=I.cell y c e
   exact ⟨w',z.sameBut hs (cne y c e)⟩
  ·obtain ⟨e,n,ne,nf,d⟩:=I.pin p hp
   exact ⟨(hs.2 p.1 ne).trans e,n,ne,nf,d⟩
 ·have hfn:X.fn x=true:=by
   rcases hf with z | z
   ·exact z
   ·rw [z] at hk;cases hk
  obtain ⟨c,hc⟩:=I.ok.has x (.inl hk)
  obtain ⟨w',z⟩:=I.cell x c hc
  refine wpAny_storeName_cell I.ok.kind hk hc z (fun h' hc' hs=>?_)
  obtain ⟨oc,hoc,ND⟩:=id z
  refine h { s with heap:=h' } ⟨I.ok,I.os,I.bare,⟨fun b o e n hb hx=>?_,fun b o e n hb hx=>?_,I.base.free,fun b o e hx=>?_,I.base.tups,I.base.p6,I.base.qZ⟩,⟨m,hn.sameBut hs (Ne.symm (cne x c hc)),fun j y v' e1 e2 e3=>?_⟩,fun y c' e=>?_,I.free,I.gH,fun p hp=>?_,tracked ⟨oc,hoc,I.gH x c hc⟩ hs,by simpa using I.len⟩ ⟨c,hs,.inr hc⟩
  ·exact (hs.2 b (Nat.ne_of_lt (Nat.lt_of_lt_of_le (Heap.lt_size e) (I.ok.cab x c hfn hc)))).trans (I.base.keep b o e n hb hx)
  ·obtain ⟨sl,e1⟩:=I.base.slot b o e n hb hx
   exact ⟨sl,(hs.2 b (Nat.ne_of_lt (Nat.lt_of_lt_of_le (Heap.lt_size e) (I.ok.cab x c hfn hc)))).trans e1⟩
  ·obtain ⟨o',e1⟩:=I.base.there b o e hx
   exact ⟨o',(hs.2 b (Nat.ne_of_lt (Nat.lt_of_lt_of_le (Heap.lt_size e) (I.ok.cab x c hfn hc)))).trans e1⟩
  ·by_cases hj:j=i
   ·subst hj
    rw [hi] at e1;cases e1
    rw [List.getElem?_set_self hiσ] at e2
    cases e2
    exact ⟨u,r,.inr ⟨.inl hk,c,hc,hc'⟩⟩
   ·rw [List.getElem?_set_ne (Ne.symm hj)] at e2
    obtain ⟨u',r',q⟩:=hl j y v' e1 e2 e3
    refine ⟨u',r',?_⟩
    rcases q with q | ⟨k,c',e,z'⟩
    ·exact .inl q
    ·refine .inr ⟨k,c',e,z'.sameBut hs ?_⟩
     rintro rfl
     exact hj (q_ hN e1 (I.ok.inj _ _ _ e hc▸hi))
  ·by_cases hcc:c'=c
   ·subst hcc;exact ⟨_,hc'⟩
   ·obtain ⟨w2,z2⟩:=I.cell y c' e
    exact ⟨w2,z2.sameBut hs hcc⟩
  ·obtain ⟨e,n,ne,nf,d⟩:=I.pin p hp
   refine ⟨(hs.2 p.1 ?_).trans e,n,ne,nf,d⟩
   intro q
   rw [q,hoc] at e
   have q':oc=p.2:=Option.some.inj e
   exact d w' (by rw [← q'];exact ND)
theorem rj {M:Model} {A:Around} {E:Value→Shared→Prop} {i:Nat} {x:Str} {v:V} {u:Value} {Q:Unit→Shared→Prop} (I:Inv X pins σ H s) (hN:X.N.Nodup) (hi:X.N[i]?=some x) (hx:Loc X.env.scope x) (r:RelV v u)
  (h:∀ s',Inv X pins (σ.set i (some v)) H s'→Q () s') (hf:X.fn x=true∨X.env.scope.names.lookup x=some .local:=by first | exact .inl rfl | exact .inr rfl | assumption):wpAny M A (storeName X.env x u) Q E s:=
 oR I hN hi hx r (fun s' I' _=>h s' I') hf
theorem Inv.K7 {s':Shared} {ch:List Addr} (I:Inv X pins σ H s) (ho:s'.os=s.os) (u:Un (frs X.stack) ch H H' s.heap s'.heap) (hok:HOk X.prog X.w H' s'.heap) (hg:AllBare s'.gens)
  (hch:∀ b∈ch,(b∈X.ex∨X.s₀.heap.objs.size≤b)∧b≠X.env.locals∧(∀ x c,X.env.cells.lookup x=some c→c≠b)∧∀ p∈X.pn++pins,p.1≠b):Inv X pins σ H' s':=by
 obtain ⟨h',g',d',t',o'⟩:=s'
 have e:o'=s.os:=ho
 subst e
 exact I.call (g':=g') (t':=t') (d':=d') u hok hg hch
end
noncomputable abbrev XK:=Value→Option Addr→Hp→Prop
noncomputable abbrev St:=List (Option V)
noncomputable abbrev VK:=V→Hp→Prop
noncomputable abbrev TE:=St→Hp→VK→Prop
noncomputable abbrev TT:=St→Hp→(Bool→Hp→Prop)→Prop
noncomputable abbrev TA:=St→Hp→(List V→Hp→Prop)→Prop
structure Ends where
 nx:St→Hp→Prop
 rt:VK
 bk:St→Hp→Prop:=fun _ _=>False
 ct:St→Hp→Prop:=fun _ _=>False
noncomputable abbrev TS:=Ends→St→Hp→Prop
noncomputable def EP (X:Cx) (pins:List (Addr×Obj)) (σ:St) (Q:VK) (u:Value) (s':Shared):Prop:=∃ v H',Inv X pins σ H' s'∧RelV v u∧Q v H'
noncomputable def TP (X:Cx) (pins:List (Addr×Obj)) (σ:St) (Q:Bool→Hp→Prop) (b:Bool) (s':Shared):Prop:=∃ H',Inv X pins σ H' s'∧Q b H'
noncomputable def AP (X:Cx) (pins:List (Addr×Obj)) (σ:St) (Q:List V→Hp→Prop) (us:List Value) (s':Shared):Prop:=∃ vs H',Inv X pins σ H' s'∧Vals vs us∧Q vs H'
noncomputable def SP (X:Cx) (pins:List (Addr×Obj)) (D:Ends) (f:Flow) (s':Shared):Prop:=
 match f with
 | .next=>∃ σ' H',Inv X pins σ' H' s'∧D.nx σ' H'
 | .brk=>∃ σ' H',Inv X pins σ' H' s'∧D.bk σ' H'
 | .cont=>∃ σ' H',Inv X pins σ' H' s'∧D.ct σ' H'
 | .ret u=>∃ v σ' H',Inv X pins σ' H' s'∧RelV v u∧D.rt v H'
noncomputable def PE (X:Cx) (e:Expr) (t:TE):Prop:=
 ∀ (pins:List (Addr×Obj)) (s:Shared) (σ:St) (H:Hp) (Q:VK),Inv X pins σ H s→t σ H Q→wpAny (model X.prog X.w) X.A (eval e X.env) (EP X pins σ Q) X.xe s
noncomputable def PT (X:Cx) (e:Expr) (t:TT):Prop:=
 ∀ (pins:List (Addr×Obj)) (s:Shared) (σ:St) (H:Hp) (Q:Bool→Hp→Prop),Inv X pins σ H s→t σ H Q→wpAny (model X.prog X.w) X.A (isTrue e X.env (eval e X.env)) (TP X pins σ Q) X.xe s
noncomputable def PW (X:Cx) (e:Expr) (t:TT):Prop:=
 ∀ (whole:Sem Value) (pins:List (Addr×Obj)) (s:Shared) (σ:St) (H:Hp) (Q:Bool→Hp→Prop),Inv X pins σ H s→t σ H Q→wpAny (model X.prog X.w) X.A (isTrue e X.env whole) (TP X pins σ Q) X.xe s
theorem PW.pt {X:Cx} {e:Expr} {t:TT} (h:PW X e t):PT X e t:=h _
noncomputable def PA (X:Cx) (es:List Expr) (t:TA):Prop:=
 ∀ (pos:Pos) (pins:List (Addr×Obj)) (s:Shared) (σ:St) (H:Hp) (Q:List V→Hp→Prop),Inv X pins σ H s→t σ H Q→wpAny (model X.prog X.w) X.A (spliced (backTo pos (starEach es X.env))) (AP X pins σ Q) X.xe s
noncomputable def PS (X:Cx) (st:Stmt) (t:TS):Prop:=
 ∀ (pins:List (Addr×Obj)) (s:Shared) (σ:St) (H:Hp) (D:Ends),Inv X pins σ H s→t D σ H→wpAny (model X.prog X.w) X.A (exec st X.env) (SP X pins D) X.xe s
noncomputable def PSs (X:Cx) (st:List Stmt) (t:TS):Prop:=
 ∀ (pins:List (Addr×Obj)) (s:Shared) (σ:St) (H:Hp) (D:Ends),Inv X pins σ H s→t D σ H→wpAny (model X.prog X.w) X.A (execs st X.env) (SP X pins D) X.xe s
theorem thn {α:Type} {t:Sem α} {Q Q':α→Shared→Prop} {M:Model} {A:Around} {E:Value→Shared→Prop} {s:Shared} (h:wpAny M A t Q E s) (hQ:∀ a s,Q a s→Q' a s):wpAny M A t Q' E s:=wpAny_mono h hQ fun _ _ x=>x
section
variable {X:Cx}
noncomputable def lg (i:Nat):TE:=fun σ H Q=>∃ v,σ[i]?=some (some v)∧Q v H
noncomputable def tC (v:V):TE:=fun _ H Q=>Q v H
theorem eX {i:Nat} {x:Str} {pos:Pos} (hN:X.N[i]?=some x) (hv:Vis X.env.scope x) (hd:(x == ("__debug__" : Str))=false:=by decide) (hcd:(x == ("__classdict__" : Str))=false:=by decide):PE X (.Name x pos) (lg i):=by
 intro pins s σ H Q I h
 obtain ⟨v,e,h⟩:=h
 obtain ⟨m,hn,hl⟩:=I.loc
 obtain ⟨u,r,l⟩:=hl i x v hN e hv
 have fin:EP X pins σ Q u s:=⟨v,H,I,r,h⟩
 rcases l with ⟨hk,hm⟩ | ⟨hk,c,hc,hcell⟩
 ·exact wpAny_Name (wpAny_loadName_local I.ok.kind hk hn hm fin) hd
 ·rcases hk with hk | hk
  ·exact wpAny_Name (wpAny_loadName_cell I.ok.kind hk hc hcell fin) hd
  ·exact wpAny_Name (wpAny_loadName_free I.ok.kind hk hc hcell fin hcd) hd
theorem uC {i j pos}:PE X (.Constant (.int i) j pos) (tC (.int i)):=fun _ _ _ H _ I h=>wpAny_Constant_int ⟨.int i,H,I.tok _,⟨_,rfl⟩,h⟩
theorem K8 {b j pos}:PE X (.Constant (.bool b) j pos) (tC (.bl b)):=fun _ _ _ H _ I h=>Constant_bool ⟨.bl b,H,I,rfl,h⟩
theorem HH {j pos}:PE X (.Constant .none j pos) (tC .non):=fun _ _ _ H _ I h=>Constant_none ⟨.non,H,I,rfl,h⟩
noncomputable def Gl (X:Cx) (x:Str):Prop:=X.env.kindOf x=some .globalImplicit
theorem we {E:Value→Shared→Prop} {pins:List (Addr×Obj)} {s:Shared} {σ:St} {H:Hp} {x:Str} {u:Value} {pos:Pos} {Q:Value→Shared→Prop} (I:Inv X pins σ H s) (hg:Gl X x) (hm:X.mg x=some u) (h:Q u s)
  (hd:(x == ("__debug__" : Str))=false:=by decide):wpAny (model X.prog X.w) X.A (eval (.Name x pos) X.env) Q E s:=
 Calls.Name_function_global I.ok.kind hg (Calls.loadGlobal_global (by rw [I.ok.glob];exact I.mod.glob.keeps I.bk) hm h) hd
theorem gQ {E:Value→Shared→Prop} {pins:List (Addr×Obj)} {s:Shared} {σ:St} {H:Hp} {x:Str} {u:Value} {pos:Pos} {Q:Value→Shared→Prop} (I:Inv X pins σ H s) (hg:Gl X x) (hm:X.mg x=none) (hv:bootBuiltins x=some u) (h:Q u s)
  (hn:x ≠ "__name__" := by decide) (hd:(x == ("__debug__" : Str))=false:=by decide):wpAny (model X.prog X.w) X.A (eval (.Name x pos) X.env) Q E s:=by
 obtain ⟨mb,h1,h2⟩:=I.mod.blt
 exact Calls.Name_function_global I.ok.kind hg (Calls.loadGlobal_builtin (by rw [I.ok.glob];exact I.mod.glob.keeps I.bk) hm (by rw [I.ok.blt];exact h1.keeps I.bk) ((h2 x hn).trans hv) h) hd
theorem DB {x:Str} {v:V} {u:Value} {pos:Pos} (hg:Gl X x) (hm:X.mg x=some u) (r:RelV v u) (hd:(x == ("__debug__" : Str))=false:=by decide):PE X (.Name x pos) (tC v):=
 fun _ _ _ H _ I h=>we I hg hm ⟨v,H,I,r,h⟩ hd
theorem DC {x:Str} {v:V} {u:Value} {pos:Pos} (hg:Gl X x) (hm:X.mg x=none) (hv:bootBuiltins x=some u) (r:RelV v u) (hn:x ≠ "__name__" := by decide) (hd:(x == ("__debug__" : Str))=false:=by decide):PE X (.Name x pos) (tC v):=
 fun _ _ _ H _ I h=>gQ I hg hm hv ⟨v,H,I,r,h⟩ hn hd
variable {a b:Expr} {ta tb:TE} {pos:Pos}
noncomputable def PC (X:Cx) (op:CmpOp) (a b:Expr) (t:TE):Prop:=
 ∀ (pins:List (Addr×Obj)) (s:Shared) (σ:St) (H:Hp) (Q:VK),Inv X pins σ H s→t σ H Q →
  wpAny (model X.prog X.w) X.A (eval a X.env) (fun v s₁=>wpAny (model X.prog X.w) X.A (eval b X.env) (fun u s₂=>wpAny (model X.prog X.w) X.A (compareOp op v u) (EP X pins σ Q) X.xe s₂) X.xe s₁) X.xe s
noncomputable def tB (t:TE):TT:=fun σ H Q=>t σ H fun x H1=>∃ c,x=.bl c∧Q c H1
theorem zG {op:CmpOp} {t:TE} (h:PC X op a b t) (h1:behindInMarks op b=false:=by first | exact K9 _ (by decide) (by decide) | rfl):PT X (.Compare a [op] [b] pos) (tB t):=by
 intro pins s σ H Q I hw
 refine wpAny_isTrue_Compare1 (thn (h pins s σ H _ I hw) fun v s1 h1=>thn h1 fun u s2 h2=>thn h2 fun c s3 ⟨x,H1,I1,r1,q1⟩=>?_) h1
 obtain ⟨d,rfl,q⟩:=q1
 cases r1
 exact wpAny_truthy_bool ⟨H1,I1,q⟩
theorem HJ {e:Expr} {t:TE} (h:PE X e t) (he:∀ whole,isTrue e X.env whole=(do let v ← whole;standAt e.pos;holding [v] (truthy v)):=by intro _;rfl):PT X e (tB t):=by
 intro pins s σ H Q I hw
 refine isTrue_plain (thn (h pins s σ H _ I hw) fun v s1 ⟨x,H1,I1,r1,q1⟩=>?_) (he _)
 obtain ⟨d,rfl,q⟩:=q1
 cases r1
 exact wpAny_truthy_bool ⟨H1,I1,q⟩
variable {tA tB':TT} {rest:List Expr}
noncomputable def jD (t u:TT):TT:=fun σ H Q=>t σ H fun c H1=>if c=true then u σ H1 Q else Q false H1
noncomputable def tOr (t u:TT):TT:=fun σ H Q=>t σ H fun c H1=>if c=true then Q true H1 else u σ H1 Q
noncomputable def eu (t:TT):TT:=fun σ H Q=>t σ H fun c H1=>Q (!c) H1
theorem pw_and1 (ha:PT X a tA):PW X (.BoolOp .And [a] pos) tA:=by
 intro wh pins s σ H Q I h
 refine isTrue_and (thn (ha pins s σ H Q I h) fun c s1 e=>?_)
 cases c with
 | true=>exact isTrue_and_nil e
 | false=>exact e
theorem pw_or1 (ha:PT X a tA):PW X (.BoolOp .Or [a] pos) tA:=by
 intro wh pins s σ H Q I h
 refine isTrue_or (thn (ha pins s σ H Q I h) fun c s1 e=>?_)
 cases c with
 | false=>exact isTrue_or_nil e
 | true=>exact e
theorem pw_and (ha:PT X a tA) (hb:PW X (.BoolOp .And (b::rest) pos) tB'):PW X (.BoolOp .And (a::b::rest) pos) (jD tA tB'):=by
 intro wh pins s σ H Q I h
 refine isTrue_and (thn (ha pins s σ H _ I h) fun c s1 ⟨H1,I1,q1⟩=>?_)
 cases c with
 | true=>exact hb wh pins s1 σ H1 Q I1 q1
 | false=>exact ⟨H1,I1,q1⟩
theorem pw_or (ha:PT X a tA) (hb:PW X (.BoolOp .Or (b::rest) pos) tB'):PW X (.BoolOp .Or (a::b::rest) pos) (tOr tA tB'):=by
 intro wh pins s σ H Q I h
 refine isTrue_or (thn (ha pins s σ H _ I h) fun c s1 ⟨H1,I1,q1⟩=>?_)
 cases c with
 | true=>exact ⟨H1,I1,q1⟩
 | false=>exact hb wh pins s1 σ H1 Q I1 q1
theorem HK (ha:PT X a tA):PT X (.UnaryOp .Not a pos) (eu tA):=by
 intro pins s σ H Q I h
 exact isTrue_not (ha pins s σ H (fun c H1=>Q (!c) H1) I h)
noncomputable def F7 (ta tb:TE):TE:=fun σ H Q=>ta σ H fun x H1=>∃ c,x=.bl c∧if c=true then tb σ H1 Q else Q (.bl false) H1
noncomputable def F8 (ta:TE):TE:=fun σ H Q=>ta σ H fun x H1=>∃ c,x=.bl c∧Q (.bl (!c)) H1
theorem HL {op} {t:TE} (h:PE X a t):PE X (.BoolOp op [a] pos) t:=fun pins s σ H Q I hw=>BoolOp_one (h pins s σ H Q I hw)
theorem HM (ha:PE X a ta) (hb:PE X (.BoolOp .And (b::rest) pos) tb):PE X (.BoolOp .And (a::b::rest) pos) (F7 ta tb):=by
 intro pins s σ H Q I h
 refine BoolOp_and (thn (ha pins s σ H _ I h) fun v s1 ⟨x,H1,I1,r1,q1⟩=>?_)
 obtain ⟨c,rfl,q1⟩:=q1
 cases r1
 refine wpAny_truthy_bool ?_
 cases c with
 | true=>exact hb pins s1 σ H1 Q I1 q1
 | false=>exact ⟨.bl false,H1,I1,rfl,q1⟩
theorem HN (ha:PE X a ta):PE X (.UnaryOp .Not a pos) (F8 ta):=by
 intro pins s σ H Q I h
 refine UnaryOp_ (thn (ha pins s σ H _ I h) fun v s1 ⟨x,H1,I1,r1,q1⟩=>?_)
 obtain ⟨c,rfl,q1⟩:=q1
 cases r1
 exact not_of (wpAny_truthy_bool ⟨.bl (!c),H1,I1,rfl,q1⟩)
noncomputable def tIf (t:TT) (ta tb:TE):TE:=fun σ H Q=>t σ H fun c H1=>if c=true then ta σ H1 Q else tb σ H1 Q
theorem zH {c:Expr} (hc:PT X c tA) (ha:PE X a ta) (hb:PE X b tb):PE X (.IfExp c a b pos) (tIf tA ta tb):=by
 intro pins s σ H Q I h
 refine wpAny_IfExp (thn (hc pins s σ H _ I h) fun d s1 ⟨H1,I1,q1⟩=>?_)
 cases d with
 | true=>exact ha pins s1 σ H1 Q I1 q1
 | false=>exact hb pins s1 σ H1 Q I1 q1
end
noncomputable def SqL (K:PySem.W.Frag) (H:Hp) (a:Addr) (xs:List V):Prop:=
 Rd H a (.lst xs) ∨
  ∃ (o:Obj) (its:Array Value) (n:Nat),K.lookup a=some o∧o.cls=.type "list" ∧ o.dict=none∧o.data=.seq its n∧its.size≤sizeLine∧Vals xs its.toList
noncomputable def SqT (K:PySem.W.Frag) (H:Hp) (a:Addr) (xs:List V):Prop:=
 Rd H a (.tup xs) ∨
  ∃ (o:Obj) (its:Array Value) (n:Nat),K.lookup a=some o∧o.cls=.type "tuple" ∧ o.data=.seq its n∧its.size≤sizeLine∧Vals xs its.toList
noncomputable def NF:Value→Option V
 | .none=>some .non
 | .bool b=>some (.bl b)
 | .int i _=>some (.int i)
 | .str x _=>some (.str x)
 | .bytes b _=>some (.byt b)
 | .float b _=>some (.flt b)
 | .ref a=>some (.ref a)
 | .type n=>some (.ty n)
 | _=>none
theorem RelV.abs {x:V} {u:Value} (r:RelV x u):NF u=some x:=by
 cases x with
 | non=>cases r;rfl
 | bl _=>cases r;rfl
 | int _=>obtain ⟨t,rfl⟩:=r;rfl
 | str _=>obtain ⟨t,rfl⟩:=r;rfl
 | byt _=>obtain ⟨t,rfl⟩:=r;rfl
 | flt _=>obtain ⟨t,rfl⟩:=r;rfl
 | ref _=>cases r;rfl
 | ty _=>cases r;rfl
theorem RelV.inj {x y:V} {u:Value} (r:RelV x u) (q:RelV y u):x=y:=Option.some.inj (r.abs.symm.trans q.abs)
theorem Vals.inj:∀ {xs ys:List V} {us:List Value},Vals xs us→Vals ys us→xs=ys
 | _,_,_,.nil,.nil=>rfl
 | _,_,_,.cons r t,.cons r' t'=>by rw [r.inj r',Vals.inj t t']
section
variable {X:Cx} {pins:List (Addr×Obj)} {σ:St} {H:Hp} {s:Shared} {a:Addr} {xs ys:List V}
theorem SqT.of {K:PySem.W.Frag} (h:H a=some (.tup xs)):SqT K H a xs:=.inl (.inl h)
theorem Inv.list (I:Inv X pins σ H s) (h:SqL X.K H a xs):∃ its:List Value,Vals xs its∧PlainL s.heap a its.toArray∧xs.length≤sizeLine:=by
 rcases h with h | ⟨o,its,n,hk,hc,hd,hs,hz,r⟩
 ·obtain ⟨z,its,n,r,e⟩:=h.ok I.hok
  exact ⟨its,r,⟨_,n,e,rfl,rfl,rfl⟩,z⟩
 ·refine ⟨its.toList,r,⟨o,n,I.kIn a o hk,hc,hd,by simpa using hs⟩,?_⟩
  have e:=r.length
  simp only [Array.length_toList] at e
  lia
theorem Inv.tuple (I:Inv X pins σ H s) (h:SqT X.K H a xs):∃ its:List Value,Vals xs its∧IsTup s.heap a its.toArray∧xs.length≤sizeLine:=by
 rcases h with h | ⟨o,its,n,hk,hc,hs,hz,r⟩
 ·obtain ⟨z,its,r,p⟩:=h.ok I.hok
  exact ⟨its,r,p,z⟩
 ·refine ⟨its.toList,r,⟨o,I.kIn a o hk,hc,n,by simpa using hs⟩,?_⟩
  have e:=r.length
  simp only [Array.length_toList] at e
  lia
theorem Inv.lq (I:Inv X pins σ H s) (h:SqL X.K H a xs) (h':SqL X.K H a ys):xs=ys:=by
 obtain ⟨its,r,⟨o,n,e,_,_,d⟩,_⟩:=I.list h
 obtain ⟨its',r',⟨o',n',e',_,_,d'⟩,_⟩:=I.list h'
 rw [e] at e';cases e'
 rw [d] at d'
 injection d' with d1 _
 have:its=its':=by simpa using congrArg Array.toList d1
 subst this
 exact r.inj r'
theorem Inv.yr (I:Inv X pins σ H s) (h:SqT X.K H a xs) (h':SqT X.K H a ys):xs=ys:=by
 obtain ⟨its,r,⟨o,e,_,n,d⟩,_⟩:=I.tuple h
 obtain ⟨its',r',⟨o',e',_,n',d'⟩,_⟩:=I.tuple h'
 rw [e] at e';cases e'
 rw [d] at d'
 injection d' with d1 _
 have:its=its':=by simpa using congrArg Array.toList d1
 subst this
 exact r.inj r'
end
noncomputable abbrev Cx.oB (X:Cx) (E:Value→Shared→Prop):Cx:={ X with xe:=E }
noncomputable abbrev Cx.nox (X:Cx):Cx:=X.oB fun _ _=>False
theorem Cx.Ok.oB {X:Cx} (ok:X.Ok) (E:Value→Shared→Prop):(X.oB E).Ok:=
 ⟨ok.mod,ok.kind,ok.glob,ok.blt,ok.above,ok.inj,ok.has,ok.cab,ok.hd,ok.frames,ok.stk,ok.exf,ok.bs,ok.bsz,ok.zF,ok.Dz,ok.k_,ok.frf⟩
theorem Cx.Ok.fO {X:Cx} {E:Value→Shared→Prop} (ok:(X.oB E).Ok):X.Ok:=
 ⟨ok.mod,ok.kind,ok.glob,ok.blt,ok.above,ok.inj,ok.has,ok.cab,ok.hd,ok.frames,ok.stk,ok.exf,ok.bs,ok.bsz,ok.zF,ok.Dz,ok.k_,ok.frf⟩
section
variable {X:Cx} {pins:List (Addr×Obj)} {σ:St} {H:Hp} {s:Shared} {E:Value→Shared→Prop}
theorem Inv.oB (I:Inv X pins σ H s) (E:Value→Shared→Prop):Inv (X.oB E) pins σ H s:=⟨I.ok.oB E,I.os,I.bare,I.base,I.loc,I.cell,I.free,I.gH,I.pin,I.hok,I.len⟩
theorem Inv.fO (I:Inv (X.oB E) pins σ H s):Inv X pins σ H s:=⟨I.ok.fO,I.os,I.bare,I.base,I.loc,I.cell,I.free,I.gH,I.pin,I.hok,I.len⟩
theorem SP.fO {D:Ends} {f:Flow} {s':Shared} (h:SP (X.oB E) pins D f s'):SP X pins D f s':=by
 cases f with
 | next=>obtain ⟨σ',H',I,q⟩:=h;exact ⟨σ',H',I.fO,q⟩
 | brk=>obtain ⟨σ',H',I,q⟩:=h;exact ⟨σ',H',I.fO,q⟩
 | cont=>obtain ⟨σ',H',I,q⟩:=h;exact ⟨σ',H',I.fO,q⟩
 | ret u=>obtain ⟨v,σ',H',I,r,q⟩:=h;exact ⟨v,σ',H',I.fO,r,q⟩
theorem PSs.nox {st:List Stmt} {t:TS} (h:PSs X.nox st t):PSs X st t:=fun pins s σ H D I hw=>
 wpAny_mono (h pins s σ H D (I.oB _) hw) (fun _ _ q=>q.fO) fun _ _ z=>False.elim z
end
section
variable {X:Cx} {st:Stmt} {rest:List Stmt} {t u:TS} {e:Expr} {te:TE} {pos:Pos}
noncomputable def zI:TS:=fun D σ H=>D.nx σ H
noncomputable def yt (t u:TS):TS:=fun D σ H=>t { D with nx:=u D } σ H
theorem wg:PSs X [] zI:=fun _ _ σ H _ I h=>wpAny_execs_nil ⟨σ,H,I,h⟩
theorem i9 (h1:PS X st t) (h2:PSs X rest u):PSs X (st::rest) (yt t u):=by
 intro pins s σ H D I h
 refine wpAny_execs_cons (thn (h1 pins s σ H { D with nx:=u D } I h) fun f s1 q=>?_)
 cases f with
 | next=>
  obtain ⟨σ',H',I',q⟩:=q
  exact h2 pins s1 σ' H' D I' q
 | ret v=>exact q
 | brk=>exact q
 | cont=>exact q
theorem wj (h1:PS X st t):PSs X [st] t:=by
 intro pins s σ H D I h
 refine wpAny_execs_cons (thn (h1 pins s σ H D I h) fun f s1 q=>?_)
 cases f with
 | next=>exact wpAny_execs_nil q
 | ret v=>exact q
 | brk=>exact q
 | cont=>exact q
theorem Inv.quiet {pins:List (Addr×Obj)} {σ:St} {H:Hp} {s:Shared} (I:Inv X pins σ H s):interactive X.env=false:=by simp [interactive,I.ok.kind]
noncomputable def rm (te:TE):TS:=fun D σ H=>te σ H fun _ H1=>D.nx σ H1
theorem kM (he:PE X e te) (hs:swapsWith e none pos.line X.env=pure false:=by rfl):PS X (.Expr e pos) (rm te):=by
 intro pins s σ H D I h
 exact wpAny_Expr_any (thn (he pins s σ H _ I h) fun v s1 ⟨x,H1,I1,r1,q1⟩=>⟨σ,H1,I1,q1⟩) I.quiet hs
noncomputable def K_ (te:TE):TS:=fun D σ H=>te σ H D.rt
theorem HP (he:PE X e te):PS X (.Return (some e) pos) (K_ te):=by
 intro pins s σ H D I h
 exact wpAny_Return_some (thn (he pins s σ H _ I h) fun v s1 ⟨x,H1,I1,r1,q1⟩=>⟨x,σ,H1,I1,r1,q1⟩)
noncomputable def HQ (c:TT) (t u:TS):TS:=fun D σ H=>c σ H fun b H1=>if b=true then t D σ H1 else u D σ H1
theorem F9 {c:Expr} {a b:List Stmt} {tc:TT} (hc:PT X c tc) (ha:PSs X a t) (hb:PSs X b u):PS X (.If c a b pos) (HQ tc t u):=by
 intro pins s σ H D I h
 refine wpAny_If (thn (hc pins s σ H _ I h) fun d s1 ⟨H1,I1,q1⟩=>?_)
 cases d with
 | true=>exact ha pins s1 σ H1 D I1 q1
 | false=>exact hb pins s1 σ H1 D I1 q1
noncomputable def HR:TS:=fun _ _ _=>False
theorem zJ:PS X st HR:=fun _ _ _ _ _ _ h=>h.elim
end
noncomputable abbrev TG:=V→St→Hp→(St→Hp→Prop)→Prop
noncomputable abbrev TGs:=List V→St→Hp→(St→Hp→Prop)→Prop
noncomputable def PG (X:Cx) (target:Expr) (t:TG):Prop:=
 ∀ (pins:List (Addr×Obj)) (s:Shared) (σ:St) (H:Hp) (v:V) (u:Value) (Q:St→Hp→Prop),Inv X pins σ H s→RelV v u→t v σ H Q →
  wpAny (model X.prog X.w) X.A (assign target X.env u) (fun _ s'=>∃ σ' H',Inv X pins σ' H' s'∧Q σ' H') X.xe s
noncomputable def PGs (X:Cx) (ts:List Expr) (t:TGs):Prop:=
 ∀ (pins:List (Addr×Obj)) (s:Shared) (σ:St) (H:Hp) (vs:List V) (us:List Value) (Q:St→Hp→Prop),Inv X pins σ H s→Vals vs us→t vs σ H Q →
  wpAny (model X.prog X.w) X.A (assignInOrder ((assignEach ts X.env).map (·.2)) us) (fun _ s'=>∃ σ' H',Inv X pins σ' H' s'∧Q σ' H') X.xe s
noncomputable abbrev HS:=V→V→V→Hp→(Hp→Prop)→Prop
noncomputable def La (X:Cx) (t:HS):Prop:=
 ∀ (pins:List (Addr×Obj)) (s:Shared) (σ:St) (H:Hp) (o i v:V) (ov iv u:Value) (Q:Hp→Prop),Inv X pins σ H s→RelV o ov→RelV i iv→RelV v u→t o i v H Q →
  wpAny (model X.prog X.w) X.A (setItem ov iv u) (fun _ s'=>∃ H',Inv X pins σ H' s'∧Q H') X.xe s
section
variable {X:Cx} {pos:Pos}
noncomputable def i_ (i:Nat):TG:=fun v σ H Q=>Q (σ.set i (some v)) H
theorem p8 {i:Nat} {x:Str} (hN:X.N.Nodup) (hi:X.N[i]?=some x) (hx:Loc X.env.scope x) (hf:X.fn x=true∨X.env.scope.names.lookup x=some .local:=by first | exact .inl rfl | exact .inr rfl | assumption):PG X (.Name x pos) (i_ i):=by
 intro pins s σ H v u Q I r h
 exact wpAny_assign_Name (rj I hN hi hx r (fun s' I'=>⟨_,H,I',h⟩) hf)
noncomputable def Lb:TGs:=fun vs σ H Q=>vs=[]∧Q σ H
noncomputable def F_ (t:TG) (u:TGs):TGs:=fun vs σ H Q=>∃ v r,vs=v::r∧t v σ H fun σ' H'=>u r σ' H' Q
theorem DF:PGs X [] Lb:=by
 intro pins s σ H vs us Q I r h
 obtain ⟨e,h⟩:=h
 subst e
 cases r
 exact assignInOrder_nil ⟨σ,H,I,h⟩
theorem zK {e:Expr} {es:List Expr} {t:TG} {u:TGs} (h1:PG X e t) (h2:PGs X es u)
  (hs:(assignEach (e::es) X.env).map (·.2)=assign e X.env::(assignEach es X.env).map (·.2):=by rfl):PGs X (e::es) (F_ t u):=by
 intro pins s σ H vs us Q I r h
 obtain ⟨v,vr,e1,h⟩:=h
 subst e1
 cases r with
 | cons r rr=>
  rw [hs]
  refine assignInOrder_cons (thn (h1 pins s σ H _ _ _ I r h) fun _ s1 ⟨σ1,H1,I1,q1⟩=>?_)
  exact h2 pins s1 σ1 H1 _ _ Q I1 rr q1
noncomputable def HU (K:PySem.W.Frag) (n:Nat) (t:TGs):TG:=fun v σ H Q=>∃ a xs,v=.ref a∧SqT K H a xs∧xs.length=n∧t xs σ H Q
theorem uD {es:List Expr} {k:Nat} {t:TGs} {n:Nat} (hc:X.calm=true) (h:PGs X es t)
  (hn:(assignEach es X.env).length=n:=by rfl) (hst:(assignEach es X.env).findIdx? (·.1)=none:=by rfl):PG X (.Tuple es k pos) (HU X.K n t):=by
 intro pins s σ H v u Q I r hw
 obtain ⟨a,xs,e1,hq,hl,hw⟩:=hw
 subst e1
 cases r
 obtain ⟨its,rv,ht,hz⟩:=I.tuple hq
 refine assign_Tuple_tuple (I.ok.hd hc) ht (by simp [hn,← hl,rv.length]) hst fun h' hx=>?_
 have I1:Inv X pins σ H { s with heap:=h' }:=I.kept (t':=s.toks) fun b o e=>hx b o (Nat.ne_of_lt (Heap.lt_size e)) e
 exact h pins _ σ H xs _ Q I1 (by simpa using rv) hw
noncomputable def ez (to ti:TE) (t:HS):TG:=fun v σ H Q=>to σ H fun o H1=>ti σ H1 fun i H2=>t o i v H2 fun H3=>Q σ H3
theorem HV {o i:Expr} {to ti:TE} {t:HS} (ho:PE X o to) (hi:PE X i ti) (hs:La X t)
  (ha:∀ v,assign (.Subscript o i pos) X.env v=(do
   let ov ← holding [v] (eval o X.env)
   let iv ← holding [v,ov] (eval i X.env)
   standAt pos
   holding [v,ov,iv] (setItem ov iv v)
   release [v,ov,iv] []):=by intro _;rfl):PG X (.Subscript o i pos) (ez to ti t):=by
 intro pins s σ H v u Q I r h
 rw [ha]
 refine wpAny_bind (wpAny_holding (thn (ho pins s σ H _ I h) fun ov s1 ⟨x,H1,I1,r1,q1⟩=>?_))
 refine wpAny_bind (wpAny_holding (thn (hi pins s1 σ H1 _ I1 q1) fun iv s2 ⟨y,H2,I2,r2,q2⟩=>?_))
 refine wpAny_bind (wpAny_standAt (wpAny_bind (wpAny_holding (thn (hs pins s2 σ H2 x y v ov iv u _ I2 r1 r2 r q2) fun _ s3 ⟨H3,I3,q3⟩=>?_))))
 exact wpAny_release ⟨σ,H3,I3,q3⟩
noncomputable def uE (te:TE) (g:TG):TS:=fun D σ H=>te σ H fun x H1=>g x σ H1 D.nx
theorem zL {tg e:Expr} {te:TE} {g:TG} (he:PE X e te) (hg:PG X tg g) (hs:swapsWithSole [tg] e pos.line X.env=pure false:=by rfl) (hw:swappedStores [tg] e X.env=pure none:=by rfl)
  (h1:(assignEach [tg] X.env).map (·.2)=[assign tg X.env]:=by rfl):PS X (.Assign [tg] e pos) (uE te g):=by
 intro pins s σ H D I h
 refine wpAny_Assign_stores (thn (he pins s σ H _ I h) fun v s1 ⟨x,H1,I1,r1,q1⟩=>?_) hs hw
 rw [h1]
 exact thn (hg pins s1 σ H1 x v _ I1 r1 q1) fun _ s2 q=>q
theorem HW {i:Nat} {x:Str} {e:Expr} {te:TE} {pos':Pos} (hN:X.N.Nodup) (hi:X.N[i]?=some x) (hx:Loc X.env.scope x) (he:PE X e te) (hs:swapsWith e (some (.Name x pos')) pos.line X.env=pure false:=by rfl) (hf:X.fn x=true∨X.env.scope.names.lookup x=some .local:=by first | exact .inl rfl | exact .inr rfl | assumption) :
  PS X (.Assign [.Name x pos'] e pos) (uE te (i_ i)):=by
 intro pins s σ H D I h
 refine wpAny_Assign_Name (thn (he pins s σ H _ I h) fun v s1 ⟨y,H1,I1,r1,q1⟩=>?_) hs
 exact rj I1 hN hi hx r1 (fun s2 I2=>⟨_,H1,I2,q1⟩) hf
end
section
variable {X:Cx} {pos:Pos}
noncomputable def zM (c:TT) (tb:TS):TS:=fun D σ H=>∃ W:Nat→St→Hp→Prop,(∃ m,W m σ H)∧∀ m σ H,W m σ H →
 c σ H fun b H1=>if b=true then ∃ N:St→Hp→Prop,(∀ σ' H',N σ' H'→∃ m',m'<m∧W m' σ' H')∧tb { D with nx:=N,ct:=N,bk:=D.nx } σ H1 else D.nx σ H1
theorem zN {c:Expr} {body:List Stmt} {tc:TT} {tb:TS} (hp:PassesOwn (model X.prog X.w) X.A X.env X.xe) (hc:PT X c tc) (hb:PSs X body tb):PS X (.While c body [] pos) (zM tc tb):=by
 intro pins s σ H D I h
 obtain ⟨W,⟨m0,w0⟩,turn⟩:=h
 refine wpAny_While (codeAny_whileLoop (fun n s'=>∃ σ' H',Inv X pins σ' H' s'∧W n σ' H') ?_ m0 ⟨σ,H,I,w0⟩)
 rintro n s1 ⟨σ1,H1,I1,w1⟩
 refine wpAny_passesOwn hp (thn (hc pins s1 σ1 H1 _ I1 (turn n σ1 H1 w1)) fun b s2 ⟨H2,I2,q2⟩=>?_)
 cases b with
 | true=>
  obtain ⟨N,hN,q2⟩:=q2
  rw [if_pos rfl]
  refine wpAny_passesOwn hp (thn (hb pins s2 σ1 H2 _ I2 q2) fun f s3 q3=>?_)
  cases f with
  | next=>
   obtain ⟨σ3,H3,I3,n3⟩:=q3
   obtain ⟨m',hm,w3⟩:=hN σ3 H3 n3
   exact ⟨m',hm,σ3,H3,I3,w3⟩
  | cont=>
   obtain ⟨σ3,H3,I3,n3⟩:=q3
   obtain ⟨m',hm,w3⟩:=hN σ3 H3 n3
   exact ⟨m',hm,σ3,H3,I3,w3⟩
  | brk=>exact q3
  | ret v=>exact q3
 | false=>
  rw [if_neg Bool.false_ne_true]
  exact wpAny_execs_nil ⟨σ1,H2,I2,q2⟩
end
structure It where
 go:Nat→Hp→Prop
 yld:Nat→Hp→V→Hp→Prop
 stop:Nat→Hp→Prop
noncomputable def oE (X:Cx) (pins:List (Addr×Obj)) (H:Hp) (b:Addr):Prop:=
 H b=none∧b≠X.env.locals∧b∉X.fs∧(b∈X.ex∨X.s₀.heap.objs.size≤b)∧(∀ x c,X.env.cells.lookup x=some c→c≠b)∧∀ p∈X.pn++pins,p.1≠b
theorem Inv.DG {X:Cx} {pins:List (Addr×Obj)} {σ:St} {H H':Hp} {s:Shared} {b:Addr} (I:Inv X pins σ H s) (hb:s.heap.objs.size≤b) (hn:H' b=none):oE X pins H' b:=by
 refine ⟨hn,Nat.ne_of_gt (Nat.lt_of_lt_of_le I.lt hb),I.NC hb,.inr (Nat.le_trans I.sz hb),fun x c e z=>?_,fun p hp z=>?_⟩
 ·obtain ⟨v,q⟩:=I.cell x c e
  exact absurd (Nat.lt_of_lt_of_le q.lt (by rw [z];exact hb)) (Nat.lt_irrefl _)
 ·exact absurd (Nat.lt_of_lt_of_le (Heap.lt_size (I.pin p hp).1) (by rw [z];exact hb)) (Nat.lt_irrefl _)
structure Turn (P:Program) (w:World) (K:PySem.W.Frag) (tg:Expr) (J:It) (fp:List Addr) (it:Addr) (tn:Nat→Heap→Prop):Prop where
 mem:it∈fp
 obj:∀ i h,tn i h→∀ b∈fp,∃ o,h.get? b=some o∧∀ v,o.data≠.cell v
 keep:∀ i h h',tn i h→(∀ b∈fp,∀ o,h.get? b=some o→h'.get? b=some o)→tn i h'
 item:∀ (X:Cx),X.prog=P→X.w=w→X.K=K→X.calm=true→∀ (i:Nat) (pins:List (Addr×Obj)) (s:Shared) (σ:St) (H:Hp) (E:Value→Shared→Prop),Inv X pins σ H s→(∀ b∈fp,oE X pins H b)→tn i s.heap→J.go i H →
  wpAny (model P w) X.A (pyNext (.ref it)) (fun r s1=>∃ u,r=some u ∧
   wpAny (model P w) X.A (letOwnedTupleGo tg (.ref it) u) (fun _ s2=>∃ x H',Inv X pins σ H' s2∧RelV x u∧J.yld i H x H'∧tn (i+1) s2.heap∧∀ b∈fp,H' b=none) E s1) E s
 done:∀ (X:Cx),X.prog=P→X.w=w→X.K=K→X.calm=true→∀ (i:Nat) (pins:List (Addr×Obj)) (s:Shared) (σ:St) (H:Hp) (E:Value→Shared→Prop),Inv X pins σ H s→(∀ b∈fp,oE X pins H b)→tn i s.heap→J.stop i H →
  wpAny (model P w) X.A (pyNext (.ref it)) (fun r s1=>r=none∧Inv X pins σ H s1) E s
 self:∀ (A:Around) (i:Nat) (s:Shared) (Q:Value→Shared→Prop) (E:Value→Shared→Prop),tn i s.heap→Q (.ref it) s→wpAny (model P w) A (pyIter (.ref it)) Q E s
noncomputable abbrev TI:=St→Hp→(It→Hp→Prop)→Prop
noncomputable def PIE (X:Cx) (pins:List (Addr×Obj)) (σ:St) (tg:Expr) (R:It→Hp→Prop) (itv:Value) (s2:Shared):Prop:=
 ∃ (it:Addr) (fp:List Addr) (tn:Nat→Heap→Prop) (J:It) (H':Hp),itv=.ref it∧Inv X pins σ H' s2∧Turn X.prog X.w X.K tg J fp it tn∧tn 0 s2.heap∧(∀ b∈fp,oE X pins H' b)∧R J H'
noncomputable def PI (X:Cx) (tg iter:Expr) (wi:TI):Prop:=
 ∀ (pins:List (Addr×Obj)) (s:Shared) (σ:St) (H:Hp) (R:It→Hp→Prop),Inv X pins σ H s→wi σ H R →
  wpAny (model X.prog X.w) X.A (eval iter X.env) (fun v s1=>wpAny (model X.prog X.w) X.A (pyIter v) (PIE X pins σ tg R) X.xe s1) X.xe s
theorem zO {M:Model} {A:Around} {E:Value→Shared→Prop} {s:Shared} {tg:Expr} {it:Addr} {u:Value} {o:Obj} {n:String} {vs:Array Value} {Q:Unit→Shared→Prop} (ho:s.heap.get? it=some o) (hc:o.cls=.type n) (hd:o.data=.fields vs)
  (hn:["enumerate","zip","dict_itemiterator","dict_reverseitemiterator","odict_iterator","itertools.zip_longest","itertools.pairwise"].contains n=false) (hQ:Q () s):wpAny M A (letOwnedTupleGo tg (.ref it) u) Q E s:=by
 unfold letOwnedTupleGo
 cases tg<;>first
  | exact wpAny_pure hQ
  | (cases u<;>first
    | exact wpAny_pure hQ
    | (refine wpAny_bind (wpAny_load ho ?_)
       rw [hc,hd]
       show wpAny M A (if (["enumerate","zip","dict_itemiterator","dict_reverseitemiterator","odict_iterator","itertools.zip_longest","itertools.pairwise"].contains n&&vs[0]? == some (rawInt _))=true then _ else _) Q E s
       rw [if_neg (by intro h;rw [hn,Bool.false_and] at h;cases h)]
       exact wpAny_pure hQ))
noncomputable def Itl (K:PySem.W.Frag) (a:Addr):It:=
 ⟨fun i H=>∃ xs x,SqL K H a xs∧xs[i]?=some x,fun i H x H'=>H'=H∧∀ xs,SqL K H a xs→xs[i]?=some x,fun i H=>∃ xs,SqL K H a xs∧xs.length≤i⟩
noncomputable def Itt (K:PySem.W.Frag) (a:Addr):It:=
 ⟨fun i H=>∃ xs x,SqT K H a xs∧xs[i]?=some x,fun i H x H'=>H'=H∧∀ xs,SqT K H a xs→xs[i]?=some x,fun i H=>∃ xs,SqT K H a xs∧xs.length≤i⟩
noncomputable def Itr (lo:Int) (n:Nat):It:=⟨fun i _=>i<n,fun i H x H'=>H'=H∧x=.int (lo+i),fun i _=>n≤i⟩
theorem yu {P:Program} {w:World} {K:PySem.W.Frag} {tg:Expr} (a it:Addr):Turn P w K tg (Itl K a) [it] it (fun i h=>h.IsListIter it a i) where
 mem:=by simp
 obj:=fun i h st b hb=>by
  have e:b=it:=by simpa using hb
  subst e
  obtain ⟨o,e,c,d⟩:=st
  exact ⟨o,e,fun v z=>by rw [d] at z;cases z⟩
 keep:=fun i h h' st k=>st.at fun o e=>k it (by simp) o e
 item:=by
  intro X hP hw hK hc i pins s σ H E I hf st hg
  subst hP hw hK
  obtain ⟨xs,x,hq,hx⟩:=hg
  obtain ⟨its,rv,p,hz⟩:=I.list hq
  obtain ⟨u,hu,ru⟩:=rv.get hx
  obtain ⟨f0,f1,f2,f3,f4,f5⟩:=hf it (by simp)
  refine wpAny_pyNext_list_item st p.isList (x:=u) (by simpa using hu) fun h' st' sb=>?_
  have I1:Inv X pins σ H { s with heap:=h' }:=I.turned (t':=s.toks) (fun b o hb e=>(sb.2 b hb).trans e) f0 f1 f3 f4 f5
  obtain ⟨o,e,c,d⟩:=id st'
  exact ⟨u,rfl,zO (s:={ s with heap:=h' }) e c d (by decide) ⟨x,H,I1,ru,⟨rfl,fun ys hy=>by rw [I.lq hy hq];exact hx⟩,st',fun b hb=>(hf b hb).1⟩⟩
 done:=by
  intro X hP hw hK hc i pins s σ H E I hf st hg
  subst hP hw hK
  obtain ⟨xs,hq,hx⟩:=hg
  obtain ⟨its,rv,p,hz⟩:=I.list hq
  obtain ⟨f0,f1,f2,f3,f4,f5⟩:=hf it (by simp)
  have hl:=rv.length
  exact wpAny_pyNext_list_end (I.ok.hd hc) st p.isList (by simp;lia) fun h' eb=>⟨rfl,I.turned (t':=s.toks) (fun b o hb e=>eb b o hb e) f0 f1 f3 f4 f5⟩
 self:=fun _ _ _ _ _ st h=>wpAny_pyIter_listiter st h
theorem uF {P:Program} {w:World} {K:PySem.W.Frag} {tg:Expr} (a it:Addr):Turn P w K tg (Itt K a) [it] it (fun i h=>h.IsTupleIter it a i) where
 mem:=by simp
 obj:=fun i h st b hb=>by
  have e:b=it:=by simpa using hb
  subst e
  obtain ⟨o,e,c,d⟩:=st
  exact ⟨o,e,fun v z=>by rw [d] at z;cases z⟩
 keep:=fun i h h' st k=>st.at fun o e=>k it (by simp) o e
 item:=by
  intro X hP hw hK hc i pins s σ H E I hf st hg
  subst hP hw hK
  obtain ⟨xs,x,hq,hx⟩:=hg
  obtain ⟨its,rv,p,hz⟩:=I.tuple hq
  obtain ⟨u,hu,ru⟩:=rv.get hx
  obtain ⟨f0,f1,f2,f3,f4,f5⟩:=hf it (by simp)
  refine wpAny_pyNext_tuple_item st (show s.heap.IsTuple a its.toArray from p) (x:=u) (by simpa using hu) fun h' st' sb=>?_
  have I1:Inv X pins σ H { s with heap:=h' }:=I.turned (t':=s.toks) (fun b o hb e=>(sb.2 b hb).trans e) f0 f1 f3 f4 f5
  obtain ⟨o,e,c,d⟩:=id st'
  exact ⟨u,rfl,zO (s:={ s with heap:=h' }) e c d (by decide) ⟨x,H,I1,ru,⟨rfl,fun ys hy=>by rw [I.yr hy hq];exact hx⟩,st',fun b hb=>(hf b hb).1⟩⟩
 done:=by
  intro X hP hw hK hc i pins s σ H E I hf st hg
  subst hP hw hK
  obtain ⟨xs,hq,hx⟩:=hg
  obtain ⟨its,rv,p,hz⟩:=I.tuple hq
  obtain ⟨f0,f1,f2,f3,f4,f5⟩:=hf it (by simp)
  have hl:=rv.length
  exact wpAny_pyNext_tuple_end (I.ok.hd hc) st (show s.heap.IsTuple a its.toArray from p) (by simp;lia) fun h' eb=>⟨rfl,I.turned (t':=s.toks) (fun b o hb e=>eb b o hb e) f0 f1 f3 f4 f5⟩
 self:=fun _ _ _ _ _ st h=>wpAny_pyIter_tupleiter st h
theorem uG {P:Program} {w:World} {K:PySem.W.Frag} {tg:Expr} (it:Addr) (lo:Int) (n:Nat):Turn P w K tg (Itr lo n) [it] it (fun i h=>IsRangeIter h it (lo+(i:Nat)*1) ((n:Int)-(i:Nat)) 1) where
 mem:=by simp
 obj:=fun i h st b hb=>by
  have e:b=it:=by simpa using hb
  subst e
  exact ⟨_,st,fun v z=>by
   have z':Data.fields _=Data.cell v:=z
   cases z'⟩
 keep:=fun i h h' st k=>k it (by simp) _ st
 item:=by
  intro X hP hw hK hc i pins s σ H E I hf st hg
  subst hP hw hK
  obtain ⟨f0,f1,f2,f3,f4,f5⟩:=hf it (by simp)
  have W:=Walks.range (prog:=X.prog) (w:=X.w) (I.ok.hd hc) it lo 1 n
  refine W.item i s _ _ hg st fun v h' tk hv st' kk=>?_
  obtain ⟨t,rfl⟩:=hv
  have I1:Inv X pins σ H { s with heap:=h',toks:=tk }:=I.turned (fun b o hb e=>kk b o (by simpa using hb) e) f0 f1 f3 f4 f5
  refine ⟨_,rfl,zO (s:={ s with heap:=h',toks:=tk }) (n := "range_iterator") st' rfl rfl (by decide) ⟨.int (lo+i),H,I1,⟨t,?_⟩,⟨rfl,rfl⟩,st',fun b hb=>(hf b hb).1⟩⟩
  rw [Int.mul_one]
 done:=by
  intro X hP hw hK hc i pins s σ H E I hf st hg
  subst hP hw hK
  obtain ⟨f0,f1,f2,f3,f4,f5⟩:=hf it (by simp)
  exact wpAny_pyNext_range_end (I.ok.hd hc) st (by have:n≤i:=hg;lia) fun h' eb=>⟨rfl,I.turned (t':=s.toks) (fun b o hb e=>eb b o hb e) f0 f1 f3 f4 f5⟩
 self:=fun _ _ _ _ _ st h=>wpAny_pyIter_rangeiter st h
section
variable {X:Cx} {tg:Expr}
noncomputable def rq (K:PySem.W.Frag) (tl:TE):TI:=fun σ H R=>tl σ H fun x H1=>∃ a,x=.ref a∧(∃ xs,SqL K H1 a xs)∧R (Itl K a) H1
noncomputable def zP (K:PySem.W.Frag) (tl:TE):TI:=fun σ H R=>tl σ H fun x H1=>∃ a,x=.ref a∧(∃ xs,SqT K H1 a xs)∧R (Itt K a) H1
theorem wk {l:Expr} {tl:TE} (hl:PE X l tl):PI X tg l (rq X.K tl):=by
 intro pins s σ H R I h
 refine thn (hl pins s σ H _ I h) fun v s1 ⟨x,H1,I1,r1,q1⟩=>?_
 obtain ⟨a,e,⟨xs,hq⟩,q⟩:=q1
 subst e
 cases r1
 obtain ⟨its,rv,p,hz⟩:=I1.list hq
 refine wpAny_pyIter_list p.isList ?_
 refine ⟨s1.heap.objs.size,[s1.heap.objs.size],_,_,H1,rfl,I1.kept (t':=s1.toks) fun b o e=>Heap.get?_push_of_some _ e,yu a _,⟨_,Heap.get?_push_size _ rfl,rfl,rfl⟩,fun b hb=>?_,q⟩
 have e:b=s1.heap.objs.size:=by simpa using hb
 subst e
 exact I1.DG (Nat.le_refl _) (I1.hok.fresh (Nat.le_refl _))
theorem zQ {l:Expr} {tl:TE} (hl:PE X l tl):PI X tg l (zP X.K tl):=by
 intro pins s σ H R I h
 refine thn (hl pins s σ H _ I h) fun v s1 ⟨x,H1,I1,r1,q1⟩=>?_
 obtain ⟨a,e,⟨xs,hq⟩,q⟩:=q1
 subst e
 cases r1
 obtain ⟨its,rv,p,hz⟩:=I1.tuple hq
 refine wpAny_pyIter_tuple (show s1.heap.IsTuple a its.toArray from p) ?_
 refine ⟨s1.heap.objs.size,[s1.heap.objs.size],_,_,H1,rfl,I1.kept (t':=s1.toks) fun b o e=>Heap.get?_push_of_some _ e,uF a _,⟨_,Heap.get?_push_size _ rfl,rfl,rfl⟩,fun b hb=>?_,q⟩
 have e:b=s1.heap.objs.size:=by simpa using hb
 subst e
 exact I1.DG (Nat.le_refl _) (I1.hok.fresh (Nat.le_refl _))
theorem rz {pins:List (Addr×Obj)} {σ:St} {H:Hp} {s:Shared} {R:It→Hp→Prop} {E:Value→Shared→Prop} {lo hi:Int} {t u v:Tok} {tk:Nat} (I:Inv X pins σ H s) (h1:-(2 ^ 62)≤lo) (h2:lo<2 ^ 62) (h3:-(2 ^ 62)≤hi) (h4:hi<2 ^ 62)
  (q:R (Itr lo (hi-lo).toNat) H):wpAny (model X.prog X.w) X.A (pyIter (.ref s.heap.objs.size)) (PIE X pins σ tg R) E { s with heap:=s.heap.push { cls:=.type "range",data:=.fields #[.int lo t,.int hi u,.int 1 v] },toks:=tk }:=by
 refine wpAny_pyIter_range (IsRange.new ..) (small_one h1 h2 h3 h4) ?_
 have I1:Inv X pins σ H { s with heap:=s.heap.push { cls:=.type "range",data:=.fields #[.int lo t,.int hi u,.int 1 v] },toks:=tk }:=I.kept fun b o e=>Heap.get?_push_of_some _ e
 refine ⟨(s.heap.push { cls:=.type "range",data:=.fields #[.int lo t,.int hi u,.int 1 v] }).objs.size,[(s.heap.push { cls:=.type "range",data:=.fields #[.int lo t,.int hi u,.int 1 v] }).objs.size],_,_,H,rfl,
  I1.kept (t':=tk) fun b o e=>Heap.get?_push_of_some _ e,uG _ lo (hi-lo).toNat,?_,fun b hb=>?_,q⟩
 ·have e1:lo+((0:Nat):Int)*1=lo:=by simp
  have e2:(((hi-lo).toNat:Nat):Int)-((0:Nat):Int)=Builtin.Range.rangeSize lo hi 1:=by rw [rangeSize_one];split<;>lia
  show IsRangeIter _ _ (lo+((0:Nat):Int)*1) ((((hi-lo).toNat:Nat):Int)-((0:Nat):Int)) 1
  rw [e1,e2]
  exact Heap.get?_push_size _ rfl
 ·have e:b=(s.heap.push { cls:=.type "range",data:=.fields #[.int lo t,.int hi u,.int 1 v] }).objs.size:=by simpa using hb
  subst e
  exact I1.DG (Nat.le_refl _) (I1.hok.fresh (Nat.le_refl _))
noncomputable def Ga (ta:TA):TI:=fun σ H R=>ta σ H fun vs H1=>∃ j:Int,vs=[.int j]∧-(2 ^ 62)≤j∧j<2 ^ 62∧R (Itr 0 j.toNat) H1
noncomputable def Gb (ta:TA):TI:=fun σ H R=>ta σ H fun vs H1=>∃ i j:Int,vs=[.int i,.int j]∧(-(2 ^ 62)≤i∧i<2 ^ 62∧-(2 ^ 62)≤j∧j<2 ^ 62)∧R (Itr i (j-i).toNat) H1
theorem yw {a:Expr} {ta:TA} {p pos:Pos} (hg:Gl X "range") (hm:X.mg "range" = none) (ha:PA X [a] ta) (hs:starEach [a] X.env=[(false,eval a X.env)]:=by rfl):PI X tg (.Call (.Name "range" p) [a] [] pos) (Ga ta):=by
 intro pins s σ H R I h
 refine Call_ (gQ I hg hm boot_range (PyProof.Rows.callWith_type1 (thn (ha pos pins s σ H _ I h) fun us s1 ⟨vs,H1,I1,r1,q1⟩=>?_) hs rfl))
 obtain ⟨j,e,q1,q2,q⟩:=q1
 subst e
 cases r1 with
 | cons r rr=>
  cases rr
  obtain ⟨t,rfl⟩:=r
  exact call_range_1 (rz I1 (by lia) (by lia) q1 q2 (by simpa using q))
theorem yx {a b:Expr} {ta:TA} {p pos:Pos} (hg:Gl X "range") (hm:X.mg "range" = none) (ha:PA X [a,b] ta) (hs:starEach [a,b] X.env=[(false,eval a X.env),(false,eval b X.env)]:=by rfl) (hs2:starEach [b] X.env=[(false,eval b X.env)]:=by rfl) :
  PI X tg (.Call (.Name "range" p) [a,b] [] pos) (Gb ta):=by
 intro pins s σ H R I h
 refine Call_ (gQ I hg hm boot_range (PyProof.Rows.callWith_type1 (thn (ha pos pins s σ H _ I h) fun us s1 ⟨vs,H1,I1,r1,q1⟩=>?_) (by rw [hs,hs2]) (by rw [hs2];rfl)))
 obtain ⟨i,j,e,⟨q1,q2,q3,q4⟩,q⟩:=q1
 subst e
 cases r1 with
 | cons r rr=>
  cases rr with
  | cons r' rr=>
   cases rr
   obtain ⟨t,rfl⟩:=r
   obtain ⟨t',rfl⟩:=r'
   exact call_range_2 (rz I1 q1 q2 q3 q4 q)
noncomputable def HX (wi:TI) (g:TG) (tb:TS):TS:=fun D σ H=>wi σ H fun J H1=>∃ W:Nat→Nat→St→Hp→Prop,(∃ m,W 0 m σ H1)∧∀ i m σ H,W i m σ H →
 (J.stop i H∧D.nx σ H)∨(J.go i H∧∃ N:St→Hp→Prop,(∀ σ' H',N σ' H'→∃ m',m'<m∧W (i+1) m' σ' H')∧∀ x H',J.yld i H x H'→g x σ H' fun σ2 H2=>tb { D with nx:=N,ct:=N,bk:=D.nx } σ2 H2)
noncomputable def lu (fp:List Addr) (h:Heap):List (Addr×Obj):=fp.filterMap fun b=>(h.get? b).map fun o=>(b,o)
theorem eY {fp:List Addr} {h:Heap} {b:Addr} {o:Obj} (hb:b∈fp) (e:h.get? b=some o):(b,o)∈lu fp h:=List.mem_filterMap.mpr ⟨b,hb,by rw [e];rfl⟩
theorem yz {fp:List Addr} {h:Heap} {p:Addr×Obj} (hp:p∈lu fp h):p.1∈fp∧h.get? p.1=some p.2:=by
 obtain ⟨b,hb,e⟩:=List.mem_filterMap.mp hp
 cases q:h.get? b with
 | none=>rw [q] at e;cases e
 | some o=>
  rw [q] at e
  have e':(b,o)=p:=Option.some.inj e
  subst e'
  exact ⟨hb,q⟩
theorem Inv.pinned {pins:List (Addr×Obj)} {σ:St} {H:Hp} {s:Shared} {fp:List Addr} (I:Inv X pins σ H s) (hf:∀ b∈fp,oE X pins H b) (ho:∀ b∈fp,∃ o,s.heap.get? b=some o∧∀ v,o.data≠.cell v):Inv X (pins++lu fp s.heap) σ H s:=
 I.wc fun p hp=>(List.mem_append.mp hp).elim (fun z=>I.pin p (List.mem_append_right _ z)) fun z=>by
  obtain ⟨hb,e⟩:=yz z
  obtain ⟨f0,f1,f2,_⟩:=hf p.1 hb
  obtain ⟨o,e',d⟩:=ho p.1 hb
  rw [e] at e';cases e'
  exact ⟨e,f0,f1,f2,d⟩
theorem Inv.ja {pins pl:List (Addr×Obj)} {σ:St} {H:Hp} {s:Shared} (I:Inv X (pins++pl) σ H s):Inv X pins σ H s:=I.wc fun p hp=>I.pin p (List.mem_append_right _ (List.mem_append_left _ hp))
theorem zR {iter:Expr} {body:List Stmt} {wi:TI} {g:TG} {tb:TS} {pos:Pos} (hp:PassesOwn (model X.prog X.w) X.A X.env X.xe) (hc:X.calm=true) (hi:PI X tg iter wi) (hg:PG X tg g) (hb:PSs X body tb)
  (hs:∀ x,foldedSetIterable iter X.env x=pure x:=by intro _;rfl):PS X (.For tg iter body [] pos) (HX wi g tb):=by
 intro pins s σ H D I h
 refine wpAny_For (thn (hi pins s σ H _ I h) fun v s1 h1=>thn h1 fun itv s2 h2=>?_) hs
 obtain ⟨it,fp,tn,J,H2,e,I2,T,st2,f2,W,⟨m0,w0⟩,turn⟩:=h2
 subst e
 have stat:∀ {H':Hp},(∀ b∈fp,H' b=none)→∀ b∈fp,oE X pins H' b:=fun hn b hb=>⟨hn b hb,(f2 b hb).2⟩
 refine codeAny_forLoop_any (fun n s'=>∃ i σ' H',Inv X pins σ' H' s'∧tn i s'.heap∧(∀ b∈fp,H' b=none)∧W i n σ' H') ?_ m0 ⟨0,σ,H2,I2,st2,fun b hb=>(f2 b hb).1,w0⟩
 rintro n s3 ⟨i,σ3,H3,I3,st3,fr3,w3⟩
 rcases turn i n σ3 H3 w3 with ⟨stop,qn⟩ | ⟨go,N,hN,step⟩
 ·refine wpAny_passesOwn hp (thn (T.done X rfl rfl rfl hc i pins s3 σ3 H3 X.xe I3 (stat fr3) st3 stop) fun r s4 ⟨hr,I4⟩=>?_)
  subst hr
  exact wpAny_execs_nil ⟨σ3,H3,I4,qn⟩
 ·refine wpAny_passesOwn hp (thn (T.item X rfl rfl rfl hc i pins s3 σ3 H3 X.xe I3 (stat fr3) st3 go) fun r s4 ⟨u,hr,h4⟩=>?_)
  subst hr
  refine wpAny_passesOwn hp (thn h4 fun _ s5 ⟨x,H5,I5,r5,y5,st5,fr5⟩=>?_)
  have I5':=I5.pinned (stat fr5) (T.obj _ _ st5)
  refine wpAny_passesOwn hp (thn (hg _ s5 σ3 H5 x u _ I5' r5 (step x H5 y5)) fun _ s6 ⟨σ6,H6,I6,q6⟩=>?_)
  refine wpAny_passesOwn hp (thn (hb _ s6 σ6 H6 _ I6 q6) fun f s7 q7=>?_)
  have again:∀ {σ7:St} {H7:Hp},Inv X (pins++lu fp s5.heap) σ7 H7 s7→N σ7 H7→∃ m,m<n∧∃ i σ' H',Inv X pins σ' H' s7∧tn i s7.heap∧(∀ b∈fp,H' b=none)∧W i m σ' H':=fun {σ7 H7} I7 n7=>by
   obtain ⟨m',hm,w7⟩:=hN σ7 H7 n7
   refine ⟨m',hm,i+1,σ7,H7,I7.ja,T.keep _ _ _ st5 fun b hb o e=>(I7.pin (b,o) (List.mem_append_right _ (List.mem_append_right _ (eY hb e)))).1,fun b hb=>?_,w7⟩
   obtain ⟨o,e,d⟩:=T.obj _ _ st5 b hb
   exact (I7.pin (b,o) (List.mem_append_right _ (List.mem_append_right _ (eY hb e)))).2.1
  cases f with
  | next=>obtain ⟨σ7,H7,I7,n7⟩:=q7;exact again I7 n7
  | cont=>obtain ⟨σ7,H7,I7,n7⟩:=q7;exact again I7 n7
  | brk=>obtain ⟨σ7,H7,I7,q7⟩:=q7;exact ⟨σ7,H7,I7.ja,q7⟩
  | ret v=>obtain ⟨x7,σ7,H7,I7,r7,q7⟩:=q7;exact ⟨x7,σ7,H7,I7.ja,r7,q7⟩
end
noncomputable abbrev R2:=V→V→Hp→VK→Prop
noncomputable def OpR (X:Cx) (f:Value→Value→Sem Value) (r:R2):Prop:=
 ∀ (pins:List (Addr×Obj)) (s:Shared) (σ:St) (H:Hp) (x y:V) (v u:Value) (Q:VK),Inv X pins σ H s→RelV x v→RelV y u→r x y H Q →
  wpAny (model X.prog X.w) X.A (f v u) (EP X pins σ Q) X.xe s
noncomputable def UnR (X:Cx) (f:Value→Sem Value) (r:V→Hp→VK→Prop):Prop:=
 ∀ (pins:List (Addr×Obj)) (s:Shared) (σ:St) (H:Hp) (x:V) (v:Value) (Q:VK),Inv X pins σ H s→RelV x v→r x H Q →
  wpAny (model X.prog X.w) X.A (f v) (EP X pins σ Q) X.xe s
noncomputable def cY (X:Cx) (f:Value) (r:List V→Hp→VK→Prop):Prop:=
 ∀ (pins:List (Addr×Obj)) (s:Shared) (σ:St) (H:Hp) (xs:List V) (us:List Value) (Q:VK),Inv X pins σ H s→Vals xs us→r xs H Q →
  wpAny (model X.prog X.w) X.A (call f us) (EP X pins σ Q) X.xe s
noncomputable def NG (X:Cx) (r:V→Hp→(Bool→Hp→Prop)→Prop):Prop:=
 ∀ (pins:List (Addr×Obj)) (s:Shared) (σ:St) (H:Hp) (x:V) (v:Value) (Q:Bool→Hp→Prop),Inv X pins σ H s→RelV x v→r x H Q →
  wpAny (model X.prog X.w) X.A (truthy v) (TP X pins σ Q) X.xe s
noncomputable def tOp (r:R2) (ta tb:TE):TE:=fun σ H Q=>ta σ H fun x H1=>tb σ H1 fun y H2=>r x y H2 Q
noncomputable def tUn (r:V→Hp→VK→Prop) (ta:TE):TE:=fun σ H Q=>ta σ H fun x H1=>r x H1 Q
noncomputable def rI (C:Int→Int→Prop) (g:Int→Int→V):R2:=fun x y H Q=>∃ i j,x=.int i∧y=.int j∧C i j∧Q (g i j) H
noncomputable def rI0 (g:Int→Int→V):R2:=fun x y H Q=>∃ i j,x=.int i∧y=.int j∧Q (g i j) H
noncomputable def rU (g:Int→V):V→Hp→VK→Prop:=fun x H Q=>∃ i,x=.int i∧Q (g i) H
section
variable {X:Cx} {a b c:Expr} {ta tb tc:TE} {pos:Pos}
theorem HY (ha:PE X a ta) (hb:PE X b tb) {pins:List (Addr×Obj)} {s:Shared} {σ:St} {H:Hp} {R:V→V→Hp→Prop} (I:Inv X pins σ H s)
  (h:ta σ H fun x H1=>tb σ H1 fun y H2=>R x y H2) {Q:Value→Shared→Prop} {f:Value→Value→Sem Value}
  (hf:∀ v u s2 x y H2,Inv X pins σ H2 s2→RelV x v→RelV y u→R x y H2→wpAny (model X.prog X.w) X.A (f v u) Q X.xe s2) :
  wpAny (model X.prog X.w) X.A (eval a X.env) (fun v s₁=>wpAny (model X.prog X.w) X.A (eval b X.env) (fun u s₂=>wpAny (model X.prog X.w) X.A (f v u) Q X.xe s₂) X.xe s₁) X.xe s:=by
 refine thn (ha pins s σ H _ I h) fun v s1 ⟨x,H1,I1,r1,q1⟩=>?_
 refine thn (hb pins s1 σ H1 _ I1 q1) fun u s2 ⟨y,H2,I2,r2,q2⟩=>?_
 exact hf v u s2 x y H2 I2 r1 r2 q2
theorem Lc {op:Operator} {r:R2} (ho:OpR X (binaryOp op) r) (ha:PE X a ta) (hb:PE X b tb):PE X (.BinOp a op b pos) (tOp r ta tb):=by
 intro pins s σ H Q I h
 exact wpAny_BinOp (HY ha hb I h fun v u s2 x y H2 I2 rx ry q=>ho pins s2 σ H2 x y v u Q I2 rx ry q)
theorem Gd {op:UnaryOp} {r:V→Hp→VK→Prop} (ho:UnR X (unaryOp op) r) (ha:PE X a ta):PE X (.UnaryOp op a pos) (tUn r ta):=by
 intro pins s σ H Q I h
 exact UnaryOp_ (thn (ha pins s σ H _ I h) fun v s1 ⟨x,H1,I1,r1,q1⟩=>ho pins s1 σ H1 x v Q I1 r1 q1)
theorem opI {f:Value→Value→Sem Value} {C:Int→Int→Prop} {g:Int→Int→Int}
  (rule:∀ (i j:Int) (t u:Tok) (s:Shared) (Q:Value→Shared→Prop) (E:Value→Shared→Prop),C i j→Q (.int (g i j) s.toks) { s with toks:=s.toks+1 }→wpAny (model X.prog X.w) X.A (f (.int i t) (.int j u)) Q E s) :
  OpR X f (rI C fun i j=>.int (g i j)):=by
 intro pins s σ H x y v u Q I rx ry h
 obtain ⟨i,j,rfl,rfl,hc,q⟩:=h
 obtain ⟨t,rfl⟩:=rx
 obtain ⟨t',rfl⟩:=ry
 exact rule i j t t' s _ _ hc ⟨.int (g i j),H,I.tok _,⟨_,rfl⟩,q⟩
theorem Ld {f:Value→Value→Sem Value} {g:Int→Int→Int}
  (rule:∀ (i j:Int) (t u:Tok) (s:Shared) (Q:Value→Shared→Prop) (E:Value→Shared→Prop),Q (.int (g i j) s.toks) { s with toks:=s.toks+1 }→wpAny (model X.prog X.w) X.A (f (.int i t) (.int j u)) Q E s) :
  OpR X f (rI0 fun i j=>.int (g i j)):=by
 intro pins s σ H x y v u Q I rx ry h
 obtain ⟨i,j,rfl,rfl,q⟩:=h
 obtain ⟨t,rfl⟩:=rx
 obtain ⟨t',rfl⟩:=ry
 exact rule i j t t' s _ _ ⟨.int (g i j),H,I.tok _,⟨_,rfl⟩,q⟩
theorem DH {f:Value→Value→Sem Value} {g:Int→Int→Bool}
  (rule:∀ (i j:Int) (t u:Tok) (s:Shared) (Q:Value→Shared→Prop) (E:Value→Shared→Prop),Q (.bool (g i j)) s→wpAny (model X.prog X.w) X.A (f (.int i t) (.int j u)) Q E s) :
  OpR X f (rI0 fun i j=>.bl (g i j)):=by
 intro pins s σ H x y v u Q I rx ry h
 obtain ⟨i,j,rfl,rfl,q⟩:=h
 obtain ⟨t,rfl⟩:=rx
 obtain ⟨t',rfl⟩:=ry
 exact rule i j t t' s _ _ ⟨.bl (g i j),H,I,rfl,q⟩
noncomputable def Le (i j:Int):Prop:=0≤j∧j≤1000000∧i.natAbs<2 ^ 64
noncomputable def zS (i j:Int):Prop:=(-(2 ^ 64)<i∧i<2 ^ 64)∨(-(2 ^ 64)<j∧j<2 ^ 64)
theorem zS.ok {i j:Int} (h:zS i j):IntMulOk i j:=by
 rcases h with ⟨h1,h2⟩ | ⟨h1,h2⟩
 ·exact .of_left (intBits_le_64 h1 h2)
 ·exact .of_right (intBits_le_64 h1 h2)
theorem HZ:OpR X (binaryOp .Add) (rI0 fun i j=>.int (i+j)):=Ld fun _ _ _ _ _ _ _ q=>add_int q
theorem H_:OpR X (binaryOp .Sub) (rI0 fun i j=>.int (i-j)):=Ld fun _ _ _ _ _ _ _ q=>sub_int q
theorem Ia:OpR X (binaryOp .Mult) (rI zS fun i j=>.int (i*j)):=opI fun _ _ _ _ _ _ _ hc q=>mul_int q hc.ok
theorem Ib:OpR X (binaryOp .Mod) (rI (fun _ j=>0<j) fun i j=>.int (i % j)):=opI fun i j _ _ _ _ _ hc q=>by
 have h1:(0:Int)<j:=hc
 exact mod_int' (by lia) (by rw [Int.fmod_eq_emod_of_nonneg i (by lia)];exact q)
theorem Ic:OpR X (binaryOp .Pow) (rI Le fun i j=>.int (i ^ j.toNat)):=opI fun _ _ _ _ _ _ _ hc q=>pow_int_small hc.1 hc.2.1 hc.2.2 q
theorem unI {f:Value→Sem Value} {g:Int→Int}
  (rule:∀ (i:Int) (t:Tok) (s:Shared) (Q:Value→Shared→Prop) (E:Value→Shared→Prop),Q (.int (g i) s.toks) { s with toks:=s.toks+1 }→wpAny (model X.prog X.w) X.A (f (.int i t)) Q E s) :
  UnR X f (rU fun i=>.int (g i)):=by
 intro pins s σ H x v Q I rx h
 obtain ⟨i,rfl,q⟩:=h
 obtain ⟨t,rfl⟩:=rx
 exact rule i t s _ _ ⟨.int (g i),H,I.tok _,⟨_,rfl⟩,q⟩
theorem zT:UnR X (unaryOp .USub) (rU fun i=>.int (-i)):=unI fun _ _ _ _ _ q=>neg_int q
end
section
variable {X:Cx} {a b c:Expr} {ta tb tc:TE} {pos:Pos}
theorem zU:OpR X (compareOp .Lt) (rI0 fun i j=>.bl (decide (i<j))):=DH fun _ _ _ _ _ _ _ q=>lt_int q
theorem wo:OpR X (compareOp .LtE) (rI0 fun i j=>.bl (decide (i≤j))):=DH fun _ _ _ _ _ _ _ q=>le_int q
theorem Ge:OpR X (compareOp .Gt) (rI0 fun i j=>.bl (decide (j<i))):=DH fun _ _ _ _ _ _ _ q=>gt_int q
theorem Lf:OpR X (compareOp .GtE) (rI0 fun i j=>.bl (decide (j≤i))):=DH fun _ _ _ _ _ _ _ q=>ge_int q
theorem OpR.or {f:Value→Value→Sem Value} {r r':R2} (h:OpR X f r) (h':OpR X f r'):OpR X f (fun x y H Q=>r x y H Q∨r' x y H Q):=by
 intro pins s σ H x y v u Q I rx ry q
 rcases q with q | q
 ·exact h pins s σ H x y v u Q I rx ry q
 ·exact h' pins s σ H x y v u Q I rx ry q
theorem dc (b:Expr) {op:CmpOp} (h:op≠.In:=by decide) (h2:op≠.NotIn:=by decide):behindInMarks op b=false:=by
 have e1:(op == CmpOp.In)=false:=by cases op<;>first | rfl | exact absurd rfl h
 have e2:(op == CmpOp.NotIn)=false:=by cases op<;>first | rfl | exact absurd rfl h2
 cases b<;>simp [behindInMarks,e1,e2]
theorem DJ {op:CmpOp} {r:R2} (ho:OpR X (compareOp op) r) (ha:PE X a ta) (hb:PE X b tb) (hm:behindInMarks op b=false):PE X (.Compare a [op] [b] pos) (tOp r ta tb):=by
 intro pins s σ H Q I h
 exact wpAny_Compare1 (HY ha hb I h fun v u s2 x y H2 I2 rx ry q=>ho pins s2 σ H2 x y v u Q I2 rx ry q) hm
noncomputable def Gf (t:TE):TT:=fun σ H Q=>t σ H fun x H'=>∃ k,x=.bl k∧Q k H'
theorem DK {op:CmpOp} {r:R2} (ho:OpR X (compareOp op) r) (ha:PE X a ta) (hb:PE X b tb) (hm:behindInMarks op b=false):PT X (.Compare a [op] [b] pos) (Gf (tOp r ta tb)):=by
 intro pins s σ H Q I h
 refine wpAny_isTrue_Compare1 (thn (ha pins s σ H _ I h) fun v s1 ⟨x,H1,I1,r1,q1⟩=>thn (hb pins s1 σ H1 _ I1 q1) fun u s2 ⟨y,H2,I2,r2,q2⟩=>
  thn (ho pins s2 σ H2 x y v u _ I2 r1 r2 q2) fun c s3 ⟨z,H3,I3,r3,k,e,q3⟩=>?_) hm
 subst e
 cases r3
 exact wpAny_truthy_bool ⟨H3,I3,q3⟩
noncomputable def zV (r r':R2) (ta tb tc:TE):TE:=fun σ H Q=>ta σ H fun x H1=>tb σ H1 fun y H2=>r x y H2 fun z H3=>∃ k,z=.bl k ∧
 (if k=true then tc σ H3 fun w' H4=>r' y w' H4 Q else Q (.bl false) H3)
theorem zW {op op':CmpOp} {r r':R2} (ho:OpR X (compareOp op) r) (ho':OpR X (compareOp op') r') (ha:PE X a ta) (hb:PE X b tb) (hc:PE X c tc)
  (hm:lastMarks [op,op'] [b,c]=false:=by with_unfolding_all rfl):PE X (.Compare a [op,op'] [b,c] pos) (zV r r' ta tb tc):=by
 intro pins s σ H Q I h
 refine Compare_chain (thn (ha pins s σ H _ I h) fun v s1 ⟨x,H1,I1,r1,q1⟩=>chain_link (thn (hb pins s1 σ H1 _ I1 q1) fun u s2 ⟨y,H2,I2,r2,q2⟩=>
  thn (ho pins s2 σ H2 x y v u _ I2 r1 r2 q2) fun d s3 ⟨z,H3,I3,r3,k,e,q3⟩=>?_)) hm
 subst e
 cases r3
 refine wpAny_truthy_bool ?_
 cases k with
 | false=>exact ite_ff ⟨.bl false,H3,I3,rfl,q3⟩
 | true=>exact ite_tt (chain_last (thn (hc pins s3 σ H3 _ I3 q3) fun w' s4 ⟨z',H4,I4,r4,q4⟩=>ho' pins s4 σ H4 y z' u w' Q I4 r2 r4 q4))
noncomputable def Ie (K:PySem.W.Frag) (x:V) (H:Hp) (k:Bool):Prop:=
 match x with
 | .non=>k=false
 | .bl b=>k=b
 | .int i=>k=(i != 0)
 | .str y=>y.length≤sizeLine∧k=((y.length:Int) != 0)
 | .byt y=>y.size≤sizeLine∧k=((y.size:Int) != 0)
 | .ref p=>(∃ xs,SqL K H p xs∧k=!xs.isEmpty)∨(∃ xs,SqT K H p xs∧k=!xs.isEmpty)∨∃ kvs,H p=some (.dK kvs)∧k=!kvs.isEmpty
 | _=>False
theorem uH {κ:Type} {kvs:List (κ×V)} {vs:List (κ×Value)} (r:KV kvs vs):(!vs.isEmpty)=!kvs.isEmpty:=by
 cases r<;>rfl
theorem lz {xs:List V} {its:List Value} (r:Vals xs its):(!its.toArray.isEmpty)=!xs.isEmpty:=by
 cases r<;>simp
theorem lC:(sizeLine:Nat)<2 ^ 63:=by rw [sizeLine_eq];decide
theorem Ig:NG X (fun x H Q=>∃ k,Ie X.K x H k∧Q k H):=by
 intro pins s σ H x v Q I rx h
 obtain ⟨k,e,q⟩:=h
 have hl:=lC
 have hs:sizeLine=16777216:=sizeLine_eq
 cases x with
 | non=>
  cases rx
  have e':k=false:=e
  subst e'
  exact truthy_none ⟨H,I,q⟩
 | bl b=>
  cases rx
  have e':k=b:=e
  subst e'
  exact wpAny_truthy_bool ⟨H,I,q⟩
 | int i=>
  obtain ⟨t,rfl⟩:=rx
  have e':k=(i != 0):=e
  subst e'
  exact PySem.P.truthy_int ⟨H,I,q⟩
 | str y=>
  obtain ⟨t,rfl⟩:=rx
  obtain ⟨hy,e'⟩:y.length≤sizeLine∧k=((y.length:Int) != 0):=e
  subst e'
  exact PySem.P.truthy_str (by lia) ⟨H,I.tok _,q⟩
 | byt y=>
  obtain ⟨t,rfl⟩:=rx
  obtain ⟨hy,e'⟩:y.size≤sizeLine∧k=((y.size:Int) != 0):=e
  subst e'
  exact PySem.W.truthy_bytes (by lia) ⟨H,I.tok _,q⟩
 | ref p=>
  cases rx
  have e':(∃ xs,SqL X.K H p xs∧k=!xs.isEmpty)∨(∃ xs,SqT X.K H p xs∧k=!xs.isEmpty)∨∃ kvs,H p=some (.dK kvs)∧k=!kvs.isEmpty:=e
  rcases e' with ⟨xs,hx,e'⟩ | ⟨xs,hx,e'⟩ | ⟨kvs,hx,e'⟩
  ·subst e'
   obtain ⟨its,r,pl,hz⟩:=I.list hx
   have hlen:=r.length
   exact wpAny_truthy_list pl.isList (by simp only [List.size_toArray];lia) ⟨H,I.tok _,by rw [lz r];exact q⟩
  ·subst e'
   obtain ⟨its,r,pl,hz⟩:=I.tuple hx
   have hlen:=r.length
   exact truthy_tuple pl (by simp only [List.size_toArray];lia) ⟨H,I.tok _,by rw [lz r];exact q⟩
  ·subst e'
   obtain ⟨hz,hS,vs,r,m⟩:kvs.length≤sizeLine∧(p == sysModules)=false∧∃ vs,KV kvs vs∧s.heap.DictOf (a_ X.prog X.w) p vs:=I.hok p _ hx
   have hlen:kvs.length=vs.length:=Paired.length r
   exact wpAny_truthy_dict hS m (by lia) ⟨H,I.tok _,by rw [uH r];exact q⟩
 | _=>exact (show False from e).elim
theorem zX (ha:PE X a ta) (he:∀ whole,isTrue a X.env whole=(do let v ← whole;standAt a.pos;holding [v] (truthy v))) :
  PT X a (fun σ H Q=>ta σ H fun x H'=>∃ k,Ie X.K x H' k∧Q k H'):=by
 intro pins s σ H Q I h
 exact isTrue_plain (thn (ha pins s σ H _ I h) fun v s1 ⟨x,H1,I1,r1,q1⟩=>Ig pins s1 σ H1 x v Q I1 r1 q1) (he _)
theorem vals1 {x:V} {us:List Value} (r:Vals [x] us):∃ u,us=[u]∧RelV x u:=by
 cases r with
 | cons r1 r2=>cases r2;exact ⟨_,rfl,r1⟩
theorem vals2 {x y:V} {us:List Value} (r:Vals [x,y] us):∃ u w',us=[u,w']∧RelV x u∧RelV y w':=by
 cases r with
 | cons r1 r2=>
  cases r2 with
  | cons r3 r4=>cases r4;exact ⟨_,_,rfl,r1,r3⟩
theorem yC (hc:X.calm=true):cY X (.builtin "max") (fun xs H Q=>∃ i j,xs=[.int i,.int j]∧Q (.int (if j>i then j else i)) H):=by
 intro pins s σ H xs us Q I r h
 obtain ⟨i,j,rfl,q⟩:=h
 obtain ⟨u,w',rfl,⟨t,rfl⟩,⟨t',rfl⟩⟩:=vals2 r
 refine max_two_ints (I.ok.hd hc) fun h' tk k=>⟨_,H,I.kept k,?_,q⟩
 by_cases hj:j>i
 ·rw [if_pos hj,if_pos hj];exact ⟨_,rfl⟩
 ·rw [if_neg hj,if_neg hj];exact ⟨_,rfl⟩
theorem yD (hc:X.calm=true):cY X (.builtin "min") (fun xs H Q=>∃ i j,xs=[.int i,.int j]∧Q (.int (if j<i then j else i)) H):=by
 intro pins s σ H xs us Q I r h
 obtain ⟨i,j,rfl,q⟩:=h
 obtain ⟨u,w',rfl,⟨t,rfl⟩,⟨t',rfl⟩⟩:=vals2 r
 refine min_two_ints (I.ok.hd hc) fun h' tk k=>⟨_,H,I.kept k,?_,q⟩
 by_cases hj:j<i
 ·rw [if_pos hj,if_pos hj];exact ⟨_,rfl⟩
 ·rw [if_neg hj,if_neg hj];exact ⟨_,rfl⟩
theorem yE:cY X (.type "int") (fun xs H Q=>(∃ i,xs=[.int i]∧Q (.int i) H)∨∃ k,xs=[.bl k]∧Q (.int (if k then 1 else 0)) H):=by
 intro pins s σ H xs us Q I r h
 rcases h with ⟨i,rfl,q⟩ | ⟨k,rfl,q⟩
 ·obtain ⟨u,rfl,t,rfl⟩:=vals1 r
  exact call_int_int ⟨.int i,H,I,⟨_,rfl⟩,q⟩
 ·obtain ⟨u,rfl,r1⟩:=vals1 r
  cases r1
  exact call_int_bool ⟨.int (if k then 1 else 0),H,I.tok _,⟨_,rfl⟩,q⟩
end
structure Ih (h:Heap) (x dx C:Addr) (mA:Str→Option Value):Prop where
 obj:h.get? x=some (PySem.W.instObj C dx)
 ns:h.Ns1 dx mA
 ne:dx≠x
theorem yF {h:Heap} {dx:Addr} {mA:Str→Option Value} (n:h.Ns1 dx mA):∃ od,h.get? dx=some od∧∀ name,PySem.W.lookIn name od=some (mA name):=by
 obtain ⟨o,es,ep,ho,hd,hk,_,hm⟩:=n
 refine ⟨o,ho,fun name=>?_⟩
 have e:=hm name
 unfold nsFind findBy at e
 rw [← Array.find?_toList] at e
 unfold PySem.W.lookIn
 rw [hd]
 dsimp only
 split
 ·rename_i y q
  rw [q] at e
  exact congrArg some e
 ·rename_i q
  rw [q] at e
  have a:es.toList.any (·.refKey)=false:=by
   rw [List.any_eq_false]
   intro y hy
   obtain ⟨z,t,hkey⟩:=hk y (Array.mem_toList_iff.mp hy)
   simp [DictEntry.refKey,hkey]
  have a':¬ es.toList.any (·.refKey)=true:=by rw [a];exact Bool.false_ne_true
  rw [if_neg a']
  exact congrArg some e
theorem Ih.look {h:Heap} {x dx C:Addr} {mA:Str→Option Value} (I:Ih h x dx C mA):∃ od,PySem.W.InstAt h x (PySem.W.instObj C dx) C (some od)∧∀ name,PySem.W.lookIn name od=some (mA name):=
 let ⟨od,ho,hl⟩:=yF I.ns
 ⟨od,⟨I.obj,rfl,rfl,ho⟩,hl⟩
theorem i8.some_of {v:V} {o:Option Value} (r:i8 (some v) o):∃ u,o=some u∧RelV v u:=by
 cases o with
 | none=>exact (show False from r).elim
 | some u=>exact ⟨u,rfl,r⟩
section
variable {P:Program} {w:World} {H H':Hp} {h h':Heap} {a C dx:Addr} {fs fs':List (Str×V)}
theorem DL (hok:HOk P w H h) (e:H a=some (.ins C dx fs)):∃ mA,Ih h a dx C mA∧(∀ f,i8 (fs.lookup f) (mA f))∧PySem.Within mA (fs.map (·.1))∧fs.length≤1000∧H dx=some (.own a):=by
 obtain ⟨d,z,ne,ob,mA,n,r,q⟩:=(show bx P w H h a (.ins C dx fs) from hok a _ e)
 exact ⟨mA,⟨ob,n,ne⟩,r,q,z,d⟩
end
structure Cls (K:PySem.W.Frag) (C:Addr):Prop where
 pg:PySem.W.plainGet K C Str.empty=true
 hd:PySem.W.hasDictIn K C=true
 po:PySem.W.plainOver K C=true
 sa:PySem.W.findIn K (.ref C) "__setattr__" = some (some (.builtin "object.__setattr__"))
theorem Cls.get {K:PySem.W.Frag} {C:Addr} (c:Cls K C) (f:Str):PySem.W.plainGet K C f=true:=c.pg
section
variable {X:Cx} {pins:List (Addr×Obj)} {σ:St} {H:Hp} {s:Shared} {A:Around} {E:Value→Shared→Prop} {Q:Value→Shared→Prop} {c:Value} {b:Bool}
inductive jb (K:PySem.W.Frag) (H:Hp):V→Value→Prop where
 | non:jb K H .non (.type "NoneType")
 | bl (x:Bool):jb K H (.bl x) (.type "bool")
 | int (i:Int):jb K H (.int i) (.type "int")
 | str (x:Str):jb K H (.str x) (.type "str")
 | flt (x:UInt64):jb K H (.flt x) (.type "float")
 | lst {a:Addr} {xs:List V} (e:H a=some (.lst xs)):jb K H (.ref a) (.type "list")
 | frz {a:Addr} {o:Obj} {xs:List V} (e:H a=some (.frz o (.lst xs))):jb K H (.ref a) (.type "list")
 | tup {a:Addr} {xs:List V} (e:H a=some (.tup xs)):jb K H (.ref a) (.type "tuple")
 | dK {a:Addr} {kvs:List (Key×V)} (e:H a=some (.dK kvs)):jb K H (.ref a) (.type "dict")
 | dT {a:Addr} {kvs:List (List Key×V)} {ts:List Addr} (e:H a=some (.dT kvs ts)):jb K H (.ref a) (.type "dict")
 | ins {a C dx:Addr} {fs:List (Str×V)} (e:H a=some (.ins C dx fs)) (cl:Cls K C) (ha:PySem.W.findIn K (.ref C) "__class__" = some (some (.builtin "object.__class__")))
   (hn:PySem.W.specialIn K (.builtin "object.__class__") "__get__" = some (some (.builtin "getset_descriptor.__get__"))) (htk:PySem.W.takesIn K (.builtin "object.__class__")=some true)
   (hm:PySem.W.mroIn K C (.type "object")=some true):jb K H (.ref a) (.ref C)
theorem yG {x:V} {u t:Value} (I:Inv X pins σ H s) (rx:RelV x u) (ty:jb X.K H x t) (e:PySem.W.kitOne X.K t c=some b) (h:∀ tk,Q (.bool b) { s with toks:=tk }) :
  wpAny (model X.prog X.w) A (call (.builtin "isinstance") [u,c]) Q E s:=by
 cases ty with
 | non=>cases (show u=Value.none from rx);exact PySem.W.kia_one PySem.W.kitx_none I.kIn True.intro e (fun z=>nomatch z) h
 | bl y=>cases (show u=Value.bool y from rx);exact PySem.W.kia_one PySem.W.kitx_bool I.kIn True.intro e (fun z=>nomatch z) h
 | int i=>obtain ⟨t,q⟩:=(show ∃ t,u=Value.int i t from rx);cases q;exact PySem.W.kia_one PySem.W.kitx_int I.kIn True.intro e (fun z=>nomatch z) h
 | str y=>obtain ⟨t,q⟩:=(show ∃ t,u=Value.str y t from rx);cases q;exact PySem.W.kia_one PySem.W.kitx_str I.kIn True.intro e (fun z=>nomatch z) h
 | flt y=>obtain ⟨t,q⟩:=(show ∃ t,u=Value.float y t from rx);cases q;exact PySem.W.kia_one PySem.W.kitx_float I.kIn True.intro e (fun z=>nomatch z) h
 | @lst a xs ea=>
  cases (show u=Value.ref a from rx)
  obtain ⟨_,_,n,_,h1⟩:=(show bx X.prog X.w H s.heap a (.lst xs) from I.hok a _ ea)
  exact PySem.W.kia_one PySem.W.kitx_list I.kIn ⟨_,h1,rfl⟩ e (fun z=>nomatch z) h
 | @frz a ob xs ea=>
  cases (show u=Value.ref a from rx)
  obtain ⟨_,_,_,n,_,h1⟩:=(show bx X.prog X.w H s.heap a (.frz ob (.lst xs)) from I.hok a _ ea)
  exact PySem.W.kia_one PySem.W.kitx_list I.kIn ⟨_,h1,rfl⟩ e (fun z=>nomatch z) h
 | @tup a xs ea=>
  cases (show u=Value.ref a from rx)
  obtain ⟨_,_,_,p⟩:=(show bx X.prog X.w H s.heap a (.tup xs) from I.hok a _ ea)
  obtain ⟨o,h1,h2,_⟩:=p
  exact PySem.W.kia_one PySem.W.kitx_tuple I.kIn ⟨o,h1,h2⟩ e (fun z=>nomatch z) h
 | @dK a kvs ea=>
  cases (show u=Value.ref a from rx)
  obtain ⟨_,_,vs,_,p⟩:=(show bx X.prog X.w H s.heap a (.dK kvs) from I.hok a _ ea)
  obtain ⟨o,es,ep,h1,h2,_⟩:=p
  exact PySem.W.kia_one PySem.W.kitx_dict I.kIn ⟨o,h1,h2.1⟩ e (fun z=>nomatch z) h
 | @dT a kvs ts ea=>
  cases (show u=Value.ref a from rx)
  obtain ⟨_,_,xs,_,o,es,ep,h1,h2,_⟩:=(show bx X.prog X.w H s.heap a (.dT kvs ts) from I.hok a _ ea)
  exact PySem.W.kia_one PySem.W.kitx_dict I.kIn ⟨o,h1,h2.1⟩ e (fun z=>nomatch z) h
 | @ins a C dx fs ea cl ha hn htk hm=>
  cases (show u=Value.ref a from rx)
  obtain ⟨mA,O,_⟩:=DL I.hok ea
  obtain ⟨od,J,_⟩:=O.look
  exact PySem.W.kia_one (PySem.W.kitx_own (cl.get _) cl.hd ha hn htk hm) I.kIn J e (fun z=>nomatch z) h
end
structure bQ (k:Nat) (A:Around):Prop where
 hd:A.handled=none
 dp:A.depth+3*k+5<recursionLimit
 un:A.units+16*k+200<cLine
 gd:A.guards=some []
theorem bQ.mono {j k:Nat} {A:Around} (r:bQ k A) (h:j≤k):bQ j A:=⟨r.hd,by have:=r.dp;lia,by have:=r.un;lia,r.gd⟩
theorem bQ.deeper {k:Nat} {A:Around} (r:bQ (k+1) A) (env:Env):bQ k (A.deeper env):=
 ⟨r.hd,by have:=r.dp;show A.depth+1+3*k+5<_;lia,by have:=r.un;show A.units+3+16*k+200<_;lia,r.gd⟩
theorem bQ.depth {k:Nat} {A:Around} (r:bQ k A):A.depth<recursionLimit:=by have:=r.dp;lia
theorem bQ.units {k:Nat} {A:Around} (r:bQ k A):A.units+64<cLine:=by have:=r.un;lia
noncomputable def uI:TA:=fun _ H Q=>Q [] H
noncomputable def oS (ta:TE) (tr:TA):TA:=fun σ H Q=>ta σ H fun x H1=>tr σ H1 fun xs H2=>Q (x::xs) H2
section
variable {X:Cx} {e:Expr} {es:List Expr} {te:TE} {t:TA} {pos:Pos}
theorem lD:PA X [] uI:=fun _ _ _ _ H Q I h=>Calls.spliced_nil ⟨[],H,I,.nil,h⟩
theorem jc (ha:PE X e te) (hr:PA X es t) (hs:starEach (e::es) X.env=(false,eval e X.env)::starEach es X.env:=by rfl):PA X (e::es) (oS te t):=by
 intro pos pins s σ H Q I h
 rw [hs]
 show wpAny _ _ (spliced ((false,eval e X.env)::backTo pos (starEach es X.env))) _ _ s
 refine Calls.spliced_cons (thn (ha pins s σ H _ I h) fun u s1 ⟨x,H1,I1,r1,q1⟩=>?_)
 exact thn (hr pos pins s1 σ H1 _ I1 q1) fun us s2 ⟨xs,H2,I2,r2,q2⟩=>⟨x::xs,H2,I2,.cons r1 r2,q2⟩
noncomputable def Lg (t:TA):TE:=fun σ H Q=>t σ H fun xs H1=>xs.length≤sizeLine∧∀ p,H1 p=none→Q (.ref p) (upd H1 p (.tup xs))
noncomputable def DM (t:TA):TE:=fun σ H Q=>t σ H fun xs H1=>xs.length≤sizeLine∧∀ p,H1 p=none→Q (.ref p) (upd H1 p (.lst xs))
theorem Ii {x1} (h:PA X es t):PE X (.Tuple es x1 pos) (Lg t):=by
 intro pins s σ H Q I hq
 refine wpAny_Tuple_spliced (thn (h pos pins s σ H _ I hq) fun us s1 ⟨xs,H1,I1,r,z,q⟩=>⟨by rw [← r.length];exact z,?_⟩)
 have hf:H1 s1.heap.objs.size=none:=I1.hok.fresh (Nat.le_refl _)
 refine ⟨.ref s1.heap.objs.size,upd H1 s1.heap.objs.size (.tup xs),I1.laid (t':=s1.toks) (fun b u e=>Heap.get?_push_of_some _ e) (Nat.le_refl _) ?_,rfl,q _ hf⟩
 exact ⟨z,us,r,⟨_,Heap.get?_push_size _ rfl,rfl,_,rfl⟩⟩
theorem zY (h:PA X es t):PE X (.List es pos) (DM t):=by
 intro pins s σ H Q I hq
 refine wpAny_List_spliced (thn (h pos pins s σ H _ I hq) fun us s1 ⟨xs,H1,I1,r,z,q⟩=>⟨by rw [← r.length];exact z,?_⟩)
 have hf:H1 s1.heap.objs.size=none:=I1.hok.fresh (Nat.le_refl _)
 refine ⟨.ref s1.heap.objs.size,upd H1 s1.heap.objs.size (.lst xs),I1.laid (t':=s1.toks) (fun b u e=>Heap.get?_push_of_some _ e) (Nat.le_refl _) ?_,rfl,q _ hf⟩
 exact ⟨z,us,0,r,Heap.get?_push_size _ rfl⟩
end
noncomputable abbrev Sp:=List V→Hp→VK→XK→Prop
noncomputable abbrev CXT:=List Env→Hp→Shared→XK→Value→Shared→Prop
structure DO (P:Program) (w:World) (K:PySem.W.Frag) (mg:Str→Option Value) (base:Heap) (A:Around) (outer:List Env) (s:Shared) (H:Hp):Prop where
 frames:A.frames=some outer
 mod:Mod K mg base
 bs:∀ b o,base.get? b=some o→s.heap.get? b=some o∧H b=none
 bsz:base.objs.size≤s.heap.objs.size
 k_:s.heap.FunFrames base outer
 frf:∀ b∈frs outer,H b=none
 hok:HOk P w H s.heap
 bare:AllBare s.gens
noncomputable def CE (outer:List Env) (P:Program) (w:World) (H:Hp) (s:Shared) (Q:VK) (u:Value) (s':Shared):Prop:=
 ∃ v H',s'.os=s.os∧AllBare s'.gens∧Un (frs outer) [] H H' s.heap s'.heap∧HOk P w H' s'.heap∧RelV v u∧Q v H'
noncomputable def CR (CX:CXT) (outer:List Env) (P:Program) (w:World) (H:Hp) (s:Shared) (Q:VK) (E:XK) (r:Result) (s':Shared):Prop:=
 match r with
 | .ok (.ret u)=>CE outer P w H s Q u s'
 | .ok _=>False
 | .error e=>CX outer H s E e s'
structure aX (P:Program) (w:World) (K:PySem.W.Frag) (mg:Str→Option Value) (base:Heap) (CX:CXT) (k:Nat) (f:Addr) (fd:FuncData) (ps:List Str) (sp:Sp):Prop where
 len:∀ vs H Q E,sp vs H Q E→vs.length=ps.length
 run:∀ (A:Around) (outer:List Env) (s:Shared) (H:Hp) (args:Args) (us:List Value) (vs:List V) (Q:VK) (E:XK),bQ k A→DO P w K mg base A outer s H→BindsTo s fd args (ps.zip us)→Vals vs us→sp vs H Q E →
  codeAny (model P w) A (.call (.ref f) args) (CR CX outer P w H s Q E) s
section
variable {X:Cx} {pins:List (Addr×Obj)} {σ:St} {H:Hp} {s s':Shared}
theorem Inv.NH (I:Inv X pins σ H s):DO X.prog X.w X.K X.mg X.base X.A X.stack s H:=
 ⟨I.ok.frames,I.ok.mod,I.bs,Nat.le_trans I.ok.bsz I.sz,I.stack,I.v_,I.hok,I.bare⟩
theorem Inv.after {Q:VK} {u:Value} (I:Inv X pins σ H s) (h:CE X.stack X.prog X.w H s Q u s'):EP X pins σ Q u s':=by
 obtain ⟨v,H',os,bare,un,hok,r,q⟩:=h
 obtain ⟨hh,g,d,t,os'⟩:=s'
 obtain rfl:os'=s.os:=os
 exact ⟨v,H',I.call (h':=hh) (g':=g) (d':=d) (t':=t) (ch:=[]) un hok bare (fun b z=>absurd z (by simp)),r,q⟩
end
noncomputable def oU (sp:Sp) (dvs:List V) (E:XK) (t:TA):TE:=fun σ H Q=>t σ H fun vs H1=>sp (vs++dvs) H1 Q E
noncomputable def Binds (K:PySem.W.Frag) (fd:FuncData) (ps:List Str) (ds:List Value):Prop:=
 ∀ (s:Shared) (us:List Value),K.In s.heap→(us++ds).length=ps.length→BindsTo s fd ⟨us,[]⟩ (ps.zip (us++ds))
theorem Binds.all {K:PySem.W.Frag} {fd:FuncData} {ps:List Str} (h:∀ us:List Value,us.length=ps.length→bindArgs fd ⟨us,[]⟩=pure (ps.zip us)):Binds K fd ps []:=fun s us _ hl=>by
 rw [List.append_nil] at hl ⊢
 exact .of_eq (h us hl)
noncomputable def Passes (CX:CXT) (X:Cx) (E:XK):Prop:=∀ (pins:List (Addr×Obj)) (σ:St) (H:Hp) (s:Shared) (e:Value) (s':Shared),Inv X pins σ H s→CX X.stack H s E e s'→X.xe e s'
section
variable {X:Cx} {CX:CXT} {k:Nat} {f C:Addr} {fd:FuncData} {ps:List Str} {sp:Sp} {dvs:List V} {ds:List Value} {E:XK} {x m:Str} {p pos apos:Pos} {e o:Expr} {es:List Expr} {ta:TE} {t:TA}
theorem zZ {pins:List (Addr×Obj)} {σ:St} {H:Hp} {s:Shared} {Q:VK} {us:List Value} {vs:List V} (F:aX X.prog X.w X.K X.mg X.base CX k f fd ps sp) (hr:bQ k X.A) (hb:Binds X.K fd ps ds) (hd:Vals dvs ds) (hx:Passes CX X E)
  (I:Inv X pins σ H s) (r:Vals vs us) (h:sp (vs++dvs) H Q E):wpAny (model X.prog X.w) X.A (call (.ref f) us) (EP X pins σ Q) X.xe s:=by
 have r2:Vals (vs++dvs) (us++ds):=r.append hd
 have hl:(us++ds).length=ps.length:=by rw [← r2.length];exact F.len _ _ _ _ h
 refine wpAny_call (codeAny_mono (F.run X.A X.stack s H ⟨us,[]⟩ (us++ds) (vs++dvs) Q E hr I.NH (hb s us I.kIn hl) r2 h) fun r s' hq=>?_)
 cases r with
 | error e=>exact hx pins σ H s e s' I hq
 | ok fl=>
  cases fl with
  | ret u=>exact I.after hq
  | next=>exact False.elim hq
  | brk=>exact False.elim hq
  | cont=>exact False.elim hq
theorem p9 (F:aX X.prog X.w X.K X.mg X.base CX k f fd ps sp) (hr:bQ k X.A) (hg:Gl X x) (hm:X.mg x=some (.ref f)) (hk:PySem.W.keepIn X.K (.ref f)=true) (hb:Binds X.K fd ps ds) (hd:Vals dvs ds) (hx:Passes CX X E)
  (ha:PA X (e::es) t) (hdb:(x == ("__debug__" : Str))=false:=by decide) (he:starEach (e::es) X.env=(false,eval e X.env)::starEach es X.env:=by rfl) (hpl:(backTo pos (starEach es X.env)).any (·.1)=false:=by rfl) :
  PE X (.Call (.Name x p) (e::es) [] pos) (oU sp dvs E t):=by
 intro pins s σ H Q I h
 refine wpAny_Call_Name_kw (we I hg hm ?_ hdb)
 refine PySem.W.callWith_K (h₀:=X.base) I.ok.mod.kin hk (thn (ha pos pins s σ H _ I h) fun us s1 ⟨vs,H1,I1,r,q⟩=>⟨I1.kIn,?_⟩) he hpl
 exact zZ F hr hb hd hx I1 r q
end
structure av (N P:List Str) (sc:Scope):Prop where
 kind:sc.kind=.function
 co:sc.isCoroutine=false
 gen:sc.isGenerator=false
 nd:N.Nodup
 pre:N.take P.length=P
 par:∀ x∈P,sc.names.lookup x=some .local∨sc.names.lookup x=some .cell
 Ij:∀ y∈sc.names,y.2≠.free
theorem oV {kindOf:Str→Option NameKind} {x:Str}:∀ {binds:List (Str×Value)} {m:Str→Option Value},(∀ v,(x,v)∉binds)→bindL kindOf binds m x=m x
 | [],_,_=>rfl
 | (n,v)::r,m,h=>by
  unfold bindL
  rw [oV fun w hw=>h w (List.mem_cons_of_mem _ hw)]
  split
  ·have:x≠n:=by rintro rfl;exact h v List.mem_cons_self
   simp [this]
  ·rfl
theorem oW {kindOf:Str→Option NameKind} {x:Str}:∀ {binds:List (Str×Value)} {m:Str→Option Value},(∀ v,(x,v)∉binds)→bindC kindOf binds m x=m x
 | [],_,_=>rfl
 | (n,v)::r,m,h=>by
  unfold bindC
  rw [oW fun w hw=>h w (List.mem_cons_of_mem _ hw)]
  split
  ·rfl
  ·have:x≠n:=by rintro rfl;exact h v List.mem_cons_self
   simp [this]
theorem oX {kindOf:Str→Option NameKind} {x:Str} {v:Value}:∀ {P:List Str} {vs:List Value} {i:Nat} {m:Str→Option Value},P.Nodup→P[i]?=some x→vs[i]?=some v→kindOf x=some .local →
  bindL kindOf (P.zip vs) m x=some v
 | [],_,_,_,_,h,_,_=>by simp at h
 | _::_,[],_,_,_,_,h,_=>by simp at h
 | p::P,w::vs,0,m,nd,h1,h2,hk=>by
  simp at h1 h2;subst h1;subst h2
  show bindL kindOf ((p,w)::P.zip vs) m p=_
  unfold bindL
  rw [oV fun v hv=>(List.nodup_cons.mp nd).1 (List.of_mem_zip hv).1,if_pos hk]
  simp
 | p::P,w::vs,i+1,m,nd,h1,h2,hk=>by
  show bindL kindOf ((p,w)::P.zip vs) m x=_
  unfold bindL
  exact oX (i:=i) (List.nodup_cons.mp nd).2 (by simpa using h1) (by simpa using h2) hk
theorem oY {kindOf:Str→Option NameKind} {x:Str} {v:Value}:∀ {P:List Str} {vs:List Value} {i:Nat} {m:Str→Option Value},P.Nodup→P[i]?=some x→vs[i]?=some v→kindOf x≠some .local →
  bindC kindOf (P.zip vs) m x=some v
 | [],_,_,_,_,h,_,_=>by simp at h
 | _::_,[],_,_,_,_,h,_=>by simp at h
 | p::P,w::vs,0,m,nd,h1,h2,hk=>by
  simp at h1 h2;subst h1;subst h2
  show bindC kindOf ((p,w)::P.zip vs) m p=_
  unfold bindC
  rw [oW fun v hv=>(List.nodup_cons.mp nd).1 (List.of_mem_zip hv).1,if_neg hk]
  simp
 | p::P,w::vs,i+1,m,nd,h1,h2,hk=>by
  show bindC kindOf ((p,w)::P.zip vs) m x=_
  unfold bindC
  exact oY (i:=i) (List.nodup_cons.mp nd).2 (by simpa using h1) (by simpa using h2) hk
noncomputable def start (N:List Str) (vs:List V):St:=vs.map some++List.replicate (N.length-vs.length) none
noncomputable def uJ (CX:CXT) (P:Program) (w:World) (K:PySem.W.Frag) (mg:Str→Option Value) (base:Heap) (N:List Str) (qual:Str) (scope:Scope) (f:Addr) (cd:Value) (A:Around) (outer:List Env) (s:Shared) (H:Hp) (E:XK):Cx where
 prog:=P
 w:=w
 K:=K
 mg:=mg
 base:=base
 A:=A.deeper (envOfC qual scope s.heap.objs.size f cd)
 N:=N
 s₀:=s
 H₀:=H
 env:=envOfC qual scope s.heap.objs.size f cd
 outer:=outer
 stack:=envOfC qual scope s.heap.objs.size f cd::outer
 ex:=[]
 calm:=true
 fn:=fun _=>true
 pn:=[]
 xe:=fun e s'=>wpAny (model P w) (A.deeper (envOfC qual scope s.heap.objs.size f cd)) (leaving (envOfC qual scope s.heap.objs.size f cd) e) (fun _ s''=>CX outer H s E e s'') (fun e' s''=>CX outer H s E e' s'') s'
theorem rA {sc:Scope} {n:Nat} {x:Str} (h:sc.names.lookup x=some .cell):∃ c,(cellsFrom n sc.names []).lookup x=some c:=by
 have q:=PySem.W.cellsFrom_some sc.names n [] (.inl h)
 exact Option.isSome_iff_exists.mp q
theorem yH {CX:CXT} {P:Program} {w:World} {K:PySem.W.Frag} {mg:Str→Option Value} {base:Heap} {N ps:List Str} {qual:Str} {scope:Scope} {f:Addr} {cd:Value} {A:Around} {outer:List Env} {s s1:Shared} {H:Hp} {E:XK} {us:List Value} {vs:List V}
  (S:av N ps scope) (hd:A.handled=none) (e0:DO P w K mg base A outer s H) (hl:vs.length=ps.length) (r:Vals vs us)
  (x:InCallC s s.heap.objs.size (bindL (envOfC qual scope s.heap.objs.size f cd).kindOf (ps.zip us) fun _=>none) (cellsFrom (s.heap.objs.size+1) scope.names []) (bindC (envOfC qual scope s.heap.objs.size f cd).kindOf (ps.zip us) fun _=>none) s1) :
  Inv (uJ CX P w K mg base N qual scope f cd A outer s H E) [] (start N vs) H s1:=by
 have hpl:ps.length≤N.length:=by have:=congrArg List.length S.pre;rw [List.length_take] at this;lia
 obtain ⟨h1,tk,rfl,hk⟩:=x.done
 have noA:∀ b:Addr,b∉(uJ CX P w K mg base N qual scope f cd A outer s H E).ex:=fun b z=>absurd (show b∈([]:List Addr) from z) (by simp)
 refine ⟨⟨e0.mod,S.kind,rfl,rfl,Nat.le_refl _,fun y z c h1 h2=>?_,fun y hy=>?_,fun y c _ h=>?_,fun _=>hd,Around.frames_deeper e0.frames,.inr ⟨rfl,rfl⟩,fun b z=>absurd z (noA b),e0.bs,e0.bsz,fun b _ _=>noA b,fun b z=>absurd z (noA b),e0.k_,e0.frf⟩,
  rfl,e0.bare,Un.kept hk,⟨_,x.toInCall.ns,fun i y v h1 h2 h3=>?_⟩,fun y c h=>⟨_,x.cell y c h⟩,e0.hok.fresh (Nat.le_refl _),fun y c h=>?_,fun p hp=>absurd (show p∈([]:List (Addr×Obj)) from hp) (by simp),e0.hok.kept hk,?_⟩
 ·exact name_of_addr x.apart (PySem.mem_of_lookup h1) (PySem.mem_of_lookup h2)
 ·have hy:scope.names.lookup y=some .cell∨scope.names.lookup y=some .free:=hy
  rcases hy with hy | hy
  ·exact rA hy
  ·exact absurd rfl (S.Ij _ (PySem.mem_of_lookup hy))
 ·exact Nat.le_of_lt (x.above y c (PySem.mem_of_lookup h))
 ·have hi:i<vs.length:=by
   unfold start at h2
   by_cases hi:i<vs.length
   ·exact hi
   ·rw [List.getElem?_append_right (by simpa using hi)] at h2
    rw [List.getElem?_replicate] at h2
    split at h2<;>cases h2
  have ha:vs[i]?=some v:=by
   unfold start at h2
   rw [List.getElem?_append_left (by simpa using hi),List.getElem?_map] at h2
   cases e:vs[i]? with
   | none=>rw [e] at h2;cases h2
   | some a=>rw [e] at h2;cases h2;rfl
  obtain ⟨u,hu,rv⟩:=r.get ha
  have hp:ps[i]?=some y:=by
   rw [← S.pre,List.getElem?_take_of_lt (by lia)];exact h1
  have ndP:ps.Nodup:=by rw [← S.pre];exact S.nd.sublist (List.take_sublist _ _)
  refine ⟨u,rv,?_⟩
  rcases S.par y (List.mem_of_getElem? hp) with k | k
  ·exact .inl ⟨k,oX ndP hp hu k⟩
  ·obtain ⟨c,e⟩:=rA (n:=s.heap.objs.size+1) k
   refine .inr ⟨.inl k,c,e,?_⟩
   have q:=x.cell y c e
   rw [oY ndP hp hu (by show scope.names.lookup y≠_;rw [k];decide)] at q
   exact q
 ·exact e0.hok.fresh (Nat.le_of_lt (x.above y c (PySem.mem_of_lookup h)))
 ·unfold start
  show _=N.length
  rw [List.length_append,List.length_map,List.length_replicate]
  lia
theorem Lh {CX:CXT} {P:Program} {w:World} {K:PySem.W.Frag} {mg:Str→Option Value} {base:Heap} {k:Nat} {f:Addr} {name qual:Str} {params:Arguments} {body:List Stmt} {scope:Scope} {dV kV doc pm cdv ct oc:Value} {an od:Option Addr}
  {osl:Array (Option Value)} {N ps:List Str} {sp:Sp} (lk:K.lookup f=some ⟨oc,od,.func (PySem.W.fnOf name qual params body scope dV kV doc pm an cdv ct),osl⟩) (hcd:PySem.W.codeIn K cdv qual=true) (S:av N ps scope)
  (len:∀ vs H Q E,sp vs H Q E→vs.length=ps.length)
  (hbody:∀ (A:Around) (outer:List Env) (s:Shared) (H:Hp) (vs:List V) (Q:VK) (E:XK),bQ k (A.deeper (envOfC qual scope s.heap.objs.size f cdv))→sp vs H Q E →
   ∃ t,PSs (uJ CX P w K mg base N qual scope f cdv A outer s H E) body t∧t { nx:=fun _ H'=>Q .non H',rt:=Q } (start N vs) H) :
  aX P w K mg base CX (k+1) f (PySem.W.fnOf name qual params body scope dV kV doc pm an cdv ct) ps sp:=by
 refine ⟨len,fun A outer s H args us vs Q E hr e0 hb r hsp=>?_⟩
 have hl:=len _ _ _ _ hsp
 have KX:K.In s.heap:=e0.mod.kin.keeps fun b o e=>(e0.bs b o e).1
 have lim:s.heap.NoLimit:=e0.mod.nolimit.keeps fun b o e=>(e0.bs b o e).1
 have hkind:∀ y∈ps.zip us,scope.names.lookup y.1=some .local∨(scope.names.lookup y.1=some .cell∧((cellsFrom (s.heap.objs.size+1) scope.names []).lookup y.1).isSome=true):=fun ⟨n,v⟩ hy=>by
  rcases S.par n (List.of_mem_zip hy).1 with q | q
  ·exact .inl q
  ·exact .inr ⟨q,PySem.W.cellsFrom_some _ _ _ (.inl q)⟩
 refine codeAny_call_function hr.depth (KX _ _ lk) rfl S.co S.gen rfl (PySem.W.codeRec_of KX hcd) (hb _ _ _ _ ?_)
 refine wpAny_newFunctionEnv_cells S.kind hkind fun env he s1 x=>?_
 subst he
 refine ⟨lim.keeps x.toInCall.keep,codeAny_func ?_⟩
 obtain ⟨t,ht,hq⟩:=hbody A outer s H vs Q E (hr.deeper _) hsp
 have I:Inv (uJ CX P w K mg base N qual scope f cdv A outer s H E) [] (start N vs) H s1:=yH S hr.hd e0 hl r x
 refine wpAny_mono (ht [] s1 (start N vs) H _ I hq) (fun fl s' hs=>?_) fun e s' hs=>hs
 have fin:∀ {σ':St} {H':Hp} {v:V} {u:Value},Inv (uJ CX P w K mg base N qual scope f cdv A outer s H E) [] σ' H' s'→RelV v u→Q v H'→CE outer P w H s Q u s':=
  fun {σ' H' v u} J rv q=>⟨v,H',J.os,J.bare,J.base,J.hok,rv,q⟩
 cases fl with
 | ret u=>
  obtain ⟨v,σ',H',J,rv,q⟩:=hs
  exact fin J rv q
 | next=>
  obtain ⟨σ',H',J,q⟩:=hs
  exact fin (v:=V.non) (u:=Value.none) J rfl q
 | brk=>
  obtain ⟨_,_,_,q⟩:=hs
  exact False.elim q
 | cont=>
  obtain ⟨_,_,_,q⟩:=hs
  exact False.elim q
section
variable {X:Cx} {x:Str} {p pos:Pos} {e:Expr} {es:List Expr} {t:TA} {id T:String} {r:List V→Hp→VK→Prop}
noncomputable def tCB (r:List V→Hp→VK→Prop) (t:TA):TE:=fun σ H Q=>t σ H fun vs H1=>r vs H1 Q
theorem lE (hc:cY X (.builtin id) r) (hg:Gl X x) (hm:X.mg x=none) (hv:bootBuiltins x=some (.builtin id)) (ha:PA X (e::es) t) (hn:x ≠ "__name__" := by decide) (hdb:(x == ("__debug__" : Str))=false:=by decide)
  (he:starEach (e::es) X.env=(false,eval e X.env)::starEach es X.env:=by rfl) (hpl:(backTo pos (starEach es X.env)).any (·.1)=false:=by rfl):PE X (.Call (.Name x p) (e::es) [] pos) (tCB r t):=by
 intro pins s σ H Q I h
 refine wpAny_Call_Name_kw (gQ I hg hm hv ?_ hn hdb)
 exact PyProof.Rows.callWith_builtin1 (thn (ha pos pins s σ H _ I h) fun us s1 ⟨vs,H1,I1,r1,q1⟩=>hc pins s1 σ H1 vs us Q I1 r1 q1) he hpl
theorem oZ (hc:cY X (.type T) r) (hg:Gl X x) (hm:X.mg x=none) (hv:bootBuiltins x=some (.type T)) (ha:PA X (e::es) t) (hn:x ≠ "__name__" := by decide) (hdb:(x == ("__debug__" : Str))=false:=by decide)
  (he:starEach (e::es) X.env=(false,eval e X.env)::starEach es X.env:=by rfl) (hpl:(backTo pos (starEach es X.env)).any (·.1)=false:=by rfl):PE X (.Call (.Name x p) (e::es) [] pos) (tCB r t):=by
 intro pins s σ H Q I h
 refine wpAny_Call_Name_kw (gQ I hg hm hv ?_ hn hdb)
 exact PyProof.Rows.callWith_type1 (thn (ha pos pins s σ H _ I h) fun us s1 ⟨vs,H1,I1,r1,q1⟩=>hc pins s1 σ H1 vs us Q I1 r1 q1) he hpl
end
end L2
namespace HT
open PySem PyProof.Rows
section
variable {prog:Program} {w:World} {A:Around} {E:Value→Shared→Prop} {s:Shared}
theorem DP {t b:Addr} {vs ws:List Value} {Q:Value→Shared→Prop} (ht:IsTup s.heap t vs.toArray) (hb:IsTup s.heap b ws.toArray) (hv:vs≠[])
  (h1:ws=[]→Q (.ref t) s) (h2:ws≠[]→Q (.ref s.heap.objs.size) { s with heap:=s.heap.push { cls:=.type "tuple",data:=.seq (vs++ws).toArray } })
  (hsz:vs.length+ws.length≤sizeLine):wpAny (model prog w) A (binaryOp .Add (.ref t) (.ref b)) Q E s:=by
 obtain ⟨⟨cls,dd,data,sl⟩,ho,hc,n,hd⟩:=id ht
 obtain ⟨⟨NI,dd2,data2,sl2⟩,ho2,hc2,n2,hd2⟩:=id hb
 simp only at hc hd hc2 hd2
 subst hc hd hc2 hd2
 have e:vs.toArray++ws.toArray=(vs++ws).toArray:=by simp
 by_cases hw:ws=[]
 ·exact concat_meets ⟨_,ho,rfl⟩ ⟨_,ho2,rfl⟩ noFill_tuple_add seq_tuple_add PySem.F.slot_tuple_add PySem.F.entry_tuple_add (PySem.F.args_tuple_add_2 _ _)
   (tuple_addW1 t b vs.toArray ws.toArray n n2 dd dd2 sl sl2 (by simpa using hv) (by simp [hw])) ⟨ho,ho2,h1 hw⟩
 ·refine concat_meets ⟨_,ho,rfl⟩ ⟨_,ho2,rfl⟩ noFill_tuple_add seq_tuple_add PySem.F.slot_tuple_add PySem.F.entry_tuple_add (PySem.F.args_tuple_add_2 _ _)
   (tuple_addW2 t b vs.toArray ws.toArray n n2 dd dd2 sl sl2 (by simpa using hv) (by simpa using hw) (by rw [List.size_toArray,List.size_toArray];exact hsz)) ⟨ho,ho2,?_⟩
  rw [e]
  exact h2 hw
noncomputable def sIx (n d:Nat):Option Int→Nat
 | none=>d
 | some v=>if v<0 then (v+(n:Int)).toNat else min v.toNat n
theorem Ik (n d:Nat) (hd:d≤n) (o:Option Int):sIx n d o≤n:=by
 cases o with
 | none=>exact hd
 | some v=>
  show (if v<0 then (v+(n:Int)).toNat else min v.toNat n)≤n
  by_cases hv:v<0
  ·rw [if_pos hv];lia
  ·rw [if_neg hv];exact Nat.min_le_right _ _
theorem wu (v:Int) (n d:Nat):(if v<0 then max (v+(n:Int)) 0 else min v (n:Int))=((sIx n d (some v):Nat):Int):=by
 show (if v<0 then max (v+(n:Int)) 0 else min v (n:Int))=(((if v<0 then (v+(n:Int)).toNat else min v.toNat n):Nat):Int)
 by_cases hv:v<0
 ·simp only [if_pos hv];lia
 ·simp only [if_neg hv];lia
theorem uK (lo hi:Option Int) (n:Nat):Builtin.Slice.sliceAdjust lo hi 1 (n:Int)=(((sIx n 0 lo:Nat):Int),((sIx n n hi:Nat):Int)):=by
 have h1:¬ ((1:Int)<0):=by lia
 unfold Builtin.Slice.sliceAdjust
 simp only [h1,if_false]
 refine Prod.ext ?_ ?_
 ·cases lo with
  | none=>rfl
  | some v=>exact wu v n 0
 ·cases hi with
  | none=>rfl
  | some v=>exact wu v n n
theorem uL (i j:Nat):Builtin.Slice.slicePlaces (i:Int) (j:Int) 1=j-i:=by
 unfold Builtin.Slice.slicePlaces
 have h1:(1:Int)>0:=by lia
 simp only [h1,if_true,Int.ediv_one]
 split<;>lia
theorem gR {v:Value} {o:Option Int} {Q:Option Int→Shared→Prop} (p:IsPart v o) (h:Q o s):wpAny (model prog w) A (Builtin.Slice.slicePartIndex v) Q E s:=by
 cases p with
 | none=>exact slicePart_none h
 | int i t=>exact slicePart_int h
theorem eE {sl:Addr} {vl vu:Value} {lo hi:Option Int} {n:Nat} {Q:Int×Int×Nat→Shared→Prop} (hs:s.heap.IsSliceOf sl vl vu .none) (pl:IsPart vl lo) (pu:IsPart vu hi)
  (h:Q (((sIx n 0 lo:Nat):Int),1,sIx n n hi-sIx n 0 lo) s):wpAny (model prog w) A (Builtin.Slice.sliceApplied (.ref sl) (pure (n:Int))) Q E s:=by
 obtain ⟨os,hos,hcs,hds⟩:=id hs
 unfold Builtin.Slice.sliceApplied Builtin.Slice.sliceFields
 refine wpAny_bind (wpAny_bind (wpAny_field hos hds (x:=vl) rfl (wpAny_bind (wpAny_field hos hds (x:=vu) rfl (wpAny_bind (wpAny_field hos hds (x:=.none) rfl (wpAny_pure ?_)))))))
 refine wpAny_bind (slicePart_none ?_)
 show wpAny _ _ (if ((1:Int) == 0)=true then _ else _) _ _ s
 rw [if_neg (by decide)]
 refine wpAny_bind (gR pl (wpAny_bind (gR pu (wpAny_bind (wpAny_pure ?_)))))
 show wpAny _ _ (match Builtin.Slice.sliceAdjust lo hi 1 (n:Int) with | (lo,hi)=>pure (lo,(1:Int),Builtin.Slice.slicePlaces lo hi 1)) _ _ s
 rw [uK lo hi n]
 show wpAny _ _ (pure (((sIx n 0 lo:Nat):Int),(1:Int),Builtin.Slice.slicePlaces ((sIx n 0 lo:Nat):Int) ((sIx n n hi:Nat):Int) 1)) _ _ s
 rw [uL]
 exact wpAny_pure h
theorem z0 (xs:Array Value) (i k:Nat):((List.range k).filterMap fun (m:Nat)=>xs[((i:Int)+(m:Int)*1).toNat]?).toArray=((xs.toList.drop i).take k).toArray:=by
 have e:(fun (m:Nat)=>xs[((i:Int)+(m:Int)*1).toNat]?)=fun m=>xs[i+m]?:=by
  funext m
  have:((i:Int)+(m:Int)*1).toNat=i+m:=by lia
  rw [this]
 rw [e]
 have:=pick_run xs i k
 rw [List.filterMap_map] at this
 have e2:((fun x=>xs[x]?)∘fun x=>i+x)=fun m=>xs[i+m]?:=rfl
 rw [e2] at this
 rw [this]
theorem jd {t sl:Addr} {items:Array Value} {vl vu:Value} {lo hi:Option Int} {Q:Value→Shared→Prop} (ht:IsTup s.heap t items) (hs:s.heap.IsSliceOf sl vl vu .none) (pl:IsPart vl lo) (pu:IsPart vu hi)
  (hw:¬ (sIx items.size 0 lo=0∧sIx items.size items.size hi=items.size))
  (h:Q (.ref s.heap.objs.size) { s with heap:=s.heap.push { cls:=.type "tuple",data:=.seq ((items.toList.drop (sIx items.size 0 lo)).take (sIx items.size items.size hi-sIx items.size 0 lo)).toArray } })
  (hsz:items.size≤sizeLine):wpAny (model prog w) A (getItem (.ref t) (.ref sl)) Q E s:=by
 have wz:sizeOk (.seq ((items.toList.drop (sIx items.size 0 lo)).take (sIx items.size items.size hi-sIx items.size 0 lo)).toArray):=by
  show ((items.toList.drop (sIx items.size 0 lo)).take (sIx items.size items.size hi-sIx items.size 0 lo)).toArray.size≤sizeLine
  rw [List.size_toArray,List.length_take,List.length_drop,Array.length_toList]
  omega
 have hj:sIx items.size items.size hi≤items.size:=Ik _ _ (Nat.le_refl _) hi
 obtain ⟨os,hos,hcs,hds⟩:=id hs
 have hTs:s.TypeIs (.ref sl) "slice" := ⟨os,hos,hcs⟩
 unfold getItem
 try with_reducible refine wpAny_holding ?_
 first | refine wpAny_bind (wpAny_pure ?_) | skip
 refine wpAny_bind (wpAny_sequenceKey ht.typeIs (by decide) ?_)
 refine wpAny_bind (wpAny_callSpecial?_slot (name:=Str.ofString "__getitem__") ht.typeIs PyProof.Rows.slot_tuple_getitem
  (wpAny_call_entry PyProof.Rows.slot_tuple_getitem ht.typeIs entry_tuple_getitem ?_ (args_tuple_getitem _ _)))
 show wpAny _ _ (Builtin.Tuple.tupleItemsOf (.ref t) >>= _) _ _ s
 refine wpAny_bind (tupleItemsOf_ ht ?_)
 refine wpAny_bind (wpAny_typeOf hTs ?_)
 rw [if_pos (by decide)]
 refine wpAny_bind (eE hs pl pu ?_)
 have hno:¬ ((((sIx items.size 0 lo:Nat):Int) == 0&&(1:Int) == 1&&(sIx items.size items.size hi-sIx items.size 0 lo) == items.size)=true):=by
  intro q
  rw [Bool.and_eq_true,Bool.and_eq_true] at q
  have q1:((sIx items.size 0 lo:Nat):Int)=0:=eq_of_beq q.1.1
  have q2:sIx items.size items.size hi-sIx items.size 0 lo=items.size:=eq_of_beq q.2
  exact hw ⟨by omega,by omega⟩
 show wpAny _ _ (if (((sIx items.size 0 lo:Nat):Int) == 0&&(1:Int) == 1&&(sIx items.size items.size hi-sIx items.size 0 lo) == items.size)=true then _ else _) _ _ s
 rw [if_neg hno,z0]
 first
  | exact wpAny_bind (m:=Builtin.Tuple.tupleExact _) (wpAny_newObj_type (wpAny_pure ⟨_,rfl,wpAny_pure h⟩) wz)
  | exact wpAny_bind (m:=Builtin.Tuple.tupleExact _) (wpAny_newObj_type (wpAny_bind (wpAny_pure (wpAny_pure ⟨_,rfl,wpAny_pure h⟩))) wz)
  | exact wpAny_bind (wpAny_bind (m:=Builtin.Tuple.tupleExact _) (wpAny_newObj_type (wpAny_pure (wpAny_pure ⟨_,rfl,wpAny_pure h⟩)) wz))
  | exact wpAny_bind (wpAny_bind (m:=Builtin.Tuple.tupleExact _) (wpAny_newObj_type (wpAny_pure ⟨_,rfl,wpAny_pure h⟩) wz))
end
end HT
namespace L2
open PySem PySem.Spec PyProof.Rows
noncomputable abbrev TO:=St→Hp→(Option Int→Hp→Prop)→Prop
noncomputable def PO (X:Cx) (e:Option Expr) (t:TO):Prop:=
 ∀ (pins:List (Addr×Obj)) (s:Shared) (σ:St) (H:Hp) (Q:Option Int→Hp→Prop),Inv X pins σ H s→t σ H Q →
  wpAny (model X.prog X.w) X.A (evalPart e X.env) (fun u s'=>∃ o H',Inv X pins σ H' s'∧IsPart u o∧Q o H') X.xe s
noncomputable def p_:TO:=fun _ H Q=>Q none H
noncomputable def z4 (t:TE):TO:=fun σ H Q=>t σ H fun x H1=>∃ i,x=.int i∧Q (some i) H1
section
variable {X:Cx} {e:Expr} {te:TE} {lo hi:Option Expr} {tl th:TO} {pos p2:Pos}
theorem DQ:PO X none p_:=by
 intro pins s σ H Q I h
 rw [evalPart_none]
 exact wpAny_pure ⟨none,H,I,.none,h⟩
theorem qc (h:PE X e te):PO X (some e) (z4 te):=by
 intro pins s σ H Q I hw
 rw [evalPart_some]
 refine thn (h pins s σ H _ I hw) fun u s1 ⟨x,H1,I1,r1,q1⟩=>?_
 obtain ⟨i,rfl,q⟩:=q1
 obtain ⟨t,rfl⟩:=r1
 exact ⟨some i,H1,I1,.int i t,q⟩
noncomputable def SlR (X:Cx) (r:V→Option Int→Option Int→Hp→VK→Prop):Prop:=
 ∀ (pins:List (Addr×Obj)) (s:Shared) (σ:St) (H:Hp) (x:V) (v vl vu:Value) (lo hi:Option Int) (sl:Addr) (Q:VK),Inv X pins σ H s→RelV x v→s.heap.IsSliceOf sl vl vu .none→IsPart vl lo→IsPart vu hi→r x lo hi H Q →
  ∃ T id,typeLookup (.type T) "__getitem__" = pure (some (.builtin id))∧s.TypeIs v T∧wpAny (model X.prog X.w) X.A (getItem v (.ref sl)) (EP X pins σ Q) X.xe s
noncomputable def tSl (r:V→Option Int→Option Int→Hp→VK→Prop) (te:TE) (tl th:TO):TE:=fun σ H Q=>te σ H fun x H1=>tl σ H1 fun l H2=>th σ H2 fun u H3=>r x l u H3 Q
theorem lF {r:V→Option Int→Option Int→Hp→VK→Prop} (hr:SlR X r) (he:PE X e te) (hl:PO X lo tl) (hu:PO X hi th):PE X (.Subscript e (.Slice lo hi none p2) pos) (tSl r te tl th):=by
 intro pins s σ H Q I h
 refine Subscript_ (thn (he pins s σ H _ I h) fun v s1 ⟨x,H1,I1,r1,q1⟩=>?_)
 refine wpAny_Slice (thn (hl pins s1 σ H1 _ I1 q1) fun vl s2 ⟨l,H2,I2,pl,q2⟩=>thn (hu pins s2 σ H2 _ I2 q2) fun vu s3 ⟨u,H3,I3,pu,q3⟩=>?_)
 rw [evalPart_none]
 refine wpAny_pure ?_
 have I4:Inv X pins σ H3 { s3 with heap:=s3.heap.push { cls:=.type "slice",data:=.fields #[vl,vu,.none] } }:=I3.kept (t':=s3.toks) fun b ob q=>Heap.get?_push_of_some _ q
 obtain ⟨T,id,hT,ht,hg⟩:=hr pins { s3 with heap:=s3.heap.push { cls:=.type "slice",data:=.fields #[vl,vu,.none] } } σ H3 x v vl vu l u s3.heap.objs.size Q I4 r1 (Heap.IsSliceOf.new ..) pl pu q3
 show wpAny (model X.prog X.w) X.A (subscriptTail e (.Slice lo hi none p2) v (.ref s3.heap.objs.size)) (EP X pins σ Q) X.xe { s3 with heap:=s3.heap.push { cls:=.type "slice",data:=.fields #[vl,vu,.none] } }
 exact tail_any (ops:=[.ref s3.heap.objs.size,v]) ht hT hg (by with_unfolding_all rfl)
noncomputable def kD (xs:List V) (lo hi:Option Int):List V:=(xs.drop (HT.sIx xs.length 0 lo)).take (HT.sIx xs.length xs.length hi-HT.sIx xs.length 0 lo)
theorem j3 (xs:List V) (lo hi:Option Int):(kD xs lo hi).length≤xs.length:=by
 unfold kD
 rw [List.length_take,List.length_drop]
 lia
noncomputable def Li (K:PySem.W.Frag):V→Option Int→Option Int→Hp→VK→Prop:=fun x lo hi H Q=>∃ a xs,x=.ref a∧SqT K H a xs ∧
 ¬ (HT.sIx xs.length 0 lo=0∧HT.sIx xs.length xs.length hi=xs.length)∧∀ p,H p=none→Q (.ref p) (upd H p (.tup (kD xs lo hi)))
theorem z5:SlR X (Li X.K):=by
 intro pins s σ H x v vl vu lo hi sl Q I rx hs pl pu h
 obtain ⟨a,xs,rfl,hx,hw,q⟩:=h
 cases rx
 obtain ⟨its,r,ht,hz⟩:=I.tuple hx
 have hlen:its.toArray.size=xs.length:=by rw [List.size_toArray];exact r.length.symm
 refine ⟨"tuple",_,PyProof.Rows.slot_tuple_getitem.lookup,ht.typeIs,?_⟩
 refine HT.jd ht hs pl pu (by rw [hlen];exact hw) ?_ (by rw [hlen];exact hz)
 rw [hlen]
 refine ⟨.ref s.heap.objs.size,_,I.laid (t':=s.toks) (o:=.tup (kD xs lo hi)) (fun b ob q=>Heap.get?_push_of_some _ q) (Nat.le_refl _) ?_,rfl,q _ (I.hok.fresh (Nat.le_refl _))⟩
 exact ⟨Nat.le_trans (j3 xs lo hi) hz,_,(r.drop (HT.sIx xs.length 0 lo)).take (HT.sIx xs.length xs.length hi-HT.sIx xs.length 0 lo),IsTup.new _ _⟩
noncomputable def Gg (K:PySem.W.Frag):R2:=fun x y H Q=>∃ a b xs ys,x=.ref a∧y=.ref b∧SqT K H a xs∧SqT K H b ys∧xs≠[]∧xs.length+ys.length≤sizeLine ∧
 (ys=[]→Q (.ref a) H)∧(ys≠[]→∀ p,H p=none→Q (.ref p) (upd H p (.tup (xs++ys))))
theorem Vals.qd {xs:List V} {us:List Value} (r:Vals xs us):us=[]↔xs=[]:=by
 cases r with
 | nil=>simp
 | cons _ _=>simp
theorem DR:OpR X (binaryOp .Add) (Gg X.K):=by
 intro pins s σ H x y v u Q I rx ry h
 obtain ⟨a,b,xs,ys,rfl,rfl,ha,hb,hx,hz,q1,q2⟩:=h
 cases rx
 cases ry
 obtain ⟨its,r1,p1,_⟩:=I.tuple ha
 obtain ⟨its2,r2,p2,_⟩:=I.tuple hb
 refine HT.DP p1 p2 (fun z=>hx (r1.qd.mp z)) (fun z=>⟨.ref a,H,I,rfl,q1 (r2.qd.mp z)⟩) (fun z=>?_) (by rw [← r1.length,← r2.length];exact hz)
 refine ⟨.ref s.heap.objs.size,_,I.laid (t':=s.toks) (o:=.tup (xs++ys)) (fun b ob q=>Heap.get?_push_of_some _ q) (Nat.le_refl _) ?_,rfl,q2 (fun w=>z (r2.qd.mpr w)) _ (I.hok.fresh (Nat.le_refl _))⟩
 exact ⟨by rw [List.length_append];exact hz,_,r1.append r2,IsTup.new _ _⟩
end
noncomputable def ixN (n:Nat) (i:Int):Option Nat:=if 0≤i then (if i<n then some i.toNat else none) else if -(n:Int)≤i then some (i+n).toNat else none
noncomputable def atI {α:Type} (xs:List α) (i:Int):Option α:=(ixN xs.length i).bind fun j=>xs[j]?
theorem wA {n:Nat} {i:Int} {j:Nat} (h:ixN n i=some j):seqIndex? i n=some j∧j<n∧-(n:Int)≤i∧i<n:=by
 unfold ixN at h
 by_cases h0:0≤i
 ·rw [if_pos h0] at h
  by_cases h1:i<n
  ·rw [if_pos h1] at h
   have e:i.toNat=j:=Option.some.inj h
   exact ⟨by rw [seqIndex_of h0 h1,e],by lia,by lia,h1⟩
  ·rw [if_neg h1] at h;cases h
 ·rw [if_neg h0] at h
  by_cases h1:-(n:Int)≤i
  ·rw [if_pos h1] at h
   have e:(i+n).toNat=j:=Option.some.inj h
   exact ⟨by rw [seqIndex_neg (by lia) h1,e],by lia,h1,by lia⟩
  ·rw [if_neg h1] at h;cases h
theorem wB {α:Type} {xs:List α} {i:Int} {v:α} (h:atI xs i=some v):∃ j,seqIndex? i xs.length=some j∧xs[j]?=some v∧j<xs.length∧-(xs.length:Int)≤i∧i<xs.length:=by
 unfold atI at h
 cases e:ixN xs.length i with
 | none=>rw [e] at h;cases h
 | some j=>
  rw [e] at h
  obtain ⟨h1,h2,h3,h4⟩:=wA e
  exact ⟨j,h1,h,h2,h3,h4⟩
noncomputable def qe (b:Expr):Prop:=∀ o i,subscripted b false o i=operate [o,i] (getItem o i)
noncomputable def IxR (X:Cx) (r:R2):Prop:=
 ∀ (value slice:Expr) (pins:List (Addr×Obj)) (s:Shared) (σ:St) (H:Hp) (x y:V) (v u:Value) (Q:VK),Inv X pins σ H s→RelV x v→RelV y u→r x y H Q →
  subscripted slice false v u=operate [v,u] (getItem v u)→wpAny (model X.prog X.w) X.A (subscriptTail value slice v u) (EP X pins σ Q) X.xe s
noncomputable def MtR (X:Cx) (id:String) (r:V→List V→Hp→VK→Prop):Prop:=
 ∀ (pins:List (Addr×Obj)) (s:Shared) (σ:St) (H:Hp) (x:V) (xs:List V) (v:Value) (us:List Value) (Q:VK),Inv X pins σ H s→RelV x v→Vals xs us→r x xs H Q →
  wpAny (model X.prog X.w) X.A (call (.builtin id) (v::us)) (EP X pins σ Q) X.xe s
section
variable {X:Cx} {a b:Expr} {ta tb:TE} {pos:Pos}
theorem IxR.or {r r':R2} (h:IxR X r) (h':IxR X r'):IxR X (fun x y H Q=>r x y H Q∨r' x y H Q):=by
 intro value slice pins s σ H x y v u Q I rx ry q hs
 rcases q with q | q
 ·exact h value slice pins s σ H x y v u Q I rx ry q hs
 ·exact h' value slice pins s σ H x y v u Q I rx ry q hs
theorem Gh {r:R2} (hr:IxR X r) (ha:PE X a ta) (hb:PE X b tb) (hs:qe b):PE X (.Subscript a b pos) (tOp r ta tb):=by
 intro pins s σ H Q I h
 exact Subscript_ (HY ha hb I h fun v u s2 x y H2 I2 rx ry q=>hr a b pins s2 σ H2 x y v u Q I2 rx ry q (hs _ _))
noncomputable def Il (K:PySem.W.Frag):R2:=fun x y H Q=>∃ p xs i v,x=.ref p∧y=.int i∧SqL K H p xs∧atI xs i=some v∧Q v H
noncomputable def Lj (K:PySem.W.Frag):R2:=fun x y H Q=>∃ p xs i v,x=.ref p∧y=.int i∧SqT K H p xs∧atI xs i=some v∧Q v H
theorem wC:IxR X (Il X.K):=by
 intro value slice pins s σ H x y v u Q I rx ry h hs
 obtain ⟨p,xs,i,z,rfl,rfl,hq,he,q⟩:=h
 cases rx
 obtain ⟨t,rfl⟩:=ry
 obtain ⟨its,r,pl,hz⟩:=I.list hq
 obtain ⟨j,h1,h2,h3,h4,h5⟩:=wB he
 obtain ⟨w,ew,rw'⟩:=r.get h2
 have hl:=r.length
 have hn:=lC
 have fin:EP X pins σ Q w s:=⟨z,H,I,rw',q⟩
 by_cases h0:0≤i
 ·have hj:i.toNat=j:=by
   rw [seqIndex_of h0 h5] at h1
   exact Option.some.inj h1
  exact item_listR pl.isList h0 (by lia) (by rw [hj];simpa using ew) fin hs
 ·have hj:(i+(its.toArray.size:Int)).toNat=j:=by
   rw [seqIndex_neg (by lia) h4] at h1
   rw [List.size_toArray,← hl]
   exact Option.some.inj h1
  exact subscriptTail_builtinR (x:=w) pl.isList.typeIs slot_list_getitem.lookup
   (wpAny_getItem_list_neg (Q:=fun r s'=>r=w∧EP X pins σ Q r s') pl.isList (by lia) (by rw [List.size_toArray]<;>lia) (by lia) (by rw [hj];simpa using ew) ⟨rfl,fin⟩) hs
theorem Im:IxR X (Lj X.K):=by
 intro value slice pins s σ H x y v u Q I rx ry h hs
 obtain ⟨p,xs,i,z,rfl,rfl,hq,he,q⟩:=h
 cases rx
 obtain ⟨t,rfl⟩:=ry
 obtain ⟨its,r,pl,hz⟩:=I.tuple hq
 obtain ⟨j,h1,h2,h3,h4,h5⟩:=wB he
 obtain ⟨w,ew,rw'⟩:=r.get h2
 have hl:=r.length
 have hn:=lC
 have fin:EP X pins σ Q w s:=⟨z,H,I,rw',q⟩
 exact subscriptTail_builtinR (x:=w) pl.typeIs slot_tuple_getitem.lookup
  (getItem_tuple (j:=j) (Q:=fun r s'=>r=w∧EP X pins σ Q r s') pl (by lia) (by lia) (by rw [List.size_toArray,← hl];exact h1) (by simpa using ew) ⟨rfl,fin⟩) hs
theorem uM (its:List Value) (n j:Nat) (u:Value):Obj.mapSeq (·.setIfInBounds j u) { cls:=.type "list",data:=.seq its.toArray n }={ cls:=.type "list",data:=.seq (its.set j u).toArray n }:=by
 simp [Obj.mapSeq]
theorem Inv.lst {pins:List (Addr×Obj)} {σ:St} {H:Hp} {s:Shared} {p:Addr} {xs:List V} (I:Inv X pins σ H s) (h:H p=some (.lst xs)) :
  ∃ (its:List Value) (n:Nat),Vals xs its∧s.heap.get? p=some { cls:=.type "list",data:=.seq its.toArray n }∧xs.length≤sizeLine:=by
 obtain ⟨z,its,n,r,e⟩:=I.hok p _ h
 exact ⟨its,n,r,e,z⟩
theorem Inv.Io {pins:List (Addr×Obj)} {σ:St} {H:Hp} {s:Shared} {p:Addr} {xs ys:List V} {its its':List Value} {n n':Nat} {f:Obj→Obj} (I:Inv X pins σ H s) (h:H p=some (.lst xs))
  (ho:s.heap.get? p=some { cls:=.type "list",data:=.seq its.toArray n }) (hf:f { cls:=.type "list",data:=.seq its.toArray n }={ cls:=.type "list",data:=.seq its'.toArray n' }) (r:Vals ys its') (hz:ys.length≤sizeLine) (t:Nat) :
  Inv X pins σ (upd H p (.lst ys)) { s with heap:=s.heap.update p f,toks:=t }:=by
 have e:(s.heap.update p f).get? p=some { cls:=.type "list",data:=.seq its'.toArray n' }:=by
  rw [Heap.get?_update_self f ho (by rw [hf]<;>rfl),hf]
 refine I.write (x:=p) (e:=p) (by rw [h];trivial) (.inl rfl) (fun b u hb q=>(Heap.get?_update_other _ _ (Ne.symm hb)).trans q) ⟨_,e⟩ ?_
 exact ⟨hz,its',n',r,e⟩
noncomputable def rB:V→V→V→Hp→(Hp→Prop)→Prop:=fun o i v H Q=>∃ p xs k j,o=.ref p∧i=.int k∧H p=some (.lst xs)∧ixN xs.length k=some j∧Q (upd H p (.lst (xs.set j v)))
theorem set_list:La X rB:=by
 intro pins s σ H o i v ov iv u Q I ro ri rv h
 obtain ⟨p,xs,k,j,rfl,rfl,hp,hj,q⟩:=h
 cases ro
 obtain ⟨t,rfl⟩:=ri
 obtain ⟨its,n,r,ho,hz⟩:=I.lst hp
 obtain ⟨h1,h2,h3,h4⟩:=wA hj
 have hl:=r.length
 have hn:=lC
 have I':Inv X pins σ (upd H p (.lst (xs.set j v))) { s with heap:=s.heap.update p (Obj.mapSeq (·.setIfInBounds j u)) }:=
  I.Io hp ho (uM its n j u) (r.set rv j) (by rw [List.length_set];exact hz) s.toks
 by_cases h0:0≤k
 ·have hk:k.toNat=j:=by
   rw [seqIndex_of h0 h4] at h1
   exact Option.some.inj h1
  exact PySem.W.ki_setAt ho h0 (by lia) (by rw [List.size_toArray,← hl];exact h4) (by rw [hk];exact ⟨_,I',q⟩)
 ·have hk:(k+(its.toArray.size:Int)).toNat=j:=by
   rw [seqIndex_neg (by lia) h3] at h1
   rw [List.size_toArray,← hl]
   exact Option.some.inj h1
  exact PySem.W.ki_setBack ho (by lia) (by rw [List.size_toArray,← hl];exact h3) (by lia) (by rw [hk];exact ⟨_,I',q⟩)
theorem qf (lo hi:Option Int) (n:Nat):(sliceBounds lo hi none n).1=((HT.sIx n 0 lo:Nat):Int)∧(sliceBounds lo hi none n).2.1=((HT.sIx n n hi:Nat):Int)∧(sliceBounds lo hi none n).2.2=1:=by
 refine ⟨?_,?_,rfl⟩
 ·cases lo with
  | none=>simp [sliceBounds,HT.sIx]
  | some i=>
   simp only [sliceBounds,HT.sIx,Option.getD_none,show (1:Int)>0 by decide,if_true]
   by_cases h:i<0
   ·simp only [h,if_true]<;>lia
   ·simp only [h,if_false]<;>lia
 ·cases hi with
  | none=>simp [sliceBounds,HT.sIx]
  | some i=>
   simp only [sliceBounds,HT.sIx,Option.getD_none,show (1:Int)>0 by decide,if_true]
   by_cases h:i<0
   ·simp only [h,if_true]<;>lia
   ·simp only [h,if_false]<;>lia
theorem oF (its:List Value) (lo hi:Option Int):slicePick its.toArray lo hi none=((its.drop (HT.sIx its.length 0 lo)).take (HT.sIx its.length its.length hi-HT.sIx its.length 0 lo)).toArray:=by
 obtain ⟨h1,h2,h3⟩:=qf lo hi its.toArray.size
 unfold slicePick
 rw [h1,h2,h3]
 simp only [sliceRange_one,pick_run,List.size_toArray]<;>rfl
noncomputable def Lk (K:PySem.W.Frag):V→Option Int→Option Int→Hp→VK→Prop:=fun x lo hi H Q=>∃ a xs,x=.ref a∧SqL K H a xs∧∀ p,H p=none→Q (.ref p) (upd H p (.lst (kD xs lo hi)))
theorem DU:SlR X (Lk X.K):=by
 intro pins s σ H x v vl vu lo hi sl Q I rx hs pl pu h
 obtain ⟨a,xs,rfl,hx,q⟩:=h
 cases rx
 obtain ⟨its,r,ht,hz⟩:=I.list hx
 have hlen:=r.length
 refine ⟨"list",_,slot_list_getitem.lookup,ht.isList.typeIs,?_⟩
 refine wpAny_getItem_list_slice ht.isList hs pl pu .none (by simp) ?_ (by rw [List.size_toArray]<;>lia)
 rw [oF,← hlen]
 refine ⟨.ref s.heap.objs.size,_,I.laid (t':=s.toks) (o:=.lst (kD xs lo hi)) (fun b ob q=>Heap.get?_push_of_some _ q) (Nat.le_refl _) ?_,rfl,q _ (I.hok.fresh (Nat.le_refl _))⟩
 exact ⟨Nat.le_trans (j3 xs lo hi) hz,_,0,(r.drop (HT.sIx xs.length 0 lo)).take (HT.sIx xs.length xs.length hi-HT.sIx xs.length 0 lo),Heap.get?_push_size _ rfl⟩
theorem qg:cY X (.builtin "len") (fun xs H Q=>∃ p ys,xs=[.ref p]∧(SqL X.K H p ys∨SqT X.K H p ys)∧Q (.int ys.length) H):=by
 intro pins s σ H xs us Q I r h
 obtain ⟨p,ys,rfl,hq,q⟩:=h
 obtain ⟨u,rfl,rx⟩:=vals1 r
 cases rx
 have hn:=lC
 rcases hq with hq | hq
 ·obtain ⟨its,r',pl,hz⟩:=I.list hq
  have hlen:=r'.length
  exact Calls.call_len_list pl.isList (by simp only [List.size_toArray]<;>lia) ⟨.int ys.length,H,I.tok _,⟨s.toks+1,by rw [List.size_toArray,hlen]⟩,q⟩
 ·obtain ⟨its,r',pl,hz⟩:=I.tuple hq
  have hlen:=r'.length
  exact len_tuple pl (by simp only [List.size_toArray]<;>lia) ⟨.int ys.length,H,I.tok _,⟨s.toks+1,by rw [List.size_toArray,hlen]⟩,q⟩
theorem qh:cY X (.type "list") (fun xs H Q=>∃ p ys,xs=[.ref p]∧(SqL X.K H p ys∨SqT X.K H p ys)∧∀ l,H l=none→Q (.ref l) (upd H l (.lst ys))):=by
 intro pins s σ H xs us Q I r h
 obtain ⟨p,ys,rfl,hq,q⟩:=h
 obtain ⟨u,rfl,rx⟩:=vals1 r
 cases rx
 have fin:∀ (its:List Value),Vals ys its→ys.length≤sizeLine→∀ (h':Heap) (c':Nat),(∀ b o',s.heap.get? b=some o'→h'.get? b=some o') →
   h'.get? s.heap.objs.size=some { cls:=.type "list",dict:=none,data:=.seq its.toArray c',slots:=#[] }→EP X pins σ Q (.ref s.heap.objs.size) { s with heap:=h' }:=fun its r' hz h' c' kp e=>
  ⟨.ref s.heap.objs.size,_,I.laid (t':=s.toks) kp (Nat.le_refl _) (show bx X.prog X.w _ h' _ (.lst ys) from ⟨hz,its,c',r',e⟩),rfl,q _ (I.hok.fresh (Nat.le_refl _))⟩
 rcases hq with hq | hq
 ·obtain ⟨its,r',pl,hz⟩:=I.list hq
  have hlen:=r'.length
  obtain ⟨o,ho,hc,n,hd⟩:=pl.isList
  exact call_list_seq p (.inl rfl) ho hc hd (fun h' c' kp e=>fin its r' hz h' c' kp e) (by simp only [List.size_toArray]<;>lia)
 ·obtain ⟨its,r',pl,hz⟩:=I.tuple hq
  have hlen:=r'.length
  obtain ⟨o,ho,hc,n,hd⟩:=pl
  exact call_list_seq p (.inr rfl) ho hc hd (fun h' c' kp e=>fin its r' hz h' c' kp e) (by simp only [List.size_toArray]<;>lia)
theorem oG:cY X (.type "tuple") (fun xs H Q=>∃ p ys,xs=[.ref p]∧((SqL X.K H p ys∧∀ l,H l=none→Q (.ref l) (upd H l (.tup ys)))∨(SqT X.K H p ys∧Q (.ref p) H))):=by
 intro pins s σ H xs us Q I r h
 obtain ⟨p,ys,rfl,h⟩:=h
 obtain ⟨u,rfl,rx⟩:=vals1 r
 cases rx
 rcases h with ⟨hq,q⟩ | ⟨hq,q⟩
 ·obtain ⟨its,r',pl,hz⟩:=I.list hq
  have hlen:=r'.length
  refine call_tuple_list pl.isList (fun h' kp=>?_) (by simp only [List.size_toArray]<;>lia)
  have I1:Inv X pins σ H { s with heap:=h' }:=I.kept (t':=s.toks) kp
  have I2:Inv X pins σ (upd H h'.objs.size (.tup ys)) { s with heap:=h'.push { cls:=.type "tuple",data:=.seq its.toArray } }:=
   I1.laid (t':=s.toks) (fun b o e=>Heap.get?_push_of_some _ e) (Nat.le_refl _) (show bx X.prog X.w _ _ _ (.tup ys) from ⟨hz,its,r',IsTup.new _ _⟩)
  exact ⟨.ref h'.objs.size,_,I2,rfl,q _ (I1.hok.fresh (Nat.le_refl _))⟩
 ·obtain ⟨its,r',pl,hz⟩:=I.tuple hq
  exact call_tuple_same pl ⟨.ref p,H,I,rfl,q⟩
noncomputable def tyV (K:PySem.W.Frag) (T:String) (x:V) (H:Hp):Prop:=match x with
 | .str _=>T = "str"
 | .int _=>T = "int"
 | .ref p=>(T = "list" ∧ ∃ xs,SqL K H p xs)∨(T = "tuple" ∧ ∃ o,K.lookup p=some o∧o.cls=.type "tuple" ∧ o.dict=none) ∨
   (T = "dict" ∧ ((∃ kvs,H p=some (.dK kvs))∨∃ kvs ts,H p=some (.dT kvs ts)))∨(T = "set" ∧ ∃ S n,H p=some (.set S n))
 | _=>False
theorem Ip {pins:List (Addr×Obj)} {σ:St} {H:Hp} {s:Shared} {T:String} {x:V} {v:Value} (I:Inv X pins σ H s) (r:RelV x v) (ty:tyV X.K T x H) :
  s.TypeIs v T∧∀ a,v=.ref a→∃ ob,s.heap.get? a=some ob∧ob.dict=none:=by
 cases x with
 | str z=>
  obtain ⟨t,rfl⟩:=r
  cases (show T = "str" from ty)
  exact ⟨typeIs_str s z t,fun _ e=>nomatch e⟩
 | int i=>
  obtain ⟨t,rfl⟩:=r
  cases (show T = "int" from ty)
  exact ⟨typeIs_int s i t,fun _ e=>nomatch e⟩
 | ref p=>
  cases r
  rcases ty with ⟨rfl,xs,hq⟩ | ⟨rfl,o,hk,hc,hd⟩ | ⟨rfl,hk⟩ | ⟨rfl,S,n,hk⟩
  ·obtain ⟨its,_,pl,_⟩:=I.list hq
   refine ⟨pl.isList.typeIs,fun a e=>?_⟩
   cases e
   obtain ⟨o,n,e,c,hd,_⟩:=pl
   exact ⟨o,e,hd⟩
  ·refine ⟨⟨o,I.kIn p o hk,hc⟩,fun a e=>?_⟩
   cases e
   exact ⟨o,I.kIn _ o hk,hd⟩
  ·have z:∃ o,s.heap.get? p=some o∧o.ExactDict:=by
    rcases hk with ⟨kvs,hk⟩ | ⟨kvs,ts,hk⟩
    ·obtain ⟨_,_,_,_,o,_,_,e,ex,_⟩:=I.hok p _ hk
     exact ⟨o,e,ex⟩
    ·obtain ⟨_,_,_,_,o,_,_,e,ex,_⟩:=I.hok p _ hk
     exact ⟨o,e,ex⟩
   obtain ⟨o,e,ex⟩:=z
   refine ⟨⟨o,e,ex.1⟩,fun a e2=>?_⟩
   cases e2
   exact ⟨o,e,ex.2.1⟩
  ·obtain ⟨o,_,_,_,e,ex,_⟩:=I.hok p _ hk
   refine ⟨⟨o,e,ex.1⟩,fun a e2=>?_⟩
   cases e2
   exact ⟨o,e,ex.2.1⟩
 | _=>exact False.elim ty
noncomputable def tBM (K:PySem.W.Frag) (T:String) (r:V→List V→Hp→VK→Prop) (to:TE) (t:TA):TE:=fun σ H Q=>to σ H fun x H1=>tyV K T x H1∧t σ H1 fun xs H2=>r x xs H2 Q
variable {o e:Expr} {es:List Expr} {to:TE} {t:TA} {name:Str} {apos cpos:Pos} {T id:String} {r:V→List V→Hp→VK→Prop}
theorem wD (pa:PlainAttrs T) (slot:Slot T name id) (hty:typeOf (.builtin id)=pure (.type "method_descriptor")) (hm:MtR X id r) (ho:PE X o to) (ha:PA X (e::es) t)
  (hbase:attributeBase o name X.env (eval o X.env)=eval o X.env:=by rfl)
  (hfew:((backTo cpos (starEach (e::es) X.env)).all (fun x=>!x.1)&&(backToKw cpos (keywordEach [] X.env)).all (fun x=>x.1.isSome)
   && decide ((e::es).length+([]:List Keyword).length+(if ([]:List Keyword).isEmpty then 0 else 1)<30))=true:=by rfl)
  (hline:(apos.endLine == cpos.line)=true:=by rfl) (hs:starEach (e::es) X.env=(false,eval e X.env)::starEach es X.env:=by rfl) (hplain:(backTo cpos (starEach es X.env)).any (·.1)=false:=by rfl) :
  PE X (.Call (.Attribute o name apos) (e::es) [] cpos) (tBM X.K T r to t):=by
 intro pins s σ H Q I h
 refine wpAny_Call_method_late hbase hfew hline rfl (thn (ho pins s σ H _ I h) fun v s1 ⟨x,H1,I1,r1,ty,q1⟩=>?_)
 obtain ⟨h1,h2⟩:=Ip I1 r1 ty
 refine ⟨T,id,pa,slot,hty,h1,h2,?_⟩
 have hA:=ha cpos pins s1 σ H1 _ I1 q1
 rw [hs] at hA ⊢
 refine Calls.callWith_builtin (by show (false||(backTo cpos (starEach es X.env)).any (·.1))=false;rw [hplain]<;>rfl) (Calls.evalArgs_plain ?_)
 exact thn hA fun us s2 ⟨vs,H2,I2,r2,q2⟩=>hm pins s2 σ H2 x vs v us Q I2 r1 r2 q2
end
noncomputable def MtM (X:Cx) (id:String) (r:V→List V→Hp→VK→Prop):Prop:=
 ∀ (pins:List (Addr×Obj)) (s:Shared) (σ:St) (H:Hp) (x:V) (xs:List V) (v:Value) (us:List Value) (Q:VK),Inv X pins σ H s→RelV x v→Vals xs us→r x xs H Q →
  wpAny (model X.prog X.w) X.A (call (.builtin id) (v::us)) (EP X pins σ Q) X.xe s
theorem Vals.one:∀ {x:V} {us:List Value},Vals [x] us→∃ u,us=[u]∧RelV x u
 | _,_,.cons r .nil=>⟨_,rfl,r⟩
theorem Vals.eraseIdx:∀ {xs:List V} {us:List Value} (i:Nat),Vals xs us→Vals (xs.eraseIdx i) (us.eraseIdx i)
 | _,_,_,.nil=>.nil
 | _,_,0,.cons _ t=>t
 | _,_,i+1,.cons r t=>.cons r (Vals.eraseIdx i t)
theorem Vals.reverse {xs:List V} {us:List Value} (h:Vals xs us):Vals xs.reverse us.reverse:=by
 induction h with
 | nil=>exact .nil
 | cons r t ih=>rw [List.reverse_cons,List.reverse_cons];exact Vals.append ih (.cons r .nil)
theorem Vals.rep {xs:List V} {us:List Value} (h:Vals xs us):∀ k:Nat,Vals (List.replicate k xs).flatten (List.replicate k us).flatten
 | 0=>.nil
 | k+1=>by
  rw [List.replicate_succ,List.replicate_succ,List.flatten_cons,List.flatten_cons]
  exact Vals.append h (Vals.rep h k)
theorem o6 {α:Type}:∀ (l:List α) (i:Nat),(l.eraseIdx i).length≤l.length
 | [],_=>Nat.le_refl _
 | _::_,0=>Nat.le_succ _
 | _::r,i+1=>Nat.succ_le_succ (o6 r i)
theorem foldl_rep (its:List Value):∀ (k:Nat) (acc:List Value),
  List.foldl (fun x1 x2=>x1++x2) acc.toArray (List.replicate k its.toArray)=(acc++(List.replicate k its).flatten).toArray
 | 0,acc=>by simp
 | k+1,acc=>by
  have e:acc.toArray++its.toArray=(acc++its).toArray:=by simp
  have e2:(acc++its)++(List.replicate k its).flatten=acc++(List.replicate (k+1) its).flatten:=by
   rw [List.replicate_succ,List.flatten_cons,List.append_assoc]
  rw [← e2,← foldl_rep its k (acc++its),← e,List.replicate_succ,List.foldl_cons]
section
variable {X:Cx} {pins:List (Addr×Obj)} {σ:St} {H:Hp} {s:Shared} {l b:Addr} {xs ys zs:List V}
theorem Inv.Iq {its its':List Value} {n:Nat} {f:Array Value→Array Value} {t':Nat} (I:Inv X pins σ H s) (hH:H l=some (.lst xs))
  (e:s.heap.get? l=some { cls:=.type "list",data:=.seq its.toArray n }) (hf:f its.toArray=its'.toArray) (hv:Vals ys its') (hz:ys.length≤sizeLine) :
  Inv X pins σ (upd H l (.lst ys)) { s with heap:=s.heap.update l (Obj.mapSeq f),toks:=t' }:=by
 have q:=PySem.IsL.update e f
 rw [hf] at q
 refine I.write (x:=l) (e:=l) (by rw [hH];exact trivial) (.inl rfl) (fun b' u hb hu=>(Heap.get?_update_other s.heap (Obj.mapSeq f) (Ne.symm hb)).trans hu) ⟨_,q⟩ ?_
 exact ⟨hz,its',_,hv,q⟩
theorem Inv.Ir {its:List Value} {t':Nat} (I:Inv X pins σ H s) (hv:Vals ys its) (hz:ys.length≤sizeLine) :
  Inv X pins σ (upd H s.heap.objs.size (.lst ys)) { s with heap:=s.heap.push { cls:=.type "list",data:=.seq its.toArray },toks:=t' }:=
 I.laid (fun _ _ q=>Heap.get?_push_of_some _ q) (Nat.le_refl _) ⟨hz,its,0,hv,Heap.get?_push_size _ rfl⟩
theorem Inv.fresh (I:Inv X pins σ H s):H s.heap.objs.size=none:=I.hok.fresh (Nat.le_refl _)
theorem Inv.Iu (I:Inv X pins σ H s) (hH:H l=some (.lst xs)):xs.length≤sizeLine∧∃ (its:List Value) (n:Nat),Vals xs its∧xs.length=its.length∧s.heap.get? l=some { cls:=.type "list",data:=.seq its.toArray n }:=by
 obtain ⟨z,its,n,r,e⟩:=I.hok l _ hH
 exact ⟨z,its,n,r,r.length,e⟩
theorem rC {n:Nat} (h:n≤sizeLine):Builtin.List.listTooLong n=false:=by
 unfold Builtin.List.listTooLong
 exact decide_eq_false (by lia)
end
section
variable {X:Cx}
noncomputable def qi:V→List V→Hp→VK→Prop:=fun x vs H Q=>∃ l xs y,x=.ref l∧vs=[y]∧H l=some (.lst xs)∧xs.length<sizeLine∧Q .non (upd H l (.lst (xs++[y])))
theorem jE:MtM X "list.append" qi:=by
 intro pins s σ H x vs v us Q I rx rv h
 obtain ⟨l,xs,y,rfl,rfl,hH,hz,q⟩:=h
 cases rx
 obtain ⟨u,rfl,ru⟩:=rv.one
 obtain ⟨z,its,n,r,hl,e⟩:=I.Iu hH
 refine call_meets F.slot_list_append ⟨_,e,rfl⟩ F.entry_list_append (F.args_list_append_2 _ _) (PySem.list_append l its.toArray n u (by rw [List.size_toArray];lia)) ⟨e,?_⟩
 refine ⟨.non,_,I.Iq (its':=its++[u]) hH e (by simp) (r.append (.cons ru .nil)) ?_,rfl,q⟩
 rw [List.length_append,List.length_singleton]
 lia
noncomputable def z6:V→List V→Hp→VK→Prop:=fun x vs H Q=>∃ l xs i k y,x=.ref l∧vs=[.int i]∧H l=some (.lst xs)∧-(2 ^ 63)≤i∧i<2 ^ 63∧seqIndex? i xs.length=some k∧xs[k]?=some y∧Q y (upd H l (.lst (xs.eraseIdx k)))
theorem z7:MtM X "list.pop" z6:=by
 intro pins s σ H x vs v us Q I rx rv h
 obtain ⟨l,xs,i,k,y,rfl,rfl,hH,h1,h2,hk,hy,q⟩:=h
 cases rx
 obtain ⟨u,rfl,ru⟩:=rv.one
 obtain ⟨t,rfl⟩:=ru
 obtain ⟨z,its,n,r,hl,e⟩:=I.Iu hH
 obtain ⟨w,hw,rw'⟩:=r.get hy
 refine call_meets F.slot_list_pop ⟨_,e,rfl⟩ F.entry_list_pop (F.args_list_pop_2 _ _)
  (MeetsSeq.list_pop_at l its.toArray n i t k w (fitsIndex_both h1 h2) (by rw [List.size_toArray,← hl];exact hk) (by rw [← Array.getElem?_toList];exact hw) (by rw [List.size_toArray];lia)) ⟨e,?_⟩
 refine ⟨y,_,I.Iq (its':=its.eraseIdx k) hH e ?_ (r.eraseIdx k) ?_,rw',q⟩
 ·show its.toArray.eraseIdxIfInBounds k=(its.eraseIdx k).toArray
  rw [List.eraseIdxIfInBounds_toArray]
 ·have:=o6 xs k
  lia
theorem len_rep {α:Type} (xs:List α) (k:Nat):(List.replicate k xs).flatten.length=k*xs.length:=by
 induction k with
 | zero=>simp
 | succ k ih=>rw [List.replicate_succ,List.flatten_cons,List.length_append,ih,Nat.succ_mul,Nat.add_comm]
end
end L2
namespace Att
open PySem PySem.W PySem.Calls PyProof.Rows
theorem kE {P:Params} {h:Heap}:∀ (ns:List Int) (vs:List Value),WellAll P h vs (ns.map WData.int)→IntsAre vs ns:=by
 intro ns
 induction ns with
 | nil=>
  intro vs w
  rw [List.map_nil] at w
  cases w
  exact .nil
 | cons n ns ih=>
  intro vs w
  rw [List.map_cons] at w
  cases w with
  | cons a b=>
   cases a
   exact .cons _ _ (ih _ b)
theorem yI {l:OpenLaw} {n:Nat} (hn:l.most=some n) {P:Params} {h:Heap} {args:List WData} {vals:List Value}
  (hpre:l.row.toRowW.claim.pre args=true) (hwl:WellAll P h vals args) :
  ∃ a vs ns,vals=[Value.ref a]∧args=[WData.list (ns.map WData.int)]∧h.get? a=some { cls:=.type "list",data:=.seq vs.toArray }∧IntsAre vs ns∧ns.length≤n:=by
 have hsh:WShape.hasAll [] args [.list .int]=true:=(pre_splitW hpre).1
 have hc:l.pre.holds [] { args:=args }=true:=(pre_splitW hpre).2
 obtain ⟨d,r,rfl,h1,h2⟩:=hasAllW_cons hsh
 obtain rfl:=hasAllW_nil h2
 obtain ⟨xs,rfl,h3⟩:=hasW_list h1
 obtain ⟨ns,rfl⟩:=items_int h3
 have hlen:ns.length≤n:=by
  unfold OpenLaw.pre at hc
  have h4:(WTm.not (.lt (.lit (.int (n:Int))) (.len (.arg 0)))).holds [] { args:=[.list (ns.map .int)] }=true:=by
   have h4:=(holds_andW hc).1
   rw [hn] at h4
   exact h4
  have h5:=condW_of h4 (w_not (w_lt w_lit (w_len_list (w_arg rfl))))
  rw [List.length_map] at h5
  refine Nat.le_of_not_lt fun q=>?_
  have q':(n:Int)<((ns.length:Nat):Int):=by omega
  first
   | (rw [decide_eq_true q'] at h5;exact absurd h5 (by decide))
   | (simp at h5;omega)
 cases hwl with
 | cons w1 w2=>
  cases w2
  cases w1 with
  | list ho hall=>exact ⟨_,_,ns,rfl,rfl,ho,kE ns _ hall,hlen⟩
theorem yJ (l:OpenLaw) (args:List WData):l.row.toRowW.claim.post args (.bool true) args=true:=
 postW_of (r:=l.row.toRowW) (X:=(true == true))
  (show WShape.has [] (.bool true) .bool=true by first | rfl | decide | simp [WShape.has,WShape.arms,WShape.armsAll])
  (show (WTm.eq .res (.lit (.bool true))).value [] { args:=args,res:=some (.bool true),after:=args }=some (.bool (true == true)) from w_eq_bool (w_res rfl) w_lit) rfl
theorem rD {l:OpenLaw} {n:Nat} {q:Program} {loose:List Str} {XP:(Str→Option Value)→Heap→Prop} {YP:World→Heap→Prop} {d:DefRec}
  (hn:l.most=some n) (hdf:d.params.defaults=[])
  (call:∀ (w:World) (s₀ s₁:Shared) (mg mb:Str→Option Value) (fa:Addr) (o:Obj) (pm cd doc:Value) (a:Addr) (vs:List Value) (ns:List Int),
   Ground q loose [] XP w s₀ mg mb s₁.heap→YP w s₁.heap →
   s₁.heap.get? fa=some o→o.data=.func (docDef d.name d.params d.body d.scope pm cd doc)→s₁.heap.CodeRec cd d.name→mg d.name=some (.ref fa) →
   s₁.heap.get? a=some { cls:=.type "list",data:=.seq vs.toArray }→IntsAre vs ns→ns.length≤n→s₁.gens=#[] →
   codeAny (model l.prog w) callerA (.call (.ref fa) ⟨[.ref a],[]⟩) (fun r s'=>r=.ok (.ret (.bool true))∧OldK s₁.heap s'.heap∧s'.os=s₁.os∧AllBare s'.gens) s₁) :
  WalkO q loose XP YP l.row.toRowW d [] (fun f vs=>PySem.call f vs):=by
 intro w s₀ s₁ mg mb G Y fa o pm cd doc dV kV ho hd hcd hD hmg hg args vals as hpre hlay hrd hwl hlo
 obtain rfl:dV=.none:=Dflts.none hD hdf
 obtain rfl:kV=.none:=Dflts.noKw hD
 obtain ⟨a,vs,ns,rfl,rfl,hobj,hints,hlen⟩:=yI hn hpre hwl
 refine enter_call (codeAny_mono (call w s₀ s₁ mg mb fa o pm cd doc a vs ns G Y ho (fd_plain hd) hcd hmg hobj hints hlen hg) fun r s' hq=>?_)
 obtain ⟨rfl,h2,h3,h4⟩:=hq
 exact ⟨.inl ⟨.bool true,.bool true,[],rfl,fun _=>rfl,.bool true,yJ l _,fun _=>⟨List.Pairwise.nil,fun _ hm=>(nomatch hm)⟩⟩,h2,h3,h4⟩
end Att
namespace L2
open PySem PySem.Spec PyProof.Rows
theorem eL:∀ {vs:List Value} {ns:List Int},IntsAre vs ns→Vals (ns.map V.int) vs
 | _,_,.nil=>.nil
 | _,_,.cons n t h=>.cons ⟨t,rfl⟩ (eL h)
noncomputable def Iv (H:Hp):Prop:=∀ b,H b=none∨∃ o xs,H b=some (.frz o (.lst xs))
theorem z8 {P:Program} {w:World} {K:PySem.W.Frag} {mg mb:Str→Option Value} {CX:CXT} {k:Nat} {fa a:Addr} {fd:FuncData} {x:Str} {sp:Sp} {s₁:Shared} {vs:List Value} {ns:List Int}
  (KX:K.In s₁.heap) (hns:s₁.heap.Ns mainGlobals mg) (hb:s₁.heap.Ns builtinsNs mb) (hbb:∀ x:Str,x ≠ "__name__" → mb x=bootBuiltins x) (hlim:s₁.heap.NoLimit) (hg:s₁.gens=#[])
  (ha:s₁.heap.get? a=some { cls:=.type "list",data:=.seq vs.toArray }) (hi:IntsAre vs ns) (hl:ns.length≤sizeLine) (hr:bQ k callerA)
  (F:∀ base:Heap,K.In base→base.Ns mainGlobals mg→aX P w K mg base CX k fa fd [x] sp) (hbind:∀ (s:Shared) (u:Value),BindsTo s fd ⟨[u],[]⟩ [(x,u)])
  (hsp:∀ H:Hp,Iv H→SqL K H a (ns.map V.int)→sp [.ref a] H (fun v _=>v=.bl true) fun _ _ _=>False)
  (hCX:∀ H e s',CX [] H s₁ (fun _ _ _=>False) e s'→False) :
  codeAny (model P w) callerA (.call (.ref fa) ⟨[.ref a],[]⟩) (fun r s'=>r=.ok (.ret (.bool true))∧OldK s₁.heap s'.heap∧s'.os=s₁.os∧AllBare s'.gens) s₁:=by
 have rv:=eL hi
 have NJ:=hi.length
 have core:∀ H:Hp,Iv H→SqL K H a (ns.map V.int)→HOk P w H s₁.heap→(∀ b,H b≠none→b=a)→(H a≠none→K.lookup a=none) →
   codeAny (model P w) callerA (.call (.ref fa) ⟨[.ref a],[]⟩) (fun r s'=>r=.ok (.ret (.bool true))∧OldK s₁.heap s'.heap∧s'.os=s₁.os∧AllBare s'.gens) s₁:=by
  intro H hO hS hok hA hK
  have wF:∀ {b:Addr} {o:Obj},s₁.heap.get? b=some o→H b=none→(p7 s₁.heap H).get? b=some o:=fun e n=>zE e n
  have noA:∀ {b:Addr} {o:Obj} {es:Array DictEntry} {ep:Nat},s₁.heap.get? b=some o→o.data=.dict es ep→H b=none:=fun {b o es ep} e d=>by
   cases q:H b with
   | none=>rfl
   | some u=>
    have e':b=a:=hA b (by rw [q];simp)
    subst e'
    rw [ha] at e;cases e
    have d':Data.seq vs.toArray _=Data.dict es ep:=d
    cases d'
  have nsK:∀ {b:Addr} {m:Str→Option Value},s₁.heap.Ns b m→(p7 s₁.heap H).Ns b m:=fun {b m} ⟨o,es,ep,e,d,r⟩=>⟨o,es,ep,wF e (noA e d),d,r⟩
  have hKb:K.In (p7 s₁.heap H):=fun b o e=>wF (KX b o e) (by
   cases q:H b with
   | none=>rfl
   | some u=>
    have e':b=a:=hA b (by rw [q];simp)
    subst e'
    rw [hK (by rw [q];simp)] at e;cases e)
  have hM:Mod K mg (p7 s₁.heap H):=⟨hKb,nsK hns,⟨mb,nsK hb,hbb⟩,let ⟨mc,h1,h2⟩:=hlim;⟨mc,nsK h1,h2⟩⟩
  have e0:DO P w K mg (p7 s₁.heap H) callerA [] s₁ H:=⟨rfl,hM,fun b o e=>Dy e,Nat.le_of_eq (yq _ _),trivial,fun b hb=>absurd (show b∈([]:List Addr) from hb) (by simp),hok,.of_eq hg⟩
  refine codeAny_mono ((F _ hKb (nsK hns)).run callerA [] s₁ H ⟨[.ref a],[]⟩ [.ref a] [.ref a] _ _ hr e0 (hbind s₁ (.ref a)) (.cons rfl .nil) (hsp H hO hS)) fun r s' h=>?_
  cases r with
  | error e=>exact (hCX H e s' h).elim
  | ok fl=>
   cases fl with
   | next=>exact False.elim h
   | brk=>exact False.elim h
   | cont=>exact False.elim h
   | ret u=>
    obtain ⟨v,H',os,bare,un,NK,r',q⟩:=h
    have q':v=.bl true:=q
    subst q'
    obtain rfl:u=Value.bool true:=r'
    refine ⟨rfl,OldK.of_keep fun b o e=>?_,os,bare⟩
    cases q:H b with
    | none=>exact un.keep b o e q (by intro z;exact absurd (show b∈([]:List Addr) from z) (by simp)) (by simp)
    | some u=>
     rcases hO b with z | ⟨ob,xs,z⟩
     ·rw [q] at z;cases z
     ·have z2:=un.p6 b ob _ z
      obtain ⟨e1,_⟩:=hok b _ z
      obtain ⟨e2,_⟩:=NK b _ z2
      rw [e] at e1;cases e1
      exact e2
 cases hk:K.lookup a with
 | some o=>
  have e:=KX a o hk
  rw [ha] at e
  cases e
  refine core (fun _=>none) (fun _=>.inl rfl) (.inr ⟨_,vs.toArray,_,hk,rfl,rfl,rfl,by rw [List.size_toArray,NJ];exact hl,by simpa using rv⟩) (fun b u z=>by have z':(none:Option HO)=some u:=z;cases z') (fun b z=>absurd rfl z) fun z=>absurd rfl z
 | none=>
  refine core (fun b=>if b=a then some (.frz { cls:=.type "list",data:=.seq vs.toArray } (.lst (ns.map V.int))) else none) (fun b=>?_) (.inl (.inr ⟨{ cls:=.type "list",data:=.seq vs.toArray },if_pos rfl⟩)) (fun b u z=>?_) (fun b z=>?_) fun _=>hk
  ·by_cases hb:b=a
   ·exact .inr ⟨_,_,if_pos hb⟩
   ·exact .inl (if_neg hb)
  ·by_cases hb:b=a
   ·have z':=(if_pos hb).symm.trans z
    cases z'
    subst hb
    exact ⟨ha,by rw [List.length_map];exact hl,vs,_,rv,ha⟩
   ·have z':=(if_neg hb).symm.trans z
    cases z'
  ·by_cases hb:b=a
   ·exact hb
   ·exact absurd (if_neg hb) z
theorem DV {l:PySem.W.OpenLaw} {n k:Nat} {q:Program} {loose:List Str} {XP:(Str→Option Value)→Heap→Prop} {YP:World→Heap→Prop} {d:DefRec} {K:Params→PySem.W.Frag} {CX:World→CXT} {sp:World→Sp} {x:Str}
  (hn:l.most=some n) (hn2:n≤sizeLine) (hdf:d.params.defaults=[]) (hr:bQ k callerA)
  (hY:∀ (w:World) (h:Heap),YP w h→(K w.params).In h)
  (F:∀ (w:World) (mg:Str→Option Value) (fa:Addr) (h:Heap),(K w.params).In h→h.Ns mainGlobals mg→mg d.name=some (.ref fa) →
   ∃ fd:FuncData,(∀ (s:Shared) (u:Value),BindsTo s fd ⟨[u],[]⟩ [(x,u)]) ∧
    ∀ base:Heap,(K w.params).In base→base.Ns mainGlobals mg→aX l.prog w (K w.params) mg base (CX w) k fa fd [x] (sp w))
  (hsp:∀ (w:World) (H:Hp) (a:Addr) (ns:List Int),ns.length≤n→Iv H→SqL (K w.params) H a (ns.map V.int)→sp w [.ref a] H (fun v _=>v=.bl true) fun _ _ _=>False)
  (hCX:∀ (w:World) (H:Hp) (s:Shared) (e:Value) (s':Shared),CX w [] H s (fun _ _ _=>False) e s'→False) :
  PySem.W.WalkO q loose XP YP l.row.toRowW d [] (fun f vs=>PySem.call f vs):=by
 refine Att.rD hn hdf fun w s₀ s₁ mg mb fa o pm cd doc a vs ns G Y ho hd hcd hmg hobj hints hlen hg=>?_
 have KX:=hY w _ Y
 obtain ⟨fd,hb,hF⟩:=F w mg fa _ KX G.T.g hmg
 exact z8 KX G.T.g G.T.b G.T.builtins G.T.nolimit hg hobj hints (Nat.le_trans hlen hn2) hr hF hb (fun H hO hS=>hsp w H a ns hlen hO hS) fun H e s'=>hCX w H s₁ e s'
noncomputable def bK (s:Stmt):Arguments:=match s with
 | .FunctionDef _ a _ _ _ _ _ _ _ _=>a
 | _=>{ posonlyargs:=[],args:=[],vararg:=none,kwonlyargs:=[],kw_defaults:=[],kwarg:=none,defaults:=[] }
noncomputable def bB (s:Stmt):List Stmt:=match s with
 | .FunctionDef _ _ b _ _ _ _ _ _ _=>b
 | _=>[]
noncomputable def ai (s:Stmt):Scope:=match s with
 | .FunctionDef _ _ _ _ _ _ sc _ _ _=>sc
 | _=>{ kind:=.function,names:=[],isGenerator:=false,isCoroutine:=false }
noncomputable abbrev CX0:CXT:=fun _ _ _ _ _ _=>False
noncomputable abbrev E0:XK:=fun _ _ _=>False
theorem wG {X:Cx}:Passes CX0 X E0:=fun _ _ _ _ _ _ _ h=>h.elim
structure Fun (K:PySem.W.Frag) (x qual:Str) (st:Stmt) (f:Addr) (fd:FuncData):Prop where
 ex:∃ (oc:Value) (od:Option Addr) (kV doc pm:Value) (an:Option Addr) (cdv ct:Value) (osl:Array (Option Value)),
  fd=PySem.W.fnOf x qual (bK st) (bB st) (ai st) .none kV doc pm an cdv ct∧K.lookup f=some ⟨oc,od,.func fd,osl⟩∧PySem.W.codeIn K cdv qual=true
 kp:PySem.W.keepIn K (.ref f)=true
section
variable {P:Program} {w:World} {K:PySem.W.Frag} {mg:Str→Option Value} {base:Heap}
theorem Fun.ok {x qual:Str} {st:Stmt} {f:Addr} {fd:FuncData} {N ps:List Str} {k:Nat} {sp:Sp} (F:Fun K x qual st f fd) (S:av N ps (ai st)) (len:∀ vs H Q E,sp vs H Q E→vs.length=ps.length)
  (hbody:∀ (cdv:Value) (A:Around) (outer:List Env) (s:Shared) (H:Hp) (vs:List V) (Q:VK) (E:XK),bQ k (A.deeper (envOfC qual (ai st) s.heap.objs.size f cdv))→sp vs H Q E →
   ∃ t,PSs (uJ CX0 P w K mg base N qual (ai st) f cdv A outer s H E).nox (bB st) t∧t { nx:=fun _ H'=>Q .non H',rt:=Q } (start N vs) H):aX P w K mg base CX0 (k+1) f fd ps sp:=by
 obtain ⟨oc,od,kV,doc,pm,an,cdv,ct,osl,rfl,lk,hcd⟩:=F.ex
 refine Lh lk hcd S len fun A outer s H vs Q E hr hsp=>?_
 obtain ⟨t,h,q⟩:=hbody cdv A outer s H vs Q E hr hsp
 exact ⟨t,h.nox,q⟩
theorem Fun.binds {x qual:Str} {st:Stmt} {f:Addr} {fd:FuncData} {ps:List Str} (F:Fun K x qual st f fd)
  (h:∀ (kV doc pm:Value) (an:Option Addr) (cdv ct:Value) (us:List Value),us.length=ps.length→bindArgs (PySem.W.fnOf x qual (bK st) (bB st) (ai st) .none kV doc pm an cdv ct) ⟨us,[]⟩=pure (ps.zip us)):Binds K fd ps []:=by
 obtain ⟨oc,od,kV,doc,pm,an,cdv,ct,osl,rfl,lk,hcd⟩:=F.ex
 exact .all (h kV doc pm an cdv ct)
theorem Iw {x qual:Str} {st:Stmt} {f:Addr} {oc:Value} {od an:Option Addr} {osl:Array (Option Value)} {kV doc pm cdv ct:Value} (l:K.lookup f=some ⟨oc,od,.func (PySem.W.fnOf x qual (bK st) (bB st) (ai st) .none kV doc pm an cdv ct),osl⟩)
  (c:PySem.W.codeIn K cdv qual=true) (k:PySem.W.keepIn K (.ref f)=true):Fun K x qual st f (PySem.W.fnOf x qual (bK st) (bB st) (ai st) .none kV doc pm an cdv ct):=⟨⟨oc,od,kV,doc,pm,an,cdv,ct,osl,rfl,l,c⟩,k⟩
end
noncomputable def az (H H':Hp):Prop:=∀ b o,H b=some o→H' b=some o
theorem az.refl (H:Hp):az H H:=fun _ _ h=>h
theorem az.trans {H H1 H2:Hp} (a:az H H1) (b:az H1 H2):az H H2:=fun c o h=>b c o (a c o h)
theorem az.free {H H':Hp} (e:az H H') {l:Addr} (h:H' l=Option.none):H l=Option.none:=by
 cases q:H l with
 | none=>rfl
 | some o=>
  rw [e l o q] at h
  cases h
section
variable {κ:Type} [DecidableEq κ]
noncomputable def gS (kvs:List (κ×V)) (k:κ):Option V:=(kvs.find? fun kv=>decide (kv.1=k)).map (·.2)
noncomputable def putK (kvs:List (κ×V)) (k:κ) (v:V):List (κ×V):=
 if (kvs.any fun kv=>decide (kv.1=k))=true then kvs.map (fun kv=>if kv.1=k then (kv.1,v) else kv) else kvs++[(k,v)]
noncomputable def j4 (kvs:List (κ×V)) (k:κ):List (κ×V):=kvs.filter fun kv=>decide (kv.1≠k)
theorem je {p:κ×V} {r:List (κ×V)} {k:κ} (e:p.1=k):gS (p::r) k=some p.2:=by simp [gS,List.find?_cons,e]
theorem jf {p:κ×V} {r:List (κ×V)} {k:κ} (e:¬ p.1=k):gS (p::r) k=gS r k:=by simp [gS,List.find?_cons,e]
theorem lH (k:κ):∀ kvs:List (κ×V),(kvs.any fun kv=>decide (kv.1=k))=(gS kvs k).isSome
 | []=>rfl
 | p::r=>by
  rw [List.any_cons]
  by_cases e:p.1=k
  ·simp only [je e,decide_eq_true e,Bool.true_or,Option.isSome_some]
  ·rw [jf e,decide_eq_false e,Bool.false_or];exact lH k r
theorem fP (kvs:List (κ×V)) (k:κ) (v:V):(putK kvs k v).length≤kvs.length+1:=by
 unfold putK
 split
 ·rw [List.length_map];lia
 ·rw [List.length_append,List.length_cons,List.length_nil];lia
theorem i8.dB {o:Option V} {u:Option Value} (r:i8 o u):o.isSome=u.isSome:=by
 cases o with
 | none=>cases u with
  | none=>rfl
  | some _=>exact (show False from r).elim
 | some _=>cases u with
  | none=>exact (show False from r).elim
  | some _=>rfl
theorem i8.getD {o:Option V} {u:Option Value} {d:V} {d':Value} (r:i8 o u) (rd:RelV d d'):RelV (o.getD d) (u.getD d'):=by
 cases o with
 | none=>cases u with
  | none=>exact rd
  | some _=>exact (show False from r).elim
 | some _=>cases u with
  | none=>exact (show False from r).elim
  | some _=>exact r
theorem KV.val {kvs:List (κ×V)} {vs:List (κ×Value)} (r:KV kvs vs) (k:κ):i8 (gS kvs k) (valueAt vs k):=by
 unfold KV at r
 induction r with
 | nil=>exact True.intro
 | @cons p q ps qs h t ih=>
  obtain ⟨h1,h2⟩:=h
  by_cases e:p.1=k
  ·have e':q.1=k:=h1.symm.trans e
   have b:valueAt (q::qs) k=some q.2:=by simp [valueAt,List.find?_cons,e']
   rw [je e,b];exact h2
  ·have e':¬ q.1=k:=fun z=>e (h1.trans z)
   have b:valueAt (q::qs) k=valueAt qs k:=by simp [valueAt,List.find?_cons,e']
   rw [jf e,b];exact ih
theorem KV.any {kvs:List (κ×V)} {vs:List (κ×Value)} (r:KV kvs vs) (k:κ):(kvs.any fun kv=>decide (kv.1=k))=vs.any fun kv=>decide (kv.1=k):=by
 unfold KV at r
 induction r with
 | nil=>rfl
 | cons h t ih=>rw [List.any_cons,List.any_cons,ih,h.1]
theorem KV.repl {kvs:List (κ×V)} {vs:List (κ×Value)} (r:KV kvs vs) (k:κ) {y:V} {u:Value} (ry:RelV y u) :
  KV (kvs.map fun kv=>if kv.1=k then (kv.1,y) else kv) (vs.map fun kv=>if kv.1=k then (kv.1,u) else kv):=by
 unfold KV at r ⊢
 induction r with
 | nil=>exact .nil
 | @cons p q ps qs h t ih=>
  rw [List.map_cons,List.map_cons]
  refine .cons ?_ ih
  obtain ⟨h1,h2⟩:=h
  by_cases e:p.1=k
  ·rw [if_pos e,if_pos (h1.symm.trans e)];exact ⟨h1,ry⟩
  ·rw [if_neg e,if_neg (fun z=>e (h1.trans z))];exact ⟨h1,h2⟩
theorem KV.put {kvs:List (κ×V)} {vs:List (κ×Value)} (r:KV kvs vs) (k:κ) {y:V} {u:Value} (ry:RelV y u):KV (putK kvs k y) (stored vs k u):=by
 unfold putK stored
 rw [r.any k]
 by_cases e:(vs.any fun kv=>decide (kv.1=k))=true
 ·rw [if_pos e,if_pos e];exact r.repl k ry
 ·rw [if_neg e,if_neg e];exact Paired.snoc r ⟨rfl,ry⟩
theorem KV.drop {kvs:List (κ×V)} {vs:List (κ×Value)} (r:KV kvs vs) (k:κ):KV (j4 kvs k) (without vs k):=by
 unfold KV at r ⊢
 unfold j4 without
 induction r with
 | nil=>exact .nil
 | @cons p q ps qs h t ih=>
  obtain ⟨h1,h2⟩:=h
  rw [List.filter_cons,List.filter_cons]
  by_cases e:p.1=k
  ·have a:¬ decide (p.1≠k)=true:=by simp [e]
   have b:¬ decide (q.1≠k)=true:=by simp [h1.symm.trans e]
   rw [if_neg a,if_neg b];exact ih
  ·have e':¬ q.1=k:=fun z=>e (h1.trans z)
   have a:decide (p.1≠k)=true:=by simp [e]
   have b:decide (q.1≠k)=true:=by simp [e']
   rw [if_pos a,if_pos b];exact .cons ⟨h1,h2⟩ ih
theorem KV.length {kvs:List (κ×V)} {vs:List (κ×Value)} (r:KV kvs vs):kvs.length=vs.length:=Paired.length r
theorem z_ (kvs:List (κ×V)) (k:κ):(j4 kvs k).length≤kvs.length:=List.length_filter_le _ _
end
theorem j5 {P:Program} {w:World} {k:Key} {u:Value} (r:RelV (kV k) u):(a_ P w).is k u=true:=by
 cases k with
 | inl i=>obtain ⟨t,e⟩:=(show ∃ t,u=Value.int i t from r);subst e;exact qX P w i t
 | inr x=>obtain ⟨t,e⟩:=(show ∃ t,u=Value.str x t from r);subst e;exact qY P w x t
theorem o7 {P:Program} {w:World}:∀ {ks:List Key} {us:List Value},Vals (ks.map kV) us→ItemsAre (a_ P w) ks us
 | [],_,r=>by rw [List.map_nil] at r;cases r;exact .nil
 | k::ks,_,r=>by
  rw [List.map_cons] at r
  cases r with
  | cons h t=>exact .cons (j5 h) (o7 t)
noncomputable abbrev KT (H:Hp):List (List Key×V)→List (List Key×Addr×Value)→Prop:=Paired fun p q=>p.1=q.1∧H q.2.1=some (.tup (p.1.map kV))∧RelV p.2 q.2.2
theorem KT.val {H:Hp} {kvs:List (List Key×V)} {xs:List (List Key×Addr×Value)} (r:KT H kvs xs) (k:List Key):i8 (gS kvs k) ((atKey xs k).map (·.2)):=by
 induction r with
 | nil=>exact True.intro
 | @cons p q ps qs h t ih=>
  obtain ⟨h1,_,h2⟩:=h
  by_cases e:p.1=k
  ·have e':q.1=k:=h1.symm.trans e
   have b:atKey (q::qs) k=some q.2:=by simp [atKey,List.find?_cons,e']
   rw [je e,b];exact h2
  ·have e':¬ q.1=k:=fun z=>e (h1.trans z)
   have b:atKey (q::qs) k=atKey qs k:=by simp [atKey,List.find?_cons,e']
   rw [jf e,b];exact ih
theorem KT.repl {H:Hp} {kvs:List (List Key×V)} {xs:List (List Key×Addr×Value)} (r:KT H kvs xs) (k:List Key) {y:V} {u:Value} (ry:RelV y u) :
  KT H (kvs.map fun kv=>if kv.1=k then (kv.1,y) else kv) (xs.map (putAt k u)):=by
 induction r with
 | nil=>exact .nil
 | @cons p q ps qs h t ih=>
  rw [List.map_cons,List.map_cons]
  refine .cons ?_ ih
  obtain ⟨h1,h2,h3⟩:=h
  unfold putAt
  by_cases e:p.1=k
  ·rw [if_pos e,if_pos (h1.symm.trans e)];exact ⟨h1,h2,ry⟩
  ·rw [if_neg e,if_neg (fun z=>e (h1.trans z))];exact ⟨h1,h2,h3⟩
theorem KT.put {H:Hp} {kvs:List (List Key×V)} {xs:List (List Key×Addr×Value)} (r:KT H kvs xs) (k:List Key) {b:Addr} {y:V} {u:Value} (hb:H b=some (.tup (k.map kV))) (ry:RelV y u) :
  KT H (putK kvs k y) (storedH xs k b u):=by
 have e:(kvs.any fun kv=>decide (kv.1=k))=(atKey xs k).isSome:=by
  rw [lH,(r.val k).dB,Option.isSome_map]
 unfold putK storedH
 rw [e]
 by_cases q:(atKey xs k).isSome=true
 ·rw [if_pos q,if_pos q];exact r.repl k ry
 ·rw [if_neg q,if_neg q];exact Paired.snoc r ⟨rfl,hb,ry⟩
theorem KT.keeps {H H':Hp} {kvs:List (List Key×V)} {xs:List (List Key×Addr×Value)} (r:KT H kvs xs) (ht:∀ b ys,H b=some (.tup ys)→H' b=some (.tup ys)):KT H' kvs xs:=
 Paired.HG r fun _ _ z=>⟨z.1,ht _ _ z.2.1,z.2.2⟩
section
variable {P:Program} {w:World} {H:Hp} {h:Heap} {a:Addr}
theorem Gi {u:HO} (ok:HOk P w H h) (e:Rd H a u):bx P w H h a u:=e.ok ok
theorem j6 {kvs:List (Key×V)} (ok:HOk P w H h) (e:Rd H a (.dK kvs)):kvs.length≤sizeLine∧(a == sysModules)=false∧∃ vs,KV kvs vs∧h.DictOf (a_ P w) a vs:=
 show bx P w H h a (.dK kvs) from Gi ok e
theorem wH {kvs:List (Key×V)} (ok:HOk P w H h) (e:H a=some (.dK kvs)):kvs.length≤sizeLine∧(a == sysModules)=false∧∃ vs,KV kvs vs∧h.DictOf (a_ P w) a vs:=j6 ok (.inl e)
theorem jF {ks:List Key} (ok:HOk P w H h) (e:H a=some (.tup (ks.map kV))):(tupleKind (a_ P w)).is h ks a:=by
 obtain ⟨_,its,r,o,h1,h2,n,h3⟩:=(show bx P w H h a (.tup (ks.map kV)) from ok a _ e)
 exact ⟨o,its.toArray,n,h1,h2,h3,by simpa using o7 r⟩
theorem lI {kvs:List (List Key×V)} {ts:List Addr} (ok:HOk P w H h) (e:Rd H a (.dT kvs ts)):kvs.length≤sizeLine∧(a == sysModules)=false ∧
  ∃ xs,KT H kvs xs∧h.DictOfH (tupleKind (a_ P w)) a xs:=by
 obtain ⟨z,y,xs,r,o,es,ep,h1,h2,h3,h4,h5,_⟩:=(show bx P w H h a (.dT kvs ts) from Gi ok e)
 refine ⟨z,y,xs,r,o,es,ep,h1,h2,h3,h4,fun x hx=>?_,h5⟩
 have all:∀ {l:List (List Key×V)} {m:List (List Key×Addr×Value)},KT H l m→∀ x∈m,(tupleKind (a_ P w)).is h x.1 x.2.1:=by
  intro l m q
  induction q with
  | nil=>intro x hx;exact nomatch hx
  | @cons p q ps qs hq t ih=>
   intro x hx
   rcases List.mem_cons.mp hx with e | hx
   ·subst e
    exact jF ok (by rw [← hq.1];exact hq.2.1)
   ·exact ih x hx
 exact all r x hx
theorem Ll {kvs:List (List Key×V)} {ts:List Addr} (ok:HOk P w H h) (e:H a=some (.dT kvs ts)):kvs.length≤sizeLine∧(a == sysModules)=false ∧
  ∃ xs,KT H kvs xs∧h.DictOfH (tupleKind (a_ P w)) a xs:=lI ok (.inl e)
end
noncomputable def Iz (kvs:List (List Key×V)) (ts:List Addr) (k:List Key) (b:Addr):List Addr:=if (kvs.any fun kv=>decide (kv.1=k))=true then ts else ts++[b]
theorem rE {H:Hp} {kvs:List (List Key×V)} {xs:List (List Key×Addr×Value)} (r:KT H kvs xs) (k:List Key) (b:Addr) (u:Value):(storedH xs k b u).map (·.2.1)=Iz kvs (xs.map (·.2.1)) k b:=by
 have e:(kvs.any fun kv=>decide (kv.1=k))=(atKey xs k).isSome:=by rw [lH,(r.val k).dB,Option.isSome_map]
 unfold storedH Iz
 rw [e]
 by_cases q:(atKey xs k).isSome=true
 ·rw [if_pos q,if_pos q,List.map_map]
  refine List.map_congr_left fun x _=>?_
  show (putAt k u x).2.1=x.2.1
  unfold putAt
  split<;>rfl
 ·rw [if_neg q,if_neg q,List.map_append];rfl
theorem IA {P:Program} {w:World} {h:Heap} {a:Addr} {xs xs2:List (List Key×Addr×Value)} {ts:List Addr} {o:Obj} {es:Array DictEntry} {ep:Nat} (d:h.DictOfH (tupleKind (a_ P w)) a xs) (g1:h.get? a=some o) (g3:o.data=.dict es ep)
  (g4:es.toList=xs2.map (entryOfKey (tupleKind (a_ P w)))) (g6:xs2.map (·.2.1)=ts):xs.map (·.2.1)=ts:=by
 obtain ⟨o1,es1,ep1,h1,h2,h3,h4,_⟩:=d
 rw [g1] at h1;cases h1
 rw [g3] at h3;cases h3
 rw [g4] at h4
 have key:∀ l:List (List Key×Addr×Value),(l.map (entryOfKey (tupleKind (a_ P w)))).map (·.key)=(l.map (·.2.1)).map Value.ref:=fun l=>by
  rw [List.map_map,List.map_map];rfl
 have:=congrArg (List.map (·.key)) h4
 rw [key,key,g6] at this
 exact (List.map_inj_right (fun a b e=>Value.ref.inj e)).mp this.symm
noncomputable def fJ (H:Hp) (a:Addr) (y:V) (r:Option V):Prop:=
 (∃ kvs k,Rd H a (.dK kvs)∧y=kV k∧r=gS kvs k)∨∃ kvs k b ts,Rd H a (.dT kvs ts)∧y=.ref b∧H b=some (.tup (k.map kV))∧r=gS kvs k
noncomputable def Aa (H:Hp) (a:Addr) (y v:V) (H':Hp):Prop:=
 (∃ kvs k,H a=some (.dK kvs)∧y=kV k∧kvs.length<sizeLine∧H'=upd H a (.dK (putK kvs k v))) ∨
 ∃ kvs k b ts,H a=some (.dT kvs ts)∧y=.ref b∧H b=some (.tup (k.map kV))∧kvs.length<sizeLine∧H'=upd H a (.dT (putK kvs k v) (Iz kvs ts k b))
theorem fJ.k {H:Hp} {a:Addr} {kvs:List (Key×V)} {k:Key} (e:H a=some (.dK kvs)):fJ H a (kV k) (gS kvs k):=.inl ⟨kvs,k,.inl e,rfl,rfl⟩
theorem Aa.k {H:Hp} {a:Addr} {kvs:List (Key×V)} {k:Key} {v:V} (e:H a=some (.dK kvs)) (hl:kvs.length<sizeLine):Aa H a (kV k) v (upd H a (.dK (putK kvs k v))):=.inl ⟨kvs,k,e,rfl,hl,rfl⟩
section
variable {X:Cx} {pins:List (Addr×Obj)} {σ:St} {H:Hp} {s:Shared} {a:Addr} {y v:V} {u r:Value} {o:Option V} {A:Around} {E:Value→Shared→Prop}
theorem Inv.big (I:Inv X pins σ H s):sysModules<s.heap.objs.size:=by
 have h:mainGlobals<s.heap.objs.size:=(I.mod.glob.keeps I.bk).lt
 exact Nat.lt_trans (by decide) h
theorem yK {Q:Value→Shared→Prop} (hu:A.units+1<cLine) (I:Inv X pins σ H s) (g:fJ H a y (some v)) (ry:RelV y u) (h:∀ w' s',Inv X pins σ H s'→RelV v w'→Q w' s') :
  wpAny (model X.prog X.w) A (getItem (.ref a) u) Q E s:=by
 rcases g with ⟨kvs,k,e,ey,l⟩ | ⟨kvs,k,b,ts,e,ey,eb,l⟩
 ·subst ey
  obtain ⟨z,hd,vs,rel,dd⟩:=j6 I.hok e
  obtain ⟨w',hw,rw'⟩:=i8.some_of (v:=v) (o:=valueAt vs k) (by rw [l];exact rel.val k)
  exact wpAny_getItem_of (j5 ry) dd.mapOf hw (h w' _ (I.tok _) rw')
 ·subst ey
  cases (show u=Value.ref b from ry)
  obtain ⟨z,hd,xs,rel,dd⟩:=lI I.hok e
  obtain ⟨w',hw,rw'⟩:=i8.some_of (v:=v) (o:=(atKey xs k).map (·.2)) (by rw [l];exact rel.val k)
  obtain ⟨p,hp,hp2⟩:=Option.map_eq_some_iff.mp hw
  refine wpAny_getItem_heap (tupleKind_room_in1 hu) (jF I.hok eb) dd hp ?_
  rw [hp2]
  exact h w' _ (I.tok _) rw'
theorem rF {Q:Value→Shared→Prop} (hu:A.units+1<cLine) (I:Inv X pins σ H s) (g:fJ H a y o) (ry:RelV y u) (h:∀ s',Inv X pins σ H s'→Q (.bool o.isSome) s') :
  wpAny (model X.prog X.w) A (compareOp .In u (.ref a)) Q E s:=by
 rcases g with ⟨kvs,k,e,ey,l⟩ | ⟨kvs,k,b,ts,e,ey,eb,l⟩
 ·subst ey
  obtain ⟨z,hd,vs,rel,dd⟩:=j6 I.hok e
  refine wpAny_in_of (j5 ry) hd dd.mapOf ?_
  rw [← (rel.val k).dB,← l]
  exact h _ (I.tok _)
 ·subst ey
  cases (show u=Value.ref b from ry)
  obtain ⟨z,hd,xs,rel,dd⟩:=lI I.hok e
  refine wpAny_in_heap (tupleKind_room_in1 hu) (jF I.hok eb) hd dd ?_
  have q:=(rel.val k).dB
  rw [Option.isSome_map] at q
  rw [← q,← l]
  exact h _ (I.tok _)
theorem DX {Q:Value→Shared→Prop} (hu:A.units+1<cLine) (I:Inv X pins σ H s) (g:fJ H a y o) (ry:RelV y u) (h:∀ s',Inv X pins σ H s'→Q (.bool (!o.isSome)) s') :
  wpAny (model X.prog X.w) A (compareOp .NotIn u (.ref a)) Q E s:=by
 rcases g with ⟨kvs,k,e,ey,l⟩ | ⟨kvs,k,b,ts,e,ey,eb,l⟩
 ·subst ey
  obtain ⟨z,hd,vs,rel,dd⟩:=j6 I.hok e
  refine wpAny_notIn_of (j5 ry) hd dd.mapOf ?_
  rw [← (rel.val k).dB,← l]
  exact h _ (I.tok _)
 ·subst ey
  cases (show u=Value.ref b from ry)
  obtain ⟨z,hd,xs,rel,dd⟩:=lI I.hok e
  refine wpAny_notIn_heap (tupleKind_room_in1 hu) (jF I.hok eb) hd dd ?_
  have q:=(rel.val k).dB
  rw [Option.isSome_map] at q
  rw [← q,← l]
  exact h _ (I.tok _)
theorem kO {h':Heap} {t':Nat} {ob:HO} (I:Inv X pins σ H s) (mu:Mut (H a)) (hs:Heap.SameBut a s.heap h') (he:∃ q,h'.get? a=some q) (new:bx X.prog X.w (upd H a ob) h' a ob) :
  Inv X pins σ (upd H a ob) { s with heap:=h',toks:=t' }:=
 I.write (x:=a) (e:=a) mu (.inl rfl) (fun b q hb z=>(hs.2 b hb).trans z) he new
theorem qj {P:Program} {w:World} {H':Hp} {h':Heap} {kvs:List (Key×V)} {vs:List (Key×Value)} (z:kvs.length≤sizeLine) (hd:(a == sysModules)=false) (rel:KV kvs vs) (dd:h'.DictOf (a_ P w) a vs) :
  bx P w H' h' a (.dK kvs):=⟨z,hd,vs,rel,dd⟩
theorem yL {H':Hp} {Q:Unit→Shared→Prop} (hu:A.units+1<cLine) (I:Inv X pins σ H s) (g:Aa H a y v H') (ry:RelV y u) (rv:RelV v r) (h:∀ s',Inv X pins σ H' s'→Q () s') :
  wpAny (model X.prog X.w) A (setItem (.ref a) u r) Q E s:=by
 rcases g with ⟨kvs,k,e,ey,l,eH⟩ | ⟨kvs,k,b,ts,e,ey,eb,l,eH⟩
 ·subst ey eH
  obtain ⟨z,hd,vs,rel,dd⟩:=wH I.hok e
  have hz:vs.length≤sizeLine:=by rw [← rel.length];exact z
  have hl:(putK kvs k v).length≤sizeLine:=by have:=fP kvs k v;lia
  refine wpAny_setItem_pairs (hsz:=hz) (j5 ry) dd fun h' dd' hs=>h _ ?_
  have he:∃ q,h'.get? a=some q:=let ⟨q,_,_,hq,_⟩:=dd';⟨q,hq⟩
  exact kO I (by rw [e];exact True.intro) hs he (qj hl hd (rel.put k rv) dd')
 ·subst ey eH
  cases (show u=Value.ref b from ry)
  obtain ⟨z,hd,xs,rel,dd⟩:=Ll I.hok e
  have hz:xs.length≤sizeLine:=by rw [← Paired.length rel];exact z
  have hl:(putK kvs k v).length≤sizeLine:=by have:=fP kvs k v;lia
  refine wpAny_setItem_heap (hsz:=hz) (tupleKind_room_in1 hu) (jF I.hok eb) dd fun h' dd' hs=>h _ ?_
  obtain ⟨q,es,ep,hq,h2,h3,h4,_,h5⟩:=dd'
  refine kO I (by rw [e];exact True.intro) hs ⟨q,hq⟩ ⟨hl,hd,_,(rel.put k eb rv).keeps fun c ys ec=>?_,q,es,ep,hq,h2,h3,h4,h5,?_⟩
  ·rw [aB (K5 ec e (fun z=>nomatch z))]
   exact ec
  ·have hts:xs.map (·.2.1)=ts:=by
    obtain ⟨_,_,xs2,_,o2,es2,ep2,g1,g2,g3,g4,g5,g6⟩:=(show bx X.prog X.w H s.heap a (.dT kvs ts) from I.hok a _ e)
    exact IA dd g1 g3 g4 g6
   rw [← hts]
   exact rE rel k b r
end
section
variable {X:Cx} {pins:List (Addr×Obj)} {σ:St} {H:Hp} {s:Shared} {a:Addr} {kvs:List (Key×V)} {k:Key} {u:Value} {A:Around} {E:Value→Shared→Prop}
theorem Lm {v:V} {more:List Value} {Q:Value→Shared→Prop} (I:Inv X pins σ H s) (e:H a=some (.dK kvs)) (ry:RelV (kV k) u) (l:gS kvs k=some v) (hm:more=[]∨∃ x,more=[x])
  (h:∀ w' s',Inv X pins σ (upd H a (.dK (j4 kvs k))) s'→RelV v w'→Q w' s'):wpAny (model X.prog X.w) A (call (.builtin "dict.pop") (.ref a::u::more)) Q E s:=by
 obtain ⟨z,hd,vs,rel,dd⟩:=wH I.hok e
 obtain ⟨w',hw,rw'⟩:=i8.some_of (v:=v) (o:=valueAt vs k) (by rw [← l];exact rel.val k)
 have hp:(keyPart u).isSome=true:=by
  cases k with
  | inl i=>obtain ⟨t,q⟩:=(show ∃ t,u=Value.int i t from ry);subst q;rfl
  | inr x=>obtain ⟨t,q⟩:=(show ∃ t,u=Value.str x t from ry);subst q;rfl
 have ha:argsOk "dict.pop" ⟨.ref a::u::more,[]⟩:=by
  rcases hm with q | ⟨x,q⟩
  ·subst q;exact PySem.F.args_dict_pop_2 _ _
  ·subst q;exact PySem.F.args_dict_pop_3 _ _ _
 refine call_meetsIn PySem.F.slot_dict_pop dd.typeIs PySem.F.entry_dict_pop ha (meets_dict_pop_there (a_ X.prog X.w) a (j5 ry) more hm hp)
  ⟨vs,w',dd,by rw [← rel.length];exact z,hw,fun h' dd' hs=>h w' _ ?_ rw'⟩
 have he:∃ q,h'.get? a=some q:=let ⟨q,_,_,hq,_⟩:=dd';⟨q,hq⟩
 exact kO I (by rw [e];exact True.intro) hs he (qj (Nat.le_trans (z_ kvs k) z) hd (rel.drop k) dd')
end
noncomputable def IB (i:Expr):Prop:=∀ ov iv,subscripted i false ov iv=operate [ov,iv] (getItem ov iv)
theorem DY {prog:Program} {w:World} {A:Around} {E:Value→Shared→Prop} {s:Shared} {env:Env} {value slice:Expr} {pos:Pos} {T id:String} {Q:Value→Shared→Prop}
  (hl:typeLookup (.type T) "__getitem__" = pure (some (.builtin id))) (hs:IB slice)
  (h:wpAny (model prog w) A (eval value env) (fun o s₁=>wpAny (model prog w) A (eval slice env) (fun i s₂=>s₂.TypeIs o T∧wpAny (model prog w) A (getItem o i) Q E s₂) E s₁) E s) :
  wpAny (model prog w) A (eval (.Subscript value slice pos) env) Q E s:=by
 refine Subscript_ (wpAny_mono h (fun o s₁ h₁=>wpAny_mono h₁ (fun i s₂ h₂=>?_) fun _ _ x=>x) fun _ _ x=>x)
 obtain ⟨hT,h₂⟩:=h₂
 unfold subscriptTail
 refine wpAny_bind ?_
 rw [getitemInPython_of_ne hT.not_modules]
 refine wpAny_bind (wpAny_specialOf hT hl ?_)
 have fin:wpAny (model prog w) A (subscripted slice false o i) (fun r s₃=>wpAny (model prog w) A (letTemporaryGo value o r >>= fun _=>pure r) Q E s₃) E s₂:=by
  rw [hs o i]
  exact wpAny_operating (wpAny_mono h₂ (fun r s₃ h₃=>wpAny_bind (wpAny_letTemporaryGo (wpAny_pure h₃))) fun _ _ x=>x)
 first
  | exact wpAny_pure (wpAny_bind fin)
  | exact wpAny_bind (wpAny_pure (wpAny_bind fin))
  | exact wpAny_bind fin
theorem rG {X:Cx} {pins:List (Addr×Obj)} {σ:St} {H:Hp} {s:Shared} {a:Addr} {y:V} {o:Option V} (I:Inv X pins σ H s) (g:fJ H a y o):s.TypeIs (.ref a) "dict" := by
 rcases g with ⟨kvs,k,e,_,_⟩ | ⟨kvs,k,b,ts,e,_,_,_⟩
 ·obtain ⟨_,_,vs,_,dd⟩:=j6 I.hok e
  exact dd.typeIs
 ·obtain ⟨_,_,xs,_,dd⟩:=lI I.hok e
  exact dd.typeIs
noncomputable def Ln (td ty:TE):TE:=fun σ H Q=>td σ H fun x H1=>ty σ H1 fun y H2=>∃ a v,x=.ref a∧fJ H2 a y (some v)∧Q v H2
noncomputable def NL (ty td:TE):TE:=fun σ H Q=>ty σ H fun y H1=>td σ H1 fun x H2=>∃ a o,x=.ref a∧fJ H2 a y o∧Q (.bl o.isSome) H2
noncomputable def DZ (ty td:TE):TE:=fun σ H Q=>ty σ H fun y H1=>td σ H1 fun x H2=>∃ a o,x=.ref a∧fJ H2 a y o∧Q (.bl (!o.isSome)) H2
noncomputable def Gj (td ty tv:TE):TS:=fun D σ H=>tv σ H fun v H1=>td σ H1 fun x H2=>ty σ H2 fun y H3=>∃ a H4,x=.ref a∧Aa H3 a y v H4∧D.nx σ H4
section
variable {X:Cx} {o i e value:Expr} {pos pos' tpos:Pos} {td ty tv:TE}
theorem D0 (hu:X.A.units+1<cLine) (ho:PE X o td) (hi:PE X i ty) (hs:IB i):PE X (.Subscript o i pos) (Ln td ty):=by
 intro pins s σ H Q I h
 refine DY PySem.F.slot_dict_getitem.lookup hs (thn (ho pins s σ H _ I h) fun u s1 ⟨x,H1,I1,rx,q1⟩=>thn (hi pins s1 σ H1 _ I1 q1) fun iv s2 ⟨y,H2,I2,ry,a,v,ex,g,q2⟩=>?_)
 subst ex
 obtain rfl:u=Value.ref a:=rx
 exact ⟨rG I2 g,yK hu I2 g ry fun w' s3 I3 rw'=>⟨v,H2,I3,rw',q2⟩⟩
theorem IC (hu:X.A.units+1<cLine) (hi:PE X i ty) (ho:PE X o td):PC X .In i o (NL ty td):=by
 intro pins s σ H Q I h
 refine thn (hi pins s σ H _ I h) fun iv s1 ⟨y,H1,I1,ry,q1⟩=>thn (ho pins s1 σ H1 _ I1 q1) fun u s2 ⟨x,H2,I2,rx,a,ov,ex,g,q2⟩=>?_
 subst ex
 obtain rfl:u=Value.ref a:=rx
 exact rF hu I2 g ry fun s3 I3=>⟨.bl ov.isSome,H2,I3,rfl,q2⟩
theorem yM (hu:X.A.units+1<cLine) (hi:PE X i ty) (ho:PE X o td):PC X .NotIn i o (DZ ty td):=by
 intro pins s σ H Q I h
 refine thn (hi pins s σ H _ I h) fun iv s1 ⟨y,H1,I1,ry,q1⟩=>thn (ho pins s1 σ H1 _ I1 q1) fun u s2 ⟨x,H2,I2,rx,a,ov,ex,g,q2⟩=>?_
 subst ex
 obtain rfl:u=Value.ref a:=rx
 exact DX hu I2 g ry fun s3 I3=>⟨.bl (!ov.isSome),H2,I3,rfl,q2⟩
theorem D3 (hu:X.A.units+1<cLine) (ho:PE X o td) (hi:PE X i ty) (hv:PE X value tv) (hs:swapsWith value (some (.Subscript o i pos')) pos.line X.env=pure false) :
  PS X (.Assign [.Subscript o i pos'] value pos) (Gj td ty tv):=by
 intro pins s σ H D I h
 refine wpAny_Assign_Subscript (thn (hv pins s σ H _ I h) fun r s1 ⟨v,H1,I1,rv,q1⟩=>thn (ho pins s1 σ H1 _ I1 q1) fun u s2 ⟨x,H2,I2,rx,q2⟩=>thn (hi pins s2 σ H2 _ I2 q2) fun iv s3 ⟨y,H3,I3,ry,a,H4,ex,g,q3⟩=>?_) hs
 subst ex
 obtain rfl:u=Value.ref a:=rx
 exact yL hu I3 g ry rv fun s4 I4=>⟨σ,H4,I4,q3⟩
end
theorem rH {P:Program} {w:World} {H:Hp} (h:Heap) (hb:sysModules<h.objs.size):bx P w H (h.push { cls:=.type "dict",data:=.dict #[] }) h.objs.size (.dK []):=
 ⟨Nat.zero_le _,beq_eq_false_iff_ne.mpr (Ne.symm (Nat.ne_of_lt hb)),[],.nil,Heap.DictOf.new h⟩
noncomputable def Ab:TE:=fun _ H Q=>∀ p,H p=none→Q (.ref p) (upd H p (.dK []))
section
variable {X:Cx} {pos:Pos}
theorem Ac:PE X (.Dict [] [] pos) Ab:=fun pins s σ H Q I h=>
 wpAny_Dict_empty ⟨.ref s.heap.objs.size,_,I.laid (a:=s.heap.objs.size) (o:=.dK []) (t':=s.toks) (fun _ _ q=>Heap.get?_push_of_some _ q) (Nat.le_refl _) (rH s.heap I.big),rfl,h _ (I.hok.fresh (Nat.le_refl _))⟩
end
noncomputable def uN:List (TE×TE)→St→Hp→(List (V×V)→Hp→Prop)→Prop
 | [],_,H,Q=>Q [] H
 | (tk,tv)::r,σ,H,Q=>tk σ H fun x H1=>tv σ H1 fun y H2=>uN r σ H2 fun ps H3=>Q ((x,y)::ps) H3
noncomputable abbrev VV:List (V×V)→List (Value×Value)→Prop:=Paired fun p q=>RelV p.1 q.1∧RelV p.2 q.2
noncomputable def PPs (X:Cx) (pos:Pos) (keys:List (Option Expr)) (values:List Expr) (trs:List (TE×TE)):Prop:=
 ∀ (pins:List (Addr×Obj)) (s:Shared) (σ:St) (H:Hp) (Q:List (V×V)→Hp→Prop),Inv X pins σ H s→uN trs σ H Q →
  wpAny (model X.prog X.w) X.A (evalPairs (pairTrees keys values X.env pos)) (fun vs s'=>∃ ps H',Inv X pins σ H' s'∧VV ps vs∧Q ps H') X.xe s
theorem D4 {X:Cx} {pos:Pos}:PPs X pos [] [] []:=fun pins s σ H Q I h=>pairTrees_nil_walk ⟨[],H,I,.nil,h⟩
theorem Ad {X:Cx} {pos:Pos} {k v:Expr} {ks:List (Option Expr)} {vs:List Expr} {tk tv:TE} {trs:List (TE×TE)} (hk:PE X k tk) (hv:PE X v tv) (hr:PPs X pos ks vs trs) :
  PPs X pos (some k::ks) (v::vs) ((tk,tv)::trs):=fun pins s σ H Q I h=>
 pairTrees_cons_walk (thn (hk pins s σ H _ I h) fun u s1 ⟨x,H1,I1,rx,q1⟩=>thn (hv pins s1 σ H1 _ I1 q1) fun w2 s2 ⟨y,H2,I2,ry,q2⟩=>
  thn (hr pins s2 σ H2 _ I2 q2) fun ws s3 ⟨ps,H3,I3,rel,q3⟩=>⟨(x,y)::ps,H3,I3,.cons ⟨rx,ry⟩ rel,q3⟩)
noncomputable def jG (kvs more:List (Key×V)):List (Key×V):=more.foldl (fun acc kv=>putK acc kv.1 kv.2) kvs
theorem KV.merge:∀ {more:List (Key×V)} {rs:List (Key×Value)} {kvs:List (Key×V)} {vs:List (Key×Value)},KV more rs→KV kvs vs→KV (jG kvs more) (merged vs rs):=by
 intro more rs kvs vs r
 unfold KV at r
 induction r generalizing kvs vs with
 | nil=>intro q;exact q
 | @cons p q ps qs h t ih=>
  intro r0
  have e:KV (putK kvs p.1 p.2) (stored vs q.1 q.2):=by
   have:=r0.put p.1 h.2
   rw [← h.1];exact this
  exact ih e
theorem gI:∀ (more kvs:List (Key×V)),(jG kvs more).length≤kvs.length+more.length
 | [],kvs=>by show kvs.length≤kvs.length+0;lia
 | p::r,kvs=>by
  have h1:=gI r (putK kvs p.1 p.2)
  have h2:=fP kvs p.1 p.2
  show (jG (putK kvs p.1 p.2) r).length≤_
  rw [List.length_cons];lia
theorem lJ {P:Program} {w:World}:∀ {kvs:List (Key×V)} {ws:List (Value×Value)},VV (kvs.map fun kv=>(kV kv.1,kv.2)) ws→∃ rs,Carries (a_ P w) ws rs∧KV kvs rs
 | [],_,r=>by rw [List.map_nil] at r;cases r;exact ⟨[],True.intro,.nil⟩
 | p::kvs,_,r=>by
  rw [List.map_cons] at r
  cases r with
  | @cons a b as bs h t=>
   obtain ⟨rs,c,q⟩:=lJ (P:=P) (w:=w) t
   obtain ⟨b1,b2⟩:=b
   exact ⟨(p.1,b2)::rs,⟨j5 h.1,rfl,c⟩,.cons ⟨rfl,h.2⟩ q⟩
noncomputable def Gk (trs:List (TE×TE)):TE:=fun σ H Q=>∀ p,H p=none→uN trs σ (upd H p (.dK [])) fun ps H2=>H2 p=some (.dK [])∧∃ kvs:List (Key×V),ps=kvs.map (fun kv=>(kV kv.1,kv.2))∧kvs.length≤15∧Q (.ref p) (upd H2 p (.dK (jG [] kvs)))
theorem D5 {X:Cx} {pos:Pos} {keys:List (Option Expr)} {values:List Expr} {trs:List (TE×TE)} (h:PPs X pos keys values trs) (hall:keys.all (·.isSome)=true) (hl:keys.length=values.length) (h0:keys≠[])
  (h15:keys.length≤15):PE X (.Dict keys values pos) (Gk trs):=by
 intro pins s σ H Q I q
 have hn:=I.hok.fresh (Nat.le_refl s.heap.objs.size)
 have I1:=I.laid (a:=s.heap.objs.size) (o:=.dK []) (h':=s.heap.push { cls:=.type "dict",data:=.dict #[] }) (t':=s.toks) (fun _ _ q=>Heap.get?_push_of_some _ q) (Nat.le_refl _) (rH s.heap I.big)
 refine wpAny_Dict_walk (knd:=a_ X.prog X.w) hall hl h0 h15 (thn (h pins _ σ _ _ I1 (q _ hn)) fun ws s2 ⟨ps,H2,I2,rel,e,kvs,ep,lk,q2⟩=>?_)
 subst ep
 obtain ⟨rs,c,rk⟩:=lJ (P:=X.prog) (w:=X.w) rel
 obtain ⟨z,hd,vs0,r0,dd⟩:=wH I2.hok e
 cases r0
 refine ⟨rs,c,dd,fun h' dd' hs=>⟨.ref s.heap.objs.size,_,?_,rfl,q2⟩⟩
 have hz:(jG [] kvs).length≤sizeLine:=by
  have h1:=gI kvs []
  rw [List.length_nil] at h1
  rw [sizeLine_eq];lia
 have he:∃ q,h'.get? s.heap.objs.size=some q:=let ⟨q,_,_,hq,_⟩:=dd';⟨q,hq⟩
 exact kO I2 (by rw [e];exact True.intro) hs he (qj hz hd (rk.merge .nil) dd')
structure M1 (X:Cx) (o:Expr) (m:Str) (apos:Pos) (e:Expr) (cpos:Pos):Prop where
 base:attributeBase o m X.env (eval o X.env)=eval o X.env
 few:((backTo cpos (starEach [e] X.env)).all (fun x=>!x.1)&&(backToKw cpos (keywordEach [] X.env)).all (fun x=>x.1.isSome)
  && decide (([e]:List Expr).length+([]:List Keyword).length+(if ([]:List Keyword).isEmpty then 0 else 1)<30))=true
 line:(apos.endLine == cpos.line)=true
 trees:backTo cpos (starEach [e] X.env)=[(false,eval e X.env)]
noncomputable def IsD (H:Hp) (a:Addr):Prop:=(∃ kvs,Rd H a (.dK kvs))∨∃ kvs ts,Rd H a (.dT kvs ts)
theorem Ae {X:Cx} {pins:List (Addr×Obj)} {σ:St} {H:Hp} {s:Shared} {a:Addr} (I:Inv X pins σ H s) (d:IsD H a) :
  s.TypeIs (.ref a) "dict" ∧ (∀ b,Value.ref a=.ref b→∃ ob,s.heap.get? b=some ob∧ob.dict=none)∧(a == sysModules)=false:=by
 rcases d with ⟨kvs,e⟩ | ⟨kvs,ts,e⟩
 ·obtain ⟨_,hd,vs,_,dd⟩:=j6 I.hok e
  refine ⟨dd.typeIs,fun b q=>?_,hd⟩
  cases q
  obtain ⟨ob,_,_,h1,h2,_⟩:=dd
  exact ⟨ob,h1,h2.2.1⟩
 ·obtain ⟨_,hd,xs,_,dd⟩:=lI I.hok e
  refine ⟨dd.typeIs,fun b q=>?_,hd⟩
  cases q
  obtain ⟨ob,_,_,h1,h2,_⟩:=dd
  exact ⟨ob,h1,h2.2.1⟩
section
variable {X:Cx} {pins:List (Addr×Obj)} {σ:St} {H:Hp} {s:Shared} {a:Addr} {y d:V} {u r:Value} {o:Option V} {A:Around} {E:Value→Shared→Prop}
theorem ID {Q:Value→Shared→Prop} (hu:A.units+1<cLine) (I:Inv X pins σ H s) (g:fJ H a y o) (ry:RelV y u) (h:∀ w' s',Inv X pins σ H s'→RelV (o.getD .non) w'→Q w' s') :
  wpAny (model X.prog X.w) A (call (.builtin "dict.get") [.ref a,u]) Q E s:=by
 rcases g with ⟨kvs,k,e,ey,l⟩ | ⟨kvs,k,b,ts,e,ey,eb,l⟩
 ·subst ey
  obtain ⟨z,hd,vs,rel,dd⟩:=j6 I.hok e
  refine call_meetsIn PySem.F.slot_dict_get dd.typeIs PySem.F.entry_dict_get (PySem.F.args_dict_get_2 _ _) (meets_dict_get (a_ X.prog X.w) a (j5 ry) hd) ⟨_,dd.mapOf,h _ _ (I.tok _) ?_⟩
  rw [l]
  exact (rel.val k).getD rfl
 ·subst ey
  cases (show u=Value.ref b from ry)
  obtain ⟨z,hd,xs,rel,dd⟩:=lI I.hok e
  refine call_meetsIn PySem.F.slot_dict_get dd.typeIs PySem.F.entry_dict_get (PySem.F.args_dict_get_2 _ _) (meetsH_dict_get (tupleKind (a_ X.prog X.w)) a b hd) ⟨tupleKind_room_in1 hu,k,xs,jF I.hok eb,dd,h _ _ (I.tok _) ?_⟩
  rw [l]
  exact (rel.val k).getD rfl
end
noncomputable def Af (td ty:TE):TE:=fun σ H Q=>td σ H fun x H1=>∃ a,x=.ref a∧IsD H1 a∧ty σ H1 fun y H2=>∃ o,fJ H2 a y o∧Q (o.getD .non) H2
noncomputable def Ag (td ty:TE):TE:=fun σ H Q=>td σ H fun x H1=>∃ a,x=.ref a∧IsD H1 a∧ty σ H1 fun y H2=>∃ kvs k v,H2 a=some (.dK kvs)∧y=kV k∧gS kvs k=some v∧Q v (upd H2 a (.dK (j4 kvs k)))
section
variable {X:Cx} {o e f:Expr} {apos cpos:Pos} {td ty tx:TE}
theorem Ah (hu:X.A.units+1<cLine) (ho:PE X o td) (he:PE X e ty) (m:M1 X o "get" apos e cpos):PE X (.Call (.Attribute o "get" apos) [e] [] cpos) (Af td ty):=by
 intro pins s σ H Q I h
 refine wpAny_Call_method m.base m.few m.line PySem.F.plainAttrs_dict PySem.F.slot_dict_get PySem.F.type_dict_get (thn (ho pins s σ H _ I h) fun u s1 ⟨x,H1,I1,rx,a,ex,d,q1⟩=>?_)
 subst ex
 obtain rfl:u=Value.ref a:=rx
 obtain ⟨t1,t2,_⟩:=Ae I1 d
 refine ⟨t1,t2,?_⟩
 rw [m.trees]
 refine Calls.callWith_builtin rfl (Calls.evalArgs_plain (Calls.spliced_cons (thn (he pins s1 σ H1 _ I1 q1) fun iv s2 ⟨y,H2,I2,ry,ov,g,q2⟩=>Calls.spliced_nil ?_)))
 exact ID hu I2 g ry fun w' s3 I3 rw'=>⟨_,H2,I3,rw',q2⟩
theorem Ai (ho:PE X o td) (he:PE X e ty) (m:M1 X o "pop" apos e cpos):PE X (.Call (.Attribute o "pop" apos) [e] [] cpos) (Ag td ty):=by
 intro pins s σ H Q I h
 refine wpAny_Call_method m.base m.few m.line PySem.F.plainAttrs_dict PySem.F.slot_dict_pop PySem.F.type_dict_pop (thn (ho pins s σ H _ I h) fun u s1 ⟨x,H1,I1,rx,a,ex,d,q1⟩=>?_)
 subst ex
 obtain rfl:u=Value.ref a:=rx
 obtain ⟨t1,t2,_⟩:=Ae I1 d
 refine ⟨t1,t2,?_⟩
 rw [m.trees]
 refine Calls.callWith_builtin rfl (Calls.evalArgs_plain (Calls.spliced_cons (thn (he pins s1 σ H1 _ I1 q1) fun iv s2 ⟨y,H2,I2,ry,kvs,k,v,ea,ey,l,q2⟩=>Calls.spliced_nil ?_)))
 subst ey
 exact Lm I2 ea ry l (.inl rfl) fun w' s3 I3 rw'=>⟨v,_,I3,rw',q2⟩
end
section
variable {X:Cx} {pins:List (Addr×Obj)} {σ:St} {H:Hp} {s:Shared} {a:Addr} {kvs:List (Key×V)} {A:Around} {E:Value→Shared→Prop}
theorem Aj {Q:Value→Shared→Prop} (I:Inv X pins σ H s) (e:Rd H a (.dK kvs)) (h:∀ p s',H p=none→Inv X pins σ (upd H p (.dK kvs)) s'→Q (.ref p) s'):wpAny (model X.prog X.w) A (call (.type "dict") [.ref a]) Q E s:=by
 obtain ⟨z,hd,vs,rel,dd⟩:=j6 I.hok e
 refine kt_call_dict hd dd (by rw [← rel.length];exact z) fun h' dd' hs=>?_
 refine h _ _ (I.hok.fresh (Nat.le_refl _)) (I.laid (a:=s.heap.objs.size) (o:=.dK kvs) (t':=s.toks) (fun b q hq=>?_) (Nat.le_refl _) (qj z (beq_eq_false_iff_ne.mpr (Ne.symm (Nat.ne_of_lt I.big))) rel dd'))
 exact (hs.2 b (Nat.ne_of_lt (Heap.lt_size hq))).trans (Heap.get?_push_of_some _ hq)
end
end L2
namespace Dm
inductive Dat where
 | non
 | bl (b:Bool)
 | int (i:Int)
 | str (s:List Nat)
 | tup (xs:List Dat)
 | lst (xs:List Dat)
 | dct (ks:List Int) (vs:List Dat)
 | dcp (ks:List (Int×Int)) (vs:List Dat)
 | exc (C:Nat)
 | fn (a:Nat)
deriving Inhabited
inductive Cell where
 | un
 | sh (d:Dat)
 | ow (d:Dat)
deriving Inhabited
noncomputable abbrev Env:=List Cell
inductive Val where
 | val (d:Dat)
 | slot (i:Nat)
 | new (d:Dat)
inductive RV where
 | val (d:Dat)
 | new (d:Dat)
noncomputable def RV.dat:RV→Dat
 | .val d=>d
 | .new d=>d
noncomputable def RV.bW:RV→Val
 | .val d=>.val d
 | .new d=>.new d
noncomputable def SZ:Nat:=100000
noncomputable def fQ:Dat→Bool
 | .tup _=>true
 | .lst _=>true
 | .dct _ _=>true
 | .dcp _ _=>true
 | .exc _=>true
 | _=>false
noncomputable def pk (ρ:Env):Val→Option Dat
 | .val d=>some d
 | .new d=>some d
 | .slot i=>match ρ[i]? with
  | some (.ow d)=>some d
  | some (.sh d)=>some d
  | _=>none
noncomputable def tk (ρ:Env):Val→Option (Dat×Env)
 | .val d=>some (d,ρ)
 | .new d=>some (d,ρ)
 | .slot i=>match ρ[i]? with
  | some (.ow d)=>some (d,ρ.set i (.sh d))
  | some (.sh d)=>some (d,ρ)
  | _=>none
noncomputable def pks (ρ:Env):List Val→Option (List Dat)
 | []=>some []
 | x::r=>match pk ρ x with
  | none=>none
  | some d=>match pks ρ r with
   | none=>none
   | some ds=>some (d::ds)
noncomputable def tks (ρ:Env):List Val→Option (List Dat×Env)
 | []=>some ([],ρ)
 | x::r=>match tk ρ x with
  | none=>none
  | some (d,ρ1)=>match tks ρ1 r with
   | none=>none
   | some (ds,ρ2)=>some (d::ds,ρ2)
noncomputable abbrev FE:=Env→Option (Val×Env)
noncomputable abbrev FT:=Env→Option (Bool×Env)
noncomputable def eC (d:Dat):FE:=fun ρ=>some (.val d,ρ)
noncomputable def eV (i:Nat):FE:=fun ρ=>match ρ[i]? with
 | some (.sh d)=>some (.val d,ρ)
 | some (.ow _)=>some (.slot i,ρ)
 | _=>none
noncomputable def e1 (g:Dat→Option RV) (a:FE):FE:=fun ρ=>match a ρ with
 | none=>none
 | some (x,ρ1)=>match pk ρ1 x with
  | none=>none
  | some d=>match g d with
   | none=>none
   | some v=>some (v.bW,ρ1)
noncomputable def e2 (g:Dat→Dat→Option RV) (a b:FE):FE:=fun ρ=>match a ρ with
 | none=>none
 | some (x,ρ1)=>match b ρ1 with
  | none=>none
  | some (y,ρ2)=>match pk ρ2 x with
   | none=>none
   | some d=>match pk ρ2 y with
    | none=>none
    | some e=>match g d e with
     | none=>none
     | some v=>some (v.bW,ρ2)
noncomputable def eAs:List FE→Env→Option (List Val×Env)
 | [],ρ=>some ([],ρ)
 | a::r,ρ=>match a ρ with
  | none=>none
  | some (x,ρ1)=>match eAs r ρ1 with
   | none=>none
   | some (xs,ρ2)=>some (x::xs,ρ2)
noncomputable def eB (g:List Dat→Option RV) (as:List FE):FE:=fun ρ=>match eAs as ρ with
 | none=>none
 | some (xs,ρ1)=>match pks ρ1 xs with
  | none=>none
  | some ds=>match g ds with
   | none=>none
   | some v=>some (v.bW,ρ1)
noncomputable def cN (as:List FE):FE:=fun ρ=>match eAs as ρ with
 | none=>none
 | some (xs,ρ1)=>match tks ρ1 xs with
  | none=>none
  | some (ds,ρ2)=>if ds.length≤SZ then some (.val (.tup ds),ρ2) else none
noncomputable def bS (as:List FE):FE:=fun ρ=>match eAs as ρ with
 | none=>none
 | some (xs,ρ1)=>match tks ρ1 xs with
  | none=>none
  | some (ds,ρ2)=>if ds.length≤SZ then some (.new (.lst ds),ρ2) else none
noncomputable def eF (f:List Dat→Option RV) (as:List FE):FE:=fun ρ=>match eAs as ρ with
 | none=>none
 | some (xs,ρ1)=>match pks ρ1 xs with
  | none=>none
  | some ds=>match f ds with
   | none=>none
   | some v=>if fQ v.dat then (match tks ρ1 xs with
     | none=>none
     | some (_,ρ2)=>some (v.bW,ρ2)) else some (v.bW,ρ1)
noncomputable def eIf (t:FT) (a b:FE):FE:=fun ρ=>match t ρ with
 | none=>none
 | some (true,ρ1)=>a ρ1
 | some (false,ρ1)=>b ρ1
noncomputable def fR (a b:FE):FE:=fun ρ=>match a ρ with
 | some (.val (.bl true),ρ1)=>b ρ1
 | some (.val (.bl false),ρ1)=>some (.val (.bl false),ρ1)
 | _=>none
noncomputable def Ak (a:FE):FE:=fun ρ=>match a ρ with
 | some (.val (.bl c),ρ1)=>some (.val (.bl (!c)),ρ1)
 | _=>none
noncomputable def tV (a:FE):FT:=fun ρ=>match a ρ with
 | some (.val (.bl c),ρ1)=>some (c,ρ1)
 | _=>none
noncomputable def eu (t:FT):FT:=fun ρ=>match t ρ with
 | some (c,ρ1)=>some (!c,ρ1)
 | none=>none
noncomputable def jD (t u:FT):FT:=fun ρ=>match t ρ with
 | some (true,ρ1)=>u ρ1
 | some (false,ρ1)=>some (false,ρ1)
 | none=>none
noncomputable def tOr (t u:FT):FT:=fun ρ=>match t ρ with
 | some (true,ρ1)=>some (true,ρ1)
 | some (false,ρ1)=>u ρ1
 | none=>none
noncomputable def truth:Dat→Option Bool
 | .non=>some false
 | .bl b=>some b
 | .int i=>some (i != 0)
 | .tup xs=>some (!xs.isEmpty)
 | .lst xs=>some (!xs.isEmpty)
 | _=>none
noncomputable def tTr (a:FE):FT:=fun ρ=>match a ρ with
 | none=>none
 | some (x,ρ1)=>match pk ρ1 x with
  | none=>none
  | some d=>match truth d with
   | none=>none
   | some c=>some (c,ρ1)
noncomputable def bq:FT:=fun ρ=>some (true,ρ)
noncomputable abbrev FI:=Env→Option (List Dat×Env)
noncomputable def iL (a:FE):FI:=fun ρ=>match a ρ with
 | none=>none
 | some (x,ρ1)=>match tk ρ1 x with
  | some (.lst ds,ρ2)=>some (ds,ρ2)
  | _=>none
noncomputable def iT (a:FE):FI:=fun ρ=>match a ρ with
 | none=>none
 | some (x,ρ1)=>match tk ρ1 x with
  | some (.tup ds,ρ2)=>some (ds,ρ2)
  | _=>none
noncomputable def iS (a:FE):FI:=fun ρ=>match a ρ with
 | none=>none
 | some (x,ρ1)=>match tk ρ1 x with
  | some (.lst ds,ρ2)=>some (ds,ρ2)
  | some (.tup ds,ρ2)=>some (ds,ρ2)
  | _=>none
noncomputable def ups (lo:Int) (n:Nat):List Dat:=(List.range n).map fun i=>Dat.int (lo+(i:Nat))
noncomputable def BIG:Int:=1000000000
noncomputable def iR1 (a:FE):FI:=fun ρ=>match a ρ with
 | some (.val (.int j),ρ1)=>if j≤BIG∧-BIG≤j then some (ups 0 j.toNat,ρ1) else none
 | _=>none
noncomputable def iR2 (a b:FE):FI:=fun ρ=>match a ρ with
 | some (.val (.int i),ρ1)=>(match b ρ1 with
  | some (.val (.int j),ρ2)=>if j≤BIG∧-BIG≤j∧i≤BIG∧-BIG≤i then some (ups i (j-i).toNat,ρ2) else none
  | _=>none)
 | _=>none
noncomputable abbrev FB:=Dat→Env→Option Env
noncomputable def bN (i:Nat):FB:=fun d ρ=>if i=0 then none else some (ρ.set i (.sh d))
noncomputable def sets:List Nat→List Dat→Env→Option Env
 | [],[],ρ=>some ρ
 | i::is,d::ds,ρ=>if i=0 then none else sets is ds (ρ.set i (.sh d))
 | _,_,_=>none
noncomputable def bT (is:List Nat):FB:=fun d ρ=>match d with
 | .tup ds=>sets is ds ρ
 | _=>none
noncomputable def dF (bd:FB) (t:FT) (el:FE):List Dat→Env→List Dat→Option (List Dat×Env)
 | [],ρ,acc=>some (acc,ρ)
 | d::r,ρ,acc=>match bd d ρ with
  | none=>none
  | some ρ1=>match t ρ1 with
   | none=>none
   | some (false,ρ2)=>dF bd t el r ρ2 acc
   | some (true,ρ2)=>match el ρ2 with
    | none=>none
    | some (x,ρ3)=>match tk ρ3 x with
     | none=>none
     | some (y,ρ4)=>dF bd t el r ρ4 (acc++[y])
noncomputable def bU (it:FI) (own:Nat) (bd:FB) (t:FT) (el:FE):FE:=fun ρ=>match it ρ with
 | none=>none
 | some (ds,ρ1)=>if ds.length≤SZ then (match dF bd t el ds (ρ1++List.replicate own .un) [] with
  | none=>none
  | some (ys,ρ2)=>some (.new (.lst ys),ρ2.take ρ1.length)) else none
inductive Out where
 | nx (ρ:Env)
 | ret (r:RV) (ρ:Env)
 | bk (ρ:Env)
 | ct (ρ:Env)
noncomputable abbrev FS:=Env→Option Out
noncomputable def sNx:FS:=fun ρ=>some (.nx ρ)
noncomputable def aq (s u:FS):FS:=fun ρ=>match s ρ with
 | some (.nx ρ1)=>u ρ1
 | o=>o
noncomputable def sA (i:Nat) (e:FE):FS:=fun ρ=>if i=0 then none else match e ρ with
 | none=>none
 | some (.new d,ρ1)=>some (.nx (ρ1.set i (.ow d)))
 | some (x,ρ1)=>match tk ρ1 x with
  | none=>none
  | some (d,ρ2)=>some (.nx (ρ2.set i (.sh d)))
noncomputable def sU (is:List Nat) (e:FE):FS:=fun ρ=>match e ρ with
 | none=>none
 | some (x,ρ1)=>match tk ρ1 x with
  | some (.tup ds,ρ2)=>(match sets is ds ρ2 with
   | none=>none
   | some ρ3=>some (.nx ρ3))
  | _=>none
noncomputable def sE (e:FE):FS:=fun ρ=>match e ρ with
 | none=>none
 | some (_,ρ1)=>some (.nx ρ1)
noncomputable def sR (e:FE):FS:=fun ρ=>match e ρ with
 | none=>none
 | some (.new d,ρ1)=>some (.ret (.new d) ρ1)
 | some (.val d,ρ1)=>some (.ret (.val d) ρ1)
 | some (.slot i,ρ1)=>match ρ1[i]? with
  | some (.ow d)=>some (.ret (.new d) (ρ1.set i .un))
  | some (.sh d)=>some (.ret (.val d) ρ1)
  | _=>none
noncomputable def sIf (t:FT) (a b:FS):FS:=fun ρ=>match t ρ with
 | none=>none
 | some (true,ρ1)=>a ρ1
 | some (false,ρ1)=>b ρ1
noncomputable def qk (i:Nat) (e:FE):FS:=fun ρ=>match ρ[i]? with
 | some (.ow (.lst _))=>(match e ρ with
  | none=>none
  | some (x,ρ1)=>match tk ρ1 x with
   | none=>none
   | some (d,ρ2)=>match ρ2[i]? with
    | some (.ow (.lst ds))=>if ds.length<SZ then some (.nx (ρ2.set i (.ow (.lst (ds++[d]))))) else none
    | _=>none)
 | _=>none
noncomputable def ixN (n:Nat) (i:Int):Option Nat:=
 if 0≤i then (if i<n then some i.toNat else none) else if -(n:Int)≤i then some (i+n).toNat else none
noncomputable def ql (i:Nat) (j e:FE):FS:=fun ρ=>match e ρ with
 | none=>none
 | some (x,ρ1)=>match tk ρ1 x with
  | none=>none
  | some (d,ρ2)=>match ρ2[i]? with
   | some (.ow _)=>(match j ρ2 with
    | some (.val (.int k),ρ3)=>(match ρ3[i]? with
     | some (.ow (.lst ds))=>(match ixN ds.length k with
      | none=>none
      | some m=>some (.nx (ρ3.set i (.ow (.lst (ds.set m d))))))
     | _=>none)
    | _=>none)
   | _=>none
noncomputable def jH (bd:FB) (body:FS):List Dat→FS
 | [],ρ=>some (.nx ρ)
 | d::r,ρ=>match bd d ρ with
  | none=>none
  | some ρ1=>match body ρ1 with
   | some (.nx ρ2)=>jH bd body r ρ2
   | some (.ct ρ2)=>jH bd body r ρ2
   | some (.bk ρ2)=>some (.nx ρ2)
   | some (.ret v ρ2)=>some (.ret v ρ2)
   | none=>none
noncomputable def eZ (it:FI) (bd:FB) (body:FS):FS:=fun ρ=>match it ρ with
 | none=>none
 | some (ds,ρ1)=>jH bd body ds ρ1
noncomputable def whD (t:FT) (body:FS):Nat→FS
 | 0,_=>none
 | n+1,ρ=>match t ρ with
  | none=>none
  | some (false,ρ1)=>some (.nx ρ1)
  | some (true,ρ1)=>match body ρ1 with
   | some (.nx ρ2)=>whD t body n ρ2
   | some (.ct ρ2)=>whD t body n ρ2
   | some (.bk ρ2)=>some (.nx ρ2)
   | some (.ret v ρ2)=>some (.ret v ρ2)
   | none=>none
noncomputable def fn (n m:Nat) (body:FS) (ds:List Dat):Option RV:=if ds.length=n then (match body (ds.map Cell.sh++List.replicate m .un) with
 | some (.ret r _)=>some r
 | some (.nx _)=>some (.val .non)
 | _=>none) else none
noncomputable def b2i (b:Bool):Int:=if b then 1 else 0
mutual
noncomputable def eqD:Dat→Dat→Bool
 | .non,.non=>true
 | .bl a,.bl b=>a == b
 | .bl a,.int j=>b2i a == j
 | .int i,.bl b=>i == b2i b
 | .int i,.int j=>i == j
 | .str a,.str b=>a == b
 | .tup xs,.tup ys=>dG xs ys
 | .lst xs,.lst ys=>dG xs ys
 | _,_=>false
noncomputable def dG:List Dat→List Dat→Bool
 | [],[]=>true
 | x::xs,y::ys=>eqD x y&&dG xs ys
 | _,_=>false
end
noncomputable def okD:Nat→Dat→Bool
 | _,.dct _ _=>false
 | _,.dcp _ _=>false
 | _,.exc _=>false
 | _,.fn _=>false
 | _,.str s=>s.all fun c=>decide (c<128)
 | 0,.tup _=>false
 | 0,.lst _=>false
 | n+1,.tup xs=>xs.all (okD n)
 | n+1,.lst xs=>xs.all (okD n)
 | _,_=>true
noncomputable abbrev vB (b:Bool):Option RV:=some (.val (.bl b))
noncomputable def kF (p:Dat→Bool):Dat→Option RV
 | .exc _=>none
 | .fn _=>none
 | d=>vB (p d)
noncomputable abbrev vI (i:Int):Option RV:=some (.val (.int i))
noncomputable def gEq (x y:Dat):Option RV:=if okD 8 x&&okD 8 y then vB (eqD x y) else none
noncomputable def gNe (x y:Dat):Option RV:=if okD 8 x&&okD 8 y then vB (!eqD x y) else none
noncomputable def gLt:Dat→Dat→Option RV
 | .int i,.int j=>vB (decide (i<j))
 | _,_=>none
noncomputable def gLe:Dat→Dat→Option RV
 | .int i,.int j=>vB (decide (i≤j))
 | _,_=>none
noncomputable def gGt:Dat→Dat→Option RV
 | .int i,.int j=>vB (decide (j<i))
 | _,_=>none
noncomputable def gGe:Dat→Dat→Option RV
 | .int i,.int j=>vB (decide (j≤i))
 | _,_=>none
noncomputable def B64:Int:=18446744073709551616
noncomputable def bC:Dat→Dat→Option RV
 | .int i,.int j=>vI (i+j)
 | .lst xs,.lst ys=>if xs.length+ys.length≤SZ then some (.new (.lst (xs++ys))) else none
 | _,_=>none
noncomputable def ez:Dat→Dat→Option RV
 | .int i,.int j=>vI (i-j)
 | _,_=>none
noncomputable def jh:Dat→Dat→Option RV
 | .int i,.int j=>if (-B64<i∧i<B64)∨(-B64<j∧j<B64) then vI (i*j) else none
 | .lst xs,.int k=>if k≤BIG∧-BIG≤k∧xs.length*k.toNat≤SZ then some (.new (.lst (List.replicate k.toNat xs).flatten)) else none
 | _,_=>none
noncomputable def dR:Int:=1606938044258990275541962092341162602522202993782792835301376
noncomputable def uO:Dat→Dat→Option RV
 | .int i,.int j=>if 0<j∧j<dR then vI (i / j) else none
 | _,_=>none
noncomputable def kG:Dat→Dat→Option RV
 | .int i,.int j=>if 0<j then vI (i % j) else none
 | _,_=>none
noncomputable def uP:Dat→Dat→Option RV
 | .int i,.int j=>if 0≤j∧j≤1000000∧i.natAbs<1000000 then vI (i ^ j.toNat) else none
 | _,_=>none
noncomputable def atI (xs:List Dat) (i:Int):Option Dat:=(ixN xs.length i).bind fun j=>xs[j]?
noncomputable def gIx:Dat→Dat→Option RV
 | .lst xs,.int i=>(atI xs i).map .val
 | .tup xs,.int i=>(atI xs i).map .val
 | _,_=>none
noncomputable def inD (x:Dat) (xs:List Dat):Bool:=xs.any fun y=>eqD y x
noncomputable def gIn:Dat→Dat→Option RV
 | x,.lst xs=>if okD 8 x&&xs.all (okD 7) then vB (inD x xs) else none
 | x,.tup xs=>if okD 8 x&&xs.all (okD 7) then vB (inD x xs) else none
 | _,_=>none
noncomputable def b8:Dat→Dat→Option RV
 | x,.lst xs=>if okD 8 x&&xs.all (okD 7) then vB (!inD x xs) else none
 | x,.tup xs=>if okD 8 x&&xs.all (okD 7) then vB (!inD x xs) else none
 | _,_=>none
noncomputable def sIx (n d:Nat):Option Int→Nat
 | none=>d
 | some v=>(if v<0 then max (v+n) 0 else min v n).toNat
noncomputable def cut (xs:List Dat) (lo hi:Option Int):List Dat:=(xs.drop (sIx xs.length 0 lo)).take (sIx xs.length xs.length hi-sIx xs.length 0 lo)
noncomputable def bX:List Dat→Option RV
 | [.lst xs]=>vI xs.length
 | [.tup xs]=>vI xs.length
 | _=>none
noncomputable def o8:List Dat→Option RV
 | [.int i,.int j]=>vI (if j<i then j else i)
 | _=>none
noncomputable def o9:List Dat→Option RV
 | [.int i,.int j]=>vI (if j>i then j else i)
 | _=>none
noncomputable def dS:List Dat→Option RV
 | [.lst xs]=>some (.new (.lst xs))
 | [.tup xs]=>some (.new (.lst xs))
 | _=>none
noncomputable def jI:List Dat→Option RV
 | [.lst xs]=>some (.val (.tup xs))
 | [.tup xs]=>some (.val (.tup xs))
 | _=>none
noncomputable def isI:Dat→Bool
 | .int _=>true
 | .bl _=>true
 | _=>false
noncomputable def isB:Dat→Bool
 | .bl _=>true
 | _=>false
noncomputable def isL:Dat→Bool
 | .lst _=>true
 | _=>false
noncomputable def isT:Dat→Bool
 | .tup _=>true
 | _=>false
noncomputable def bools:List Dat→Option (List Bool)
 | []=>some []
 | .bl b::r=>(bools r).map fun bs=>b::bs
 | _=>none
noncomputable def gC:List Dat→Option RV
 | [.lst xs]=>(match bools xs with
  | some bs=>vB (bs.all id)
  | none=>none)
 | _=>none
noncomputable def e7 (g h:Dat→Dat→Option RV) (a b c:FE):FE:=fun ρ=>match a ρ with
 | none=>none
 | some (x,ρ1)=>match b ρ1 with
  | none=>none
  | some (y,ρ2)=>match pk ρ2 x with
   | none=>none
   | some d=>match pk ρ2 y with
    | none=>none
    | some e=>match g d e with
     | some (.val (.bl true))=>(match c ρ2 with
      | none=>none
      | some (z,ρ3)=>match pk ρ3 y with
       | none=>none
       | some e'=>match pk ρ3 z with
        | none=>none
        | some f=>match h e' f with
         | none=>none
         | some v=>some (v.bW,ρ3))
     | some (.val (.bl false))=>some (.val (.bl false),ρ2)
     | _=>none
noncomputable def part:Option FE→Env→Option (Option Int×Env)
 | none,ρ=>some (none,ρ)
 | some f,ρ=>match f ρ with
  | some (.val (.int i),ρ1)=>some (some i,ρ1)
  | _=>none
noncomputable def eSl (a:FE) (lo hi:Option FE):FE:=fun ρ=>match a ρ with
 | none=>none
 | some (x,ρ1)=>match part lo ρ1 with
  | none=>none
  | some (l,ρ2)=>match part hi ρ2 with
   | none=>none
   | some (h,ρ3)=>match pk ρ3 x with
    | some (.lst xs)=>some (.new (.lst (cut xs l h)),ρ3)
    | _=>none
noncomputable def Ow:Dat→Dat→Option RV
 | .bl b,.bl c=>vB (b == c)
 | _,_=>none
noncomputable def ji:Dat→Dat→Option RV
 | .bl b,.bl c=>vB (b != c)
 | _,_=>none
noncomputable def qo:Dat→Option RV
 | .lst xs=>some (.new (.lst xs.reverse))
 | _=>none
noncomputable def Al:List Dat→Option RV
 | [.int i]=>vI i
 | [.bl b]=>vI (b2i b)
 | _=>none
end Dm
namespace Br
open PySem L2
noncomputable def kP (p:Int×Int):List Key:=[Sum.inl p.1,Sum.inl p.2]
noncomputable def jJ (H:Hp):List Addr→List (Int×Int)→Prop
 | [],[]=>True
 | t::ts,p::ks=>H t=some (.tup [V.int p.1,V.int p.2])∧jJ H ts ks
 | _,_=>False
theorem jJ.mono {H H':Hp} (s:az H H'):∀ {ts:List Addr} {ks:List (Int×Int)},jJ H ts ks→jJ H' ts ks
 | [],[],_=>trivial
 | _::_,_::_,h=>⟨s _ _ h.1,jJ.mono s h.2⟩
 | [],_::_,h=>h
 | _::_,[],h=>h
noncomputable def Am (H:Hp) (x:List (List Key×V)×List Addr) (ks:List (Int×Int)):Prop:=x.1.map (·.1)=ks.map kP∧jJ H x.2 ks
theorem Am.mono {H H':Hp} (s:az H H') {x:List (List Key×V)×List Addr} {ks:List (Int×Int)} (h:Am H x ks):Am H' x ks:=⟨h.1,h.2.mono s⟩
mutual
inductive Rep (H:Hp):V→Dm.Dat→Prop
 | non:Rep H V.non Dm.Dat.non
 | bl (b:Bool):Rep H (V.bl b) (Dm.Dat.bl b)
 | int (i:Int):Rep H (V.int i) (Dm.Dat.int i)
 | str (s:List Nat):Rep H (V.str ⟨s.toArray⟩) (Dm.Dat.str s)
 | tup {a:Addr} {xs:List V} {ds:List Dm.Dat}:H a=some (.tup xs)→aF H xs ds→Rep H (V.ref a) (Dm.Dat.tup ds)
 | lst {a:Addr} {xs:List V} {ds:List Dm.Dat}:Rd H a (.lst xs)→aF H xs ds→Rep H (V.ref a) (Dm.Dat.lst ds)
 | dct {a:Addr} {kvs:List (Key×V)} {ks:List Int} {ds:List Dm.Dat}:H a=some (.dK kvs)→kvs.map (·.1)=ks.map Sum.inl→aF H (kvs.map (·.2)) ds→Rep H (V.ref a) (Dm.Dat.dct ks ds)
 | dcp {a:Addr} {x:List (List Key×V)×List Addr} {ks:List (Int×Int)} {ds:List Dm.Dat}:H a=some (.dT x.1 x.2)→Am H x ks→aF H (x.1.map (·.2)) ds→Rep H (V.ref a) (Dm.Dat.dcp ks ds)
 | exc {a:Addr} {C:Nat}:H a=some (.ext fun h=>∃ o,h.get? a=some o∧o.cls=.ref C)→Rep H (V.ref a) (Dm.Dat.exc C)
 | fn (a:Addr):Rep H (V.ref a) (Dm.Dat.fn a)
inductive aF (H:Hp):List V→List Dm.Dat→Prop
 | nil:aF H [] []
 | cons {v:V} {d:Dm.Dat} {vs:List V} {ds:List Dm.Dat}:Rep H v d→aF H vs ds→aF H (v::vs) (d::ds)
end
theorem az.rd {H H':Hp} (s:az H H') {a:Addr} {u:HO} (h:Rd H a u):Rd H' a u:=by
 rcases h with h | ⟨o,h⟩
 ·exact .inl (s _ _ h)
 ·exact .inr ⟨o,s _ _ h⟩
mutual
theorem Rep.mono {H H':Hp} (s:az H H'):∀ {v:V} {d:Dm.Dat},Rep H v d→Rep H' v d
 | _,_,.non=>.non
 | _,_,.bl b=>.bl b
 | _,_,.int i=>.int i
 | _,_,.str x=>.str x
 | _,_,.tup h r=>.tup (s _ _ h) (aF.mono s r)
 | _,_,.lst h r=>.lst (az.rd s h) (aF.mono s r)
 | _,_,.dct h e r=>.dct (s _ _ h) e (aF.mono s r)
 | _,_,.dcp h e r=>.dcp (s _ _ h) (e.mono s) (aF.mono s r)
 | _,_,.exc h=>.exc (s _ _ h)
 | _,_,.fn a=>.fn a
theorem aF.mono {H H':Hp} (s:az H H'):∀ {vs:List V} {ds:List Dm.Dat},aF H vs ds→aF H' vs ds
 | _,_,.nil=>.nil
 | _,_,.cons h r=>.cons (Rep.mono s h) (aF.mono s r)
end
theorem aF.length {H:Hp}:∀ {vs:List V} {ds:List Dm.Dat},aF H vs ds→vs.length=ds.length
 | _,_,.nil=>rfl
 | _,_,.cons _ r=>by simp [aF.length r]
theorem aF.get {H:Hp}:∀ {vs:List V} {ds:List Dm.Dat} {i:Nat} {d:Dm.Dat},aF H vs ds→ds[i]?=some d→∃ v,vs[i]?=some v∧Rep H v d
 | _,_,_,_,.nil,e=>by simp at e
 | _,_,0,_,.cons h _,e=>by simp at e;subst e;exact ⟨_,rfl,h⟩
 | _,_,i+1,_,.cons _ r,e=>by
  obtain ⟨v,h1,h2⟩:=aF.get (i:=i) r (by simpa using e)
  exact ⟨v,by simpa using h1,h2⟩
theorem aF.append {H:Hp}:∀ {vs ws:List V} {ds es:List Dm.Dat},aF H vs ds→aF H ws es→aF H (vs++ws) (ds++es)
 | _,_,_,_,.nil,s=>s
 | _,_,_,_,.cons h r,s=>.cons h (aF.append r s)
theorem aF.take {H:Hp}:∀ {vs:List V} {ds:List Dm.Dat} (n:Nat),aF H vs ds→aF H (vs.take n) (ds.take n)
 | _,_,0,_=>by simpa using aF.nil
 | _,_,_+1,.nil=>by simpa using aF.nil
 | _,_,n+1,.cons h r=>by simpa using aF.cons h (aF.take n r)
theorem aF.drop {H:Hp}:∀ {vs:List V} {ds:List Dm.Dat} (n:Nat),aF H vs ds→aF H (vs.drop n) (ds.drop n)
 | _,_,0,r=>by simpa using r
 | _,_,_+1,.nil=>by simpa using aF.nil
 | _,_,n+1,.cons _ r=>by simpa using aF.drop n r
theorem aF.set {H:Hp} {v:V} {d:Dm.Dat} (h:Rep H v d):∀ {vs:List V} {ds:List Dm.Dat} (i:Nat),aF H vs ds→aF H (vs.set i v) (ds.set i d)
 | _,_,_,.nil=>.nil
 | _,_,0,.cons _ r=>.cons h r
 | _,_,i+1,.cons q r=>.cons q (aF.set h i r)
theorem aF.reverse {H:Hp}:∀ {vs:List V} {ds:List Dm.Dat},aF H vs ds→aF H vs.reverse ds.reverse
 | _,_,.nil=>.nil
 | _,_,.cons h r=>by
  rw [List.reverse_cons,List.reverse_cons]
  exact aF.append (aF.reverse r) (.cons h .nil)
theorem aF.rep {H:Hp} {vs:List V} {ds:List Dm.Dat} (r:aF H vs ds):∀ k:Nat,aF H (List.replicate k vs).flatten (List.replicate k ds).flatten
 | 0=>by simpa using aF.nil
 | k+1=>by
  rw [List.replicate_succ,List.replicate_succ,List.flatten_cons,List.flatten_cons]
  exact aF.append r (aF.rep r k)
noncomputable def Own (H0 H:Hp) (a:Addr):Dm.Dat→Prop
 | .lst ds=>∃ xs,H a=some (.lst xs)∧aF H0 xs ds
 | .dct ks ds=>∃ kvs:List (Key×V),H a=some (.dK kvs)∧kvs.map (·.1)=ks.map Sum.inl∧aF H0 (kvs.map (·.2)) ds
 | .dcp ks ds=>∃ x:List (List Key×V)×List Addr,H a=some (.dT x.1 x.2)∧Am H0 x ks∧aF H0 (x.1.map (·.2)) ds
 | _=>False
theorem Own.some {H0 H:Hp} {a:Addr} {d:Dm.Dat} (h:Own H0 H a d):∃ o,H a=some o:=by
 cases d with
 | lst ds=>obtain ⟨xs,e,_⟩:=h;exact ⟨_,e⟩
 | dct ks ds=>obtain ⟨xs,e,_⟩:=h;exact ⟨_,e⟩
 | dcp ks ds=>obtain ⟨xs,e,_⟩:=h;exact ⟨_,e⟩
 | _=>exact False.elim h
theorem Own.mono {H0 H H0' H':Hp} {a:Addr} {d:Dm.Dat} (h:Own H0 H a d) (s:az H0 H0') (e:H' a=H a):Own H0' H' a d:=by
 cases d with
 | lst ds=>obtain ⟨xs,q,r⟩:=h;exact ⟨xs,by rw [e];exact q,r.mono s⟩
 | dct ks ds=>obtain ⟨xs,q,k,r⟩:=h;exact ⟨xs,by rw [e];exact q,k,r.mono s⟩
 | dcp ks ds=>obtain ⟨xs,q,k,r⟩:=h;exact ⟨xs,by rw [e];exact q,k.mono s,r.mono s⟩
 | _=>exact False.elim h
noncomputable def kH (H0 H:Hp) (v:V) (d:Dm.Dat):Prop:=Rep H0 v d∨∃ a,v=V.ref a∧Own H0 H a d
inductive rJ (H0 H:Hp):List V→List Dm.Dat→Prop
 | nil:rJ H0 H [] []
 | cons {v:V} {d:Dm.Dat} {vs:List V} {ds:List Dm.Dat}:kH H0 H v d→rJ H0 H vs ds→rJ H0 H (v::vs) (d::ds)
noncomputable def shr (H0 H:Hp) (a:Addr):Hp:=fun b=>if b=a then H a else H0 b
theorem cZ {H0 H:Hp} {a:Addr}:shr H0 H a a=H a:=by unfold shr;rw [if_pos rfl]
theorem gT {H0 H:Hp} {a b:Addr} (h:b≠a):shr H0 H a b=H0 b:=by unfold shr;rw [if_neg h]
theorem eN {H0 H:Hp} {a:Addr} (h:H0 a=none):az H0 (shr H0 H a):=fun b o e=>by
 by_cases q:b=a
 ·subst q;rw [h] at e;cases e
 ·rw [gT q];exact e
theorem wI {H0 H:Hp} {a:Addr} (s:az H0 H):az (shr H0 H a) H:=fun b o e=>by
 by_cases q:b=a
 ·subst q;rw [cZ] at e;exact e
 ·rw [gT q] at e;exact s _ _ e
theorem Own.rep {H0 H:Hp} {a:Addr} {d:Dm.Dat} (h:Own H0 H a d) (n:H0 a=none):Rep (shr H0 H a) (V.ref a) d:=by
 cases d with
 | lst ds=>obtain ⟨xs,q,r⟩:=h;exact .lst (.inl (by rw [cZ];exact q)) (r.mono (eN n))
 | dct ks ds=>obtain ⟨xs,q,k,r⟩:=h;exact .dct (by rw [cZ];exact q) k (r.mono (eN n))
 | dcp ks ds=>obtain ⟨xs,q,k,r⟩:=h;exact .dcp (by rw [cZ];exact q) (k.mono (eN n)) (r.mono (eN n))
 | _=>exact False.elim h
noncomputable def ao (σ:St) (ρ:Dm.Env) (a:Addr):Prop:=∃ (i:Nat) (d:Dm.Dat),ρ[i]?=some (Dm.Cell.ow d)∧σ[i]?=some (some (V.ref a))
noncomputable abbrev Def (_:Dm.Env) (_:Nat):Prop:=True
structure aC (H0 H:Hp) (σ:St) (ρ:Dm.Env):Prop where
 same:az H0 H
 len:σ.length=ρ.length
 sh:∀ (i:Nat) (d:Dm.Dat),ρ[i]?=some (Dm.Cell.sh d)→∃ v,σ[i]?=some (some v)∧Rep H0 v d
 ow:∀ (i:Nat) (d:Dm.Dat),ρ[i]?=some (Dm.Cell.ow d)→∃ a,σ[i]?=some (some (V.ref a))∧H0 a=none∧Own H0 H a d
 dis:∀ (i j:Nat) (d e:Dm.Dat) (a:Addr),ρ[i]?=some (Dm.Cell.ow d)→ρ[j]?=some (Dm.Cell.ow e)→σ[i]?=some (some (V.ref a))→σ[j]?=some (some (V.ref a))→i=j
structure Stp (O:Addr→Prop) (H0 H H0' H':Hp):Prop where
 s0:az H0 H0'
 s1:∀ a o,H a=some o→¬ O a→H' a=some o
 s2:∀ a o,H0' a=some o→H a=none∨H0 a=some o∨O a
 s3:∀ a o,H a=some o→∃ o',H' a=some o'
theorem Stp.refl (O:Addr→Prop) (H0 H:Hp):Stp O H0 H H0 H:=⟨az.refl _,fun _ _ e _=>e,fun _ _ e=>.inr (.inl e),fun _ o e=>⟨o,e⟩⟩
theorem Stp.gone {O:Addr→Prop} {H0 H H0' H':Hp} (t:Stp O H0 H H0' H') {a:Addr} (h:H' a=none):H a=none:=by
 cases q:H a with
 | none=>rfl
 | some o=>obtain ⟨o',e⟩:=t.s3 a o q;rw [h] at e;cases e
theorem Stp.trans {O1 O2:Addr→Prop} {H0 H H1 H' H2 H'':Hp} (t:Stp O1 H0 H H1 H') (u:Stp O2 H1 H' H2 H'') (k:∀ a,O2 a→O1 a∨H a=none):Stp O1 H0 H H2 H'' where
 s0:=t.s0.trans u.s0
 s1:=fun a o e n=>u.s1 a o (t.s1 a o e n) fun z=>(k a z).elim n fun q=>by rw [q] at e;cases e
 s2:=fun a o e=>by
  rcases u.s2 a o e with q | q | q
  ·exact .inl (t.gone q)
  ·exact t.s2 a o q
  ·rcases k a q with z | z
   ·exact .inr (.inr z)
   ·exact .inl z
 s3:=fun a o e=>by
  obtain ⟨o',e'⟩:=t.s3 a o e
  exact u.s3 a o' e'
theorem Stp.wide {O O':Addr→Prop} {H0 H H0' H':Hp} (t:Stp O H0 H H0' H') (k:∀ a,O a→O' a):Stp O' H0 H H0' H':=
 ⟨t.s0,fun a o e n=>t.s1 a o e fun z=>n (k a z),fun a o e=>(t.s2 a o e).imp id (Or.imp id (k a)),t.s3⟩
structure aQ (H0 H H0' H':Hp):Prop where
 s0:az H0 H0'
 s1:az H H'
 s2:∀ a o,H0' a=some o→H a=none∨H0 a=some o
 s3:az H0' H'
theorem aQ.refl {H0 H:Hp} (s:az H0 H):aQ H0 H H0 H:=⟨az.refl _,az.refl _,fun _ _ e=>.inr e,s⟩
theorem aQ.stp {H0 H H0' H':Hp} (g:aQ H0 H H0' H') (O:Addr→Prop):Stp O H0 H H0' H':=
 ⟨g.s0,fun a o e _=>g.s1 a o e,fun a o e=>(g.s2 a o e).imp id .inl,fun a o e=>⟨o,g.s1 a o e⟩⟩
theorem aQ.rK {H0 H:Hp} (s:az H0 H) {p:Addr} {o:HO} (n:H p=none):aQ H0 H (upd H0 p o) (upd H p o) where
 s0:=fun b u e=>by rw [aB (aP e (s.free n))];exact e
 s1:=fun b u e=>by rw [aB (aP e n)];exact e
 s2:=fun b u e=>by
  by_cases q:b=p
  ·subst q;exact .inl n
  ·rw [aB q] at e;exact .inr e
 s3:=fun b u e=>by
  by_cases q:b=p
  ·subst q;rw [ay] at e ⊢;exact e
  ·rw [aB q] at e ⊢;exact s _ _ e
theorem aQ.lN {H0 H:Hp} (s:az H0 H) {p:Addr} {o:HO} (n:H p=none):aQ H0 H H0 (upd H p o) where
 s0:=az.refl _
 s1:=fun b u e=>by rw [aB (aP e n)];exact e
 s2:=fun b u e=>.inr e
 s3:=fun b u e=>by rw [aB (aP (s _ _ e) n)];exact s _ _ e
noncomputable def fL (Hs H0 H:Hp) (σ:St) (ρ:Dm.Env) (v:V):Dm.Val→Prop
 | .val d=>Rep H0 v d
 | .slot i=>σ[i]?=some (some v)∧Def ρ i
 | .new d=>∃ a,v=V.ref a∧Hs a=none∧¬ ao σ ρ a∧H0 a=none∧Own H0 H a d
structure ESt (σ:St) (ρ:Dm.Env) (H0 H:Hp) (ρ':Dm.Env) (H0' H':Hp):Prop where
 st:aC H0' H' σ ρ'
 stp:Stp (ao σ ρ) H0 H H0' H'
 own:∀ a,ao σ ρ' a→ao σ ρ a
 dfn:∀ i,Def ρ i→Def ρ' i
theorem ESt.refl {σ:St} {ρ:Dm.Env} {H0 H:Hp} (st:aC H0 H σ ρ):ESt σ ρ H0 H ρ H0 H:=⟨st,Stp.refl _ _ _,fun _ z=>z,fun _ z=>z⟩
theorem ESt.trans {σ:St} {ρ ρ1 ρ2:Dm.Env} {H0 H H1 H' H2 H'':Hp} (t:ESt σ ρ H0 H ρ1 H1 H') (u:ESt σ ρ1 H1 H' ρ2 H2 H''):ESt σ ρ H0 H ρ2 H2 H'':=
 ⟨u.st,t.stp.trans u.stp fun a z=>.inl (t.own a z),fun a z=>t.own a (u.own a z),fun i z=>u.dfn i (t.dfn i z)⟩
theorem aC.grow {σ:St} {ρ:Dm.Env} {H0 H H0' H':Hp} (st:aC H0 H σ ρ) (g:aQ H0 H H0' H'):aC H0' H' σ ρ where
 same:=g.s3
 len:=st.len
 sh:=fun i d e=>by
  obtain ⟨v,q,r⟩:=st.sh i d e
  exact ⟨v,q,r.mono g.s0⟩
 ow:=fun i d e=>by
  obtain ⟨a,q,n,w⟩:=st.ow i d e
  obtain ⟨o,z⟩:=w.some
  refine ⟨a,q,?_,w.mono g.s0 ((g.s1 a o z).trans z.symm)⟩
  cases y:H0' a with
  | none=>rfl
  | some u=>
   rcases g.s2 a u y with k | k
   ·rw [z] at k;cases k
   ·rw [n] at k;cases k
 dis:=st.dis
theorem ESt.grow {σ:St} {ρ:Dm.Env} {H0 H H0' H':Hp} (st:aC H0 H σ ρ) (g:aQ H0 H H0' H'):ESt σ ρ H0 H ρ H0' H':=
 ⟨st.grow g,g.stp _,fun _ z=>z,fun _ z=>z⟩
theorem fL.mono {Hs H0 H H0' H':Hp} {σ:St} {ρ ρ':Dm.Env} {v:V} {x:Dm.Val} (r:fL Hs H0 H σ ρ v x) (t:ESt σ ρ H0 H ρ' H0' H'):fL Hs H0' H' σ ρ' v x:=by
 cases x with
 | val d=>exact Rep.mono t.stp.s0 r
 | slot i=>exact ⟨r.1,t.dfn i r.2⟩
 | new d=>
  obtain ⟨a,e,n,no,n0,w⟩:=r
  obtain ⟨o,z⟩:=w.some
  refine ⟨a,e,n,fun y=>no (t.own a y),?_,w.mono t.stp.s0 ((t.stp.s1 a o z no).trans z.symm)⟩
  cases y:H0' a with
  | none=>rfl
  | some u=>
   rcases t.stp.s2 a u y with k | k | k
   ·rw [z] at k;cases k
   ·rw [n0] at k;cases k
   ·exact absurd k no
theorem fL.early {Hs Hs' H0 H:Hp} {σ:St} {ρ:Dm.Env} {v:V} {x:Dm.Val} (r:fL Hs H0 H σ ρ v x) (k:∀ a,Hs a=none→Hs' a=none):fL Hs' H0 H σ ρ v x:=by
 cases x with
 | val d=>exact r
 | slot i=>exact r
 | new d=>obtain ⟨a,e,n,z⟩:=r;exact ⟨a,e,k a n,z⟩
theorem fL.look {Hs H0 H:Hp} {σ:St} {ρ:Dm.Env} {v:V} {x:Dm.Val} {d:Dm.Dat} (r:fL Hs H0 H σ ρ v x) (st:aC H0 H σ ρ) (e:Dm.pk ρ x=some d):kH H0 H v d:=by
 cases x with
 | val d'=>cases e;exact .inl r
 | new d'=>
  cases e
  obtain ⟨a,e,_,_,_,w⟩:=r
  exact .inr ⟨a,e,w⟩
 | slot i=>
  obtain ⟨q,_⟩:=r
  unfold Dm.pk at e
  dsimp only at e
  split at e
  ·rename_i d' h
   cases e
   obtain ⟨a,z,_,w⟩:=st.ow i d h
   rw [q] at z
   cases z
   exact .inr ⟨a,rfl,w⟩
  ·rename_i d' h
   cases e
   obtain ⟨u,z,w⟩:=st.sh i d h
   rw [q] at z
   cases z
   exact .inl w
  ·cases e
noncomputable def uQ (Hs H0 H:Hp) (v:V):Dm.RV→Prop
 | .val d=>Rep H0 v d
 | .new d=>∃ a,v=V.ref a∧Hs a=none∧H0 a=none∧Own H0 H a d
theorem uQ.toV {H H0' H' H0:Hp} {σ:St} {ρ:Dm.Env} {v:V} {z:Dm.RV} (r:uQ H H0' H' v z) (st:aC H0 H σ ρ):fL H H0' H' σ ρ v z.bW:=by
 cases z with
 | val d=>exact r
 | new d=>
  obtain ⟨a,e,n,n0,w⟩:=r
  refine ⟨a,e,n,fun ⟨i,d',h1,h2⟩=>?_,n0,w⟩
  obtain ⟨a',q,_,w'⟩:=st.ow i d' h1
  rw [h2] at q
  cases q
  obtain ⟨o,z⟩:=w'.some
  rw [n] at z;cases z
noncomputable def tD (f:Dm.FE):TE:=fun σ H Q=>∃ H0 ρ x ρ',aC H0 H σ ρ∧f ρ=some (x,ρ')∧∀ v H0' H',ESt σ ρ H0 H ρ' H0' H'→fL H H0' H' σ ρ' v x→Q v H'
noncomputable def tDT (f:Dm.FT):TT:=fun σ H Q=>∃ H0 ρ b ρ',aC H0 H σ ρ∧f ρ=some (b,ρ')∧∀ H0' H',ESt σ ρ H0 H ρ' H0' H'→Q b H'
inductive bY (Hs H0 H:Hp) (σ:St) (ρ:Dm.Env):List V→List Dm.Val→Prop
 | nil:bY Hs H0 H σ ρ [] []
 | cons {v:V} {x:Dm.Val} {vs:List V} {xs:List Dm.Val}:fL Hs H0 H σ ρ v x→bY Hs H0 H σ ρ vs xs→bY Hs H0 H σ ρ (v::vs) (x::xs)
noncomputable def tDA (fs:List Dm.FE):TA:=fun σ H Q=>∃ H0 ρ xs ρ',aC H0 H σ ρ∧Dm.eAs fs ρ=some (xs,ρ')∧∀ vs H0' H',ESt σ ρ H0 H ρ' H0' H'→bY H H0' H' σ ρ' vs xs→Q vs H'
noncomputable abbrev DE (X:Cx) (e:Expr) (f:Dm.FE):Prop:=PE X e (tD f)
noncomputable abbrev DT (X:Cx) (e:Expr) (f:Dm.FT):Prop:=PT X e (tDT f)
noncomputable abbrev DA (X:Cx) (es:List Expr) (fs:List Dm.FE):Prop:=PA X es (tDA fs)
theorem PE.weak {X:Cx} {e:Expr} {t t':TE} (h:PE X e t) (k:∀ σ H Q,t' σ H Q→t σ H Q):PE X e t':=fun pins s σ H Q I q=>h pins s σ H Q I (k σ H Q q)
theorem PT.weak {X:Cx} {e:Expr} {t t':TT} (h:PT X e t) (k:∀ σ H Q,t' σ H Q→t σ H Q):PT X e t':=fun pins s σ H Q I q=>h pins s σ H Q I (k σ H Q q)
theorem PA.weak {X:Cx} {es:List Expr} {t t':TA} (h:PA X es t) (k:∀ σ H Q,t' σ H Q→t σ H Q):PA X es t':=fun pos pins s σ H Q I q=>h pos pins s σ H Q I (k σ H Q q)
theorem PS.weak {X:Cx} {st:Stmt} {t t':TS} (h:PS X st t) (k:∀ D σ H,t' D σ H→t D σ H):PS X st t':=fun pins s σ H D I q=>h pins s σ H D I (k D σ H q)
theorem PSs.weak {X:Cx} {st:List Stmt} {t t':TS} (h:PSs X st t) (k:∀ D σ H,t' D σ H→t D σ H):PSs X st t':=fun pins s σ H D I q=>h pins s σ H D I (k D σ H q)
theorem cD {H0 H:Hp} {a:Addr} (s:az H0 H):az H0 (shr H0 H a):=fun b o e=>by
 by_cases q:b=a
 ·subst q;rw [cZ];exact s _ _ e
 ·rw [gT q];exact e
theorem Own.Lo {H0 H0c H:Hp} {a:Addr} {d:Dm.Dat} (h:Own H0 H a d) (b:az H0 H0c) (s:az H0c H):Rep (shr H0c H a) (V.ref a) d:=by
 cases d with
 | lst ds=>obtain ⟨xs,q,r⟩:=h;exact .lst (.inl (by rw [cZ];exact q)) (r.mono (b.trans (cD s)))
 | dct ks ds=>obtain ⟨xs,q,k,r⟩:=h;exact .dct (by rw [cZ];exact q) k (r.mono (b.trans (cD s)))
 | dcp ks ds=>obtain ⟨xs,q,k,r⟩:=h;exact .dcp (by rw [cZ];exact q) (k.mono (b.trans (cD s))) (r.mono (b.trans (cD s)))
 | _=>exact False.elim h
theorem fL.rho {Hs H0 H:Hp} {σ:St} {ρ ρ':Dm.Env} {v:V} {x:Dm.Val} (r:fL Hs H0 H σ ρ v x) (o:∀ a,ao σ ρ' a→ao σ ρ a) (d:∀ i,Def ρ i→Def ρ' i):fL Hs H0 H σ ρ' v x:=by
 cases x with
 | val d=>exact r
 | slot i=>exact ⟨r.1,d i r.2⟩
 | new d=>obtain ⟨a,e,n,no,z⟩:=r;exact ⟨a,e,n,fun y=>no (o a y),z⟩
theorem bY.rho {Hs H0 H:Hp} {σ:St} {ρ ρ':Dm.Env} (o:∀ a,ao σ ρ' a→ao σ ρ a) (d:∀ i,Def ρ i→Def ρ' i):∀ {vs:List V} {xs:List Dm.Val},bY Hs H0 H σ ρ vs xs→bY Hs H0 H σ ρ' vs xs
 | _,_,.nil=>.nil
 | _,_,.cons h r=>.cons (h.rho o d) (bY.rho o d r)
theorem bY.early {Hs Hs' H0 H:Hp} {σ:St} {ρ:Dm.Env} (k:∀ a,Hs a=none→Hs' a=none):∀ {vs:List V} {xs:List Dm.Val},bY Hs H0 H σ ρ vs xs→bY Hs' H0 H σ ρ vs xs
 | _,_,.nil=>.nil
 | _,_,.cons h r=>.cons (h.early k) (bY.early k r)
theorem aT {ρ:Dm.Env} {i j:Nat} {c d:Dm.Cell} (h:(ρ.set i c)[j]?=some d):(j=i∧d=c)∨(j≠i∧ρ[j]?=some d):=by
 by_cases e:j=i
 ·subst e
  by_cases l:j<ρ.length
  ·rw [List.getElem?_set_self l] at h
   exact .inl ⟨rfl,(Option.some.inj h).symm⟩
  ·rw [List.getElem?_eq_none (by simpa using Nat.not_lt.mp l)] at h
   cases h
 ·rw [List.getElem?_set_ne (Ne.symm e)] at h
  exact .inr ⟨e,h⟩
theorem uR {H0 H:Hp} {σ:St} {ρ:Dm.Env} {i:Nat} {a:Addr} {d:Dm.Dat} (st:aC H0 H σ ρ) (e:ρ[i]?=some (.ow d)) (q:σ[i]?=some (some (V.ref a))) :
  aC (shr H0 H a) H σ (ρ.set i (.sh d))∧(∀ b,ao σ (ρ.set i (.sh d)) b→ao σ ρ b)∧∀ j,Def ρ j→Def (ρ.set i (.sh d)) j:=by
 obtain ⟨a',q',n,w⟩:=st.ow i d e
 rw [q] at q'
 cases q'
 have hil:i<ρ.length:=(List.getElem?_eq_some_iff.mp e).1
 refine ⟨⟨wI st.same,by rw [List.length_set];exact st.len,fun j d' h=>?_,fun j d' h=>?_,fun j k d1 d2 b h1 h2 h3 h4=>?_⟩,fun b ⟨j,d',h1,h2⟩=>?_,fun j h=>?_⟩
 ·rcases aT h with ⟨rfl,z⟩ | ⟨_,h⟩
  ·cases z
   exact ⟨_,q,w.rep n⟩
  ·obtain ⟨v,z,r⟩:=st.sh j d' h
   exact ⟨v,z,r.mono (eN n)⟩
 ·rcases aT h with ⟨_,z⟩ | ⟨hj,h⟩
  ·cases z
  ·obtain ⟨b,z,n',w'⟩:=st.ow j d' h
   have nb:b≠a:=fun y=>hj (st.dis j i d' d a h e (y▸z) q)
   exact ⟨b,z,by rw [gT nb];exact n',w'.mono (eN n) rfl⟩
 ·rcases aT h1 with ⟨_,z⟩ | ⟨_,h1⟩
  ·cases z
  ·rcases aT h2 with ⟨_,z⟩ | ⟨_,h2⟩
   ·cases z
   ·exact st.dis j k d1 d2 b h1 h2 h3 h4
 ·rcases aT h1 with ⟨_,z⟩ | ⟨_,h1⟩
  ·cases z
  ·exact ⟨j,d',h1,h2⟩
 ·trivial
theorem yN {H0 H:Hp} {σ:St} {ρ:Dm.Env} {a:Addr} (st:aC H0 H σ ρ) (no:¬ ao σ ρ a):aC (shr H0 H a) H σ ρ where
 same:=wI st.same
 len:=st.len
 sh:=fun j d h=>by
  obtain ⟨v,z,r⟩:=st.sh j d h
  exact ⟨v,z,r.mono (cD st.same)⟩
 ow:=fun j d h=>by
  obtain ⟨b,z,n',w'⟩:=st.ow j d h
  have nb:b≠a:=fun y=>no ⟨j,d,h,y▸z⟩
  exact ⟨b,z,by rw [gT nb];exact n',w'.mono (cD st.same) rfl⟩
 dis:=st.dis
theorem take1 {Hs H0s H0 H0c H:Hp} {σ:St} {ρs ρ ρ':Dm.Env} {v:V} {x:Dm.Val} {d:Dm.Dat} (t:ESt σ ρs H0s Hs ρ H0c H) (b:az H0 H0c) (r:fL Hs H0 H σ ρ v x) (e:Dm.tk ρ x=some (d,ρ')) :
  ∃ lO,ESt σ ρs H0s Hs ρ' lO H∧az H0c lO∧Rep lO v d∧(∀ a,ao σ ρ' a→ao σ ρ a)∧∀ i,Def ρ i→Def ρ' i:=by
 cases x with
 | val d'=>cases e;exact ⟨H0c,t,az.refl _,Rep.mono b r,fun _ z=>z,fun _ z=>z⟩
 | new d'=>
  cases e
  obtain ⟨a,e,n,no,n0,w⟩:=r
  subst e
  have ss:=cD (a:=a) t.st.same
  refine ⟨shr H0c H a,⟨yN t.st no,⟨t.stp.s0.trans ss,t.stp.s1,fun c o q=>?_,t.stp.s3⟩,t.own,t.dfn⟩,ss,w.Lo b t.st.same,fun _ z=>z,fun _ z=>z⟩
  by_cases y:c=a
  ·subst y;exact .inl n
  ·rw [gT y] at q;exact t.stp.s2 c o q
 | slot i=>
  obtain ⟨q,_⟩:=r
  unfold Dm.tk at e
  dsimp only at e
  split at e
  ·rename_i d' h
   cases e
   obtain ⟨a,z,n,w⟩:=t.st.ow i _ h
   rw [q] at z
   cases z
   obtain ⟨s1,s2,s3⟩:=uR t.st h q
   have ss:=cD (a:=a) t.st.same
   refine ⟨shr H0c H a,⟨s1,⟨t.stp.s0.trans ss,t.stp.s1,fun c o q'=>?_,t.stp.s3⟩,fun b z=>t.own b (s2 b z),fun j z=>s3 j (t.dfn j z)⟩,ss,w.Lo (az.refl _) t.st.same,s2,s3⟩
   by_cases y:c=a
   ·subst y;exact .inr (.inr (t.own c ⟨i,_,h,q⟩))
   ·rw [gT y] at q';exact t.stp.s2 c o q'
  ·rename_i d' h
   cases e
   obtain ⟨u,z,w⟩:=t.st.sh i _ h
   rw [q] at z
   cases z
   exact ⟨H0c,t,az.refl _,w,fun _ z=>z,fun _ z=>z⟩
  ·cases e
theorem takes {Hs H0s H0 H:Hp} {σ:St} {ρs:Dm.Env}:∀ {xs:List Dm.Val} {vs:List V} {ρ ρ':Dm.Env} {ds:List Dm.Dat} {H0c:Hp},ESt σ ρs H0s Hs ρ H0c H→az H0 H0c→bY Hs H0 H σ ρ vs xs→Dm.tks ρ xs=some (ds,ρ') →
  ∃ lO,ESt σ ρs H0s Hs ρ' lO H∧az H0c lO∧aF lO vs ds
 | [],_,ρ,ρ',ds,H0c,t,b,r,e=>by
  cases r
  cases e
  exact ⟨H0c,t,az.refl _,.nil⟩
 | x::xs,_,ρ,ρ',ds,H0c,t,b,r,e=>by
  cases r with
  | cons h r=>
   unfold Dm.tks at e
   split at e
   ·cases e
   ·rename_i d ρ1 e1
    split at e
    ·cases e
    ·rename_i ds' ρ2 e2
     cases e
     obtain ⟨H1,t1,b1,r1,o1,d1⟩:=take1 t b h e1
     obtain ⟨H2,t2,b2,r2⟩:=takes t1 (b.trans b1) (r.rho o1 d1) e2
     exact ⟨H2,t2,b1.trans b2,.cons (r1.mono b2) r2⟩
theorem Lp {ρ ρ':Dm.Env} {x:Dm.Val} {d:Dm.Dat} (e:Dm.tk ρ x=some (d,ρ')) (y:Dm.Val):Dm.pk ρ' y=Dm.pk ρ y:=by
 cases x with
 | val d'=>cases e;rfl
 | new d'=>cases e;rfl
 | slot i=>
  unfold Dm.tk at e
  dsimp only at e
  split at e
  ·rename_i d' h
   cases e
   cases y with
   | val _=>rfl
   | new _=>rfl
   | slot j=>
    unfold Dm.pk
    dsimp only
    by_cases z:j=i
    ·subst z
     rw [List.getElem?_set_self (List.getElem?_eq_some_iff.mp h).1,h]
    ·rw [List.getElem?_set_ne (Ne.symm z)]
  ·cases e;rfl
  ·cases e
theorem An {ρ:Dm.Env} {x:Dm.Val} {d:Dm.Dat} (e:Dm.pk ρ x=some d):∃ ρ',Dm.tk ρ x=some (d,ρ'):=by
 cases x with
 | val d'=>cases e;exact ⟨ρ,rfl⟩
 | new d'=>cases e;exact ⟨ρ,rfl⟩
 | slot i=>
  unfold Dm.pk at e
  dsimp only at e
  unfold Dm.tk
  dsimp only
  split at e
  ·rename_i d' h;cases e;exact ⟨_,rfl⟩
  ·rename_i d' h;cases e;exact ⟨_,rfl⟩
  ·cases e
theorem lP:∀ {xs:List Dm.Val} {ρ:Dm.Env} {ds:List Dm.Dat},Dm.pks ρ xs=some ds→∃ ρ',Dm.tks ρ xs=some (ds,ρ')
 | [],ρ,ds,e=>by cases e;exact ⟨ρ,rfl⟩
 | x::xs,ρ,ds,e=>by
  unfold Dm.pks at e
  split at e
  ·cases e
  ·rename_i d e1
   split at e
   ·cases e
   ·rename_i ds' e2
    cases e
    obtain ⟨ρ1,h1⟩:=An e1
    have key:∀ ys:List Dm.Val,Dm.pks ρ1 ys=Dm.pks ρ ys:=fun ys=>by
     induction ys with
     | nil=>rfl
     | cons y ys ih=>unfold Dm.pks;rw [Lp h1 y,ih]
    obtain ⟨ρ2,h2⟩:=lP (xs:=xs) (ρ:=ρ1) (ds:=ds') (by rw [key];exact e2)
    exact ⟨ρ2,by unfold Dm.tks;rw [h1];dsimp only;rw [h2]⟩
theorem looks {Hs H0 H:Hp} {σ:St} {ρ:Dm.Env} (st:aC H0 H σ ρ):∀ {xs:List Dm.Val} {vs:List V} {ds:List Dm.Dat},bY Hs H0 H σ ρ vs xs→Dm.pks ρ xs=some ds→rJ H0 H vs ds
 | [],_,ds,r,e=>by cases r;cases e;exact .nil
 | x::xs,_,ds,r,e=>by
  cases r with
  | cons h r=>
   unfold Dm.pks at e
   split at e
   ·cases e
   ·rename_i d e1
    split at e
    ·cases e
    ·rename_i ds' e2
     cases e
     exact .cons (h.look st e1) (looks st r e2)
noncomputable def OpD (r:R2) (g:Dm.Dat→Dm.Dat→Option Dm.RV):Prop:=∀ (H0 H:Hp) (x y:V) (dx dy:Dm.Dat) (z:Dm.RV) (Q:VK),az H0 H→kH H0 H x dx→kH H0 H y dy→g dx dy=some z →
 (∀ v H0' H',aQ H0 H H0' H'→uQ H H0' H' v z→Q v H')→r x y H Q
noncomputable def CallD (r:List V→Hp→VK→Prop) (g:List Dm.Dat→Option Dm.RV):Prop:=∀ (H0 H:Hp) (vs:List V) (ds:List Dm.Dat) (z:Dm.RV) (Q:VK),az H0 H→rJ H0 H vs ds→g ds=some z →
 (∀ v H0' H',aQ H0 H H0' H'→uQ H H0' H' v z→Q v H')→r vs H Q
noncomputable def spD (f:List Dm.Dat→Option Dm.RV):Sp:=fun vs H Q _=>∃ H0 ds z,az H0 H∧aF H0 vs ds∧f ds=some z∧∀ v H0' H',aQ H0 H H0' H'→uQ H H0' H' v z→Q v H'
section
variable {σ:St} {H:Hp} {Q:VK}
theorem Lq {i:Nat} (h:tD (Dm.eV i) σ H Q):lg i σ H Q:=by
 obtain ⟨H0,ρ,x,ρ',st,e,k⟩:=h
 unfold Dm.eV at e
 split at e
 ·rename_i d h1
  cases e
  obtain ⟨v,q,r⟩:=st.sh i d h1
  exact ⟨v,q,k v H0 H (.refl st) r⟩
 ·rename_i d h1
  cases e
  obtain ⟨a,q,_⟩:=st.ow i d h1
  exact ⟨_,q,k _ H0 H (.refl st) ⟨q,trivial⟩⟩
 ·cases e
theorem kR {d:Dm.Dat} {v:V} (c:∀ H0:Hp,Rep H0 v d) (h:tD (Dm.eC d) σ H Q):tC v σ H Q:=by
 obtain ⟨H0,ρ,x,ρ',st,e,k⟩:=h
 cases e
 exact k v H0 H (.refl st) (c H0)
theorem uS {r:R2} {g:Dm.Dat→Dm.Dat→Option Dm.RV} {fa fb:Dm.FE} (o:OpD r g) (h:tD (Dm.e2 g fa fb) σ H Q):tOp r (tD fa) (tD fb) σ H Q:=by
 obtain ⟨H0,ρ,x,ρ',st,e,k⟩:=h
 unfold Dm.e2 at e
 split at e
 ·cases e
 rename_i x1 ρ1 e1
 split at e
 ·cases e
 rename_i y1 ρ2 e2
 split at e
 ·cases e
 rename_i dx p1
 split at e
 ·cases e
 rename_i dy p2
 split at e
 ·cases e
 rename_i z gz
 cases e
 refine ⟨H0,ρ,x1,ρ1,st,e1,fun v H1 Hb t1 r1=>⟨H1,ρ1,y1,_,t1.st,e2,fun u H2 Hc t2 r2=>?_⟩⟩
 refine o H2 Hc v u dx dy z Q t2.st.same ((r1.mono t2).look t2.st p1) (r2.look t2.st p2) gz fun w H3 Hd g3 r3=>?_
 exact k w H3 Hd (t1.trans (t2.trans (.grow t2.st g3))) ((r3.toV t2.st).early fun a n=>(t1.trans t2).stp.gone n)
theorem Lr {Q:List V→Hp→Prop} (h:tDA [] σ H Q):uI σ H Q:=by
 obtain ⟨H0,ρ,xs,ρ',st,e,k⟩:=h
 cases e
 exact k [] H0 H (.refl st) .nil
theorem IE {f:Dm.FE} {fs:List Dm.FE} {Q:List V→Hp→Prop} (h:tDA (f::fs) σ H Q):oS (tD f) (tDA fs) σ H Q:=by
 obtain ⟨H0,ρ,xs,ρ',st,e,k⟩:=h
 unfold Dm.eAs at e
 split at e
 ·cases e
 rename_i x1 ρ1 e1
 split at e
 ·cases e
 rename_i xs1 ρ2 e2
 cases e
 refine ⟨H0,ρ,x1,ρ1,st,e1,fun v H1 Hb t1 r1=>⟨H1,ρ1,xs1,_,t1.st,e2,fun vs H2 Hc t2 r2=>?_⟩⟩
 exact k (v::vs) H2 Hc (t1.trans t2) (.cons (r1.mono t2) (r2.early fun a n=>t1.stp.gone n))
theorem IF {r:List V→Hp→VK→Prop} {g:List Dm.Dat→Option Dm.RV} {fs:List Dm.FE} (o:CallD r g) (h:tD (Dm.eB g fs) σ H Q):tCB r (tDA fs) σ H Q:=by
 obtain ⟨H0,ρ,x,ρ',st,e,k⟩:=h
 unfold Dm.eB at e
 split at e
 ·cases e
 rename_i xs ρ1 e1
 split at e
 ·cases e
 rename_i ds p1
 split at e
 ·cases e
 rename_i z gz
 cases e
 refine ⟨H0,ρ,xs,_,st,e1,fun vs H1 Hb t1 r1=>?_⟩
 refine o H1 Hb vs ds z Q t1.st.same (looks t1.st r1 p1) gz fun w H3 Hd g3 r3=>?_
 exact k w H3 Hd (t1.trans (.grow t1.st g3)) ((r3.toV t1.st).early fun a n=>t1.stp.gone n)
theorem gn {n:Nat} (h:n≤Dm.SZ):n≤sizeLine:=Nat.le_trans h (by decide)
theorem Ls {fs:List Dm.FE} (h:tD (Dm.cN fs) σ H Q):Lg (tDA fs) σ H Q:=by
 obtain ⟨H0,ρ,x,ρ',st,e,k⟩:=h
 unfold Dm.cN at e
 split at e
 ·cases e
 rename_i xs ρ1 e1
 split at e
 ·cases e
 rename_i ds ρ2 e2
 split at e
 ·rename_i hz
  cases e
  refine ⟨H0,ρ,xs,ρ1,st,e1,fun vs H1 Hb t1 r1=>?_⟩
  obtain ⟨H2,t2,b2,r2⟩:=takes t1 (az.refl _) r1 e2
  refine ⟨by rw [r2.length];exact gn hz,fun p hp=>?_⟩
  have g:=aQ.rK (o:=HO.tup vs) t2.st.same hp
  exact k _ _ _ (t2.trans (.grow t2.st g)) (.tup ay (r2.mono g.s0))
 ·cases e
theorem Lu {fs:List Dm.FE} (h:tD (Dm.bS fs) σ H Q):DM (tDA fs) σ H Q:=by
 obtain ⟨H0,ρ,x,ρ',st,e,k⟩:=h
 unfold Dm.bS at e
 split at e
 ·cases e
 rename_i xs ρ1 e1
 split at e
 ·cases e
 rename_i ds ρ2 e2
 split at e
 ·rename_i hz
  cases e
  refine ⟨H0,ρ,xs,ρ1,st,e1,fun vs H1 Hb t1 r1=>?_⟩
  obtain ⟨H2,t2,b2,r2⟩:=takes t1 (az.refl _) r1 e2
  refine ⟨by rw [r2.length];exact gn hz,fun p hp=>?_⟩
  have g:=aQ.lN (o:=HO.lst vs) t2.st.same hp
  refine k _ _ _ (t2.trans (.grow t2.st g)) ⟨p,rfl,t2.stp.gone hp,fun ⟨i,d,h1,h2⟩=>?_,t2.st.same.free hp,vs,ay,r2⟩
  obtain ⟨a,q,_,w⟩:=t2.st.ow i d h1
  rw [h2] at q
  cases q
  obtain ⟨o,z⟩:=w.some
  rw [hp] at z;cases z
 ·cases e
theorem Rep.plain {H0 H1:Hp} {v:V} {d:Dm.Dat} (r:Rep H0 v d) (n:Dm.fQ d=false):Rep H1 v d:=by
 cases r with
 | non=>exact .non
 | bl b=>exact .bl b
 | int i=>exact .int i
 | str s=>exact .str s
 | tup _ _=>cases n
 | lst _ _=>cases n
 | dct _ _ _=>cases n
 | dcp _ _ _=>cases n
 | exc _=>cases n
 | fn a=>exact .fn a
theorem Own.box {H0 H:Hp} {a:Addr} {d:Dm.Dat} (w:Own H0 H a d):Dm.fQ d=true:=by
 cases d with
 | lst ds=>rfl
 | dct ks ds=>rfl
 | dcp ks ds=>rfl
 | _=>exact False.elim w
theorem Ao {f:List Dm.Dat→Option Dm.RV} {fs:List Dm.FE} {E:XK} (h:tD (Dm.eF f fs) σ H Q):oU (spD f) [] E (tDA fs) σ H Q:=by
 obtain ⟨H0,ρ,x,ρ',st,e,k⟩:=h
 unfold Dm.eF at e
 split at e
 ·cases e
 rename_i xs ρ1 e1
 split at e
 ·cases e
 rename_i ds p1
 split at e
 ·cases e
 rename_i z fz
 refine ⟨H0,ρ,xs,ρ1,st,e1,fun vs H1 Hb t1 r1=>?_⟩
 dsimp only
 rw [List.append_nil]
 obtain ⟨ρ2,e2⟩:=lP p1
 obtain ⟨H2,t2,b2,r2⟩:=takes t1 (az.refl _) r1 e2
 split at e
 ·rw [e2] at e
  cases e
  exact ⟨H2,ds,z,t2.st.same,r2,fz,fun w H3 Hd g3 r3=>k w H3 Hd (t2.trans (.grow t2.st g3)) ((r3.toV t2.st).early fun a n=>t2.stp.gone n)⟩
 ·rename_i nb
  cases e
  refine ⟨H2,ds,z,t2.st.same,r2,fz,fun w H3 Hd g3 r3=>?_⟩
  have g:aQ H1 Hb H1 Hd:=⟨az.refl _,g3.s1,fun a o q=>.inr q,t1.st.same.trans g3.s1⟩
  refine k w H1 Hd (t1.trans (.grow t1.st g)) ?_
  cases z with
  | val d=>exact Rep.plain r3 (by simpa [Dm.RV.dat] using nb)
  | new d=>
   obtain ⟨a,_,_,_,w⟩:=r3
   exact absurd w.box (by simpa [Dm.RV.dat] using nb)
theorem NN {t:Dm.FT} {a b:Dm.FE} (h:tD (Dm.eIf t a b) σ H Q):tIf (tDT t) (tD a) (tD b) σ H Q:=by
 obtain ⟨H0,ρ,x,ρ',st,e,k⟩:=h
 unfold Dm.eIf at e
 split at e
 ·cases e
 ·rename_i ρ1 e1
  refine ⟨H0,ρ,true,ρ1,st,e1,fun H1 Hb t1=>?_⟩
  dsimp only
  rw [if_pos rfl]
  exact ⟨H1,ρ1,x,ρ',t1.st,e,fun v H2 Hc t2 r2=>k v H2 Hc (t1.trans t2) (r2.early fun a n=>t1.stp.gone n)⟩
 ·rename_i ρ1 e1
  refine ⟨H0,ρ,false,ρ1,st,e1,fun H1 Hb t1=>?_⟩
  dsimp only
  rw [if_neg Bool.false_ne_true]
  exact ⟨H1,ρ1,x,ρ',t1.st,e,fun v H2 Hc t2 r2=>k v H2 Hc (t1.trans t2) (r2.early fun a n=>t1.stp.gone n)⟩
theorem Rep.qp {H0:Hp} {v:V} {c:Bool} (r:Rep H0 v (.bl c)):v=.bl c:=by cases r;rfl
theorem Rep.isInt {H0:Hp} {v:V} {c:Int} (r:Rep H0 v (.int c)):v=.int c:=by cases r;rfl
theorem Lv {a b:Dm.FE} (h:tD (Dm.fR a b) σ H Q):F7 (tD a) (tD b) σ H Q:=by
 obtain ⟨H0,ρ,x,ρ',st,e,k⟩:=h
 unfold Dm.fR at e
 split at e
 ·rename_i ρ1 e1
  refine ⟨H0,ρ,_,_,st,e1,fun v H1 Hb t1 r1=>⟨true,Rep.qp r1,?_⟩⟩
  try dsimp only
  rw [if_pos rfl]
  exact ⟨H1,ρ1,x,ρ',t1.st,e,fun v H2 Hc t2 r2=>k v H2 Hc (t1.trans t2) (r2.early fun a n=>t1.stp.gone n)⟩
 ·rename_i ρ1 e1
  cases e
  refine ⟨H0,ρ,_,_,st,e1,fun v H1 Hb t1 r1=>⟨false,Rep.qp r1,?_⟩⟩
  try dsimp only
  rw [if_neg Bool.false_ne_true]
  exact k _ H1 Hb t1 (Rep.bl false)
 ·cases e
theorem Lw {a:Dm.FE} (h:tD (Dm.Ak a) σ H Q):F8 (tD a) σ H Q:=by
 obtain ⟨H0,ρ,x,ρ',st,e,k⟩:=h
 unfold Dm.Ak at e
 split at e
 ·rename_i c ρ1 e1
  cases e
  exact ⟨H0,ρ,_,_,st,e1,fun v H1 Hb t1 r1=>⟨c,Rep.qp r1,k _ H1 Hb t1 (Rep.bl (!c))⟩⟩
 ·cases e
variable {Qt:Bool→Hp→Prop}
theorem qq {a:Dm.FE} (h:tDT (Dm.tV a) σ H Qt):Gf (tD a) σ H Qt:=by
 obtain ⟨H0,ρ,x,ρ',st,e,k⟩:=h
 unfold Dm.tV at e
 split at e
 ·rename_i c ρ1 e1
  cases e
  exact ⟨H0,ρ,_,_,st,e1,fun v H1 Hb t1 r1=>⟨_,Rep.qp r1,k H1 Hb t1⟩⟩
 ·cases e
theorem IG {t:Dm.FT} (h:tDT (Dm.eu t) σ H Qt):eu (tDT t) σ H Qt:=by
 obtain ⟨H0,ρ,x,ρ',st,e,k⟩:=h
 unfold Dm.eu at e
 split at e
 ·rename_i c ρ1 e1
  cases e
  exact ⟨H0,ρ,_,_,st,e1,fun H1 Hb t1=>k H1 Hb t1⟩
 ·cases e
theorem II {t u:Dm.FT} (h:tDT (Dm.jD t u) σ H Qt):jD (tDT t) (tDT u) σ H Qt:=by
 obtain ⟨H0,ρ,x,ρ',st,e,k⟩:=h
 unfold Dm.jD at e
 split at e
 ·rename_i ρ1 e1
  refine ⟨H0,ρ,_,ρ1,st,e1,fun H1 Hb t1=>?_⟩
  dsimp only
  rw [if_pos rfl]
  exact ⟨H1,ρ1,x,ρ',t1.st,e,fun H2 Hc t2=>k H2 Hc (t1.trans t2)⟩
 ·rename_i ρ1 e1
  cases e
  refine ⟨H0,ρ,_,_,st,e1,fun H1 Hb t1=>?_⟩
  dsimp only
  rw [if_neg Bool.false_ne_true]
  exact k H1 Hb t1
 ·cases e
theorem Lx {t u:Dm.FT} (h:tDT (Dm.tOr t u) σ H Qt):tOr (tDT t) (tDT u) σ H Qt:=by
 obtain ⟨H0,ρ,x,ρ',st,e,k⟩:=h
 unfold Dm.tOr at e
 split at e
 ·rename_i ρ1 e1
  cases e
  refine ⟨H0,ρ,_,_,st,e1,fun H1 Hb t1=>?_⟩
  dsimp only
  rw [if_pos rfl]
  exact k H1 Hb t1
 ·rename_i ρ1 e1
  refine ⟨H0,ρ,_,ρ1,st,e1,fun H1 Hb t1=>?_⟩
  dsimp only
  rw [if_neg Bool.false_ne_true]
  exact ⟨H1,ρ1,x,ρ',t1.st,e,fun H2 Hc t2=>k H2 Hc (t1.trans t2)⟩
 ·cases e
end
structure SSt (σ:St) (ρ:Dm.Env) (H0 H:Hp) (σ':St) (ρ':Dm.Env) (H0' H':Hp):Prop where
 st:aC H0' H' σ' ρ'
 stp:Stp (ao σ ρ) H0 H H0' H'
 own:∀ a,ao σ' ρ' a→ao σ ρ a∨H a=none
 fx:σ'[0]?=σ[0]?
theorem ESt.sst {σ:St} {ρ ρ':Dm.Env} {H0 H H0' H':Hp} (t:ESt σ ρ H0 H ρ' H0' H'):SSt σ ρ H0 H σ ρ' H0' H':=⟨t.st,t.stp,fun a z=>.inl (t.own a z),rfl⟩
theorem SSt.refl {σ:St} {ρ:Dm.Env} {H0 H:Hp} (st:aC H0 H σ ρ):SSt σ ρ H0 H σ ρ H0 H:=(ESt.refl st).sst
theorem SSt.trans {σ σ1 σ2:St} {ρ ρ1 ρ2:Dm.Env} {H0 H H1 H' H2 H'':Hp} (t:SSt σ ρ H0 H σ1 ρ1 H1 H') (u:SSt σ1 ρ1 H1 H' σ2 ρ2 H2 H''):SSt σ ρ H0 H σ2 ρ2 H2 H'':=
 ⟨u.st,t.stp.trans u.stp t.own,fun a z=>(u.own a z).elim (t.own a) fun n=>.inr (t.stp.gone n),u.fx.trans t.fx⟩
noncomputable def Ly (σ:St) (ρ:Dm.Env) (H H0' H':Hp) (v:V):Dm.RV→Prop
 | .val d=>Rep H0' v d
 | .new d=>∃ a,v=V.ref a∧(H a=none∨ao σ ρ a)∧H0' a=none∧Own H0' H' a d
noncomputable def o_ (D:Ends) (σ:St) (ρ:Dm.Env) (H0 H:Hp):Dm.Out→Prop
 | .nx ρ'=>∀ σ' H0' H',SSt σ ρ H0 H σ' ρ' H0' H'→D.nx σ' H'
 | .bk ρ'=>∀ σ' H0' H',SSt σ ρ H0 H σ' ρ' H0' H'→D.bk σ' H'
 | .ct ρ'=>∀ σ' H0' H',SSt σ ρ H0 H σ' ρ' H0' H'→D.ct σ' H'
 | .ret z ρ'=>∀ σ' v H0' H',SSt σ ρ H0 H σ' ρ' H0' H'→Ly σ ρ H H0' H' v z→(∀ d a,z=.new d→v=.ref a→¬ ao σ' ρ' a)→D.rt v H'
noncomputable def tDS (g:Dm.FS):TS:=fun D σ H=>∃ H0 ρ o,aC H0 H σ ρ∧g ρ=some o∧o_ D σ ρ H0 H o
theorem o_.pre {D:Ends} {σ σ1:St} {ρ ρ1:Dm.Env} {H0 H H1 H':Hp} {o:Dm.Out} (t:SSt σ ρ H0 H σ1 ρ1 H1 H') (k:o_ D σ ρ H0 H o):o_ D σ1 ρ1 H1 H' o:=by
 cases o with
 | nx ρ'=>exact fun σ' H0' H' u=>k σ' H0' H' (t.trans u)
 | bk ρ'=>exact fun σ' H0' H' u=>k σ' H0' H' (t.trans u)
 | ct ρ'=>exact fun σ' H0' H' u=>k σ' H0' H' (t.trans u)
 | ret z ρ'=>
  refine fun σ' v H0' H'' u r no=>k σ' v H0' H'' (t.trans u) ?_ no
  cases z with
  | val d=>exact r
  | new d=>
   obtain ⟨a,e,n,n0,w⟩:=r
   refine ⟨a,e,?_,n0,w⟩
   rcases n with n | n
   ·exact .inl (t.stp.gone n)
   ·exact (t.own a n).symm
theorem aC.mask {H0 H:Hp} {σ:L2.St} {ρ:Dm.Env} (st:aC H0 H σ ρ) (i:Nat):aC H0 H σ (ρ.set i .un) where
 same:=st.same
 len:=by rw [List.length_set];exact st.len
 sh:=fun j d h=>by
  by_cases q:i=j
  ·subst q;rw [List.getElem?_set] at h;simp only [if_true] at h;split at h<;>cases h
  ·rw [List.getElem?_set_ne q] at h;exact st.sh j d h
 ow:=fun j d h=>by
  by_cases q:i=j
  ·subst q;rw [List.getElem?_set] at h;simp only [if_true] at h;split at h<;>cases h
  ·rw [List.getElem?_set_ne q] at h;exact st.ow j d h
 dis:=fun j j' d d' a h1 h2 h3 h4=>by
  by_cases q:i=j
  ·subst q;rw [List.getElem?_set] at h1;simp only [if_true] at h1;split at h1<;>cases h1
  ·by_cases q':i=j'
   ·subst q';rw [List.getElem?_set] at h2;simp only [if_true] at h2;split at h2<;>cases h2
   ·rw [List.getElem?_set_ne q] at h1
    rw [List.getElem?_set_ne q'] at h2
    exact st.dis j j' d d' a h1 h2 h3 h4
theorem cO {σ:L2.St} {ρ:Dm.Env} {i:Nat} {a:Addr} (h:ao σ (ρ.set i .un) a):∃ (j:Nat) (d:Dm.Dat),j≠i∧ρ[j]?=some (Dm.Cell.ow d)∧σ[j]?=some (some (V.ref a)):=by
 obtain ⟨j,d,h1,h2⟩:=h
 by_cases q:i=j
 ·subst q;rw [List.getElem?_set] at h1;simp only [if_true] at h1;split at h1<;>cases h1
 ·rw [List.getElem?_set_ne q] at h1;exact ⟨j,d,fun z=>q z.symm,h1,h2⟩
section
variable {D:Ends} {σ:St} {H:Hp}
theorem NO (h:tDS Dm.sNx D σ H):zI D σ H:=by
 obtain ⟨H0,ρ,o,st,e,k⟩:=h
 cases e
 exact k σ H0 H (.refl st)
theorem Lz {s u:Dm.FS} (h:tDS (Dm.aq s u) D σ H):yt (tDS s) (tDS u) D σ H:=by
 obtain ⟨H0,ρ,o,st,e,k⟩:=h
 unfold Dm.aq at e
 split at e
 ·rename_i ρ1 e1
  exact ⟨H0,ρ,.nx ρ1,st,e1,fun σ' H0' H' t=>⟨H0',ρ1,o,t.st,e,k.pre t⟩⟩
 ·rename_i h1
  cases o with
  | nx ρ1=>exact absurd e (h1 ρ1)
  | bk ρ1=>exact ⟨H0,ρ,_,st,e,k⟩
  | ct ρ1=>exact ⟨H0,ρ,_,st,e,k⟩
  | ret z ρ1=>exact ⟨H0,ρ,_,st,e,k⟩
theorem IJ {f:Dm.FE} (h:tDS (Dm.sE f) D σ H):rm (tD f) D σ H:=by
 obtain ⟨H0,ρ,o,st,e,k⟩:=h
 unfold Dm.sE at e
 split at e
 ·cases e
 ·rename_i x ρ1 e1
  cases e
  exact ⟨H0,ρ,x,ρ1,st,e1,fun v H0' H' t r=>k σ H0' H' t.sst⟩
theorem LA {f:Dm.FE} (h:tDS (Dm.sR f) D σ H):K_ (tD f) D σ H:=by
 obtain ⟨H0,ρ,o,st,e,k⟩:=h
 unfold Dm.sR at e
 split at e
 ·cases e
 ·rename_i d ρ1 e1
  cases e
  refine ⟨H0,ρ,_,ρ1,st,e1,fun v H0' H' t r=>?_⟩
  obtain ⟨a,e,n,no,n0,w⟩:=r
  exact k σ v H0' H' t.sst ⟨a,e,.inl n,n0,w⟩ fun d' a' _ e' z=>by
   rw [e] at e'
   cases e'
   exact no z
 ·rename_i d ρ1 e1
  cases e
  exact ⟨H0,ρ,_,ρ1,st,e1,fun v H0' H' t r=>k σ v H0' H' t.sst r fun d' a' z=>by cases z⟩
 ·rename_i i ρ1 e1
  split at e
  ·rename_i d h1
   cases e
   refine ⟨H0,ρ,_,ρ1,st,e1,fun v H0' H' t r=>?_⟩
   obtain ⟨q,_⟩:=r
   obtain ⟨a,q',n0,w⟩:=t.st.ow i d h1
   rw [q] at q'
   cases q'
   refine k σ _ H0' H' ⟨t.st.mask i,t.stp,fun b z=>?_,rfl⟩ ⟨a,rfl,.inr (t.own a ⟨i,d,h1,q⟩),n0,w⟩ fun d' a' _ e' z=>?_
   ·obtain ⟨j,d2,_,z1,z2⟩:=cO z
    exact .inl (t.own b ⟨j,d2,z1,z2⟩)
   ·cases e'
    obtain ⟨j,d2,hj,z1,z2⟩:=cO z
    exact hj (t.st.dis j i d2 d a z1 h1 z2 q)
  ·rename_i d h1
   cases e
   refine ⟨H0,ρ,_,ρ1,st,e1,fun v H0' H' t r=>?_⟩
   obtain ⟨q,_⟩:=r
   obtain ⟨u,q',w⟩:=t.st.sh i d h1
   rw [q] at q'
   cases q'
   exact k σ _ H0' H' t.sst w fun d' a' z=>by cases z
  ·cases e
theorem LB {t:Dm.FT} {a b:Dm.FS} (h:tDS (Dm.sIf t a b) D σ H):HQ (tDT t) (tDS a) (tDS b) D σ H:=by
 obtain ⟨H0,ρ,o,st,e,k⟩:=h
 unfold Dm.sIf at e
 split at e
 ·cases e
 ·rename_i ρ1 e1
  refine ⟨H0,ρ,true,ρ1,st,e1,fun H1 Hb t1=>?_⟩
  dsimp only
  rw [if_pos rfl]
  exact ⟨H1,ρ1,o,t1.st,e,k.pre t1.sst⟩
 ·rename_i ρ1 e1
  refine ⟨H0,ρ,false,ρ1,st,e1,fun H1 Hb t1=>?_⟩
  dsimp only
  rw [if_neg Bool.false_ne_true]
  exact ⟨H1,ρ1,o,t1.st,e,k.pre t1.sst⟩
end
theorem fS {σ:St} {i j:Nat} {c d:Option V} (h:(σ.set i c)[j]?=some d):(j=i∧d=c)∨(j≠i∧σ[j]?=some d):=by
 by_cases e:j=i
 ·subst e
  by_cases l:j<σ.length
  ·rw [List.getElem?_set_self l] at h
   exact .inl ⟨rfl,(Option.some.inj h).symm⟩
  ·rw [List.getElem?_eq_none (by simpa using Nat.not_lt.mp l)] at h
   cases h
 ·rw [List.getElem?_set_ne (Ne.symm e)] at h
  exact .inr ⟨e,h⟩
theorem aC.inσ {H0 H:Hp} {σ:St} {ρ:Dm.Env} {i:Nat} {c d:Dm.Cell} (st:aC H0 H σ ρ) (h:(ρ.set i c)[i]?=some d):i<σ.length:=by
 have:=(List.getElem?_eq_some_iff.mp h).1
 rw [List.length_set] at this
 rw [st.len];exact this
theorem e8 {σ:St} {ρ:Dm.Env} {i:Nat} {v:V} {d:Dm.Dat} {b:Addr} (h:ao (σ.set i (some v)) (ρ.set i (.sh d)) b):ao σ ρ b:=by
 obtain ⟨j,d',h1,h2⟩:=h
 rcases aT h1 with ⟨_,z⟩ | ⟨hj,h1⟩
 ·cases z
 ·rcases fS h2 with ⟨z,_⟩ | ⟨_,h2⟩
  ·exact absurd z hj
  ·exact ⟨j,d',h1,h2⟩
theorem aC.uT {H0 H:Hp} {σ:St} {ρ:Dm.Env} {i:Nat} {v:V} {d:Dm.Dat} (st:aC H0 H σ ρ) (r:Rep H0 v d):aC H0 H (σ.set i (some v)) (ρ.set i (.sh d)) where
 same:=st.same
 len:=by rw [List.length_set,List.length_set];exact st.len
 sh:=fun j d' h=>by
  rcases aT h with ⟨rfl,z⟩ | ⟨hj,h'⟩
  ·cases z
   exact ⟨v,List.getElem?_set_self (st.inσ h),r⟩
  ·obtain ⟨u,q,w⟩:=st.sh j d' h'
   exact ⟨u,by rw [List.getElem?_set_ne (Ne.symm hj)];exact q,w⟩
 ow:=fun j d' h=>by
  rcases aT h with ⟨_,z⟩ | ⟨hj,h'⟩
  ·cases z
  ·obtain ⟨u,q,w⟩:=st.ow j d' h'
   exact ⟨u,by rw [List.getElem?_set_ne (Ne.symm hj)];exact q,w⟩
 dis:=fun j k d1 d2 b h1 h2 h3 h4=>by
  rcases aT h1 with ⟨_,z⟩ | ⟨hj,h1⟩
  ·cases z
  rcases aT h2 with ⟨_,z⟩ | ⟨hk,h2⟩
  ·cases z
  rw [List.getElem?_set_ne (Ne.symm hj)] at h3
  rw [List.getElem?_set_ne (Ne.symm hk)] at h4
  exact st.dis j k d1 d2 b h1 h2 h3 h4
theorem aC.Aq {H0 H:Hp} {σ:St} {ρ:Dm.Env} {i:Nat} {a:Addr} {d:Dm.Dat} (st:aC H0 H σ ρ) (no:¬ ao σ ρ a) (n0:H0 a=none) (w:Own H0 H a d):aC H0 H (σ.set i (some (.ref a))) (ρ.set i (.ow d)) where
 same:=st.same
 len:=by rw [List.length_set,List.length_set];exact st.len
 sh:=fun j d' h=>by
  rcases aT h with ⟨_,z⟩ | ⟨hj,h'⟩
  ·cases z
  ·obtain ⟨u,q,w⟩:=st.sh j d' h'
   exact ⟨u,by rw [List.getElem?_set_ne (Ne.symm hj)];exact q,w⟩
 ow:=fun j d' h=>by
  rcases aT h with ⟨rfl,z⟩ | ⟨hj,h'⟩
  ·cases z
   exact ⟨a,List.getElem?_set_self (st.inσ h),n0,w⟩
  ·obtain ⟨u,q,w⟩:=st.ow j d' h'
   exact ⟨u,by rw [List.getElem?_set_ne (Ne.symm hj)];exact q,w⟩
 dis:=fun j k d1 d2 b h1 h2 h3 h4=>by
  rcases aT h1 with ⟨e1,z1⟩ | ⟨hj,h1'⟩
  ·rcases aT h2 with ⟨e2,z2⟩ | ⟨hk,h2'⟩
   ·rw [e1,e2]
   ·rcases fS h3 with ⟨_,z⟩ | ⟨z,_⟩
    ·cases z
     rw [List.getElem?_set_ne (Ne.symm hk)] at h4
     exact absurd ⟨k,d2,h2',h4⟩ no
    ·exact absurd e1 z
  ·rcases aT h2 with ⟨e2,z2⟩ | ⟨hk,h2'⟩
   ·rcases fS h4 with ⟨_,z⟩ | ⟨z,_⟩
    ·cases z
     rw [List.getElem?_set_ne (Ne.symm hj)] at h3
     exact absurd ⟨j,d1,h1',h3⟩ no
    ·exact absurd e2 z
   ·rw [List.getElem?_set_ne (Ne.symm hj)] at h3
    rw [List.getElem?_set_ne (Ne.symm hk)] at h4
    exact st.dis j k d1 d2 b h1' h2' h3 h4
theorem qt {σ:St} {ρ:Dm.Env} {i:Nat} {a b:Addr} {d:Dm.Dat} (h:ao (σ.set i (some (.ref a))) (ρ.set i (.ow d)) b):b=a∨ao σ ρ b:=by
 obtain ⟨j,d',h1,h2⟩:=h
 rcases aT h1 with ⟨e,_⟩ | ⟨hj,h1⟩
 ·rcases fS h2 with ⟨_,z⟩ | ⟨z,_⟩
  ·cases z;exact .inl rfl
  ·exact absurd e z
 ·rcases fS h2 with ⟨z,_⟩ | ⟨_,h2⟩
  ·exact absurd z hj
  ·exact .inr ⟨j,d',h1,h2⟩
theorem aC.write {H0 H:Hp} {σ:St} {ρ:Dm.Env} {i:Nat} {a:Addr} {d d':Dm.Dat} {o:HO} (st:aC H0 H σ ρ) (e:ρ[i]?=some (.ow d)) (q:σ[i]?=some (some (V.ref a))) (w':Own H0 (upd H a o) a d') :
  aC H0 (upd H a o) σ (ρ.set i (.ow d')):=by
 obtain ⟨a',q',n,w⟩:=st.ow i d e
 rw [q] at q'
 cases q'
 refine ⟨fun b u z=>?_,by rw [List.length_set];exact st.len,fun j d1 h=>?_,fun j d1 h=>?_,fun j k d1 d2 b h1 h2 h3 h4=>?_⟩
 ·rw [aB (aP z n)];exact st.same _ _ z
 ·rcases aT h with ⟨_,z⟩ | ⟨hj,h'⟩
  ·cases z
  ·exact st.sh j d1 h'
 ·rcases aT h with ⟨rfl,z⟩ | ⟨hj,h'⟩
  ·cases z
   exact ⟨a,q,n,w'⟩
  ·obtain ⟨b,q1,n1,w1⟩:=st.ow j d1 h'
   have nb:b≠a:=fun y=>hj (st.dis j i d1 d a h' e (y▸q1) q)
   exact ⟨b,q1,n1,w1.mono (az.refl _) (aB nb)⟩
 ·have f:∀ {j:Nat} {d1:Dm.Dat},(ρ.set i (.ow d'))[j]?=some (.ow d1)→∃ d2,ρ[j]?=some (.ow d2):=fun {j d1} h=>by
   rcases aT h with ⟨rfl,_⟩ | ⟨_,h'⟩
   ·exact ⟨d,e⟩
   ·exact ⟨d1,h'⟩
  obtain ⟨x1,y1⟩:=f h1
  obtain ⟨x2,y2⟩:=f h2
  exact st.dis j k x1 x2 b y1 y2 h3 h4
theorem cE {σ:St} {ρ:Dm.Env} {i:Nat} {d d':Dm.Dat} {b:Addr} (e:ρ[i]?=some (.ow d)) (h:ao σ (ρ.set i (.ow d')) b):ao σ ρ b:=by
 obtain ⟨j,d1,h1,h2⟩:=h
 rcases aT h1 with ⟨rfl,_⟩ | ⟨_,h'⟩
 ·exact ⟨j,d,e,h2⟩
 ·exact ⟨j,d1,h',h2⟩
theorem Stp.write {σ:St} {ρ:Dm.Env} {H0 H:Hp} {a:Addr} {o:HO} (w:ao σ ρ a):Stp (ao σ ρ) H0 H H0 (upd H a o):=
 ⟨az.refl _,fun b u e n=>by rw [aB (show b≠a from fun z=>n (by rw [z];exact w))];exact e,fun b u e=>.inr (.inl e),fun b u e=>by
  by_cases z:b=a
  ·subst z;exact ⟨o,ay⟩
  ·exact ⟨u,by rw [aB z];exact e⟩⟩
section
variable {D:Ends} {σ:St} {H:Hp}
theorem Ar {i:Nat} {f:Dm.FE} (h:tDS (Dm.sA i f) D σ H):uE (tD f) (i_ i) D σ H:=by
 obtain ⟨H0,ρ,o,st,e,k⟩:=h
 unfold Dm.sA at e
 split at e
 ·cases e
 rename_i hi0
 split at e
 ·cases e
 ·rename_i d ρ1 e1
  cases e
  refine ⟨H0,ρ,_,ρ1,st,e1,fun v H0' H' t r=>?_⟩
  obtain ⟨a,e,n,no,n0,w⟩:=r
  subst e
  refine k _ H0' H' ⟨t.st.Aq no n0 w,t.stp,fun b z=>?_,List.getElem?_set_ne hi0⟩
  rcases qt z with rfl | z
  ·exact .inr n
  ·exact .inl (t.own b z)
 ·rename_i x ρ1 _ e1
  split at e
  ·cases e
  ·rename_i d ρ2 e2
   cases e
   refine ⟨H0,ρ,_,ρ1,st,e1,fun v H0' H' t r=>?_⟩
   obtain ⟨H1,t1,b1,r1,_,_⟩:=take1 t (az.refl _) r e2
   exact k _ H1 H' ⟨t1.st.uT r1,t1.stp,fun b z=>.inl (t1.own b (e8 z)),List.getElem?_set_ne hi0⟩
theorem wJ {ρ:Dm.Env} {i:Nat} {d:Dm.Dat} {j:Nat} (h:Def ρ j):Def (ρ.set i (.sh d)) j:=trivial
noncomputable def d7:List Nat→TGs
 | []=>Lb
 | i::is=>F_ (i_ i) (d7 is)
theorem qu {H0 H:Hp} {Q:St→Hp→Prop}:∀ {is:List Nat} {xs:List V} {ds:List Dm.Dat} {σ:St} {ρ ρ':Dm.Env},aC H0 H σ ρ→aF H0 xs ds→Dm.sets is ds ρ=some ρ' →
  (∀ σ',aC H0 H σ' ρ'→(∀ a,ao σ' ρ' a→ao σ ρ a)→(∀ j,j∉is→σ'[j]?=σ[j]?)→(∀ j,Def ρ j→Def ρ' j)→σ'[0]?=σ[0]?→Q σ' H)→d7 is xs σ H Q
 | [],_,[],σ,ρ,ρ',st,r,e,k=>by
  cases r
  cases e
  exact ⟨rfl,k σ st (fun _ z=>z) (fun _ _=>rfl) (fun _ z=>z) rfl⟩
 | i::is,_,d::ds,σ,ρ,ρ',st,r,e,k=>by
  cases r with
  | cons h r=>
   unfold Dm.sets at e
   split at e
   ·cases e
   rename_i hi0
   refine ⟨_,_,rfl,?_⟩
   refine qu (st.uT h) r e fun σ' st' o' n' d' f'=>k σ' st' (fun a z=>e8 (o' a z)) (fun j hj=>?_) (fun j z=>d' j (wJ z)) (f'.trans (List.getElem?_set_ne hi0))
   rw [n' j fun z=>hj (List.mem_cons_of_mem _ z)]
   exact List.getElem?_set_ne fun z=>hj (by rw [z];exact List.mem_cons_self)
 | [],_,_::_,_,_,_,_,_,e,_=>by cases e
 | _::_,_,[],_,_,_,_,_,e,_=>by cases e
theorem lQ:∀ {is:List Nat} {ds:List Dm.Dat} {ρ ρ':Dm.Env},Dm.sets is ds ρ=some ρ'→ds.length=is.length
 | [],[],_,_,_=>rfl
 | i::is,_::ds,_,_,e=>by
  unfold Dm.sets at e
  split at e
  ·cases e
  ·simp [lQ (is:=is) (ds:=ds) e]
 | [],_::_,_,_,e=>by cases e
 | _::_,[],_,_,e=>by cases e
noncomputable def BD (is:List Nat) (g:TG) (bd:Dm.FB):Prop:=∀ (H0 H:Hp) (σ:St) (ρ ρ':Dm.Env) (x:V) (d:Dm.Dat) (Q:St→Hp→Prop),aC H0 H σ ρ→Rep H0 x d→bd d ρ=some ρ' →
 (∀ σ',aC H0 H σ' ρ'→(∀ a,ao σ' ρ' a→ao σ ρ a)→(∀ j,j∉is→σ'[j]?=σ[j]?)→(∀ j,Def ρ j→Def ρ' j)→σ'[0]?=σ[0]?→Q σ' H)→g x σ H Q
theorem wK (i:Nat):BD [i] (i_ i) (Dm.bN i):=by
 intro H0 H σ ρ ρ' x d Q st r e k
 unfold Dm.bN at e
 split at e
 ·cases e
 rename_i hi0
 cases e
 refine k _ (st.uT r) (fun a z=>e8 z) (fun j hj=>?_) (fun j h=>wJ h) (List.getElem?_set_ne hi0)
 exact List.getElem?_set_ne (fun z=>hj (by rw [z];exact List.mem_singleton.mpr rfl))
theorem As {K:PySem.W.Frag} {is:List Nat} {n:Nat} {f:Dm.FE} (hn:is.length=n) (h:tDS (Dm.sU is f) D σ H):uE (tD f) (HU K n (d7 is)) D σ H:=by
 obtain ⟨H0,ρ,o,st,e,k⟩:=h
 unfold Dm.sU at e
 split at e
 ·cases e
 ·rename_i x ρ1 e1
  split at e
  ·rename_i ds ρ2 e2
   split at e
   ·cases e
   ·rename_i ρ3 e3
    cases e
    refine ⟨H0,ρ,_,ρ1,st,e1,fun v H0' H' t r=>?_⟩
    obtain ⟨H1,t1,b1,r1,_,_⟩:=take1 t (az.refl _) r e2
    cases r1 with
    | tup q rs=>
     refine ⟨_,_,rfl,SqT.of (t1.st.same _ _ q),by rw [rs.length,lQ e3,hn],?_⟩
     exact qu t1.st rs e3 fun σ' st' o' _ _ f'=>k σ' H1 H' ⟨st',t1.stp,fun a z=>.inl (t1.own a (o' a z)),f'⟩
  ·cases e
theorem Au {K:PySem.W.Frag} (is:List Nat) {n:Nat} (hn:is.length=n):BD is (HU K n (d7 is)) (Dm.bT is):=by
 intro H0 H σ ρ ρ' x d Q st r e k
 unfold Dm.bT at e
 split at e
 ·cases r with
  | tup q rs=>exact ⟨_,_,rfl,SqT.of (st.same _ _ q),by rw [rs.length,lQ e,hn],qu st rs e k⟩
 ·cases e
theorem LC {K:PySem.W.Frag} {i:Nat} {f:Dm.FE} (h:tDS (Dm.qk i f) D σ H):rm (tBM K "list" qi (lg i) (tDA [f])) D σ H:=by
 obtain ⟨H0,ρ,o,st,e,k⟩:=h
 unfold Dm.qk at e
 split at e
 ·rename_i ds0 h0
  obtain ⟨a0,q0,n0,w0⟩:=st.ow i _ h0
  refine ⟨_,q0,?_⟩
  split at e
  ·cases e
  rename_i x ρ1 e1
  split at e
  ·cases e
  rename_i d ρ2 e2
  split at e
  ·rename_i ds h2
   split at e
   ·rename_i hz
    cases e
    obtain ⟨xs0,y0,_⟩:=w0
    refine ⟨.inl ⟨rfl,xs0,.inl (.inl y0)⟩,?_⟩
    refine ⟨H0,ρ,[x],ρ1,st,by unfold Dm.eAs;rw [e1];rfl,fun vs H0' H' t r=>?_⟩
    cases r with
    | cons r rr=>
     cases rr
     obtain ⟨H1,t1,b1,r1,_,_⟩:=take1 t (az.refl _) r e2
     obtain ⟨a,q,n,w⟩:=t1.st.ow i _ h2
     rw [q0] at q
     cases q
     obtain ⟨xs,y,rs⟩:=w
     refine ⟨a0,xs,_,rfl,rfl,y,by rw [rs.length];exact Nat.lt_of_lt_of_le hz (by decide),?_⟩
     have ow:ao σ ρ2 a0:=⟨i,_,h2,q0⟩
     refine k σ H1 _ ⟨t1.st.write h2 q0 ⟨_,ay,rs.append (.cons r1 .nil)⟩,t1.stp.trans (Stp.write ow) fun b z=>.inl (t1.own b z),fun b z=>.inl (t1.own b (cE h2 z)),rfl⟩
   ·cases e
  ·cases e
 ·cases e
theorem IK (n:Nat) (i:Int):Dm.ixN n i=L2.ixN n i:=rfl
theorem LD {i:Nat} {j f:Dm.FE} (h:tDS (Dm.ql i j f) D σ H):uE (tD f) (ez (lg i) (tD j) rB) D σ H:=by
 obtain ⟨H0,ρ,o,st,e,k⟩:=h
 unfold Dm.ql at e
 split at e
 ·cases e
 rename_i x ρ1 e1
 split at e
 ·cases e
 rename_i d ρ2 e2
 split at e
 case h_2=>cases e
 rename_i d0 h2
 split at e
 ·rename_i m ρ3 e3
  split at e
  ·rename_i ds h3
   split at e
   ·cases e
   ·rename_i p e4
    cases e
    refine ⟨H0,ρ,_,ρ1,st,e1,fun v H0' H' t r=>?_⟩
    obtain ⟨H1,t1,b1,r1,_,_⟩:=take1 t (az.refl _) r e2
    obtain ⟨a0,q0,_,_⟩:=t1.st.ow i _ h2
    refine ⟨_,q0,H1,ρ2,_,ρ3,t1.st,e3,fun u H2 Hc t2 r2=>?_⟩
    obtain ⟨a,q,n,w⟩:=t2.st.ow i _ h3
    rw [q0] at q
    cases q
    obtain ⟨xs,y,rs⟩:=w
    refine ⟨a0,xs,m,p,rfl,Rep.isInt r2,y,by rw [rs.length];exact e4,?_⟩
    have ow:ao σ ρ3 a0:=⟨i,_,h3,q0⟩
    have tt:=t1.trans t2
    refine k σ H2 _ ⟨t2.st.write h3 q0 ⟨_,ay,rs.set (r1.mono t2.stp.s0) p⟩,tt.stp.trans (Stp.write ow) fun b z=>.inl (tt.own b z),fun b z=>.inl (tt.own b (cE h3 z)),rfl⟩
  ·cases e
 ·cases e
theorem D6 {t:Dm.FT} {body:Dm.FS} {n:Nat} (h:tDS (Dm.whD t body n) D σ H):zM (tDT t) (tDS body) D σ H:=by
 refine ⟨fun m σ H=>tDS (Dm.whD t body m) D σ H,⟨n,h⟩,?_⟩
 rintro m σ H ⟨H0,ρ,o,st,e,k⟩
 cases m with
 | zero=>unfold Dm.whD at e;cases e
 | succ m=>
  unfold Dm.whD at e
  split at e
  ·cases e
  ·rename_i ρ1 e1
   cases e
   refine ⟨H0,ρ,false,ρ1,st,e1,fun H1 Hb t1=>?_⟩
   dsimp only
   rw [if_neg Bool.false_ne_true]
   exact k σ H1 Hb t1.sst
  ·rename_i ρ1 e1
   refine ⟨H0,ρ,true,ρ1,st,e1,fun H1 Hb t1=>?_⟩
   dsimp only
   rw [if_pos rfl]
   refine ⟨fun σ' H'=>tDS (Dm.whD t body m) D σ' H',fun σ' H' q=>⟨m,Nat.lt_succ_self m,q⟩,?_⟩
   have k1:=k.pre t1.sst
   split at e
   ·rename_i ρ2 e2
    exact ⟨H1,ρ1,_,t1.st,e2,fun σ' H0' H' t2=>⟨H0',ρ2,o,t2.st,e,k1.pre t2⟩⟩
   ·rename_i ρ2 e2
    exact ⟨H1,ρ1,_,t1.st,e2,fun σ' H0' H' t2=>⟨H0',ρ2,o,t2.st,e,k1.pre t2⟩⟩
   ·rename_i ρ2 e2
    cases e
    exact ⟨H1,ρ1,_,t1.st,e2,k1⟩
   ·rename_i v ρ2 e2
    cases e
    exact ⟨H1,ρ1,_,t1.st,e2,k1⟩
   ·cases e
noncomputable def JW (J:It) (H00:Hp) (ys:List Dm.Dat):Prop:=∀ H0 H,az H00 H0→az H0 H→(∀ i,ys.length≤i→J.stop i H) ∧
 ∀ (i:Nat) (d:Dm.Dat),ys[i]?=some d→J.go i H∧∀ x H',J.yld i H x H'→∃ H0',aQ H0 H H0' H'∧Rep H0' x d
noncomputable def tDI (fi:Dm.FI):TI:=fun σ H R=>∃ H0 ρ ys ρ',aC H0 H σ ρ∧fi ρ=some (ys,ρ')∧∀ J H0' H',ESt σ ρ H0 H ρ' H0' H'→JW J H0' ys→R J H'
theorem LF {fi:Dm.FI} {bd:Dm.FB} {g:TG} {body:Dm.FS} {is:List Nat} (hb:BD is g bd) (h:tDS (Dm.eZ fi bd body) D σ H):HX (tDI fi) g (tDS body) D σ H:=by
 obtain ⟨H0,ρ,o,st,e,k⟩:=h
 unfold Dm.eZ at e
 split at e
 ·cases e
 rename_i ys ρ1 e1
 refine ⟨H0,ρ,ys,ρ1,st,e1,fun J H00 Hb t1 jw=>?_⟩
 refine ⟨fun i m σ H=>∃ H0 ρ o,aC H0 H σ ρ∧az H00 H0∧m=ys.length-i∧i≤ys.length∧Dm.jH bd body (ys.drop i) ρ=some o∧o_ D σ ρ H0 H o,
  ⟨ys.length,H00,ρ1,o,t1.st,az.refl _,by simp,Nat.zero_le _,by simpa using e,k.pre t1.sst⟩,?_⟩
 rintro i m σ H ⟨H0,ρ,o,st,s00,rfl,hi,e,k⟩
 obtain ⟨js,jg⟩:=jw H0 H s00 st.same
 by_cases hlt:i<ys.length
 ·have hd:ys[i]?=some ys[i]:=by simp [hlt]
  obtain ⟨g1,g2⟩:=jg i ys[i] hd
  rw [List.drop_eq_getElem_cons hlt] at e
  unfold Dm.jH at e
  refine .inr ⟨g1,fun σ' H'=>∃ H0 ρ o,aC H0 H' σ' ρ∧az H00 H0∧Dm.jH bd body (ys.drop (i+1)) ρ=some o∧o_ D σ' ρ H0 H' o,?_,fun x H' y=>?_⟩
  ·rintro σ' H' ⟨H0',ρ',o',h1,h2,h3,h4⟩
   exact ⟨ys.length-(i+1),by lia,H0',ρ',o',h1,h2,rfl,hlt,h3,h4⟩
  ·obtain ⟨H0',gr,rx⟩:=g2 x H' y
   split at e
   ·cases e
   ·rename_i ρ2 e2
    have t2:=ESt.grow st gr
    refine hb H0' H' σ ρ ρ2 x ys[i] _ t2.st rx e2 fun σ2 st2 o2 _ _ f2=>?_
    have t3:SSt σ ρ H0 H σ2 ρ2 H0' H':=⟨st2,t2.stp,fun a z=>.inl (o2 a z),f2⟩
    have k3:=k.pre t3
    have s3:az H00 H0':=s00.trans gr.s0
    split at e
    ·rename_i ρ3 e3
     exact ⟨H0',ρ2,_,st2,e3,fun σ4 H4 Hd t4=>⟨H4,ρ3,o,t4.st,s3.trans t4.stp.s0,e,k3.pre t4⟩⟩
    ·rename_i ρ3 e3
     exact ⟨H0',ρ2,_,st2,e3,fun σ4 H4 Hd t4=>⟨H4,ρ3,o,t4.st,s3.trans t4.stp.s0,e,k3.pre t4⟩⟩
    ·rename_i ρ3 e3
     cases e
     exact ⟨H0',ρ2,_,st2,e3,k3⟩
    ·rename_i v ρ3 e3
     cases e
     exact ⟨H0',ρ2,_,st2,e3,k3⟩
    ·cases e
 ·have e':i=ys.length:=by lia
  subst e'
  rw [List.drop_length] at e
  cases e
  exact .inl ⟨js _ (Nat.le_refl _),k σ H0 H (.refl st)⟩
theorem D7 {K:PySem.W.Frag} {H0:Hp} {a:Addr} {xs:List V} {ds:List Dm.Dat} (hq:Rd H0 a (.lst xs)) (rs:aF H0 xs ds):JW (Itl K a) H0 ds:=by
 intro H0' H s0 s1
 have q:SqL K H a xs:=.inl (az.rd s1 (az.rd s0 hq))
 refine ⟨fun i hi=>⟨xs,q,by rw [rs.length];exact hi⟩,fun i d e=>?_⟩
 obtain ⟨v,hv,rv⟩:=rs.get e
 refine ⟨⟨xs,v,q,hv⟩,fun x H' y=>?_⟩
 obtain ⟨e1,y⟩:=y
 subst e1
 have z:=y xs q
 rw [hv] at z
 cases z
 exact ⟨H0',aQ.refl s1,rv.mono s0⟩
theorem IL {K:PySem.W.Frag} {H0:Hp} {a:Addr} {xs:List V} {ds:List Dm.Dat} (hq:H0 a=some (.tup xs)) (rs:aF H0 xs ds):JW (Itt K a) H0 ds:=by
 intro H0' H s0 s1
 have q:SqT K H a xs:=.inl (.inl (s1 _ _ (s0 _ _ hq)))
 refine ⟨fun i hi=>⟨xs,q,by rw [rs.length];exact hi⟩,fun i d e=>?_⟩
 obtain ⟨v,hv,rv⟩:=rs.get e
 refine ⟨⟨xs,v,q,hv⟩,fun x H' y=>?_⟩
 obtain ⟨e1,y⟩:=y
 subst e1
 have z:=y xs q
 rw [hv] at z
 cases z
 exact ⟨H0',aQ.refl s1,rv.mono s0⟩
theorem rL {H0:Hp} {lo:Int} {n:Nat}:JW (Itr lo n) H0 (Dm.ups lo n):=by
 intro H0' H s0 s1
 have el:(Dm.ups lo n).length=n:=by simp [Dm.ups]
 refine ⟨fun i hi=>by rw [el] at hi;exact hi,fun i d e=>?_⟩
 have hi:i<n:=by have:=(List.getElem?_eq_some_iff.mp e).1;rw [el] at this;exact this
 have hd:d=.int (lo+i):=by
  unfold Dm.ups at e
  rw [List.getElem?_map,List.getElem?_range hi] at e
  exact (Option.some.inj e).symm
 refine ⟨hi,fun x H' y=>?_⟩
 obtain ⟨rfl,rfl⟩:=y
 subst hd
 exact ⟨H0',aQ.refl s1,.int _⟩
variable {R:It→Hp→Prop}
theorem NP {K:PySem.W.Frag} {f:Dm.FE} (h:tDI (Dm.iL f) σ H R):rq K (tD f) σ H R:=by
 obtain ⟨H0,ρ,ys,ρ',st,e,k⟩:=h
 unfold Dm.iL at e
 split at e
 ·cases e
 rename_i x ρ1 e1
 split at e
 ·rename_i ds ρ2 e2
  cases e
  refine ⟨H0,ρ,_,ρ1,st,e1,fun v H0' H' t r=>?_⟩
  obtain ⟨H1,t1,b1,r1,_,_⟩:=take1 t (az.refl _) r e2
  cases r1 with
  | lst q rs=>exact ⟨_,rfl,⟨_,.inl (az.rd t1.st.same q)⟩,k _ H1 H' t1 (D7 q rs)⟩
 ·cases e
theorem NQ {K:PySem.W.Frag} {f:Dm.FE} (h:tDI (Dm.iT f) σ H R):zP K (tD f) σ H R:=by
 obtain ⟨H0,ρ,ys,ρ',st,e,k⟩:=h
 unfold Dm.iT at e
 split at e
 ·cases e
 rename_i x ρ1 e1
 split at e
 ·rename_i ds ρ2 e2
  cases e
  refine ⟨H0,ρ,_,ρ1,st,e1,fun v H0' H' t r=>?_⟩
  obtain ⟨H1,t1,b1,r1,_,_⟩:=take1 t (az.refl _) r e2
  cases r1 with
  | tup q rs=>exact ⟨_,rfl,⟨_,.inl (.inl (t1.st.same _ _ q))⟩,k _ H1 H' t1 (IL q rs)⟩
 ·cases e
theorem LG {f:Dm.FE} (h:tDI (Dm.iR1 f) σ H R):Ga (tDA [f]) σ H R:=by
 obtain ⟨H0,ρ,ys,ρ',st,e,k⟩:=h
 unfold Dm.iR1 at e
 split at e
 ·rename_i j ρ1 e1
  split at e
  ·rename_i hb
   cases e
   refine ⟨H0,ρ,[.val (.int j)],_,st,by unfold Dm.eAs;rw [e1];rfl,fun vs H0' H' t r=>?_⟩
   cases r with
   | cons r rr=>
    cases rr
    cases Rep.isInt r
    have h1:=hb.1
    have h2:=hb.2
    unfold Dm.BIG at h1 h2
    exact ⟨j,rfl,by lia,by lia,k _ H0' H' t rL⟩
  ·cases e
 ·cases e
theorem LH {f g:Dm.FE} (h:tDI (Dm.iR2 f g) σ H R):Gb (tDA [f,g]) σ H R:=by
 obtain ⟨H0,ρ,ys,ρ',st,e,k⟩:=h
 unfold Dm.iR2 at e
 split at e
 ·rename_i i ρ1 e1
  split at e
  ·rename_i j ρ2 e2
   split at e
   ·rename_i hb
    cases e
    refine ⟨H0,ρ,[.val (.int i),.val (.int j)],_,st,by unfold Dm.eAs;rw [e1];dsimp only;unfold Dm.eAs;rw [e2];rfl,fun vs H0' H' t r=>?_⟩
    cases r with
    | cons r rr=>
     cases rr with
     | cons r' rr=>
      cases rr
      cases Rep.isInt r
      cases Rep.isInt r'
      obtain ⟨h1,h2,h3,h4⟩:=hb
      unfold Dm.BIG at h1 h2 h3 h4
      exact ⟨i,j,rfl,⟨by lia,by lia,by lia,by lia⟩,k _ H0' H' t rL⟩
   ·cases e
  ·cases e
 ·cases e
noncomputable def tLC (wi:TI) (own:Nat) (g:TG) (tt:TT) (te:TE):TE:=fun σ H Q=>wi σ H fun J H1=>∀ D,H1 D=none→∃ W:Nat→Nat→St→Hp→Prop,
 (∃ m,W 0 m (σ++List.replicate own none) (upd H1 D (.lst [])))∧∀ i m σ' H',W i m σ' H' →
  (J.stop i H'∧Q (.ref D) H')∨(J.go i H'∧∀ x H2,J.yld i H' x H2→g x σ' H2 fun σ2 H3=>tt σ2 H3 fun b H4=>if b=true
   then te σ2 H4 fun y H5=>∃ acc,H5 D=some (.lst acc)∧acc.length<sizeLine∧∃ m',m'<m∧W (i+1) m' σ2 (upd H5 D (.lst (acc++[y])))
   else ∃ m',m'<m∧W (i+1) m' σ2 H4)
theorem aC.aside {H0 H:Hp} {σ:St} {ρ:Dm.Env} {a:Addr} {o:HO} (st:aC H0 H σ ρ) (n0:H0 a=none) (no:¬ ao σ ρ a):aC H0 (upd H a o) σ ρ where
 same:=fun b u z=>by rw [aB (aP z n0)];exact st.same _ _ z
 len:=st.len
 sh:=st.sh
 ow:=fun j d h=>by
  obtain ⟨b,q,n,w⟩:=st.ow j d h
  have nb:b≠a:=fun y=>no ⟨j,d,h,y▸q⟩
  exact ⟨b,q,n,w.mono (az.refl _) (aB nb)⟩
 dis:=st.dis
theorem aC.b9 {H0 H:Hp} {σ:St} {ρ:Dm.Env} {a:Addr} (st:aC H0 H σ ρ) (h:H a=none):¬ ao σ ρ a:=fun ⟨i,d,h1,h2⟩=>by
 obtain ⟨b,q,n,w⟩:=st.ow i d h1
 rw [h2] at q
 cases q
 obtain ⟨o,z⟩:=w.some
 rw [h] at z;cases z
theorem jj {α:Type} {l:List α} {r:List α} {i:Nat} {x:α} (h:(l++r)[i]?=some x) (n:x∉r):i<l.length∧l[i]?=some x:=by
 by_cases hi:i<l.length
 ·rw [List.getElem?_append_left hi] at h
  exact ⟨hi,h⟩
 ·rw [List.getElem?_append_right (Nat.not_lt.mp hi)] at h
  exact absurd (List.mem_of_getElem? h) n
theorem Av {d:Dm.Dat} {k:Nat}:Dm.Cell.sh d∉List.replicate k Dm.Cell.un:=fun h=>by
 have:=List.eq_of_mem_replicate h
 cases this
theorem jk {d:Dm.Dat} {k:Nat}:Dm.Cell.ow d∉List.replicate k Dm.Cell.un:=fun h=>by
 have:=List.eq_of_mem_replicate h
 cases this
theorem aC.ext {H0 H:Hp} {σ:St} {ρ:Dm.Env} (st:aC H0 H σ ρ) (k:Nat):aC H0 H (σ++List.replicate k none) (ρ++List.replicate k .un) where
 same:=st.same
 len:=by simp [st.len]
 sh:=fun i d h=>by
  obtain ⟨hi,h⟩:=jj h Av
  obtain ⟨v,q,r⟩:=st.sh i d h
  exact ⟨v,by rw [List.getElem?_append_left (by rw [st.len];exact hi)];exact q,r⟩
 ow:=fun i d h=>by
  obtain ⟨hi,h⟩:=jj h jk
  obtain ⟨v,q,r⟩:=st.ow i d h
  exact ⟨v,by rw [List.getElem?_append_left (by rw [st.len];exact hi)];exact q,r⟩
 dis:=fun i j d e a h1 h2 h3 h4=>by
  obtain ⟨hi,h1⟩:=jj h1 jk
  obtain ⟨hj,h2⟩:=jj h2 jk
  rw [List.getElem?_append_left (by rw [st.len];exact hi)] at h3
  rw [List.getElem?_append_left (by rw [st.len];exact hj)] at h4
  exact st.dis i j d e a h1 h2 h3 h4
theorem jK {H0 H:Hp} {σ:St} {ρ:Dm.Env} (st:aC H0 H σ ρ) {k:Nat} {a:Addr} (h:ao (σ++List.replicate k none) (ρ++List.replicate k .un) a):ao σ ρ a:=by
 obtain ⟨i,d,h1,h2⟩:=h
 obtain ⟨hi,h1⟩:=jj h1 jk
 rw [List.getElem?_append_left (by rw [st.len];exact hi)] at h2
 exact ⟨i,d,h1,h2⟩
theorem Stp.aside {O:Addr→Prop} {H0 H H0' H':Hp} {D:Addr} {o:HO} (t:Stp O H0 H H0' H') (hD:H D=none):Stp O H0 H H0' (upd H' D o):=
 ⟨t.s0,fun a u e n=>by rw [aB (aP e hD)];exact t.s1 a u e n,t.s2,fun a u e=>by rw [aB (aP e hD)];exact t.s3 a u e⟩
theorem ESt.dH {σ:St} {ρ ρ':Dm.Env} {H0 H H0' H':Hp} (t:ESt σ ρ H0 H ρ' H0' H') {D:Addr} {o:HO} (h:H D=some o) (n0:H0 D=none) (no:¬ ao σ ρ D):H' D=some o∧H0' D=none∧¬ ao σ ρ' D:=by
 refine ⟨t.stp.s1 D o h no,?_,fun z=>no (t.own D z)⟩
 cases q:H0' D with
 | none=>rfl
 | some u=>
  rcases t.stp.s2 D u q with z | z | z
  ·rw [h] at z;cases z
  ·rw [n0] at z;cases z
  ·exact absurd z no
noncomputable def JWa (J:It) (H00:Hp) (pa:Option (Addr×HO)) (ys:List Dm.Dat):Prop:=∀ H0 H,az H00 H0→az H0 H→(∀ q,pa=some q→H q.1=some q.2)→(∀ i,ys.length≤i→J.stop i H) ∧
 ∀ (i:Nat) (d:Dm.Dat),ys[i]?=some d→J.go i H∧∀ x H',J.yld i H x H'→∃ H0',aQ H0 H H0' H'∧Rep H0' x d
theorem rM {σ:St} {own:Nat} {bd:Dm.FB} {g:TG} {t:Dm.FT} {el:Dm.FE} {is:List Nat} {Q:VK} {H00 Hb:Hp} {ρ1 ρ2:Dm.Env} {ds ys:List Dm.Dat} {J:It} {pa:Option (Addr×HO)} (hb:BD is g bd) (hl:∀ i∈is,σ.length≤i)
  (st1:aC H00 Hb σ ρ1) (hp:∀ q,pa=some q→Hb q.1=some q.2∧H00 q.1=none∧¬ ao σ ρ1 q.1) (jw:JWa J H00 pa ds) (hsz:ds.length≤Dm.SZ) (e2:Dm.dF bd t el ds (ρ1++List.replicate own .un) []=some (ys,ρ2))
  (k:∀ v H0' H',ESt σ ρ1 H00 Hb (ρ2.take ρ1.length) H0' H'→fL Hb H0' H' σ (ρ2.take ρ1.length) v (.new (.lst ys))→(∀ q,pa=some q→H' q.1=some q.2∧H0' q.1=none)→Q v H') (D:Addr) (hD:Hb D=none) :
  ∃ W:Nat→Nat→St→Hp→Prop,(∃ m,W 0 m (σ++List.replicate own none) (upd Hb D (.lst [])))∧∀ i m σ' H',W i m σ' H' →
  (J.stop i H'∧Q (.ref D) H')∨(J.go i H'∧∀ x H2,J.yld i H' x H2→g x σ' H2 fun σ2 H3=>tDT t σ2 H3 fun b H4=>if b=true
   then tD el σ2 H4 fun y H5=>∃ acc,H5 D=some (.lst acc)∧acc.length<sizeLine∧∃ m',m'<m∧W (i+1) m' σ2 (upd H5 D (.lst (acc++[y])))
   else ∃ m',m'<m∧W (i+1) m' σ2 H4):=by
 have hpD:∀ q,pa=some q→q.1≠D:=fun q e z=>by have:=(hp q e).1;rw [z,hD] at this;cases this
 have noD:¬ ao σ ρ1 D:=st1.b9 hD
 refine ⟨fun i m σ' H'=>∃ (H0c:Hp) (ρc:Dm.Env) (yO:List Dm.Dat) (uU:List V),aC H0c H' σ' ρc∧az H00 H0c∧m=ds.length-i∧i≤ds.length∧Dm.dF bd t el (ds.drop i) ρc yO=some (ys,ρ2) ∧
  H' D=some (.lst uU)∧aF H0c uU yO∧H0c D=none∧yO.length≤i∧Stp (ao σ ρ1) H00 Hb H0c H'∧(∀ j,j<σ.length→σ'[j]?=σ[j]?)∧(∀ a,ao σ' ρc a→ao σ ρ1 a)∧(∀ j,Def ρ1 j→Def ρc j)∧(∀ q,pa=some q→H' q.1=some q.2∧H0c q.1=none∧¬ ao σ' ρc q.1),
  ⟨ds.length,H00,ρ1++List.replicate own .un,[],[],(st1.aside (st1.same.free hD) noD).ext own,az.refl _,by simp,Nat.zero_le _,by simpa using e2,ay,.nil,st1.same.free hD,Nat.zero_le _,(Stp.refl _ _ _).aside hD,
   fun j hj=>List.getElem?_append_left hj,fun a z=>jK st1 z,fun j z=>trivial,fun q e=>⟨by rw [aB (hpD q e)];exact (hp q e).1,(hp q e).2.1,fun z=>(hp q e).2.2 (jK st1 z)⟩⟩,?_⟩
 rintro i m σ' H' ⟨H0c,ρc,yO,uU,sc,s00,rfl,hi,ec,hDl,ra,n0,hal,sp,hσ,ho,hdf,hpc⟩
 have nOc:¬ ao σ' ρc D:=fun z=>noD (ho D z)
 obtain ⟨js,jg⟩:=jw H0c H' s00 sc.same fun q e=>(hpc q e).1
 by_cases hlt:i<ds.length
 ·have hd:ds[i]?=some ds[i]:=by simp [hlt]
  obtain ⟨g1,g2⟩:=jg i ds[i] hd
  rw [List.drop_eq_getElem_cons hlt] at ec
  unfold Dm.dF at ec
  refine .inr ⟨g1,fun y H2 yy=>?_⟩
  obtain ⟨H0',gr,rx⟩:=g2 y H2 yy
  split at ec
  ·cases ec
  rename_i ρ3 e3
  have t2:=ESt.grow sc gr
  obtain ⟨hD2,n02,no2⟩:=t2.dH hDl n0 nOc
  have hp2:=fun q e=>t2.dH (hpc q e).1 (hpc q e).2.1 (hpc q e).2.2
  refine hb H0' H2 σ' ρc ρ3 y ds[i] _ t2.st rx e3 fun σ3 st3 o3 k3 d3 _=>?_
  have no3:¬ ao σ3 ρ3 D:=fun z=>no2 (o3 D z)
  have po3:∀ q,pa=some q→¬ ao σ3 ρ3 q.1:=fun q e z=>(hp2 q e).2.2 (o3 q.1 z)
  have hσ3:∀ j,j<σ.length→σ3[j]?=σ[j]?:=fun j hj=>(k3 j fun z=>Nat.not_lt.mpr (hl j z) hj).trans (hσ j hj)
  have ho3:∀ a,ao σ3 ρ3 a→ao σ ρ1 a:=fun a z=>ho a (o3 a z)
  have LI:∀ j,Def ρ1 j→Def ρ3 j:=fun j z=>d3 j (hdf j z)
  have sp3:Stp (ao σ ρ1) H00 Hb H0' H2:=sp.trans t2.stp fun a z=>.inl (ho a z)
  have ra3:=ra.mono gr.s0
  have s3:az H00 H0':=s00.trans gr.s0
  split at ec
  ·cases ec
  ·rename_i ρ4 e4
   refine ⟨H0',ρ3,false,ρ4,st3,e4,fun Aw H'' t4=>?_⟩
   dsimp only
   rw [if_neg Bool.false_ne_true]
   obtain ⟨hD4,n04,no4⟩:=t4.dH hD2 n02 no3
   have hp4:=fun q e=>t4.dH (hp2 q e).1 (hp2 q e).2.1 (po3 q e)
   exact ⟨ds.length-(i+1),by lia,Aw,ρ4,yO,uU,t4.st,s3.trans t4.stp.s0,rfl,hlt,ec,hD4,ra3.mono t4.stp.s0,n04,Nat.le_succ_of_le hal,sp3.trans t4.stp fun a z=>.inl (ho3 a z),hσ3,fun a z=>ho3 a (t4.own a z),fun j z=>t4.dfn j (LI j z),hp4⟩
  ·rename_i ρ4 e4
   refine ⟨H0',ρ3,true,ρ4,st3,e4,fun Aw H'' t4=>?_⟩
   dsimp only
   rw [if_pos rfl]
   obtain ⟨hD4,n04,no4⟩:=t4.dH hD2 n02 no3
   have hp4:=fun q e=>t4.dH (hp2 q e).1 (hp2 q e).2.1 (po3 q e)
   split at ec
   ·cases ec
   rename_i x5 ρ5 e5
   split at ec
   ·cases ec
   rename_i y6 ρ6 e6
   refine ⟨Aw,ρ4,x5,ρ5,t4.st,e5,fun v H5 Hc t5 r5=>?_⟩
   obtain ⟨H6,t6,b6,r6,_,_⟩:=take1 t5 (az.refl _) r5 e6
   obtain ⟨hD6,n06,no6⟩:=t6.dH hD4 n04 no4
   have hp6:=fun q e=>t6.dH (hp4 q e).1 (hp4 q e).2.1 (hp4 q e).2.2
   refine ⟨uU,hD6,?_,ds.length-(i+1),by lia,H6,ρ6,yO++[y6],uU++[v],t6.st.aside n06 no6,(s3.trans t4.stp.s0).trans t6.stp.s0,rfl,hlt,ec,ay,?_,n06,?_,?_,hσ3,fun a z=>ho3 a (t4.own a (t6.own a z)),fun j z=>t6.dfn j (t4.dfn j (LI j z)),fun q e=>⟨by rw [aB (hpD q e)];exact (hp6 q e).1,(hp6 q e).2.1,(hp6 q e).2.2⟩⟩
   ·rw [ra.length]
    unfold Dm.SZ at hsz
    exact Nat.lt_of_le_of_lt (Nat.le_trans hal (Nat.le_trans (Nat.le_of_lt hlt) hsz)) (by decide)
   ·exact ((ra3.mono t4.stp.s0).mono t6.stp.s0).append (.cons r6 .nil)
   ·rw [List.length_append,List.length_singleton];lia
   ·exact ((sp3.trans t4.stp fun a z=>.inl (ho3 a z)).trans t6.stp fun a z=>.inl (ho3 a (t4.own a z))).aside hD
 ·have e':i=ds.length:=by lia
  subst e'
  rw [List.drop_length] at ec
  cases ec
  refine .inl ⟨js _ (Nat.le_refl _),k _ H0c H' ?_ ?_ fun q e=>⟨(hpc q e).1,(hpc q e).2.1⟩⟩
  ·have hlen:σ.length≤ρ2.length:=by
    rw [← sc.len]
    refine Nat.not_lt.mp fun z=>?_
    have q:=hσ σ'.length z
    rw [List.getElem?_eq_none (Nat.le_refl _),List.getElem?_eq_getElem z] at q
    cases q
   have tk:∀ {j:Nat} {c:Dm.Cell},(ρ2.take ρ1.length)[j]?=some c→j<σ.length∧ρ2[j]?=some c:=fun {j c} h=>by
    have hj:j<ρ1.length:=by
     have:=(List.getElem?_eq_some_iff.mp h).1
     rw [List.length_take] at this
     lia
    rw [List.getElem?_take_of_lt hj] at h
    exact ⟨by rw [st1.len];exact hj,h⟩
   have own':∀ a,ao σ (ρ2.take ρ1.length) a→ao σ' ρ2 a:=fun a ⟨j,d,h1,h2⟩=>by
    obtain ⟨hj,h1⟩:=tk h1
    exact ⟨j,d,h1,(hσ j hj).trans h2⟩
   refine ⟨⟨sc.same,?_,fun j d h=>?_,fun j d h=>?_,fun j j' d d' a h1 h2 h3 h4=>?_⟩,sp,fun a z=>ho a (own' a z),fun j z=>?_⟩
   ·rw [List.length_take,← st1.len];lia
   ·obtain ⟨hj,h⟩:=tk h
    obtain ⟨v,q,r⟩:=sc.sh j d h
    exact ⟨v,(hσ j hj).symm.trans q,r⟩
   ·obtain ⟨hj,h⟩:=tk h
    obtain ⟨v,q,r⟩:=sc.ow j d h
    exact ⟨v,(hσ j hj).symm.trans q,r⟩
   ·obtain ⟨hj,h1⟩:=tk h1
    obtain ⟨hj',h2⟩:=tk h2
    exact sc.dis j j' d d' a h1 h2 ((hσ j hj).trans h3) ((hσ j' hj').trans h4)
   ·trivial
  ·refine ⟨D,rfl,hD,fun ⟨j,d,h1,h2⟩=>?_,n0,uU,hDl,ra⟩
   have hj:j<ρ1.length:=by
    have:=(List.getElem?_eq_some_iff.mp h1).1
    rw [List.length_take] at this
    lia
   rw [List.getElem?_take_of_lt hj] at h1
   exact nOc ⟨j,d,h1,(hσ j (by rw [st1.len];exact hj)).trans h2⟩
theorem uV {fi:Dm.FI} {own:Nat} {bd:Dm.FB} {g:TG} {t:Dm.FT} {el:Dm.FE} {is:List Nat} {Q:VK} (hb:BD is g bd) (hl:∀ i∈is,σ.length≤i) (h:tD (Dm.bU fi own bd t el) σ H Q) :
  tLC (tDI fi) own g (tDT t) (tD el) σ H Q:=by
 obtain ⟨H0,ρ,x,ρ',st,e,k⟩:=h
 unfold Dm.bU at e
 split at e
 ·cases e
 rename_i ds ρ1 e1
 split at e
 case isFalse=>cases e
 rename_i hsz
 split at e
 ·cases e
 rename_i ys ρ2 e2
 cases e
 refine ⟨H0,ρ,ds,ρ1,st,e1,fun J H00 Hb t1 jw D hD=>rM (pa:=none) hb hl t1.st (fun q e=>by cases e) (fun H0 H s0 s1 _=>jw H0 H s0 s1) hsz e2 (fun v H0' H' t2 r2 _=>k v H0' H' (t1.trans t2) (r2.early fun a n=>t1.stp.gone n)) D hD⟩
theorem Ax {n m:Nat} {body:Dm.FS} {vs:List V} {H:Hp} {Q:VK} {E:XK} (h:spD (Dm.fn n m body) vs H Q E):vs.length=n:=by
 obtain ⟨H0,ds,z,s,rs,e,k⟩:=h
 unfold Dm.fn at e
 split at e
 ·rename_i hl
  rw [rs.length];exact hl
 ·cases e
theorem NR {N:List Str} {n m:Nat} {body:Dm.FS} {vs:List V} {Q:VK} {E:XK} (hm:N.length=n+m) (h:spD (Dm.fn n m body) vs H Q E) :
  tDS body { nx:=fun _ H'=>Q .non H',rt:=Q } (start N vs) H:=by
 have hvn:=Ax h
 obtain ⟨H0,ds,z,s,rs,e,k⟩:=h
 have hl:=rs.length
 have no:∀ a,¬ ao (start N vs) (ds.map Dm.Cell.sh++List.replicate m .un) a:=fun a ⟨i,d,h1,_⟩=>by
  by_cases hi:i<ds.length
  ·rw [List.getElem?_append_left (by simpa using hi),List.getElem?_map] at h1
   cases q:ds[i]? with
   | none=>rw [q] at h1;cases h1
   | some y=>rw [q] at h1;cases h1
  ·rw [List.getElem?_append_right (by simpa using hi),List.getElem?_replicate] at h1
   split at h1<;>cases h1
 have st:aC H0 H (start N vs) (ds.map Dm.Cell.sh++List.replicate m .un):=by
  refine ⟨s,?_,fun i d h=>?_,fun i d h=>?_,fun i j d e a h1 h2 _ _=>?_⟩
  ·unfold L2.start
   simp only [List.length_append,List.length_map,List.length_replicate]
   lia
  ·have hi:i<ds.length:=by
    by_cases hi:i<ds.length
    ·exact hi
    ·rw [List.getElem?_append_right (by simpa using hi),List.getElem?_replicate] at h
     split at h<;>cases h
   rw [List.getElem?_append_left (by simpa using hi),List.getElem?_map] at h
   cases q:ds[i]? with
   | none=>rw [q] at h;cases h
   | some y=>
    rw [q] at h
    cases h
    obtain ⟨v,hv,r⟩:=rs.get q
    refine ⟨v,?_,r⟩
    unfold L2.start
    rw [List.getElem?_append_left (by simpa [hl] using hi),List.getElem?_map,hv]
    rfl
  ·by_cases hi:i<ds.length
   ·rw [List.getElem?_append_left (by simpa using hi),List.getElem?_map] at h
    cases q:ds[i]? with
    | none=>rw [q] at h;cases h
    | some y=>rw [q] at h;cases h
   ·rw [List.getElem?_append_right (by simpa using hi),List.getElem?_replicate] at h
    split at h<;>cases h
  ·by_cases hi:i<ds.length
   ·rw [List.getElem?_append_left (by simpa using hi),List.getElem?_map] at h1
    cases q:ds[i]? with
    | none=>rw [q] at h1;cases h1
    | some y=>rw [q] at h1;cases h1
   ·rw [List.getElem?_append_right (by simpa using hi),List.getElem?_replicate] at h1
    split at h1<;>cases h1
 have gr:∀ {H0' H'},Stp (ao (start N vs) (ds.map Dm.Cell.sh++List.replicate m .un)) H0 H H0' H'→az H0' H'→aQ H0 H H0' H':=fun {H0' H'} t ss=>
  ⟨t.s0,fun a o e=>t.s1 a o e (no a),fun a o e=>(t.s2 a o e).imp id fun q=>q.elim id fun z=>absurd z (no a),ss⟩
 unfold Dm.fn at e
 rw [if_pos (by rw [← hl];exact hvn)] at e
 split at e
 ·rename_i r ρ' e1
  cases e
  refine ⟨H0,_,_,st,e1,fun σ' v H0' H' t r _=>k v H0' H' (gr t.stp t.st.same) ?_⟩
  cases z with
  | val d=>exact r
  | new d=>
   obtain ⟨a,e,n,n0,w⟩:=r
   exact ⟨a,e,n.elim id fun z=>absurd z (no a),n0,w⟩
 ·rename_i ρ' e1
  cases e
  exact ⟨H0,_,_,st,e1,fun σ' H0' H' t=>k _ H0' H' (gr t.stp t.st.same) .non⟩
 ·cases e
end
open PySem PySem.Spec PyProof.Rows L2
noncomputable def bw (X:Cx) (nm:List Str) (scope:Scope) (own:List Str) (cl:List (Str×Addr)) (C:Addr) (s:Shared) (H:Hp) (fp:List Addr):Cx where
 prog:=X.prog
 w:=X.w
 K:=X.K
 mg:=X.mg
 base:=X.base
 A:=X.A
 N:=nm++own
 s₀:=s
 H₀:=H
 env:=compEnvC scope cl C X.env
 outer:=X.stack
 stack:=X.stack
 ex:=fp
 fn:=fun _=>false
 calm:=X.calm
 pn:=[]
 xe:=fun _ _=>False
noncomputable def PTs (X:Cx) (ifs:List Expr) (t:TT):Prop:=
 ∀ (pins:List (Addr×Obj)) (s:Shared) (σ:L2.St) (H:Hp) (Q:Bool→Hp→Prop),Inv X pins σ H s→t σ H Q →
  wpAny (model X.prog X.w) X.A (forIn ifs true fun c r=>if r=true then do let ok ← isTrue c X.env (eval c X.env);pure (ForInStep.yield ok) else pure (ForInStep.yield r)) (TP X pins σ Q) X.xe s
noncomputable def D8:TT:=fun _ H Q=>Q true H
theorem wL {X:Cx}:PTs X [] D8:=fun pins s σ H Q I h=>wpAny_tests_nil ⟨H,I,h⟩
theorem D9 {X:Cx} {c:Expr} {t:TT} (h:PT X c t):PTs X [c] t:=fun pins s σ H Q I hq=>wpAny_tests_one (h pins s σ H Q I hq)
theorem d8 (env:Env):∀ (names:List (Str×NameKind)) (cs:List (Str×Addr)),(∀ y∈names,y.2=.free→∃ c,env.cells.lookup y.1=some c) →
  ∃ cl,(forIn names cs fun (x:Str×NameKind) (r:List (Str×Addr))=>(if (x.2 == NameKind.free)=true then do let c ← cellOf env x.1;pure (ForInStep.yield ((x.1,c)::r)) else pure (ForInStep.yield r):Sem (ForInStep (List (Str×Addr)))))=pure cl ∧
   (∀ x c,cl.lookup x=some c→env.cells.lookup x=some c∨cs.lookup x=some c)∧(∀ y∈names,y.2=.free→∃ c,cl.lookup y.1=some c)∧(∀ x c,cs.lookup x=some c→∃ c',cl.lookup x=some c')
 | [],cs,_=>⟨cs,rfl,fun _ _ h=>.inr h,fun _ h=>(nomatch h),fun _ c h=>⟨c,h⟩⟩
 | (n,k)::r,cs,h=>by
  have hr:∀ y∈r,y.2=.free→∃ c,env.cells.lookup y.1=some c:=fun y hy=>h y (List.mem_cons_of_mem _ hy)
  by_cases hk:k=.free
  ·subst hk
   obtain ⟨c,hc⟩:=h (n,.free) List.mem_cons_self rfl
   obtain ⟨cl,e,h1,h2,h3⟩:=d8 env r ((n,c)::cs) hr
   refine ⟨cl,?_,fun x c' q=>?_,fun y hy hf=>?_,fun x c' q=>?_⟩
   ·rw [List.forIn_cons]
    have e1:cellOf env n=pure c:=by unfold cellOf;rw [hc]
    simp only [beq_self_eq_true,if_true,e1,pure_bind]
    exact e
   ·rcases h1 x c' q with z | z
    ·exact .inl z
    ·rw [List.lookup_cons] at z
     cases hx:x == n with
     | true=>
      rw [hx] at z
      have:x=n:=by simpa using hx
      subst this
      injection z with z
      subst z
      exact .inl hc
     | false=>rw [hx] at z;exact .inr z
   ·rcases List.mem_cons.mp hy with rfl | hy
    ·exact h3 n c (by rw [List.lookup_cons,beq_self_eq_true])
    ·exact h2 y hy hf
   ·by_cases hx:x=n
    ·subst hx
     exact h3 x c (by rw [List.lookup_cons,beq_self_eq_true])
    ·have hx':(x == n)=false:=by simpa using hx
     exact h3 x c' (by rw [List.lookup_cons,hx'];exact q)
  ·have hb:(k == NameKind.free)=false:=by simpa using hk
   obtain ⟨cl,e,h1,h2,h3⟩:=d8 env r cs hr
   refine ⟨cl,?_,h1,fun y hy hf=>?_,h3⟩
   ·rw [List.forIn_cons]
    simp only [hb,Bool.false_eq_true,if_false,pure_bind]
    exact e
   ·rcases List.mem_cons.mp hy with rfl | hy
    ·exact absurd hf hk
    ·exact h2 y hy hf
theorem lR {env:Env} {scope:Scope} (h:∀ y∈scope.names,y.2=.free→∃ c,env.cells.lookup y.1=some c) :
  ∃ cl,closureFor scope env=pure cl∧(∀ x c,cl.lookup x=some c→env.cells.lookup x=some c)∧∀ y∈scope.names,y.2=.free→∃ c,cl.lookup y.1=some c:=by
 obtain ⟨cl,e,h1,h2,_⟩:=d8 env scope.names [] h
 refine ⟨cl,?_,fun x c q=>(h1 x c q).elim id fun z=>by simp at z,h2⟩
 unfold closureFor
 have e':(forIn scope.names ([]:List (Str×Addr)) fun (x:Str×NameKind) (r:List (Str×Addr))=>(if (x.2 == NameKind.free)=true then do let c ← cellOf env x.1;pure (ForInStep.yield ((x.1,c)::r)) else pure (ForInStep.yield r):Sem (ForInStep (List (Str×Addr)))))=pure cl:=e
 first
  | (rw [show (forIn scope.names ([]:List (Str×Addr)) _:Sem (List (Str×Addr)))=pure cl from e'];rfl)
  | (simp only [e'];rfl)
theorem qv {prog:Program} {w:World} {A:Around} {R:Result→Shared→Prop} {s:Shared} {elt target iter:Expr} {ifs:List Expr} {scope:Scope} {pos:Pos} {it acc:Value} {env:Env} (I:Nat→Shared→Prop)
  (turn:∀ n s,I n s→wpAny (model prog w) A (pyNext it) (fun r s₁=>match r with
   | none=>R (.ok .next) s₁
   | some v=>wpAny (model prog w) A (letOwnedTupleGo target it v) (fun _ s₁'=>wpAny (model prog w) A (assign target env v) (fun _ s₂=>
     wpAny (model prog w) A (forIn ifs true fun c r=>if r=true then do let ok ← isTrue c env (eval c env);pure (ForInStep.yield ok) else pure (ForInStep.yield r)) (fun ok s₃=>
      if ok=true then wpAny (model prog w) A (eval elt env) (fun x s₄=>
       wpAny (model prog w) A (call (.builtin "list.append") [acc,x]) (fun _ s₅=>∃ m,m<n∧I m s₅) (fun _ _=>False) s₄) (fun _ _=>False) s₃
      else ∃ m,m<n∧I m s₃) (fun _ _=>False) s₂) (fun _ _=>False) s₁') (fun _ _=>False) s₁) (fun _ _=>False) s)
  (n:Nat) (h:I n s) :
  codeAny (model prog w) A (.compLoop (.ListComp elt [⟨target,iter,ifs,0⟩] scope pos) 0 it acc env) R s:=by
 have no:∀ {P:Value→Shared→Prop} (x:Value) (s':Shared),False→P x s':=fun _ _ f=>f.elim
 refine codeAny_loop rfl I (fun n s hI=>?_) n h
 show wpAny _ A ((compTurn (.ListComp elt [⟨target,iter,ifs,0⟩] scope pos) 0 it acc env).onRaise (fun x=>do noteFrame x env;theTreesLotGoes x)) _ _ s
 refine wpAny_noted ?_
 rw [compTurn_list]
 refine wpAny_bind (wpAny_standAt (wpAny_bind (wpAny_mono (turn n s hI) (fun r s₁ h₁=>?_) no)))
 cases r with
 | none=>exact wpAny_pure h₁
 | some v=>
  refine wpAny_bind (wpAny_mono h₁ (fun _ s₁' h₁'=>?_) no)
  refine wpAny_bind (wpAny_mono h₁' (fun _ s₂ h₂=>wpAny_bind (wpAny_mono h₂ (fun ok s₃ h₃=>?_) no)) no)
  cases ok with
  | false=>exact wpAny_pure ⟨rfl,h₃⟩
  | true=>
   exact wpAny_bind (wpAny_bind (wpAny_mono h₃ (fun x s₄ h₄=>wpAny_bind (wpAny_mono h₄ (fun _ s₅ h₅=>wpAny_pure (wpAny_pure ⟨rfl,h₅⟩)) no)) no))
theorem cU (env:Env):∀ (names:List (Str×NameKind)) (x:Str) (k:NameKind),
  (names.map fun (n,k)=>if (k == NameKind.free&&env.scope.kind == .function&&env.kindOf n == some .cell) then (n,NameKind.cell) else (n,k)).lookup x=some k →
  ∃ k0,names.lookup x=some k0∧(k=k0∨(k0=.free∧k=.cell))
 | [],x,k,h=>by simp at h
 | (n,k1)::r,x,k,h=>by
  have h:List.lookup x ((if (k1 == NameKind.free&&env.scope.kind == .function&&env.kindOf n == some .cell)=true then (n,NameKind.cell) else (n,k1))::r.map fun (n,k)=>if (k == NameKind.free&&env.scope.kind == .function&&env.kindOf n == some .cell) then (n,NameKind.cell) else (n,k))=some k:=h
  cases hx:x == n with
  | true=>
   by_cases hc:(k1 == NameKind.free&&env.scope.kind == .function&&env.kindOf n == some .cell)=true
   ·rw [if_pos hc,List.lookup_cons,hx] at h
    injection h with h
    have hk:k1=.free:=by
     simp only [Bool.and_eq_true,beq_iff_eq] at hc
     exact hc.1.1
    exact ⟨k1,by rw [List.lookup_cons,hx],.inr ⟨hk,h.symm⟩⟩
   ·rw [if_neg hc,List.lookup_cons,hx] at h
    injection h with h
    exact ⟨k1,by rw [List.lookup_cons,hx],.inl h.symm⟩
  | false=>
   by_cases hc:(k1 == NameKind.free&&env.scope.kind == .function&&env.kindOf n == some .cell)=true
   ·rw [if_pos hc,List.lookup_cons,hx] at h
    obtain ⟨k0,e,z⟩:=cU env r x k h
    exact ⟨k0,by rw [List.lookup_cons,hx];exact e,z⟩
   ·rw [if_neg hc,List.lookup_cons,hx] at h
    obtain ⟨k0,e,z⟩:=cU env r x k h
    exact ⟨k0,by rw [List.lookup_cons,hx];exact e,z⟩
structure dg (X:Cx) (nm:List Str) (scope:Scope):Prop where
 kind:scope.kind=.function
 cell:∀ y∈scope.names,y.2≠.cell
 names:∀ y∈scope.names,y.2=.local→scope.names.lookup y.1=some .local
 free:∀ y∈scope.names,y.2=.free→X.env.kindOf y.1=some .cell∨X.env.kindOf y.1=some .free
 apart:∀ x∈nm,scope.names.lookup x≠some .local
 len:nm.length=X.N.length
 mask:∀ (i:Nat) (x:Str),nm[i]?=some x→X.N[i]?=some x∨scope.names.lookup x=none
section
variable {X:Cx} {nm:List Str} {elt tg iter:Expr} {ifs:List Expr} {scope:Scope} {pos:Pos} {own:List Str} {wi:TI} {g:TG} {tt:TT} {te:TE}
theorem pe {pins:List (Addr×Obj)} {s2:Shared} {σ:L2.St} {H2:Hp} {cl:List (Str×Addr)} {it:Addr} {fp:List Addr} {tn:Nat→Heap→Prop} {J:It} {Q:VK} {E:Value→Shared→Prop} {RR:Value→Addr→Result→Shared→Prop}
  (hc:X.calm=true) (S:dg X nm scope) (lT:∀ x c,cl.lookup x=some c→X.env.cells.lookup x=some c) (yP:∀ y∈scope.names,y.2=.free→∃ c,cl.lookup y.1=some c)
  (hg:∀ cl C s H fp,PG (bw X nm scope own cl C s H fp) tg g) (ht:∀ cl C s H fp,PTs (bw X nm scope own cl C s H fp) ifs tt) (he:∀ cl C s H fp,PE (bw X nm scope own cl C s H fp) elt te)
  (I2:Inv X pins σ H2 s2) (T:Turn X.prog X.w X.K tg J fp it tn) (st2:tn 0 s2.heap) (f2:∀ b∈fp,oE X pins H2 b)
  (hR:∀ D,H2 D=none→∃ W:Nat→Nat→L2.St→Hp→Prop,
   (∃ m,W 0 m (σ++List.replicate own.length none) (upd H2 D (.lst [])))∧∀ i m σ' H',W i m σ' H' →
    (J.stop i H'∧Q (.ref D) H')∨(J.go i H'∧∀ x H2,J.yld i H' x H2→g x σ' H2 fun σ2 H3=>tt σ2 H3 fun b H4=>if b=true
     then te σ2 H4 fun y H5=>∃ acc,H5 D=some (.lst acc)∧acc.length<sizeLine∧∃ m',m'<m∧W (i+1) m' σ2 (upd H5 D (.lst (acc++[y])))
     else ∃ m',m'<m∧W (i+1) m' σ2 H4))
  (NT:∀ D C H6 s6,Inv X pins σ H6 s6→H6 C=none→C≠X.env.locals→X.s₀.heap.objs.size≤C→(∀ x c,X.env.cells.lookup x=some c→c≠C)→(∀ p∈X.pn++pins,p.1≠C)→(∃ m,s6.heap.Ns C m)→Q (.ref D) H6→RR (.ref D) C (.ok .next) s6) :
  wpAny (model X.prog X.w) X.A (newList []) (fun acc s₃=>wpAny (model X.prog X.w) X.A (newFunctionEnv scope X.env.globals cl [] X.env.qual none .none (some X.env)) (fun cenv s₄=>
   codeAny (model X.prog X.w) X.A (.compStart (.ListComp elt [⟨tg,iter,ifs,0⟩] scope pos) 0 (.ref it) acc { cenv with scope:=relabel scope X.env }) (RR acc cenv.locals) s₄) E s₃) E s2:=by
 have no:∀ {P:Value→Shared→Prop} (x:Value) (s':Shared),False→P x s':=fun _ _ f=>f.elim
 refine wpAny_newObj_type (wpAny_newFunctionEnv S.cell (by intro y hy;simp at hy) (fun h₁ hns₁ hsb₁=>?_) S.kind)
 dsimp only at hns₁ hsb₁ ⊢
 have I3:Inv X pins σ (upd H2 s2.heap.objs.size (.lst [])) { s2 with heap:=s2.heap.push { cls:=.type "list",dict:=none,data:=.seq ([]:List Value).toArray } }:=I2.Ir (t':=s2.toks) (ys:=[]) (its:=[]) .nil (Nat.zero_le _)
 generalize hG2:s2.heap.push { cls:=.type "list",dict:=none,data:=.seq ([]:List Value).toArray }=G2 at hns₁ hsb₁ I3 ⊢
 have hC:G2.objs.size=s2.heap.objs.size+1:=by rw [← hG2,Heap.size_push]
 have up2:∀ b o,s2.heap.get? b=some o→G2.get? b=some o:=fun b o e=>hG2▸Heap.get?_push_of_some _ e
 have up3:∀ b o,G2.get? b=some o→h₁.get? b=some o:=fun b o e=>hsb₁.extBut b o (Nat.ne_of_lt (Heap.lt_size e)) (Heap.get?_push_of_some _ e)
 have NU:G2.get? G2.objs.size=none:=Heap.get?_none_of_le (Nat.le_refl _)
 have fpo:∀ b∈fp,∃ o,s2.heap.get? b=some o:=fun b hb=>by
  obtain ⟨o,e,_⟩:=T.obj 0 _ st2 b hb
  exact ⟨o,e⟩
 have fpC:∀ b∈fp,b≠G2.objs.size:=fun b hb=>by
  obtain ⟨o,e⟩:=fpo b hb
  exact Nat.ne_of_lt (Heap.lt_size (up2 b o e))
 have H3C:(upd H2 s2.heap.objs.size (.lst [])) G2.objs.size=none:=I3.hok.fresh (Nat.le_refl _)
 have fpD:∀ b∈fp,b≠s2.heap.objs.size:=fun b hb=>by
  obtain ⟨o,e⟩:=fpo b hb
  exact Nat.ne_of_lt (Heap.lt_size e)
 have LJ:∀ b∈fp,b∉frs X.stack:=fun b hb z=>by
  rcases List.mem_cons.mp (I3.uB b z) with y | y
  ·exact (f2 b hb).2.1 y
  ·exact (f2 b hb).2.2.1 y
 have ok':(bw X nm scope own cl G2.objs.size { s2 with heap:=G2 } (upd H2 s2.heap.objs.size (.lst [])) fp).Ok:=by
  refine ⟨I3.ok.mod,S.kind,I3.ok.glob,I3.ok.blt,Nat.le_refl _,fun x y c e1 e2=>I3.ok.inj x y c (lT x c e1) (lT y c e2),fun x hx=>?_,fun x c z=>(nomatch z),I3.ok.hd,I3.ok.frames,.inl rfl,
   fun b hb=>⟨fpC b hb,fun x c e=>(f2 b hb).2.2.2.2.1 x c (lT x c e)⟩,fun b o e=>I3.bs b o e,Nat.le_trans I3.ok.bsz I3.sz,fun b o e hb=>?_,fun b hb=>LJ b hb,I3.stack,I3.v_⟩
  ·have hx:(relabel scope X.env).names.lookup x=some .cell∨(relabel scope X.env).names.lookup x=some .free:=hx
   have key:∀ k,(relabel scope X.env).names.lookup x=some k→k≠.local→k=.cell∨k=.free→∃ c,cl.lookup x=some c:=fun k hk _ hkk=>by
    obtain ⟨k0,e0,z⟩:=cU X.env scope.names x k hk
    have m0:=PySem.mem_of_lookup e0
    have f0:k0=.free:=by
     rcases z with z | z
     ·subst z
      rcases hkk with q | q
      ·exact absurd q (S.cell _ m0)
      ·exact q
     ·exact z.1
    exact yP (x,k0) m0 f0
   rcases hx with hx | hx
   ·exact key _ hx (by decide) (.inl rfl)
   ·exact key _ hx (by decide) (.inr rfl)
  ·rcases (f2 b hb).2.2.2.1 with z | z
   ·exact I3.ok.zF b o e z
   ·exact absurd (Nat.lt_of_lt_of_le (Heap.lt_size e) (Nat.le_trans I3.ok.bsz z)) (Nat.lt_irrefl _)
 have stat:∀ {H':Hp},(∀ b∈fp,H' b=none)→∀ b∈fp,oE (bw X nm scope own cl G2.objs.size { s2 with heap:=G2 } (upd H2 s2.heap.objs.size (.lst [])) fp) [] H' b:=fun hn b hb=>
  ⟨hn b hb,fpC b hb,LJ b hb,.inl hb,fun x c e=>(f2 b hb).2.2.2.2.1 x c (lT x c e),fun p hp=>(nomatch (show p∈([]:List (Addr×Obj)) from hp))⟩
 have I4:Inv (bw X nm scope own cl G2.objs.size { s2 with heap:=G2 } (upd H2 s2.heap.objs.size (.lst [])) fp) [] (σ++List.replicate own.length none) (upd H2 s2.heap.objs.size (.lst [])) { s2 with heap:=h₁,toks:=s2.toks+([]:List (Str×Value)).length }:=by
  refine ⟨ok',rfl,I3.bare,Un.kept up3,⟨_,hns₁,fun i x v e1 e2 e3=>?_⟩,fun x c e=>?_,H3C,fun x c e=>I3.gH x c (lT x c e),fun p hp=>(nomatch (show p∈([]:List (Addr×Obj)) from hp)),I3.hok.kept up3,?_⟩
  ·have e1:(nm++own)[i]?=some x:=e1
   have hi:i<σ.length:=by
    by_cases hi:i<σ.length
    ·exact hi
    ·rw [List.getElem?_append_right (Nat.not_lt.mp hi),List.getElem?_replicate] at e2
     split at e2<;>cases e2
   rw [List.getElem?_append_left hi] at e2
   rw [List.getElem?_append_left (by rw [S.len,← I3.len];exact hi)] at e1
   have key:∀ k,(relabel scope X.env).names.lookup x=some k→k=.local∨k=.cell∨k=.free→scope.names.lookup x=some .free∧(k=.cell∨k=.free):=fun k hk hkk=>by
    obtain ⟨k0,e0,z⟩:=cU X.env scope.names x k hk
    have m0:=PySem.mem_of_lookup e0
    have n1:k0≠.local:=fun y=>S.apart x (List.mem_of_getElem? e1) (y▸e0)
    have n2:k0≠.cell:=S.cell _ m0
    rcases z with z | z
    ·subst z
     rcases hkk with q | q | q
     ·exact absurd q n1
     ·exact absurd q n2
     ·subst q;exact ⟨e0,.inr rfl⟩
    ·obtain ⟨z1,z2⟩:=z
     subst z1;subst z2
     exact ⟨e0,.inl rfl⟩
   have hk:∃ k,(relabel scope X.env).names.lookup x=some k∧(k=.cell∨k=.free)∧scope.names.lookup x=some .free:=by
    rcases (show (relabel scope X.env).names.lookup x=some .local∨(relabel scope X.env).names.lookup x=some .cell∨(relabel scope X.env).names.lookup x=some .free from e3) with q | q | q
    ·obtain ⟨a,b⟩:=key _ q (.inl rfl);exact ⟨_,q,b,a⟩
    ·obtain ⟨a,b⟩:=key _ q (.inr (.inl rfl));exact ⟨_,q,b,a⟩
    ·obtain ⟨a,b⟩:=key _ q (.inr (.inr rfl));exact ⟨_,q,b,a⟩
   obtain ⟨k,hk1,hk2,hk3⟩:=hk
   have m0:=PySem.mem_of_lookup hk3
   obtain ⟨c,hcc⟩:=yP (x,.free) m0 rfl
   obtain ⟨m,hn,hl⟩:=I3.loc
   have hout:=S.free (x,.free) m0 rfl
   have NV:Vis X.env.scope x:=by
    rcases hout with q | q
    ·exact .inr (.inl q)
    ·exact .inr (.inr q)
   have e1':X.N[i]?=some x:=by
    rcases S.mask i x e1 with z | z
    ·exact z
    ·rw [z] at hk3;cases hk3
   obtain ⟨u,ru,lk⟩:=hl i x v e1' e2 NV
   refine ⟨u,ru,.inr ⟨?_,c,hcc,?_⟩⟩
   ·rcases hk2 with q | q
    ·subst q;exact .inl hk1
    ·subst q;exact .inr hk1
   ·rcases lk with ⟨q,_⟩ | ⟨_,c',e',z⟩
    ·rcases hout with y | y
     ·rw [q] at y;cases y
     ·rw [q] at y;cases y
    ·rw [lT x c hcc] at e'
     cases e'
     obtain ⟨o,ho,hd⟩:=z
     exact ⟨o,up3 c o ho,hd⟩
  ·obtain ⟨v,o,ho,hd⟩:=I3.cell x c (lT x c e)
   exact ⟨v,o,up3 c o ho,hd⟩
  ·show (σ++List.replicate own.length none).length=(nm++own).length
   rw [List.length_append,List.length_append,List.length_replicate,I3.len,S.len]
 obtain ⟨W,⟨m0,w0⟩,turn⟩:=hR s2.heap.objs.size I2.fresh
 have st4:tn 0 h₁:=T.keep 0 _ _ st2 fun b hb o e=>up3 b o (up2 b o e)
 have NW:∀ b∈fp,(upd H2 s2.heap.objs.size (.lst [])) b=none:=fun b hb=>by rw [aB (fpD b hb)];exact (f2 b hb).1
 have loop:∀ s₃:Shared,s₃={ s2 with heap:=h₁,toks:=s2.toks+([]:List (Str×Value)).length } →
   codeAny (model X.prog X.w) X.A (.compLoop (.ListComp elt [⟨tg,iter,ifs,0⟩] scope pos) 0 (.ref it) (.ref s2.heap.objs.size) (compEnvC scope cl G2.objs.size X.env))
    (RR (.ref s2.heap.objs.size) G2.objs.size) s₃:=by
  rintro s₃ rfl
  refine qv (fun n s'=>∃ i σ' H',Inv (bw X nm scope own cl G2.objs.size { s2 with heap:=G2 } (upd H2 s2.heap.objs.size (.lst [])) fp) [] σ' H' s'∧tn i s'.heap∧(∀ b∈fp,H' b=none)∧W i n σ' H') ?_ m0
   ⟨0,_,_,I4,st4,NW,w0⟩
  rintro n s5 ⟨i,σ5,H5,I5,st5,fr5,w5⟩
  rcases turn i n σ5 H5 w5 with ⟨stop,q⟩ | ⟨go,step⟩
  ·refine wpAny_mono (T.done (bw X nm scope own cl G2.objs.size { s2 with heap:=G2 } (upd H2 s2.heap.objs.size (.lst [])) fp) rfl rfl rfl hc i [] s5 σ5 H5 (fun _ _=>False) I5 (stat fr5) st5 stop) (fun r s6 hr6=>?_) no
   obtain ⟨hr,I6⟩:=hr6
   subst hr
   have I7:Inv X pins σ H5 s6:=I3.K7 (ch:=fp) I6.os I6.base I6.hok I6.bare fun b hb=>⟨(f2 b hb).2.2.2.1,(f2 b hb).2.1,(f2 b hb).2.2.2.2.1,(f2 b hb).2.2.2.2.2⟩
   refine NT _ _ H5 s6 I7 I6.free (Nat.ne_of_gt (show X.env.locals<G2.objs.size from I3.lt)) I3.sz (fun x c e=>?_) (fun p hp=>?_) (let ⟨m,hn,_⟩:=I6.loc;⟨m,hn⟩) q
   ·obtain ⟨v,z⟩:=I3.cell x c e
    exact Nat.ne_of_lt z.lt
   ·exact Nat.ne_of_lt (Heap.lt_size (I3.pin p hp).1)
  ·refine wpAny_mono (T.item (bw X nm scope own cl G2.objs.size { s2 with heap:=G2 } (upd H2 s2.heap.objs.size (.lst [])) fp) rfl rfl rfl hc i [] s5 σ5 H5 (fun _ _=>False) I5 (stat fr5) st5 go) (fun r s6 hr6=>?_) no
   obtain ⟨u,hr,h6⟩:=hr6
   subst hr
   refine wpAny_mono h6 (fun _ s7 h7=>?_) no
   obtain ⟨x,H7,I7,r7,y7,st7,fr7⟩:=h7
   have I7':=I7.pinned (stat fr7) (T.obj _ _ st7)
   have again:∀ {s9:Shared} {σ9:L2.St} {H9:Hp} {m':Nat},m'<n→Inv (bw X nm scope own cl G2.objs.size { s2 with heap:=G2 } (upd H2 s2.heap.objs.size (.lst [])) fp) ([]++lu fp s7.heap) σ9 H9 s9→W (i+1) m' σ9 H9 →
     ∃ m,m<n∧∃ i σ' H',Inv (bw X nm scope own cl G2.objs.size { s2 with heap:=G2 } (upd H2 s2.heap.objs.size (.lst [])) fp) [] σ' H' s9∧tn i s9.heap∧(∀ b∈fp,H' b=none)∧W i m σ' H':=fun {s9 σ9 H9 m'} hm I9 w9=>by
    refine ⟨m',hm,i+1,σ9,H9,I9.ja,T.keep _ _ _ st7 fun b hb o e=>(I9.pin (b,o) (List.mem_append_right _ (List.mem_append_right _ (eY hb e)))).1,fun b hb=>?_,w9⟩
    obtain ⟨o,e,d⟩:=T.obj _ _ st7 b hb
    exact (I9.pin (b,o) (List.mem_append_right _ (List.mem_append_right _ (eY hb e)))).2.1
   refine wpAny_mono (hg cl G2.objs.size _ _ fp _ s7 σ5 H7 x u _ I7' r7 (step x H7 y7)) (fun _ s8 h8=>?_) no
   obtain ⟨σ8,H8,I8,q8⟩:=h8
   refine wpAny_mono (ht cl G2.objs.size _ _ fp _ s8 σ8 H8 _ I8 q8) (fun b s9 h9=>?_) no
   obtain ⟨H9,I9,q9⟩:=h9
   cases b with
   | false=>
    rw [if_neg Bool.false_ne_true] at q9 ⊢
    obtain ⟨m',hm,w9⟩:=q9
    exact again hm I9 w9
   | true=>
    rw [if_pos rfl] at q9 ⊢
    refine wpAny_mono (he cl G2.objs.size _ _ fp _ s9 σ8 H9 _ I9 q9) (fun y s10 h10=>?_) no
    obtain ⟨yv,H10,I10,r10,acc,hacc,hlen,m',hm,w10⟩:=h10
    refine wpAny_mono (jE (X:=bw X nm scope own cl G2.objs.size { s2 with heap:=G2 } (upd H2 s2.heap.objs.size (.lst [])) fp) _ s10 σ8 H10 (.ref s2.heap.objs.size) [yv] (.ref s2.heap.objs.size) [y] (fun _ H'=>H'=upd H10 s2.heap.objs.size (.lst (acc++[yv]))) I10 rfl (.cons r10 .nil) ⟨_,acc,yv,rfl,rfl,hacc,hlen,rfl⟩) (fun _ s11 h11=>?_) no
    obtain ⟨_,H11,I11,_,e11⟩:=h11
    subst e11
    exact again hm I11 w10
 exact codeAny_compStart_list (loop _ rfl) (T.self _ 0 _ _ _ st4 (loop _ rfl))
theorem wM (hc:X.calm=true) (S:dg X nm scope) (hi:PI X tg iter wi)
  (hg:∀ cl C s H fp,PG (bw X nm scope own cl C s H fp) tg g) (ht:∀ cl C s H fp,PTs (bw X nm scope own cl C s H fp) ifs tt) (he:∀ cl C s H fp,PE (bw X nm scope own cl C s H fp) elt te)
  (hs:∀ x,foldedSetIterable iter X.env x=pure x:=by intro _;rfl):PE X (.ListComp elt [⟨tg,iter,ifs,0⟩] scope pos) (tLC wi own.length g tt te):=by
 intro pins s σ H Q I h
 obtain ⟨cl,hclos,lT,yP⟩:=lR (env:=X.env) (scope:=scope) fun y hy hf=>I.ok.has y.1 (S.free y hy hf)
 rw [eval_ListComp]
 refine wpAny_comprehension_free (use:=none) rfl hs hclos S.kind S.names (thn (hi pins s σ H _ I h) fun v s1 h1=>thn h1 fun itv s2 h2=>?_)
 obtain ⟨it,fp,tn,J,H2,e,I2,T,st2,f2,hR⟩:=h2
 subst e
 refine pe (Q:=Q) (RR:=fun acc C=>compPost (model X.prog X.w) X.A X.xe none (EP X pins σ Q) acc C) hc S lT yP hg ht he I2 T st2 f2 hR ?_
 intro D C H6 s6 I6 hCn hCL hCs hCc hCp hns q
 obtain ⟨m,hn⟩:=hns
 refine ⟨m,hn,fun h' hs'=>⟨.ref D,H6,I6.turned (t':=s6.toks) (fun b o hb e=>(hs'.2 b hb).trans e) hCn hCL (.inr hCs) hCc hCp,rfl,q⟩⟩
theorem fT {i:Nat} {y:Str} {py spos:Pos} (hN:X.N.Nodup) (hi':X.N[i]?=some y) (hy:Loc X.env.scope y) (hc:X.calm=true) (S:dg X nm scope) (hi:PI X tg iter wi)
  (hg:∀ cl C s H fp,PG (bw X nm scope own cl C s H fp) tg g) (ht:∀ cl C s H fp,PTs (bw X nm scope own cl C s H fp) ifs tt) (he:∀ cl C s H fp,PE (bw X nm scope own cl C s H fp) elt te)
  (hsw:swapsWith (.ListComp elt [⟨tg,iter,ifs,0⟩] scope pos) (some (.Name y py)) spos.line X.env=pure true:=by rfl)
  (hs:∀ x,foldedSetIterable iter X.env x=pure x:=by intro _;rfl) (hf:X.fn y=true∨X.env.scope.names.lookup y=some .local:=by first | exact .inl rfl | exact .inr rfl | assumption) :
  PS X (.Assign [.Name y py] (.ListComp elt [⟨tg,iter,ifs,0⟩] scope pos) spos) (uE (tLC wi own.length g tt te) (i_ i)):=by
 intro pins s σ H Dn I h
 obtain ⟨cl,hclos,lT,yP⟩:=lR (env:=X.env) (scope:=scope) fun y hy hf=>I.ok.has y.1 (S.free y hy hf)
 rw [exec_Assign_Name_used _ _ _ _ hsw]
 refine wpAny_bind (wpAny_standAt (wpAny_bind ?_))
 show wpAny _ X.A (do let _ ← comprehension (.ListComp elt [⟨tg,iter,ifs,0⟩] scope pos) scope X.env _ (newList []) false (eval iter X.env) (some (assign (.Name y py) X.env))) _ _ s
 refine wpAny_bind (wpAny_mono (wpAny_comprehension_free (use:=some (assign (.Name y py) X.env)) (Q:=fun _ s'=>SP X pins Dn .next s') rfl hs hclos S.kind S.names
  (thn (hi pins s σ H _ I h) fun v s1 h1=>thn h1 fun itv s2 h2=>?_)) (fun _ s' hq=>wpAny_pure (wpAny_pure hq)) fun _ _ e=>e)
 obtain ⟨it,fp,tn,J,H2,e,I2,T,st2,f2,hR⟩:=h2
 subst e
 refine pe (Q:=fun x H1=>i_ i x σ H1 Dn.nx) (RR:=fun acc C=>compPost (model X.prog X.w) X.A X.xe (some (assign (.Name y py) X.env)) (fun _ s'=>SP X pins Dn .next s') acc C) hc S lT yP hg ht he I2 T st2 f2 hR ?_
 intro D C H6 s6 I6 hCn hCL hCs hCc hCp hns q
 obtain ⟨m,hn⟩:=hns
 show wpAny _ X.A (assign (.Name y py) X.env (.ref D)) _ _ _
 refine wpAny_assign_Name (oR I6 hN hi' hy (v:=.ref D) rfl (fun s7 I7 h7=>?_) hf)
 obtain ⟨a,sb,ha⟩:=h7
 have hCa:C≠a:=by
  rcases ha with ha | ha
  ·rw [ha];exact hCL
  ·exact Ne.symm (hCc y a ha)
 refine ⟨m,hn.sameBut sb hCa,fun h' hs'=>⟨_,H6,I7.turned (t':=s7.toks) (fun b o hb e=>(hs'.2 b hb).trans e) hCn hCL (.inr hCs) hCc hCp,q⟩⟩
end
mutual
noncomputable def toPy:Dm.Dat→PyData
 | .non=>.none
 | .bl b=>.bool b
 | .int i=>.int i
 | .str s=>.str ⟨s.toArray⟩
 | .tup xs=>.tuple (ck xs)
 | .lst xs=>.list (ck xs)
 | .dct _ _=>.dict []
 | .dcp _ _=>.dict []
 | .exc _=>.dict []
 | .fn _=>.dict []
noncomputable def ck:List Dm.Dat→List PyData
 | []=>[]
 | x::xs=>toPy x::ck xs
end
mutual
theorem jl:∀ a b:Dm.Dat,PyData.eqv (toPy a) (toPy b)=Dm.eqD a b
 | .non,b=>by cases b<;>simp [toPy,PyData.eqv,Dm.eqD]
 | .bl x,b=>by cases b<;>simp [toPy,PyData.eqv,Dm.eqD,Dm.b2i]
 | .int x,b=>by cases b<;>simp [toPy,PyData.eqv,Dm.eqD,Dm.b2i]
 | .str x,b=>by
  cases b with
  | str y=>
   simp only [toPy,PyData.eqv,Dm.eqD]
   rw [Bool.eq_iff_iff]
   simp only [beq_iff_eq]
   constructor
   ·intro h
    have h:=congrArg (fun s:Str=>s.cps.toList) h
    simpa using h
   ·rintro rfl
    rfl
  | _=>simp [toPy,PyData.eqv,Dm.eqD]
 | .tup xs,b=>by
  cases b with
  | tup ys=>simp only [toPy,PyData.eqv,Dm.eqD];exact jL xs ys
  | _=>simp [toPy,PyData.eqv,Dm.eqD]
 | .lst xs,b=>by
  cases b with
  | lst ys=>simp only [toPy,PyData.eqv,Dm.eqD];exact jL xs ys
  | _=>simp [toPy,PyData.eqv,Dm.eqD]
 | .dct ks vs,b=>by cases b<;>simp [toPy,PyData.eqv,Dm.eqD]
 | .dcp ks vs,b=>by cases b<;>simp [toPy,PyData.eqv,Dm.eqD]
 | .exc C,b=>by cases b<;>simp [toPy,PyData.eqv,Dm.eqD]
 | .fn C,b=>by cases b<;>simp [toPy,PyData.eqv,Dm.eqD]
theorem jL:∀ a b:List Dm.Dat,PyData.eqvAll (ck a) (ck b)=Dm.dG a b
 | [],b=>by cases b<;>simp [ck,PyData.eqvAll,Dm.dG]
 | x::xs,b=>by
  cases b with
  | nil=>simp [ck,PyData.eqvAll,Dm.dG]
  | cons y ys=>simp only [ck,PyData.eqvAll,Dm.dG];rw [jl x y,jL xs ys]
end
theorem Ay {s:List Nat} (h:(s.all fun c=>decide (c<128))=true):PyData.strOk ⟨s.toArray⟩=true:=by
 unfold PyData.strOk
 rw [Array.all_eq_true']
 intro c hc
 have h1:=List.all_eq_true.mp h c (by simpa using hc)
 have h2:c<128:=of_decide_eq_true h1
 exact decide_eq_true (by lia)
theorem cu {P:Program} {w:World} {H:Hp} {h:Heap} (ok:HOk P w H h):∀ (n:Nat),
  (∀ (v:V) (d:Dm.Dat) (u:Value),Rep H v d→RelV v u→Dm.okD n d=true→∃ as,Reads h u (toPy d) as∧(toPy d).canLay0=true∧(toPy d).depth≤n) ∧
  (∀ (vs:List V) (ds:List Dm.Dat) (us:List Value),aF H vs ds→Vals vs us→ds.all (Dm.okD n)=true→∃ as,ReadsAll h us (ck ds) as∧PyData.canLayAll0 (ck ds)=true∧PyData.depthAll (ck ds)≤n):=by
 intro n
 induction n with
 | zero=>
  have one:∀ (v:V) (d:Dm.Dat) (u:Value),Rep H v d→RelV v u→Dm.okD 0 d=true→∃ as,Reads h u (toPy d) as∧(toPy d).canLay0=true∧(toPy d).depth≤0:=by
   intro v d u r rv k
   cases r with
   | non=>cases rv;exact ⟨_,.none,rfl,Nat.le_refl _⟩
   | bl b=>cases rv;exact ⟨_,.bool b,rfl,Nat.le_refl _⟩
   | int i=>obtain ⟨t,rfl⟩:=rv;exact ⟨_,.int i t,rfl,Nat.le_refl _⟩
   | str s=>obtain ⟨t,rfl⟩:=rv;exact ⟨_,.str _ t,Ay k,Nat.le_refl _⟩
   | tup _ _=>cases k
   | lst _ _=>cases k
   | dct _ _ _=>cases k
   | dcp _ _ _=>cases k
   | exc _=>cases k
   | fn _=>cases k
  refine ⟨one,fun vs ds=>?_⟩
  induction ds generalizing vs with
  | nil=>intro us r rv _;cases r;cases rv;exact ⟨_,.nil,rfl,Nat.le_refl _⟩
  | cons d ds ih=>
   intro us r rv k
   cases r with
   | cons r rs=>
    cases rv with
    | cons q qs=>
     rw [List.all_cons,Bool.and_eq_true] at k
     obtain ⟨a1,h1,h2,h3⟩:=one _ _ _ r q k.1
     obtain ⟨a2,h4,h5,h6⟩:=ih _ _ rs qs k.2
     exact ⟨_,.cons h1 h4,by simp [ck,PyData.canLayAll0,h2,h5],by simp only [ck,PyData.depthAll];lia⟩
 | succ n ih=>
  have one:∀ (v:V) (d:Dm.Dat) (u:Value),Rep H v d→RelV v u→Dm.okD (n+1) d=true→∃ as,Reads h u (toPy d) as∧(toPy d).canLay0=true∧(toPy d).depth≤n+1:=by
   intro v d u r rv k
   cases r with
   | non=>cases rv;exact ⟨_,.none,rfl,Nat.zero_le _⟩
   | bl b=>cases rv;exact ⟨_,.bool b,rfl,Nat.zero_le _⟩
   | int i=>obtain ⟨t,rfl⟩:=rv;exact ⟨_,.int i t,rfl,Nat.zero_le _⟩
   | str s=>obtain ⟨t,rfl⟩:=rv;exact ⟨_,.str _ t,Ay k,Nat.zero_le _⟩
   | tup q rs=>
    cases rv
    obtain ⟨z,its,vr,ob,e,hc,m,hd⟩:=ok _ _ q
    obtain ⟨as,h1,h2,h3⟩:=ih.2 _ _ _ rs vr k
    exact ⟨_,.tuple e hc hd h1,h2,by simp only [toPy,PyData.depth];lia⟩
   | lst q rs=>
    cases rv
    obtain ⟨z,its,m,vr,e⟩:=q.ok ok
    obtain ⟨as,h1,h2,h3⟩:=ih.2 _ _ _ rs vr k
    exact ⟨_,.list e rfl rfl h1,h2,by simp only [toPy,PyData.depth];lia⟩
   | dct _ _ _=>cases k
   | dcp _ _ _=>cases k
   | exc _=>cases k
   | fn _=>cases k
  refine ⟨one,fun vs ds=>?_⟩
  induction ds generalizing vs with
  | nil=>intro us r rv _;cases r;cases rv;exact ⟨_,.nil,rfl,Nat.zero_le _⟩
  | cons d ds ih=>
   intro us r rv k
   cases r with
   | cons r rs=>
    cases rv with
    | cons q qs=>
     rw [List.all_cons,Bool.and_eq_true] at k
     obtain ⟨a1,h1,h2,h3⟩:=one _ _ _ r q k.1
     obtain ⟨a2,h4,h5,h6⟩:=ih _ _ rs qs k.2
     exact ⟨_,.cons h1 h4,by simp [ck,PyData.canLayAll0,h2,h5],by simp only [ck,PyData.depthAll];lia⟩
theorem kH.full {H0 H:Hp} (s:az H0 H) {v:V} {d:Dm.Dat} (r:kH H0 H v d):Rep H v d:=by
 rcases r with r | ⟨a,rfl,w⟩
 ·exact r.mono s
 ·cases d with
  | lst ds=>obtain ⟨xs,q,rs⟩:=w;exact .lst (.inl q) (rs.mono s)
  | dct ks ds=>obtain ⟨kvs,q,e,rs⟩:=w;exact .dct q e (rs.mono s)
  | dcp ks ds=>obtain ⟨kvs,q,e,rs⟩:=w;exact .dcp q (e.mono s) (rs.mono s)
  | _=>exact False.elim w
noncomputable def D_ (neg:Bool):R2:=fun x y H Q=>∃ dx dy,Rep H x dx∧Rep H y dy∧Dm.okD 8 dx=true∧Dm.okD 8 dy=true∧Q (.bl (if neg then !Dm.eqD dx dy else Dm.eqD dx dy)) H
section
variable {X:Cx}
theorem Az {k:Nat} (hr:bQ k X.A):OpR X (compareOp .Eq) (D_ false):=by
 intro pins s σ H x y v u Q I rx ry h
 obtain ⟨dx,dy,r1,r2,k1,k2,q⟩:=h
 obtain ⟨as,h1,h2,h3⟩:=(cu I.hok 8).1 x dx v r1 rx k1
 obtain ⟨bs,h4,h5,h6⟩:=(cu I.hok 8).1 y dy u r2 ry k2
 have hu:=hr.units
 refine PySem.SeqAt.compareEq_reads h1 h4 h2 h5 (by lia) ?_
 rw [jl]
 exact ⟨.bl (Dm.eqD dx dy),H,I,rfl,q⟩
theorem IM {k:Nat} (hr:bQ k X.A):OpR X (compareOp .NotEq) (D_ true):=by
 intro pins s σ H x y v u Q I rx ry h
 obtain ⟨dx,dy,r1,r2,k1,k2,q⟩:=h
 obtain ⟨as,h1,h2,h3⟩:=(cu I.hok 8).1 x dx v r1 rx k1
 obtain ⟨bs,h4,h5,h6⟩:=(cu I.hok 8).1 y dy u r2 ry k2
 have hu:=hr.units
 refine PySem.SeqAt.compareNe_reads h1 h4 h2 h5 (by lia) ?_
 rw [jl]
 exact ⟨.bl (!Dm.eqD dx dy),H,I,rfl,q⟩
noncomputable def Ea (neg:Bool):R2:=fun x y H Q=>∃ dx ds,Rep H x dx∧(Rep H y (.lst ds)∨Rep H y (.tup ds))∧Dm.okD 8 dx=true∧ds.all (Dm.okD 7)=true∧Q (.bl (if neg then !Dm.inD dx ds else Dm.inD dx ds)) H
theorem fU (x:Dm.Dat):∀ ds:List Dm.Dat,((ck ds).any fun y=>PyData.eqv y (toPy x))=Dm.inD x ds
 | []=>rfl
 | d::ds=>by
  have:=fU x ds
  unfold Dm.inD at this ⊢
  simp only [ck,List.any_cons,jl]
  rw [this]
theorem AA {k:Nat} (hr:bQ k X.A):OpR X (compareOp .In) (Ea false):=by
 intro pins s σ H x y v u Q I rx ry h
 obtain ⟨dx,ds,r1,r2,k1,k2,q⟩:=h
 obtain ⟨as,h1,h2,h3⟩:=(cu I.hok 8).1 x dx v r1 rx k1
 have hu:=hr.units
 rcases r2 with r2 | r2
 ·obtain ⟨bs,h4,h5,h6⟩:=(cu I.hok 8).1 y (.lst ds) u r2 ry k2
  have h6:PyData.depthAll (ck ds)+1≤8:=h6
  refine PySem.SeqAt.in_list_reads h4 h1 h5 h2 (by lia) ?_
  rw [fU]
  exact ⟨.bl (Dm.inD dx ds),H,I,rfl,q⟩
 ·obtain ⟨bs,h4,h5,h6⟩:=(cu I.hok 8).1 y (.tup ds) u r2 ry k2
  have h6:PyData.depthAll (ck ds)+1≤8:=h6
  refine PySem.SeqAt.in_tuple_reads h4 h1 h5 h2 (by lia) ?_
  rw [fU]
  exact ⟨.bl (Dm.inD dx ds),H,I,rfl,q⟩
theorem yQ {k:Nat} (hr:bQ k X.A):OpR X (compareOp .NotIn) (Ea true):=by
 intro pins s σ H x y v u Q I rx ry h
 obtain ⟨dx,ds,r1,r2,k1,k2,q⟩:=h
 obtain ⟨as,h1,h2,h3⟩:=(cu I.hok 8).1 x dx v r1 rx k1
 have hu:=hr.units
 rcases r2 with r2 | r2
 ·obtain ⟨bs,h4,h5,h6⟩:=(cu I.hok 8).1 y (.lst ds) u r2 ry k2
  have h6:PyData.depthAll (ck ds)+1≤8:=h6
  refine PySem.SeqAt.notIn_list_reads h4 h1 h5 h2 (by lia) ?_
  rw [fU]
  exact ⟨.bl (!Dm.inD dx ds),H,I,rfl,q⟩
 ·obtain ⟨bs,h4,h5,h6⟩:=(cu I.hok 8).1 y (.tup ds) u r2 ry k2
  have h6:PyData.depthAll (ck ds)+1≤8:=h6
  refine PySem.SeqAt.notIn_tuple_reads h4 h1 h5 h2 (by lia) ?_
  rw [fU]
  exact ⟨.bl (!Dm.inD dx ds),H,I,rfl,q⟩
end
theorem aD {H0 H:Hp} {v:V} {i:Int} (r:kH H0 H v (.int i)):v=.int i:=by
 rcases r with r | ⟨a,_,w⟩
 ·exact Rep.isInt r
 ·exact False.elim w
theorem kT {H0 H:Hp} {v:V} {b:Bool} (r:kH H0 H v (.bl b)):v=.bl b:=by
 rcases r with r | ⟨a,_,w⟩
 ·exact Rep.qp r
 ·exact False.elim w
theorem bL {H0 H:Hp} (s:az H0 H) {v:V} {ds:List Dm.Dat} (r:kH H0 H v (.lst ds)):∃ a xs,v=.ref a∧Rd H a (.lst xs)∧aF H0 xs ds:=by
 rcases r with r | ⟨a,e,xs,q,rs⟩
 ·cases r with
  | lst q rs=>exact ⟨_,_,rfl,az.rd s q,rs⟩
 ·exact ⟨a,xs,e,.inl q,rs⟩
theorem b_ {H0 H:Hp} (s:az H0 H) {v:V} {ds:List Dm.Dat} (r:kH H0 H v (.tup ds)):∃ a xs,v=.ref a∧H a=some (.tup xs)∧aF H0 xs ds:=by
 rcases r with r | ⟨a,_,w⟩
 ·cases r with
  | tup q rs=>exact ⟨_,_,rfl,s _ _ q,rs⟩
 ·exact False.elim w
theorem IP:OpD (rI0 fun i j=>.int (i-j)) Dm.ez:=by
 intro H0 H x y dx dy z Q s rx ry e k
 unfold Dm.ez at e
 split at e
 ·cases e;cases aD rx;cases aD ry
  exact ⟨_,_,rfl,rfl,k _ H0 H (aQ.refl s) (.int _)⟩
 ·cases e
theorem AB:OpD (rI0 fun i j=>.bl (decide (i<j))) Dm.gLt:=by
 intro H0 H x y dx dy z Q s rx ry e k
 unfold Dm.gLt at e
 split at e
 ·cases e;cases aD rx;cases aD ry
  exact ⟨_,_,rfl,rfl,k _ H0 H (aQ.refl s) (.bl _)⟩
 ·cases e
theorem wN:OpD (rI0 fun i j=>.bl (decide (i≤j))) Dm.gLe:=by
 intro H0 H x y dx dy z Q s rx ry e k
 unfold Dm.gLe at e
 split at e
 ·cases e;cases aD rx;cases aD ry
  exact ⟨_,_,rfl,rfl,k _ H0 H (aQ.refl s) (.bl _)⟩
 ·cases e
theorem Gm:OpD (rI0 fun i j=>.bl (decide (j<i))) Dm.gGt:=by
 intro H0 H x y dx dy z Q s rx ry e k
 unfold Dm.gGt at e
 split at e
 ·cases e;cases aD rx;cases aD ry
  exact ⟨_,_,rfl,rfl,k _ H0 H (aQ.refl s) (.bl _)⟩
 ·cases e
theorem LK:OpD (rI0 fun i j=>.bl (decide (j≤i))) Dm.gGe:=by
 intro H0 H x y dx dy z Q s rx ry e k
 unfold Dm.gGe at e
 split at e
 ·cases e;cases aD rx;cases aD ry
  exact ⟨_,_,rfl,rfl,k _ H0 H (aQ.refl s) (.bl _)⟩
 ·cases e
theorem IQ:OpD (rI (fun _ j=>0<j) fun i j=>.int (i % j)) Dm.kG:=by
 intro H0 H x y dx dy z Q s rx ry e k
 unfold Dm.kG at e
 split at e
 ·split at e
  ·rename_i hj
   cases e;cases aD rx;cases aD ry
   exact ⟨_,_,rfl,rfl,hj,k _ H0 H (aQ.refl s) (.int _)⟩
  ·cases e
 ·cases e
theorem IS:OpD (rI Le fun i j=>.int (i ^ j.toNat)) Dm.uP:=by
 intro H0 H x y dx dy z Q s rx ry e k
 unfold Dm.uP at e
 split at e
 ·split at e
  ·rename_i hj
   cases e;cases aD rx;cases aD ry
   exact ⟨_,_,rfl,rfl,⟨hj.1,hj.2.1,Nat.lt_trans hj.2.2 (by decide)⟩,k _ H0 H (aQ.refl s) (.int _)⟩
  ·cases e
 ·cases e
section
variable {X:Cx}
noncomputable def Gn (i j:Int):Prop:=0<j∧j<Dm.dR
theorem AD:OpR X (binaryOp .FloorDiv) (rI Gn fun i j=>.int (i / j)):=opI fun i j _ _ _ _ _ hc q=>by
 have h:j.natAbs.log2<9000:=by
  have h1:j.natAbs<2 ^ 200:=by
   have:=hc.2
   unfold Dm.dR at this
   have h2:=hc.1
   have e:(2:Nat) ^ 200=1606938044258990275541962092341162602522202993782792835301376:=by decide +kernel
   omega
  have h3:j.natAbs≠0:=by have:=hc.1;omega
  have:=(Nat.log2_lt h3).mpr h1
  omega
 have e:i.fdiv j=i / j:=Int.fdiv_eq_ediv_of_nonneg i (Int.le_of_lt hc.1)
 rw [← e] at q
 exact floordiv_int (Int.ne_of_gt hc.1) q (.inl (PyProof.noPylong_of_log2 h))
end
theorem IT:OpD (rI Gn fun i j=>.int (i / j)) Dm.uO:=by
 intro H0 H x y dx dy z Q s rx ry e k
 unfold Dm.uO at e
 split at e
 ·split at e
  ·rename_i hj
   cases e;cases aD rx;cases aD ry
   exact ⟨_,_,rfl,rfl,hj,k _ H0 H (aQ.refl s) (.int _)⟩
  ·cases e
 ·cases e
noncomputable def AE:R2:=fun x y H Q=>∃ l b xs zs,x=.ref l∧y=.ref b∧Rd H l (.lst xs)∧Rd H b (.lst zs)∧xs.length+zs.length≤sizeLine∧∀ p,H p=none→Q (.ref p) (upd H p (.lst (xs++zs)))
noncomputable def AF:R2:=fun x y H Q=>∃ l k xs,x=.ref l∧y=.int k∧Rd H l (.lst xs)∧-(2 ^ 63)≤k∧k<2 ^ 63∧xs.length*k.toNat≤sizeLine ∧
 ∀ p,H p=none→Q (.ref p) (upd H p (.lst (List.replicate k.toNat xs).flatten))
section
variable {X:Cx}
theorem Eb:OpR X (binaryOp .Add) AE:=by
 intro pins s σ H x y v u Q I rx ry h
 obtain ⟨l,b,xs,zs,rfl,rfl,hH,hB,hz,q⟩:=h
 cases rx
 cases ry
 obtain ⟨z,its,n,r,e⟩:=hH.ok I.hok
 obtain ⟨z2,its2,n2,r2,e2⟩:=hB.ok I.hok
 have hl:=r.length
 have hl2:=r2.length
 refine PySem.P.add_list e e2 ?_ (by rw [List.size_toArray,List.size_toArray];lia)
 have ea:its.toArray++its2.toArray=(its++its2).toArray:=by simp
 rw [ea]
 exact ⟨.ref _,_,I.Ir (t':=s.toks) (r.append r2) (by rw [List.length_append];lia),rfl,q _ I.fresh⟩
theorem Ec:OpR X (binaryOp .Mult) AF:=by
 intro pins s σ H x y v u Q I rx ry h
 obtain ⟨l,k,xs,rfl,rfl,hH,h1,h2,hz,q⟩:=h
 cases rx
 obtain ⟨t,rfl⟩:=ry
 obtain ⟨z,its,n,r,e⟩:=hH.ok I.hok
 have hl:=r.length
 have hlen:its.toArray.size*k.toNat≤sizeLine:=by rw [List.size_toArray,← hl];exact hz
 have hcap:¬ its.toArray.size*k.toNat>(2 ^ 63-1) / 8:=by
  have:(sizeLine:Nat)≤(2 ^ 63-1) / 8:=by decide
  lia
 have hfit:¬ (!Builtin.List.listFitsIndex k)=true:=by
  rw [fitsIndex_both h1 h2]
  exact Bool.false_ne_true
 have LL:¬ Builtin.List.listTooLong (its.toArray.size*k.toNat)=true:=by
  rw [rC hlen]
  exact Bool.false_ne_true
 have hnew:List.foldl (fun x1 x2=>x1++x2) #[] (List.replicate (if its.toArray.isEmpty=true then 0 else k.toNat) its.toArray)=(List.replicate k.toNat its).flatten.toArray:=by
  have f0:∀ m:Nat,List.foldl (fun x1 x2=>x1++x2) #[] (List.replicate m its.toArray)=(List.replicate m its).flatten.toArray:=fun m=>by
   have:=foldl_rep its m []
   rw [List.nil_append] at this
   exact this
  rw [f0]
  cases its with
  | nil=>simp
  | cons a r'=>rw [if_neg (by simp)]
 refine wpAny_binaryOp_repeat_ref (T := "list") (U := "int") (by decide) ⟨_,e,rfl⟩ (fun s'=>typeIs_int s' k t) noFill_list_mul F.fills_int_mul F.slot_int_rmul repeat_list F.slot_int_index.lookup
  (call_meets F.slot_int_rmul (typeIs_int s k t) F.entry_int_rmul (F.args_int_rmul_2 _ _) (int___rmul___int_list k t l its.toArray n)
   ⟨e,rfl,⟨_,e,rfl⟩,call_meets F.slot_list_mul ⟨_,e,rfl⟩ F.entry_list_mul (F.args_list_mul_2 _ _) (AutoListH.list___mul___list_int_3 l its.toArray n k t hfit hcap LL) ⟨e,?_⟩⟩)
 rw [hnew]
 exact ⟨.ref _,_,I.Ir (t':=s.toks) (r.rep k.toNat) (by rw [len_rep,Nat.mul_comm];exact hz),rfl,q _ I.fresh⟩
theorem Ed:OpR X (binaryOp .Add) (fun x y H Q=>rI0 (fun i j=>.int (i+j)) x y H Q∨AE x y H Q):=HZ.or Eb
theorem Ef:OpR X (binaryOp .Mult) (fun x y H Q=>rI zS (fun i j=>.int (i*j)) x y H Q∨AF x y H Q):=Ia.or Ec
end
theorem IU:OpD (fun x y H Q=>rI0 (fun i j=>.int (i+j)) x y H Q∨AE x y H Q) Dm.bC:=by
 intro H0 H x y dx dy z Q s rx ry e k
 unfold Dm.bC at e
 split at e
 ·cases e;cases aD rx;cases aD ry
  exact .inl ⟨_,_,rfl,rfl,k _ H0 H (aQ.refl s) (.int _)⟩
 ·split at e
  ·rename_i hz
   cases e
   obtain ⟨a,us,rfl,qa,ra⟩:=bL s rx
   obtain ⟨b,ws,rfl,qb,rb⟩:=bL s ry
   refine .inr ⟨a,b,us,ws,rfl,rfl,qa,qb,by rw [ra.length,rb.length];exact gn hz,fun p hp=>?_⟩
   exact k _ _ _ (aQ.lN s hp) ⟨p,rfl,hp,s.free hp,_,ay,ra.append rb⟩
  ·cases e
 ·cases e
theorem IV:OpD (fun x y H Q=>rI zS (fun i j=>.int (i*j)) x y H Q∨AF x y H Q) Dm.jh:=by
 intro H0 H x y dx dy z Q s rx ry e k
 unfold Dm.jh at e
 split at e
 ·split at e
  ·rename_i hj
   cases e;cases aD rx;cases aD ry
   exact .inl ⟨_,_,rfl,rfl,hj,k _ H0 H (aQ.refl s) (.int _)⟩
  ·cases e
 ·split at e
  ·rename_i hz
   cases e;cases aD ry
   obtain ⟨a,us,rfl,qa,ra⟩:=bL s rx
   obtain ⟨h1,h2,h3⟩:=hz
   unfold Dm.BIG at h1 h2
   refine .inr ⟨a,_,us,rfl,rfl,qa,by lia,by lia,by rw [ra.length];exact gn h3,fun p hp=>?_⟩
   exact k _ _ _ (aQ.lN s hp) ⟨p,rfl,hp,s.free hp,_,ay,ra.rep _⟩
  ·cases e
 ·cases e
theorem Gp:OpD (D_ false) Dm.gEq:=by
 intro H0 H x y dx dy z Q s rx ry e k
 unfold Dm.gEq at e
 split at e
 ·rename_i hk
  rw [Bool.and_eq_true] at hk
  cases e
  exact ⟨dx,dy,rx.full s,ry.full s,hk.1,hk.2,k _ H0 H (aQ.refl s) (.bl _)⟩
 ·cases e
theorem LM:OpD (D_ true) Dm.gNe:=by
 intro H0 H x y dx dy z Q s rx ry e k
 unfold Dm.gNe at e
 split at e
 ·rename_i hk
  rw [Bool.and_eq_true] at hk
  cases e
  exact ⟨dx,dy,rx.full s,ry.full s,hk.1,hk.2,k _ H0 H (aQ.refl s) (.bl _)⟩
 ·cases e
theorem Gq:OpD (Ea false) Dm.gIn:=by
 intro H0 H x y dx dy z Q s rx ry e k
 unfold Dm.gIn at e
 split at e
 ·split at e
  ·rename_i hk
   rw [Bool.and_eq_true] at hk
   cases e
   exact ⟨dx,_,rx.full s,.inl (ry.full s),hk.1,hk.2,k _ H0 H (aQ.refl s) (.bl _)⟩
  ·cases e
 ·split at e
  ·rename_i hk
   rw [Bool.and_eq_true] at hk
   cases e
   exact ⟨dx,_,rx.full s,.inr (ry.full s),hk.1,hk.2,k _ H0 H (aQ.refl s) (.bl _)⟩
  ·cases e
 ·cases e
theorem AG:OpD (Ea true) Dm.b8:=by
 intro H0 H x y dx dy z Q s rx ry e k
 unfold Dm.b8 at e
 split at e
 ·split at e
  ·rename_i hk
   rw [Bool.and_eq_true] at hk
   cases e
   exact ⟨dx,_,rx.full s,.inl (ry.full s),hk.1,hk.2,k _ H0 H (aQ.refl s) (.bl _)⟩
  ·cases e
 ·split at e
  ·rename_i hk
   rw [Bool.and_eq_true] at hk
   cases e
   exact ⟨dx,_,rx.full s,.inr (ry.full s),hk.1,hk.2,k _ H0 H (aQ.refl s) (.bl _)⟩
  ·cases e
 ·cases e
theorem wO {H0:Hp} {xs:List V} {ds:List Dm.Dat} {i:Int} {d:Dm.Dat} (rs:aF H0 xs ds) (e:Dm.atI ds i=some d):∃ v,L2.atI xs i=some v∧Rep H0 v d:=by
 unfold Dm.atI at e
 cases q:Dm.ixN ds.length i with
 | none=>rw [q] at e;cases e
 | some j=>
  rw [q] at e
  obtain ⟨v,hv,r⟩:=rs.get (i:=j) e
  refine ⟨v,?_,r⟩
  unfold L2.atI
  rw [rs.length]
  have q':L2.ixN ds.length i=some j:=q
  rw [q']
  exact hv
theorem LN {K:PySem.W.Frag}:OpD (fun x y H Q=>Il K x y H Q∨Lj K x y H Q) Dm.gIx:=by
 intro H0 H x y dx dy z Q s rx ry e k
 unfold Dm.gIx at e
 split at e
 ·rename_i ds i
  cases q:Dm.atI ds i with
  | none=>rw [q] at e;cases e
  | some d=>
   rw [q] at e;cases e
   cases aD ry
   obtain ⟨a,us,rfl,qa,ra⟩:=bL s rx
   obtain ⟨v,hv,rv⟩:=wO ra q
   exact .inl ⟨a,us,i,v,rfl,rfl,.inl qa,hv,k _ H0 H (aQ.refl s) rv⟩
 ·rename_i ds i
  cases q:Dm.atI ds i with
  | none=>rw [q] at e;cases e
  | some d=>
   rw [q] at e;cases e
   cases aD ry
   obtain ⟨a,us,rfl,qa,ra⟩:=b_ s rx
   obtain ⟨v,hv,rv⟩:=wO ra q
   exact .inr ⟨a,us,i,v,rfl,rfl,.inl (.inl qa),hv,k _ H0 H (aQ.refl s) rv⟩
 ·cases e
theorem IW {K:PySem.W.Frag}:CallD (fun xs H Q=>∃ p ys,xs=[.ref p]∧(SqL K H p ys∨SqT K H p ys)∧Q (.int ys.length) H) Dm.bX:=by
 intro H0 H vs ds z Q s rs e k
 unfold Dm.bX at e
 split at e
 ·cases e
  cases rs with
  | cons r rr=>
   cases rr
   obtain ⟨a,us,rfl,qa,ra⟩:=bL s r
   exact ⟨a,us,rfl,.inl (.inl qa),k _ H0 H (aQ.refl s) (by rw [ra.length];exact .int _)⟩
 ·cases e
  cases rs with
  | cons r rr=>
   cases rr
   obtain ⟨a,us,rfl,qa,ra⟩:=b_ s r
   exact ⟨a,us,rfl,.inr (.inl (.inl qa)),k _ H0 H (aQ.refl s) (by rw [ra.length];exact .int _)⟩
 ·cases e
theorem Eg:CallD (fun xs H Q=>∃ i j,xs=[.int i,.int j]∧Q (.int (if j<i then j else i)) H) Dm.o8:=by
 intro H0 H vs ds z Q s rs e k
 unfold Dm.o8 at e
 split at e
 ·cases e
  cases rs with
  | cons r rr=>
   cases rr with
   | cons r' rr=>
    cases rr
    cases aD r;cases aD r'
    exact ⟨_,_,rfl,k _ H0 H (aQ.refl s) (.int _)⟩
 ·cases e
theorem Eh:CallD (fun xs H Q=>∃ i j,xs=[.int i,.int j]∧Q (.int (if j>i then j else i)) H) Dm.o9:=by
 intro H0 H vs ds z Q s rs e k
 unfold Dm.o9 at e
 split at e
 ·cases e
  cases rs with
  | cons r rr=>
   cases rr with
   | cons r' rr=>
    cases rr
    cases aD r;cases aD r'
    exact ⟨_,_,rfl,k _ H0 H (aQ.refl s) (.int _)⟩
 ·cases e
theorem Ei {K:PySem.W.Frag}:CallD (fun xs H Q=>∃ p ys,xs=[.ref p]∧(SqL K H p ys∨SqT K H p ys)∧∀ l,H l=none→Q (.ref l) (upd H l (.lst ys))) Dm.dS:=by
 intro H0 H vs ds z Q s rs e k
 unfold Dm.dS at e
 split at e
 ·cases e
  cases rs with
  | cons r rr=>
   cases rr
   obtain ⟨a,us,rfl,qa,ra⟩:=bL s r
   exact ⟨a,us,rfl,.inl (.inl qa),fun p hp=>k _ _ _ (aQ.lN s hp) ⟨p,rfl,hp,s.free hp,_,ay,ra⟩⟩
 ·cases e
  cases rs with
  | cons r rr=>
   cases rr
   obtain ⟨a,us,rfl,qa,ra⟩:=b_ s r
   exact ⟨a,us,rfl,.inr (.inl (.inl qa)),fun p hp=>k _ _ _ (aQ.lN s hp) ⟨p,rfl,hp,s.free hp,_,ay,ra⟩⟩
 ·cases e
theorem AH {K:PySem.W.Frag}:CallD (fun xs H Q=>∃ p ys,xs=[.ref p]∧((SqL K H p ys∧∀ l,H l=none→Q (.ref l) (upd H l (.tup ys)))∨(SqT K H p ys∧Q (.ref p) H))) Dm.jI:=by
 intro H0 H vs ds z Q s rs e k
 unfold Dm.jI at e
 split at e
 ·cases e
  cases rs with
  | cons r rr=>
   cases rr
   obtain ⟨a,us,rfl,qa,ra⟩:=bL s r
   refine ⟨a,us,rfl,.inl ⟨.inl qa,fun p hp=>?_⟩⟩
   have g:=aQ.rK (o:=HO.tup us) s hp
   exact k _ _ _ g (.tup ay (ra.mono g.s0))
 ·cases e
  cases rs with
  | cons r rr=>
   cases rr
   rcases r with r | ⟨a,_,w⟩
   ·cases r with
    | tup q rs=>exact ⟨_,_,rfl,.inr ⟨.inl (.inl (s _ _ q)),k _ H0 H (aQ.refl s) (.tup q rs)⟩⟩
   ·exact False.elim w
 ·cases e
noncomputable abbrev DS (X:Cx) (st:Stmt) (f:Dm.FS):Prop:=PS X st (tDS f)
noncomputable abbrev DSs (X:Cx) (st:List Stmt) (f:Dm.FS):Prop:=PSs X st (tDS f)
noncomputable abbrev DI (X:Cx) (tg it:Expr) (f:Dm.FI):Prop:=PI X tg it (tDI f)
theorem PI.weak {X:Cx} {tg it:Expr} {t t':TI} (h:PI X tg it t) (k:∀ σ H R,t' σ H R→t σ H R):PI X tg it t':=fun pins s σ H R I q=>h pins s σ H R I (k σ H R q)
section
variable {X:Cx} {a b c e:Expr} {fa fb fc f:Dm.FE} {pos:Pos}
theorem d_v (i:Nat) {x:Str} (hN:X.N[i]?=some x:=by rfl) (hv:Vis X.env.scope x:=by first | exact Or.inl rfl | exact Or.inr (Or.inl rfl) | exact Or.inr (Or.inr rfl)) (hd:(x == ("__debug__" : Str))=false:=by decide)
  (hcd:(x == ("__classdict__" : Str))=false:=by decide):DE X (.Name x pos) (Dm.eV i):=PE.weak (eX hN hv hd hcd) fun _ _ _=>Lq
theorem d_i {i:Int} {j}:DE X (.Constant (.int i) j pos) (Dm.eC (.int i)):=PE.weak uC fun _ _ _=>kR fun _=>.int i
theorem d_b {v:Bool} {j}:DE X (.Constant (.bool v) j pos) (Dm.eC (.bl v)):=PE.weak K8 fun _ _ _=>kR fun _=>.bl v
theorem d_n {j}:DE X (.Constant .none j pos) (Dm.eC .non):=PE.weak HH fun _ _ _=>kR fun _=>.non
theorem rN {op:Operator} {r:R2} {g:Dm.Dat→Dm.Dat→Option Dm.RV} (o:OpR X (binaryOp op) r) (od:OpD r g) (ha:DE X a fa) (hb:DE X b fb):DE X (.BinOp a op b pos) (Dm.e2 g fa fb):=
 PE.weak (Lc o ha hb) fun _ _ _=>uS od
theorem bf (ha:DE X a fa) (hb:DE X b fb):DE X (.BinOp a .Add b pos) (Dm.e2 Dm.bC fa fb):=rN Ed IU ha hb
theorem eO (ha:DE X a fa) (hb:DE X b fb):DE X (.BinOp a .Sub b pos) (Dm.e2 Dm.ez fa fb):=rN H_ IP ha hb
theorem jm (ha:DE X a fa) (hb:DE X b fb):DE X (.BinOp a .Mult b pos) (Dm.e2 Dm.jh fa fb):=rN Ef IV ha hb
theorem Gr (ha:DE X a fa) (hb:DE X b fb):DE X (.BinOp a .FloorDiv b pos) (Dm.e2 Dm.uO fa fb):=rN AD IT ha hb
theorem lU (ha:DE X a fa) (hb:DE X b fb):DE X (.BinOp a .Mod b pos) (Dm.e2 Dm.kG fa fb):=rN Ib IQ ha hb
theorem Gs (ha:DE X a fa) (hb:DE X b fb):DE X (.BinOp a .Pow b pos) (Dm.e2 Dm.uP fa fb):=rN Ic IS ha hb
theorem pq {op:CmpOp} {r:R2} {g:Dm.Dat→Dm.Dat→Option Dm.RV} (o:OpR X (compareOp op) r) (od:OpD r g) (ha:DE X a fa) (hb:DE X b fb) (hm:behindInMarks op b=false):DE X (.Compare a [op] [b] pos) (Dm.e2 g fa fb):=
 PE.weak (DJ o ha hb hm) fun _ _ _=>uS od
theorem jn {op:CmpOp} {r:R2} {g:Dm.Dat→Dm.Dat→Option Dm.RV} (o:OpR X (compareOp op) r) (od:OpD r g) (ha:DE X a fa) (hb:DE X b fb) (hm:behindInMarks op b=false):DT X (.Compare a [op] [b] pos) (Dm.tV (Dm.e2 g fa fb)):=
 PT.weak (DK o ha hb hm) fun σ H Q h=>uS od (qq h)
theorem yR {k:Nat} (hr:bQ k X.A) (ha:DE X a fa) (hb:DE X b fb):DE X (.Compare a [.Eq] [b] pos) (Dm.e2 Dm.gEq fa fb):=pq (Az hr) Gp ha hb (dc _)
theorem LO (ha:DE X a fa) (hb:DE X b fb):DE X (.Compare a [.Lt] [b] pos) (Dm.e2 Dm.gLt fa fb):=pq zU AB ha hb (dc _)
theorem LP (ha:DE X a fa) (hb:DE X b fb):DE X (.Compare a [.LtE] [b] pos) (Dm.e2 Dm.gLe fa fb):=pq wo wN ha hb (dc _)
theorem NX (ha:DE X a fa) (hb:DE X b fb):DE X (.Compare a [.Gt] [b] pos) (Dm.e2 Dm.gGt fa fb):=pq Ge Gm ha hb (dc _)
theorem rF {k:Nat} (hr:bQ k X.A) (ha:DE X a fa) (hb:DE X b fb) (hm:behindInMarks .In b=false:=by rfl):DE X (.Compare a [.In] [b] pos) (Dm.e2 Dm.gIn fa fb):=pq (AA hr) Gq ha hb hm
theorem dj {k:Nat} (hr:bQ k X.A) (ha:DE X a fa) (hb:DE X b fb):DT X (.Compare a [.Eq] [b] pos) (Dm.tV (Dm.e2 Dm.gEq fa fb)):=jn (Az hr) Gp ha hb (dc _)
theorem fM {k:Nat} (hr:bQ k X.A) (ha:DE X a fa) (hb:DE X b fb):DT X (.Compare a [.NotEq] [b] pos) (Dm.tV (Dm.e2 Dm.gNe fa fb)):=jn (IM hr) LM ha hb (dc _)
theorem uW (ha:DE X a fa) (hb:DE X b fb):DT X (.Compare a [.Lt] [b] pos) (Dm.tV (Dm.e2 Dm.gLt fa fb)):=jn zU AB ha hb (dc _)
theorem IX (ha:DE X a fa) (hb:DE X b fb):DT X (.Compare a [.Gt] [b] pos) (Dm.tV (Dm.e2 Dm.gGt fa fb)):=jn Ge Gm ha hb (dc _)
theorem NY (ha:DE X a fa) (hb:DE X b fb):DT X (.Compare a [.GtE] [b] pos) (Dm.tV (Dm.e2 Dm.gGe fa fb)):=jn Lf LK ha hb (dc _)
theorem LQ {k:Nat} (hr:bQ k X.A) (ha:DE X a fa) (hb:DE X b fb) (hm:behindInMarks .In b=false:=by rfl):DT X (.Compare a [.In] [b] pos) (Dm.tV (Dm.e2 Dm.gIn fa fb)):=jn (AA hr) Gq ha hb hm
theorem lV {k:Nat} (hr:bQ k X.A) (ha:DE X a fa) (hb:DE X b fb) (hm:behindInMarks .NotIn b=false:=by rfl):DT X (.Compare a [.NotIn] [b] pos) (Dm.tV (Dm.e2 Dm.b8 fa fb)):=jn (yQ hr) AG ha hb hm
theorem aN (ha:DE X a fa) (hb:DE X b fb) (hs:qe b:=by intro _ _;rfl):DE X (.Subscript a b pos) (Dm.e2 Dm.gIx fa fb):=PE.weak (Gh (wC.or Im) ha hb hs) fun _ _ _=>uS LN
theorem af:DA X [] []:=PA.weak lD fun _ _ _=>Lr
theorem aa {es:List Expr} {fs:List Dm.FE} (h:DE X e f) (r:DA X es fs) (hs:starEach (e::es) X.env=(false,eval e X.env)::starEach es X.env:=by rfl):DA X (e::es) (f::fs):=PA.weak (jc h r hs) fun _ _ _=>IE
theorem cy {es:List Expr} {fs:List Dm.FE} {x1} (h:DA X es fs):DE X (.Tuple es x1 pos) (Dm.cN fs):=PE.weak (Ii h) fun _ _ _=>Ls
theorem bz {es:List Expr} {fs:List Dm.FE} (h:DA X es fs):DE X (.List es pos) (Dm.bS fs):=PE.weak (zY h) fun _ _ _=>Lu
theorem yS {es:List Expr} {fs:List Dm.FE} {r:List V→Hp→VK→Prop} {g:List Dm.Dat→Option Dm.RV} {x:Str} {id:String} {p:Pos} (hc:cY X (.builtin id) r) (cd:CallD r g) (hv:bootBuiltins x=some (.builtin id)) (hg:Gl X x) (hm:X.mg x=none) (ha:DA X (e::es) fs)
  (hn:x ≠ "__name__" := by decide) (hdb:(x == ("__debug__" : Str))=false:=by decide) (he:starEach (e::es) X.env=(false,eval e X.env)::starEach es X.env:=by rfl) (hpl:(backTo pos (starEach es X.env)).any (·.1)=false:=by rfl) :
  DE X (.Call (.Name x p) (e::es) [] pos) (Dm.eB g fs):=PE.weak (lE hc hg hm hv ha hn hdb he hpl) fun _ _ _=>IF cd
theorem Ej {es:List Expr} {fs:List Dm.FE} {r:List V→Hp→VK→Prop} {g:List Dm.Dat→Option Dm.RV} {x:Str} {T:String} {p:Pos} (hc:cY X (.type T) r) (cd:CallD r g) (hv:bootBuiltins x=some (.type T)) (hg:Gl X x) (hm:X.mg x=none) (ha:DA X (e::es) fs)
  (hn:x ≠ "__name__" := by decide) (hdb:(x == ("__debug__" : Str))=false:=by decide) (he:starEach (e::es) X.env=(false,eval e X.env)::starEach es X.env:=by rfl) (hpl:(backTo pos (starEach es X.env)).any (·.1)=false:=by rfl) :
  DE X (.Call (.Name x p) (e::es) [] pos) (Dm.eB g fs):=PE.weak (oZ hc hg hm hv ha hn hdb he hpl) fun _ _ _=>IF cd
variable {es:List Expr} {fs:List Dm.FE} {p:Pos}
theorem bG (hg:Gl X "len") (hm:X.mg "len" = none) (ha:DA X [e] fs) (he:starEach [e] X.env=[(false,eval e X.env)]:=by rfl) (hpl:(backTo pos (starEach [] X.env)).any (·.1)=false:=by rfl):DE X (.Call (.Name "len" p) [e] [] pos) (Dm.eB Dm.bX fs):=yS qg IW PySem.boot_len hg hm ha (he:=he) (hpl:=hpl)
theorem AI (hc:X.calm=true) (hg:Gl X "min") (hm:X.mg "min" = none) (ha:DA X [a,b] fs) (he:starEach [a,b] X.env=(false,eval a X.env)::starEach [b] X.env:=by rfl) (hpl:(backTo pos (starEach [b] X.env)).any (·.1)=false:=by rfl):DE X (.Call (.Name "min" p) [a,b] [] pos) (Dm.eB Dm.o8 fs):=yS (yD hc) Eg (by rfl) hg hm ha (he:=he) (hpl:=hpl)
theorem AJ (hc:X.calm=true) (hg:Gl X "max") (hm:X.mg "max" = none) (ha:DA X [a,b] fs) (he:starEach [a,b] X.env=(false,eval a X.env)::starEach [b] X.env:=by rfl) (hpl:(backTo pos (starEach [b] X.env)).any (·.1)=false:=by rfl):DE X (.Call (.Name "max" p) [a,b] [] pos) (Dm.eB Dm.o9 fs):=yS (yC hc) Eh (by rfl) hg hm ha (he:=he) (hpl:=hpl)
theorem d9 (hg:Gl X "list") (hm:X.mg "list" = none) (ha:DA X [e] fs) (he:starEach [e] X.env=[(false,eval e X.env)]:=by rfl) (hpl:(backTo pos (starEach [] X.env)).any (·.1)=false:=by rfl):DE X (.Call (.Name "list" p) [e] [] pos) (Dm.eB Dm.dS fs):=Ej qh Ei (by rfl) hg hm ha (he:=he) (hpl:=hpl)
theorem wQ (hg:Gl X "tuple") (hm:X.mg "tuple" = none) (ha:DA X [e] fs) (he:starEach [e] X.env=[(false,eval e X.env)]:=by rfl) (hpl:(backTo pos (starEach [] X.env)).any (·.1)=false:=by rfl):DE X (.Call (.Name "tuple" p) [e] [] pos) (Dm.eB Dm.jI fs):=Ej oG AH (by rfl) hg hm ha (he:=he) (hpl:=hpl)
theorem aG {k:Nat} {F:Addr} {fd:FuncData} {ps:List Str} {g:List Dm.Dat→Option Dm.RV} {x:Str} (G:aX X.prog X.w X.K X.mg X.base CX0 k F fd ps (spD g)) (hr:bQ k X.A) (hg:Gl X x) (hm:X.mg x=some (.ref F)) (hk:PySem.W.keepIn X.K (.ref F)=true) (hb:Binds X.K fd ps [])
  (ha:DA X (e::es) fs) (hdb:(x == ("__debug__" : Str))=false:=by decide) (he:starEach (e::es) X.env=(false,eval e X.env)::starEach es X.env:=by rfl) (hpl:(backTo pos (starEach es X.env)).any (·.1)=false:=by rfl) :
  DE X (.Call (.Name x p) (e::es) [] pos) (Dm.eF g fs):=PE.weak (p9 G hr hg hm hk hb .nil (wG (X:=X)) ha hdb he hpl) fun _ _ _=>Ao
theorem NZ {t:Dm.FT} {q:Expr} (hq:DT X q t) (ha:DE X a fa) (hb:DE X b fb):DE X (.IfExp q a b pos) (Dm.eIf t fa fb):=PE.weak (zH hq ha hb) fun _ _ _=>NN
theorem gJ {op} (h:DE X a fa):DE X (.BoolOp op [a] pos) fa:=HL h
theorem fV {rest:List Expr} (ha:DE X a fa) (hb:DE X (.BoolOp .And (b::rest) pos) fb):DE X (.BoolOp .And (a::b::rest) pos) (Dm.fR fa fb):=PE.weak (HM ha hb) fun _ _ _=>Lv
theorem Gu (ha:DE X a fa):DE X (.UnaryOp .Not a pos) (Dm.Ak fa):=PE.weak (HN ha) fun _ _ _=>Lw
noncomputable abbrev DW (X:Cx) (e:Expr) (f:Dm.FT):Prop:=PW X e (tDT f)
theorem PW.weak {t t':TT} (h:PW X e t) (k:∀ σ H Q,t' σ H Q→t σ H Q):PW X e t':=fun whole pins s σ H Q I q=>h whole pins s σ H Q I (k σ H Q q)
variable {ta tb:Dm.FT}
theorem qw (h:DT X a ta):DW X (.BoolOp .And [a] pos) ta:=pw_and1 h
theorem fW (h:DT X a ta):DW X (.BoolOp .Or [a] pos) ta:=pw_or1 h
theorem w_and {rest:List Expr} (ha:DT X a ta) (hb:DW X (.BoolOp .And (b::rest) pos) tb):DW X (.BoolOp .And (a::b::rest) pos) (Dm.jD ta tb):=PW.weak (pw_and ha hb) fun _ _ _=>II
theorem w_or {rest:List Expr} (ha:DT X a ta) (hb:DW X (.BoolOp .Or (b::rest) pos) tb):DW X (.BoolOp .Or (a::b::rest) pos) (Dm.tOr ta tb):=PW.weak (pw_or ha hb) fun _ _ _=>Lx
theorem t_w (h:DW X a ta):DT X a ta:=h.pt
theorem fE (h:DT X a ta):DT X (.UnaryOp .Not a pos) (Dm.eu ta):=PT.weak (HK h) fun _ _ _=>IG
theorem eS (h:DE X e f) (he:∀ whole,isTrue e X.env whole=(do let v ← whole;standAt e.pos;holding [v] (truthy v)):=by intro _;rfl):DT X e (Dm.tV f):=PT.weak (HJ h he) fun _ _ _=>qq
variable {tg:Expr}
theorem uX (hg:Gl X "range") (hm:X.mg "range" = none) (ha:DA X [a] [fa]) (hs:starEach [a] X.env=[(false,eval a X.env)]:=by rfl):DI X tg (.Call (.Name "range" p) [a] [] pos) (Dm.iR1 fa):=
 PI.weak (yw hg hm ha hs) fun _ _ _=>LG
theorem IY (hg:Gl X "range") (hm:X.mg "range" = none) (ha:DA X [a,b] [fa,fb]) (hs:starEach [a,b] X.env=[(false,eval a X.env),(false,eval b X.env)]:=by rfl) (hs2:starEach [b] X.env=[(false,eval b X.env)]:=by rfl):DI X tg (.Call (.Name "range" p) [a,b] [] pos) (Dm.iR2 fa fb):=
 PI.weak (yx hg hm ha hs hs2) fun _ _ _=>LH
end
section
variable {X:Cx} {st:Stmt} {rest:List Stmt} {fs gs:Dm.FS} {e a b c:Expr} {f fa fb:Dm.FE} {pos:Pos}
theorem aY:DSs X [] Dm.sNx:=PSs.weak wg fun _ _ _=>NO
theorem ah (h1:DS X st fs) (h2:DSs X rest gs):DSs X (st::rest) (Dm.aq fs gs):=PSs.weak (i9 h1 h2) fun _ _ _=>Lz
theorem aj (h1:DS X st fs):DSs X [st] fs:=wj h1
theorem s_a (i:Nat) {x:Str} {pos':Pos} (hN:X.N.Nodup) (he:DE X e f) (hi:X.N[i]?=some x:=by rfl) (hx:Loc X.env.scope x:=by first | exact Or.inl rfl | exact Or.inr rfl) (hs:swapsWith e (some (.Name x pos')) pos.line X.env=pure false:=by rfl)
  (hf:X.fn x=true∨X.env.scope.names.lookup x=some .local:=by first | exact .inl rfl | exact .inr rfl | assumption):DS X (.Assign [.Name x pos'] e pos) (Dm.sA i f):=PS.weak (HW hN hi hx he hs hf) fun _ _ _=>Ar
theorem cG:PGs X [] (d7 []):=DF
theorem aL {es:List Expr} {is:List Nat} (i:Nat) {x:Str} {px:Pos} (hN:X.N.Nodup) (h2:PGs X es (d7 is)) (hi:X.N[i]?=some x:=by rfl) (hx:Loc X.env.scope x:=by first | exact Or.inl rfl | exact Or.inr rfl)
  (hf:X.fn x=true∨X.env.scope.names.lookup x=some .local:=by first | exact .inl rfl | exact .inr rfl | assumption) (hs:(assignEach (.Name x px::es) X.env).map (·.2)=assign (.Name x px) X.env::(assignEach es X.env).map (·.2):=by rfl):PGs X (.Name x px::es) (d7 (i::is)):=zK (p8 hN hi hx hf) h2 hs
theorem s_u {is:List Nat} {es:List Expr} {k:Nat} {tpos:Pos} (hc:X.calm=true) (hg:PGs X es (d7 is)) (he:DE X e f) (hn:(assignEach es X.env).length=is.length:=by rfl) (hst:(assignEach es X.env).findIdx? (·.1)=none:=by rfl)
  (hs:swapsWithSole [.Tuple es k tpos] e pos.line X.env=pure false:=by rfl) (hw:swappedStores [.Tuple es k tpos] e X.env=pure none:=by rfl) (h1:(assignEach [.Tuple es k tpos] X.env).map (·.2)=[assign (.Tuple es k tpos) X.env]:=by rfl) :
  DS X (.Assign [.Tuple es k tpos] e pos) (Dm.sU is f):=PS.weak (zL he (uD hc hg hn hst) hs hw h1) fun _ _ _=>As rfl
theorem s_e (he:DE X e f) (hs:swapsWith e none pos.line X.env=pure false:=by rfl):DS X (.Expr e pos) (Dm.sE f):=PS.weak (kM he hs) fun _ _ _=>IJ
theorem s_r (he:DE X e f):DS X (.Return (some e) pos) (Dm.sR f):=PS.weak (HP he) fun _ _ _=>LA
theorem bF {t:Dm.FT} {x y:List Stmt} (ht:DT X c t) (ha:DSs X x fs) (hb:DSs X y gs):DS X (.If c x y pos) (Dm.sIf t fs gs):=PS.weak (F9 ht ha hb) fun _ _ _=>LB
theorem El:DS X st (fun _=>none):=PS.weak zJ fun _ _ _ ⟨_,_,_,_,z,_⟩=>by cases z
theorem wR (i:Nat) {x:Str} {px ap cp:Pos} (he:DE X e f) (hi:X.N[i]?=some x:=by rfl) (hv:Vis X.env.scope x:=by first | exact Or.inl rfl | exact Or.inr (Or.inl rfl) | exact Or.inr (Or.inr rfl)) (hd:(x == ("__debug__" : Str))=false:=by decide)
  (hcd:(x == ("__classdict__" : Str))=false:=by decide) (hbase:attributeBase (.Name x px) "append" X.env (eval (.Name x px) X.env)=eval (.Name x px) X.env:=by rfl)
  (hfew:((backTo cp (starEach [e] X.env)).all (fun x=>!x.1)&&(backToKw cp (keywordEach [] X.env)).all (fun x=>x.1.isSome)
   && decide ([e].length+([]:List Keyword).length+(if ([]:List Keyword).isEmpty then 0 else 1)<30))=true:=by rfl)
  (hline:(ap.endLine == cp.line)=true:=by rfl) (hs:starEach [e] X.env=(false,eval e X.env)::starEach [] X.env:=by rfl) (hplain:(backTo cp (starEach [] X.env)).any (·.1)=false:=by rfl)
  (hsw:swapsWith (.Call (.Attribute (.Name x px) "append" ap) [e] [] cp) none pos.line X.env=pure false:=by rfl) :
  DS X (.Expr (.Call (.Attribute (.Name x px) "append" ap) [e] [] cp) pos) (Dm.qk i f):=
 PS.weak (kM (wD PySem.F.plainAttrs_list PySem.F.slot_list_append PySem.F.type_list_append jE (eX hi hv hd hcd) (aa he af hs) hbase hfew hline hs hplain) hsw) fun _ _ _=>LC
theorem wU (i:Nat) {x:Str} {j:Expr} {fj:Dm.FE} {px sp:Pos} (hj:DE X j fj) (he:DE X e f) (hi:X.N[i]?=some x:=by rfl) (hv:Vis X.env.scope x:=by first | exact Or.inl rfl | exact Or.inr (Or.inl rfl) | exact Or.inr (Or.inr rfl)) (hd:(x == ("__debug__" : Str))=false:=by decide)
  (hcd:(x == ("__classdict__" : Str))=false:=by decide) (ha:∀ v,assign (.Subscript (.Name x px) j sp) X.env v=(do
   let ov ← holding [v] (eval (.Name x px) X.env)
   let iv ← holding [v,ov] (eval j X.env)
   standAt sp
   holding [v,ov,iv] (setItem ov iv v)
   release [v,ov,iv] []):=by intro _;rfl)
  (hs:swapsWithSole [.Subscript (.Name x px) j sp] e pos.line X.env=pure false:=by rfl) (hw:swappedStores [.Subscript (.Name x px) j sp] e X.env=pure none:=by rfl) (h1:(assignEach [.Subscript (.Name x px) j sp] X.env).map (·.2)=[assign (.Subscript (.Name x px) j sp) X.env]:=by rfl) :
  DS X (.Assign [.Subscript (.Name x px) j sp] e pos) (Dm.ql i fj f):=PS.weak (zL he (HV (eX hi hv hd hcd) hj set_list ha) hs hw h1) fun _ _ _=>LD
theorem LR (n:Nat) {t:Dm.FT} {body:List Stmt} (hp:PassesOwn (model X.prog X.w) X.A X.env X.xe) (ht:DT X c t) (hb:DSs X body fs):DS X (.While c body [] pos) (Dm.whD t fs n):=PS.weak (zN hp ht hb) fun _ _ _=>D6
structure TG' (X:Cx) (tg:Expr) (is:List Nat) (bd:Dm.FB):Prop where
 ex:∃ g,PG X tg g∧BD is g bd
theorem g_n (i:Nat) {x:Str} {px:Pos} (hN:X.N.Nodup) (hi:X.N[i]?=some x:=by rfl) (hx:Loc X.env.scope x:=by first | exact Or.inl rfl | exact Or.inr rfl) (hf:X.fn x=true∨X.env.scope.names.lookup x=some .local:=by first | exact .inl rfl | exact .inr rfl | assumption) :
  TG' X (.Name x px) [i] (Dm.bN i):=⟨⟨_,p8 hN hi hx hf,wK i⟩⟩
theorem g_t {is:List Nat} {es:List Expr} {k:Nat} {tpos:Pos} (hc:X.calm=true) (hg:PGs X es (d7 is)) (hn:(assignEach es X.env).length=is.length:=by rfl) (hst:(assignEach es X.env).findIdx? (·.1)=none:=by rfl):TG' X (.Tuple es k tpos) is (Dm.bT is):=
 ⟨⟨_,uD hc hg hn hst,Au is rfl⟩⟩
theorem dU {tg it:Expr} {fi:Dm.FI} {is:List Nat} {bd:Dm.FB} {body:List Stmt} (hp:PassesOwn (model X.prog X.w) X.A X.env X.xe) (hc:X.calm=true) (hi:DI X tg it fi) (hg:TG' X tg is bd) (hb:DSs X body fs)
  (hs:∀ x,foldedSetIterable it X.env x=pure x:=by intro _;rfl):DS X (.For tg it body [] pos) (Dm.eZ fi bd fs):=by
 obtain ⟨g,h1,h2⟩:=hg.ex
 exact PS.weak (zR hp hc hi h1 hb hs) fun _ _ _=>LF h2
end
noncomputable def tyName:Dm.Dat→String
 | .non => "NoneType"
 | .bl _ => "bool"
 | .int _ => "int"
 | .str _ => "str"
 | .tup _ => "tuple"
 | .lst _ => "list"
 | .dct _ _ => "dict"
 | .dcp _ _ => "dict"
 | .exc _ => "dict"
 | .fn _ => "dict"
noncomputable def yT (T:String) (p:Dm.Dat→Bool):Prop:=∀ (K:PySem.W.Frag) (d:Dm.Dat),PySem.W.kitOne K (.type (tyName d)) (.type T)=some (p d)
theorem wV:yT "int" Dm.isI:=fun K d=>by cases d<;>rfl
theorem lX:yT "bool" Dm.isB:=fun K d=>by cases d<;>rfl
theorem rO:yT "list" Dm.isL:=fun K d=>by cases d<;>rfl
theorem kit_tuple:yT "tuple" Dm.isT:=fun K d=>by cases d<;>rfl
theorem AK {K:PySem.W.Frag} {H:Hp} {v:V} {d:Dm.Dat} (r:Rep H v d) (nx:∀ C,d≠.exc C∧d≠.fn C):jb K H v (.type (tyName d)):=by
 cases r with
 | non=>exact .non
 | bl b=>exact .bl b
 | int i=>exact .int i
 | str s=>exact .str _
 | tup q _=>exact .tup q
 | lst q _=>
  rcases q with q | ⟨o,q⟩
  ·exact .lst q
  ·exact .frz q
 | dct q _ _=>exact .dK q
 | dcp q _ _=>exact .dT q
 | exc _=>exact absurd rfl (nx _).1
 | fn _=>exact absurd rfl (nx _).2
noncomputable def LS (K:PySem.W.Frag) (T:String):List V→Hp→VK→Prop:=fun xs H Q=>∃ x t b,xs=[x,.ty T]∧jb K H x t∧PySem.W.kitOne K t (.type T)=some b∧Q (.bl b) H
section
variable {X:Cx} {e:Expr} {f:Dm.FE} {p p2 pos:Pos}
theorem AL {T:String}:cY X (.builtin "isinstance") (LS X.K T):=by
 intro pins s σ H xs us Q I r h
 obtain ⟨x,t,b,rfl,ty,e,q⟩:=h
 obtain ⟨u,u2,rfl,rx,ry⟩:=vals2 r
 cases ry
 exact yG I rx ty e fun tk=>⟨.bl b,H,I.tok tk,rfl,q⟩
theorem LU {K:PySem.W.Frag} {T:String} {p:Dm.Dat→Bool} (kp:yT T p) {σ:L2.St} {H:Hp} {Q:VK} (h:tD (Dm.e1 (Dm.kF p) f) σ H Q):tCB (LS K T) (oS (tD f) (oS (tC (.ty T)) uI)) σ H Q:=by
 obtain ⟨H0,ρ,x,ρ',st,e,k⟩:=h
 unfold Dm.e1 at e
 split at e
 ·cases e
 rename_i x1 ρ1 e1
 split at e
 ·cases e
 rename_i dx p1
 have nx:∀ C,dx≠.exc C∧dx≠.fn C:=fun C=>⟨fun z=>(by subst z;cases e),fun z=>(by subst z;cases e)⟩
 have ev:Dm.kF p dx=Dm.vB (p dx):=by cases dx<;>first | rfl | exact absurd rfl (nx _).1 | exact absurd rfl (nx _).2
 rw [ev] at e
 dsimp only at e
 cases e
 refine ⟨H0,ρ,x1,_,st,e1,fun v H1 Hb t1 r1=>?_⟩
 exact ⟨v,_,_,rfl,AK ((r1.look t1.st p1).full t1.st.same) nx,kp K dx,k _ H1 Hb t1 (Rep.bl _)⟩
theorem jo {T:String} {tn:Str} {p':Dm.Dat→Bool} (kp:yT T p') (hvT:bootBuiltins tn=some (.type T)) (hgT:Gl X tn) (hmT:X.mg tn=none) (hg:Gl X "isinstance") (hm:X.mg "isinstance" = none) (h:DE X e f)
  (hn:tn ≠ "__name__" := by decide) (hdb:(tn == ("__debug__" : Str))=false:=by decide)
  (he:starEach [e,.Name tn p2] X.env=(false,eval e X.env)::starEach [.Name tn p2] X.env:=by rfl) (hpl:(backTo pos (starEach [.Name tn p2] X.env)).any (·.1)=false:=by rfl) (he2:starEach [.Name tn p2] X.env=(false,eval (.Name tn p2) X.env)::starEach [] X.env:=by rfl) :
  DE X (.Call (.Name "isinstance" p) [e,.Name tn p2] [] pos) (Dm.e1 (Dm.kF p') f):=
 PE.weak (lE AL hg hm PyProof.Rows.boot_isinstance (jc h (jc (DC (v:=.ty T) hgT hmT hvT rfl hn hdb) lD he2) he) (he:=he) (hpl:=hpl)) fun _ _ _=>LU kp
theorem all_range (bs:List Bool):(List.range bs.length).all (fun i=>bs.getD i true)=bs.all id:=by
 rw [Bool.eq_iff_iff,List.all_eq_true,List.all_eq_true]
 constructor
 ·intro h b hb
  obtain ⟨i,hi,rfl⟩:=List.mem_iff_getElem.mp hb
  have:=h i (List.mem_range.mpr hi)
  rw [List.getD_eq_getElem?_getD,List.getElem?_eq_getElem hi] at this
  exact this
 ·intro h i hi
  have hi:=List.mem_range.mp hi
  rw [List.getD_eq_getElem?_getD,List.getElem?_eq_getElem hi]
  exact h _ (List.getElem_mem hi)
theorem yU (hc:X.calm=true):cY X (.builtin "all") (fun xs H Q=>∃ (a:Addr) (bs:List Bool),xs=[.ref a]∧Rd H a (.lst (bs.map V.bl))∧Q (.bl (bs.all id)) H):=by
 intro pins s σ H xs us Q I r h
 obtain ⟨a,bs,rfl,hq,q⟩:=h
 obtain ⟨u,rfl,rx⟩:=vals1 r
 cases rx
 obtain ⟨z,its,n,rv,e⟩:=hq.ok I.hok
 have hl:s.heap.IsList a its.toArray:=⟨_,e,rfl,_,rfl⟩
 have hlen:=rv.length
 rw [List.length_map] at hlen
 have hax:a≠s.heap.objs.size:=Nat.ne_of_lt (Heap.lt_size e)
 refine PySem.call_all_walk (wpAny_pyIter_list hl ⟨s.heap.objs.size,_,_,_,_,_,fun i=>bs.getD i true,rfl,Walks.list (A:=X.A.in1) (I.ok.hd hc) s.heap.objs.size a hax its.toArray,⟨⟨_,Heap.get?_push_size _ rfl,rfl,rfl⟩,hl.push _⟩,?_,fun h' tk hk=>?_⟩)
 ·intro i v s' Q' E' hv hQ'
  have hv':its[i]?=some v:=by simpa using hv
  have hi:i<bs.length:=by rw [hlen];exact (List.getElem?_eq_some_iff.mp hv').1
  have hb:(bs.map V.bl)[i]?=some (V.bl bs[i]):=by rw [List.getElem?_map,List.getElem?_eq_getElem hi];rfl
  obtain ⟨u,hu,ru⟩:=rv.get hb
  rw [hv'] at hu
  cases hu
  cases ru
  refine wpAny_truthy_bool ?_
  have e2:bs.getD i true=bs[i]:=by rw [List.getD_eq_getElem?_getD,List.getElem?_eq_getElem hi];rfl
  rw [← e2]
  exact hQ'
 ·have e1:its.toArray.size=bs.length:=by rw [List.size_toArray,hlen]
  rw [e1,all_range]
  refine ⟨.bl _,H,I.kept (t':=tk) fun b o eb=>hk b o ?_ (Heap.get?_push_of_some _ eb),rfl,q⟩
  intro hm
  have:b=s.heap.objs.size:=by simpa using hm
  exact absurd (Heap.lt_size eb) (by rw [this];exact Nat.lt_irrefl _)
end
section
variable {X:Cx} {a b c e:Expr} {f fa fb fc:Dm.FE} {p p2 pos:Pos}
noncomputable def LV (neg:Bool):R2:=fun x y H Q=>∃ i j,x=.bl i∧y=.bl j∧Q (.bl (if neg then i != j else i == j)) H
theorem yV:OpR X (compareOp .IsNot) (LV true):=by
 intro pins s σ H x y v u Q I rx ry h
 obtain ⟨i,j,rfl,rfl,q⟩:=h
 cases rx;cases ry
 exact isnot_bool ⟨.bl _,H,I,rfl,q⟩
theorem yW:OpD (LV true) Dm.ji:=by
 intro H0 H x y dx dy z Q s rx ry e k
 unfold Dm.ji at e
 split at e
 ·cases e;cases kT rx;cases kT ry
  exact ⟨_,_,rfl,rfl,k _ H0 H (aQ.refl s) (.bl _)⟩
 ·cases e
theorem LW (ha:DE X a fa) (hb:DE X b fb):DT X (.Compare a [.IsNot] [b] pos) (Dm.tV (Dm.e2 Dm.ji fa fb)):=jn yV yW ha hb (dc _)
theorem Em {r r':R2} {g h:Dm.Dat→Dm.Dat→Option Dm.RV} (o1:OpD r g) (o2:OpD r' h) {σ:L2.St} {H:Hp} {Q:VK} (hh:tD (Dm.e7 g h fa fb fc) σ H Q):zV r r' (tD fa) (tD fb) (tD fc) σ H Q:=by
 obtain ⟨H0,ρ,x,ρ',st,e,k⟩:=hh
 unfold Dm.e7 at e
 split at e
 ·cases e
 rename_i x1 ρ1 e1
 split at e
 ·cases e
 rename_i y1 ρ2 e2
 split at e
 ·cases e
 rename_i dx p1
 split at e
 ·cases e
 rename_i dy p2
 refine ⟨H0,ρ,x1,ρ1,st,e1,fun v H1 Hb t1 r1=>⟨H1,ρ1,y1,ρ2,t1.st,e2,fun u H2 Hc t2 r2=>?_⟩⟩
 split at e
 ·rename_i gz
  refine o1 H2 Hc v u dx dy _ _ t2.st.same ((r1.mono t2).look t2.st p1) (r2.look t2.st p2) gz fun w H3 Hd g3 r3=>?_
  refine ⟨true,Rep.qp r3,?_⟩
  rw [if_pos rfl]
  have t3:=t2.trans (.grow t2.st g3)
  have r2':=r2.mono (.grow t2.st g3)
  split at e
  ·cases e
  rename_i z ρ3 e3
  split at e
  ·cases e
  rename_i dy' p3
  split at e
  ·cases e
  rename_i dz p4
  split at e
  ·cases e
  rename_i w2 hz
  cases e
  refine ⟨H3,ρ2,z,_,t3.st,e3,fun w' H4 He t4 r4=>?_⟩
  refine o2 H4 He u w' dy' dz w2 Q t4.st.same ((r2'.mono t4).look t4.st p3) (r4.look t4.st p4) hz fun w5 H5 Hf g5 r5=>?_
  exact k w5 H5 Hf (t1.trans (t3.trans (t4.trans (.grow t4.st g5)))) ((r5.toV t4.st).early fun a n=>(t1.trans (t3.trans t4)).stp.gone n)
 ·rename_i gz
  cases e
  refine o1 H2 Hc v u dx dy _ _ t2.st.same ((r1.mono t2).look t2.st p1) (r2.look t2.st p2) gz fun w H3 Hd g3 r3=>?_
  refine ⟨false,Rep.qp r3,?_⟩
  rw [if_neg Bool.false_ne_true]
  exact k _ H3 Hd (t1.trans (t2.trans (.grow t2.st g3))) (Rep.bl false)
 ·cases e
theorem wW {op op':CmpOp} {r r':R2} {g h:Dm.Dat→Dm.Dat→Option Dm.RV} (o1:OpR X (compareOp op) r) (q1:OpD r g) (o2:OpR X (compareOp op') r') (q2:OpD r' h) (ha:DE X a fa) (hb:DE X b fb) (hc:DE X c fc)
  (hm:lastMarks [op,op'] [b,c]=false:=by with_unfolding_all rfl):DE X (.Compare a [op,op'] [b,c] pos) (Dm.e7 g h fa fb fc):=PE.weak (zW o1 o2 ha hb hc hm) fun _ _ _=>Em q1 q2
theorem fX (n d:Nat) (o:Option Int) (hd:d≤n):HT.sIx n d o=Dm.sIx n d o:=by
 cases o with
 | none=>rfl
 | some v=>
  unfold HT.sIx Dm.sIx
  first
   | rfl
   | (dsimp only;split<;>lia)
theorem jM {H0:Hp} {xs:List V} {ds:List Dm.Dat} (rs:aF H0 xs ds) (lo hi:Option Int):aF H0 (kD xs lo hi) (Dm.cut ds lo hi):=by
 unfold kD Dm.cut
 rw [rs.length,fX _ _ _ (Nat.zero_le _),fX _ _ _ (Nat.le_refl _)]
 exact (rs.drop _).take _
theorem gp {fo:Option Dm.FE} {σ:L2.St} {H0 H:Hp} {ρ ρ':Dm.Env} {o:Option Int} {Q:Option Int→Hp→Prop} (st:aC H0 H σ ρ) (e:Dm.part fo ρ=some (o,ρ')) (k:∀ H0' H',ESt σ ρ H0 H ρ' H0' H'→Q o H') :
  (match fo with | none=>p_ | some f=>z4 (tD f)) σ H Q:=by
 cases fo with
 | none=>cases e;exact k H0 H (.refl st)
 | some f=>
  unfold Dm.part at e
  dsimp only at e
  split at e
  ·rename_i i ρ1 e1
   cases e
   exact ⟨H0,ρ,_,_,st,e1,fun v H1 Hb t1 r1=>⟨i,Rep.isInt r1,k H1 Hb t1⟩⟩
  ·cases e
noncomputable abbrev tOf (fo:Option Dm.FE):TO:=match fo with | none=>p_ | some f=>z4 (tD f)
theorem N1 {K:PySem.W.Frag} {lo hi:Option Dm.FE} {σ:L2.St} {H:Hp} {Q:VK} (h:tD (Dm.eSl f lo hi) σ H Q):tSl (Lk K) (tD f) (tOf lo) (tOf hi) σ H Q:=by
 obtain ⟨H0,ρ,x,ρ',st,e,k⟩:=h
 unfold Dm.eSl at e
 split at e
 ·cases e
 rename_i x1 ρ1 e1
 split at e
 ·cases e
 rename_i l ρ2 e2
 split at e
 ·cases e
 rename_i hh ρ3 e3
 split at e
 ·rename_i ds p1
  cases e
  refine ⟨H0,ρ,x1,ρ1,st,e1,fun v H1 Hb t1 r1=>?_⟩
  refine gp t1.st e2 fun H2 Hc t2=>?_
  refine gp t2.st e3 fun H3 Hd t3=>?_
  have tt:=t1.trans (t2.trans t3)
  obtain ⟨a,xs,rfl,qa,ra⟩:=bL t3.st.same ((r1.mono (t2.trans t3)).look t3.st p1)
  refine ⟨a,xs,rfl,.inl qa,fun q hq=>?_⟩
  have g:=aQ.lN (o:=HO.lst (kD xs l hh)) t3.st.same hq
  refine k _ _ _ (tt.trans (.grow t3.st g)) ⟨q,rfl,tt.stp.gone hq,t3.st.b9 hq,t3.st.same.free hq,_,ay,jM ra l hh⟩
 ·cases e
theorem gD {lo hi:Option Expr} {flo fhi:Option Dm.FE} (h:DE X e f) (hl:PO X lo (tOf flo)) (hh:PO X hi (tOf fhi)):DE X (.Subscript e (.Slice lo hi none p2) pos) (Dm.eSl f flo fhi):=PE.weak (lF DU h hl hh) fun _ _ _=>N1
theorem o_n:PO X none (tOf none):=DQ
theorem o_s (h:DE X e f):PO X (some e) (tOf (some f)):=qc h
end
section
variable {X:Cx} {nm:List Str} {elt tg iter:Expr} {ifs:List Expr} {scope:Scope} {pos:Pos} {own:List Str} {fi:Dm.FI} {bd:Dm.FB} {is:List Nat} {t:Dm.FT} {f:Dm.FE}
noncomputable abbrev DTs (X:Cx) (ifs:List Expr) (t:Dm.FT):Prop:=PTs X ifs (tDT t)
theorem aV:DTs X [] Dm.bq:=fun pins s σ H Q I h=>by
 obtain ⟨H0,ρ,b,ρ',st,e,k⟩:=h
 cases e
 exact wL pins s σ H Q I (k H0 H (.refl st))
theorem cH {c:Expr} (h:DT X c t):DTs X [c] t:=D9 h
structure TGc (X:Cx) (nm:List Str) (scope:Scope) (own:List Str) (tg:Expr) (is:List Nat) (bd:Dm.FB):Prop where
 ex:∃ g,(∀ cl C s H fp,PG (bw X nm scope own cl C s H fp) tg g)∧BD is g bd
theorem c_n (i:Nat) {x:Str} {px:Pos} (hN:(nm++own).Nodup) (hi:(nm++own)[i]?=some x) (hx:(relabel scope X.env).names.lookup x=some .local):TGc X nm scope own (.Name x px) [i] (Dm.bN i):=
 ⟨⟨_,fun cl C s H fp=>p8 (X:=bw X nm scope own cl C s H fp) hN hi (.inl hx) (.inr hx),wK i⟩⟩
theorem c_t {es:List Expr} {k:Nat} {tpos:Pos} (hc:X.calm=true) (hg:∀ cl C s H fp,PGs (bw X nm scope own cl C s H fp) es (d7 is)) (hn:∀ cl C,(assignEach es (compEnvC scope cl C X.env)).length=is.length:=by intro _ _;rfl)
  (hst:∀ cl C,(assignEach es (compEnvC scope cl C X.env)).findIdx? (·.1)=none:=by intro _ _;rfl):TGc X nm scope own (.Tuple es k tpos) is (Dm.bT is):=
 ⟨⟨_,fun cl C s H fp=>uD (X:=bw X nm scope own cl C s H fp) hc (hg cl C s H fp) (hn cl C) (hst cl C),Au is rfl⟩⟩
theorem IZ (hc:X.calm=true) (S:dg X nm scope) (hi:DI X tg iter fi) (hg:TGc X nm scope own tg is bd) (ht:∀ cl C s H fp,DTs (bw X nm scope own cl C s H fp) ifs t) (he:∀ cl C s H fp,DE (bw X nm scope own cl C s H fp) elt f)
  (hl:∀ i∈is,X.N.length≤i) (hs:∀ x,foldedSetIterable iter X.env x=pure x:=by intro _;rfl):DE X (.ListComp elt [⟨tg,iter,ifs,0⟩] scope pos) (Dm.bU fi own.length bd t f):=by
 obtain ⟨g,h1,h2⟩:=hg.ex
 intro pins s σ H Q I h
 exact wM hc S hi h1 ht he hs pins s σ H Q I (uV h2 (fun i hi=>by rw [I.len];exact hl i hi) h)
theorem I0 (j:Nat) {y:Str} {py spos:Pos} (hN:X.N.Nodup) (hc:X.calm=true) (S:dg X nm scope) (hi:DI X tg iter fi) (hg:TGc X nm scope own tg is bd) (ht:∀ cl C s H fp,DTs (bw X nm scope own cl C s H fp) ifs t) (he:∀ cl C s H fp,DE (bw X nm scope own cl C s H fp) elt f)
  (hl:∀ i∈is,X.N.length≤i) (hj:X.N[j]?=some y:=by rfl) (hy:Loc X.env.scope y:=by first | exact Or.inl rfl | exact Or.inr rfl)
  (hsw:swapsWith (.ListComp elt [⟨tg,iter,ifs,0⟩] scope pos) (some (.Name y py)) spos.line X.env=pure true:=by rfl) (hs:∀ x,foldedSetIterable iter X.env x=pure x:=by intro _;rfl)
  (hf:X.fn y=true∨X.env.scope.names.lookup y=some .local:=by first | exact .inl rfl | exact .inr rfl | assumption):DS X (.Assign [.Name y py] (.ListComp elt [⟨tg,iter,ifs,0⟩] scope pos) spos) (Dm.sA j (Dm.bU fi own.length bd t f)):=by
 obtain ⟨g,h1,h2⟩:=hg.ex
 intro pins s σ H D I h
 exact fT hN hj hy hc S hi h1 ht he hsw hs hf pins s σ H D I (uV h2 (fun i hi=>by rw [I.len];exact hl i hi) (Ar h))
end
theorem lY {H0:Hp}:∀ {ds:List Dm.Dat} {bs:List Bool} {vs:List V},aF H0 vs ds→Dm.bools ds=some bs→vs=bs.map V.bl
 | [],bs,vs,r,e=>by cases r;cases e;rfl
 | .bl b::ds,bs,vs,r,e=>by
  cases r with
  | cons r rs=>
   unfold Dm.bools at e
   cases q:Dm.bools ds with
   | none=>rw [q] at e;cases e
   | some cs=>
    rw [q] at e
    cases e
    cases Rep.qp r
    rw [lY rs q]
    rfl
 | .non::ds,bs,vs,r,e=>by cases e
 | .int _::ds,bs,vs,r,e=>by cases e
 | .str _::ds,bs,vs,r,e=>by cases e
 | .tup _::ds,bs,vs,r,e=>by cases e
 | .lst _::ds,bs,vs,r,e=>by cases e
 | .dct _ _::ds,bs,vs,r,e=>by cases e
 | .dcp _ _::ds,bs,vs,r,e=>by cases e
theorem I_:CallD (fun xs H Q=>∃ (a:Addr) (bs:List Bool),xs=[.ref a]∧Rd H a (.lst (bs.map V.bl))∧Q (.bl (bs.all id)) H) Dm.gC:=by
 intro H0 H vs ds z Q s rs e k
 unfold Dm.gC at e
 split at e
 ·split at e
  ·rename_i bs hb
   cases e
   cases rs with
   | cons r rr=>
    cases rr
    obtain ⟨a,us,rfl,qa,ra⟩:=bL s r
    have:=lY ra hb
    subst this
    exact ⟨a,bs,rfl,qa,k _ H0 H (aQ.refl s) (.bl _)⟩
  ·cases e
 ·cases e
theorem Ja:CallD (fun xs H Q=>(∃ i,xs=[.int i]∧Q (.int i) H)∨∃ k,xs=[.bl k]∧Q (.int (if k then 1 else 0)) H) Dm.Al:=by
 intro H0 H vs ds z Q s rs e k
 unfold Dm.Al at e
 split at e
 ·cases e
  cases rs with
  | cons r rr=>
   cases rr
   cases aD r
   exact .inl ⟨_,rfl,k _ H0 H (aQ.refl s) (.int _)⟩
 ·cases e
  cases rs with
  | cons r rr=>
   cases rr
   cases kT r
   exact .inr ⟨_,rfl,k _ H0 H (aQ.refl s) (.int _)⟩
 ·cases e
section
variable {X:Cx} {a b c e:Expr} {f:Dm.FE} {fs:List Dm.FE} {p p2 pos:Pos}
theorem gM (hc:X.calm=true) (hg:Gl X "all") (hm:X.mg "all" = none) (ha:DA X [e] fs) (he:starEach [e] X.env=[(false,eval e X.env)]:=by rfl) (hpl:(backTo pos (starEach [] X.env)).any (·.1)=false:=by rfl) :
  DE X (.Call (.Name "all" p) [e] [] pos) (Dm.eB Dm.gC fs):=yS (yU hc) I_ (by rfl) hg hm ha (he:=he) (hpl:=hpl)
theorem LX (hg:Gl X "int") (hm:X.mg "int" = none) (ha:DA X [e] fs) (he:starEach [e] X.env=[(false,eval e X.env)]:=by rfl) (hpl:(backTo pos (starEach [] X.env)).any (·.1)=false:=by rfl) :
  DE X (.Call (.Name "int" p) [e] [] pos) (Dm.eB Dm.Al fs):=Ej yE Ja (by rfl) hg hm ha (he:=he) (hpl:=hpl)
noncomputable def LY (K:PySem.W.Frag) (te:TE):TE:=fun σ H Q=>te σ H fun x H1=>∃ a xs,x=.ref a∧SqL K H1 a xs∧∀ p,H1 p=none→Q (.ref p) (upd H1 p (.lst xs.reverse))
theorem Jb {te:TE} {k p3 p4} (he:PE X e te):PE X (.Subscript e (.Slice none none (some (.UnaryOp .USub (.Constant (.int 1) k p3) p4)) p2) pos) (LY X.K te):=by
 intro pins s σ H Q I h
 refine Subscript_ (thn (he pins s σ H _ I h) fun v s1 h1=>?_)
 obtain ⟨x,H1,I1,r1,a,xs,rfl,hx,q⟩:=h1
 cases r1
 refine wpAny_Slice ?_
 rw [evalPart_none]
 refine wpAny_pure (wpAny_pure ?_)
 have hstep:=qc (X:=X) (Gd (pos:=p4) zT (uC (i:=1) (j:=k) (pos:=p3) (X:=X)))
 refine thn (hstep pins s1 σ H1 (fun o H'=>o=some (-1)∧H'=H1) I1 ⟨_,rfl,_,rfl,rfl,rfl⟩) fun vs s2 h2=>?_
 obtain ⟨o,H2,I2,ps,rfl,rfl⟩:=h2
 have I3:Inv X pins σ H2 { s2 with heap:=s2.heap.push { cls:=.type "slice",data:=.fields #[.none,.none,vs] } }:=I2.kept (t':=s2.toks) fun b ob q=>Heap.get?_push_of_some _ q
 obtain ⟨its,r,ht,hz⟩:=I3.list hx
 have hlen:=r.length
 have hg:wpAny (model X.prog X.w) X.A (getItem (.ref a) (.ref s2.heap.objs.size)) (EP X pins σ Q) X.xe { s2 with heap:=s2.heap.push { cls:=.type "slice",data:=.fields #[.none,.none,vs] } }:=by
  refine wpAny_getItem_list_slice ht.isList (Heap.IsSliceOf.new ..) .none .none ps (by decide) ?_ (by rw [List.size_toArray]<;>lia)
  rw [PySem.W.krv_pick,show its.toArray.toList.reverse.toArray=its.reverse.toArray by simp]
  refine ⟨.ref _,_,I3.laid (t':=s2.toks) (o:=.lst xs.reverse) (fun b ob q=>Heap.get?_push_of_some _ q) (Nat.le_refl _) ?_,rfl,q _ (I3.hok.fresh (Nat.le_refl _))⟩
  exact ⟨by rw [List.length_reverse];exact hz,_,0,r.reverse,Heap.get?_push_size _ rfl⟩
 show wpAny (model X.prog X.w) X.A (subscriptTail e (.Slice none none (some (.UnaryOp .USub (.Constant (.int 1) k p3) p4)) p2) (.ref a) (.ref s2.heap.objs.size)) (EP X pins σ Q) X.xe _
 exact tail_any (ops:=[.ref a,.ref s2.heap.objs.size]) ht.isList.typeIs slot_list_getitem.lookup hg (by with_unfolding_all rfl)
theorem LZ {K:PySem.W.Frag} {σ:L2.St} {H:Hp} {Q:VK} (h:tD (Dm.e1 Dm.qo f) σ H Q):LY K (tD f) σ H Q:=by
 obtain ⟨H0,ρ,x,ρ',st,e,k⟩:=h
 unfold Dm.e1 at e
 split at e
 ·cases e
 rename_i x1 ρ1 e1
 split at e
 ·cases e
 rename_i dx p1
 split at e
 ·cases e
 rename_i z gz
 unfold Dm.qo at gz
 split at gz
 ·cases gz
  cases e
  refine ⟨H0,ρ,x1,_,st,e1,fun v H1 Hb t1 r1=>?_⟩
  obtain ⟨a,xs,rfl,qa,ra⟩:=bL t1.st.same (r1.look t1.st p1)
  refine ⟨a,xs,rfl,.inl qa,fun q hq=>?_⟩
  have g:=aQ.lN (o:=HO.lst xs.reverse) t1.st.same hq
  exact k _ _ _ (t1.trans (.grow t1.st g)) ⟨q,rfl,t1.stp.gone hq,t1.st.b9 hq,t1.st.same.free hq,_,ay,ra.reverse⟩
 ·cases gz
theorem pA {k p3 p4} (h:DE X e f):DE X (.Subscript e (.Slice none none (some (.UnaryOp .USub (.Constant (.int 1) k p3) p4)) p2) pos) (Dm.e1 Dm.qo f):=PE.weak (Jb h) fun _ _ _=>LZ
end
noncomputable def cP (sc:Scope):List Str→List Str→Bool
 | [],[]=>true
 | x::N,y::nm=>(x == y||(sc.names.lookup y).isNone)&&cP sc N nm
 | _,_=>false
theorem cP.len {sc:Scope}:∀ {N nm:List Str},cP sc N nm=true→nm.length=N.length
 | [],[],_=>rfl
 | [],_::_,h=>by cases h
 | _::_,[],h=>by cases h
 | x::N,y::nm,h=>by
  rw [cP,Bool.and_eq_true] at h
  rw [List.length_cons,List.length_cons,cP.len h.2]
theorem cP.at {sc:Scope}:∀ {N nm:List Str},cP sc N nm=true→∀ (i:Nat) (x:Str),nm[i]?=some x→N[i]?=some x∨sc.names.lookup x=none
 | [],[],_,i,x,e=>by simp at e
 | [],_::_,h,_,_,_=>by cases h
 | _::_,[],h,_,_,_=>by cases h
 | x::N,y::nm,h,0,z,e=>by
  rw [cP,Bool.and_eq_true,Bool.or_eq_true] at h
  simp at e
  subst e
  rcases h.1 with q | q
  ·have:x=y:=by simpa using q
   subst this
   exact .inl rfl
  ·exact .inr (by simpa using q)
 | x::N,y::nm,h,i+1,z,e=>by
  rw [cP,Bool.and_eq_true] at h
  rw [List.getElem?_cons_succ] at e ⊢
  exact cP.at h.2 i z e
noncomputable def lZ (osc:Scope) (N nm:List Str) (sc:Scope):Bool:=
 sc.names.all (fun y=>y.2 != .cell)&&sc.names.all (fun y=>y.2 != .local||sc.names.lookup y.1 == some .local) &&
 sc.names.all (fun y=>y.2 != .free||(osc.names.lookup y.1 == some .cell||osc.names.lookup y.1 == some .free))&&nm.all (fun x=>sc.names.lookup x != some .local)&&cP sc N nm
theorem dg.of {X:Cx} {nm:List Str} {scope:Scope} (h:lZ X.env.scope X.N nm scope=true) (hk:scope.kind=.function):dg X nm scope:=by
 unfold lZ at h
 simp only [Bool.and_eq_true,List.all_eq_true] at h
 obtain ⟨⟨⟨⟨h1,h2⟩,h3⟩,h4⟩,h5⟩:=h
 refine ⟨hk,fun y hy=>?_,fun y hy hl=>?_,fun y hy hf=>?_,fun x hx=>?_,cP.len h5,cP.at h5⟩
 ·have:=h1 y hy;simpa using this
 ·have:=h2 y hy
  rw [hl] at this
  simpa using this
 ·have:=h3 y hy
  rw [hf] at this
  have:(X.env.scope.names.lookup y.1 == some .cell||X.env.scope.names.lookup y.1 == some .free)=true:=by simpa using this
  rw [Bool.or_eq_true,beq_iff_eq,beq_iff_eq] at this
  exact this
 ·have:=h4 x hx;simpa using this
section
variable {X:Cx} {elt tg iter:Expr} {ifs:List Expr} {scope:Scope} {pos:Pos} {fi:Dm.FI} {bd:Dm.FB} {is:List Nat} {t:Dm.FT} {f:Dm.FE}
theorem rP {l:List Nat} {n:Nat} (h:(l.all fun i=>decide (n≤i))=true):∀ i∈l,n≤i:=fun i hi=>of_decide_eq_true (List.all_eq_true.mp h i hi)
theorem l0 (nm own:List Str) (hg:TGc X nm scope own tg is bd) (hi:DI X tg iter fi) (ht:∀ cl C s H fp,DTs (bw X nm scope own cl C s H fp) ifs t) (he:∀ cl C s H fp,DE (bw X nm scope own cl C s H fp) elt f)
  (hc:X.calm=true:=by rfl) (hk:scope.kind=.function:=by rfl) (hS:lZ X.env.scope X.N nm scope=true:=by rfl) (hl:(is.all fun i=>decide (X.N.length≤i))=true:=by rfl) (hs:∀ x,foldedSetIterable iter X.env x=pure x:=by intro _;rfl) :
  DE X (.ListComp elt [⟨tg,iter,ifs,0⟩] scope pos) (Dm.bU fi own.length bd t f):=IZ hc (dg.of hS hk) hi hg ht he (rP hl) hs
theorem L0 (j:Nat) (nm own:List Str) {y:Str} {py spos:Pos} (hN:X.N.Nodup) (hg:TGc X nm scope own tg is bd) (hi:DI X tg iter fi) (ht:∀ cl C s H fp,DTs (bw X nm scope own cl C s H fp) ifs t) (he:∀ cl C s H fp,DE (bw X nm scope own cl C s H fp) elt f)
  (hc:X.calm=true:=by rfl) (hk:scope.kind=.function:=by rfl) (hS:lZ X.env.scope X.N nm scope=true:=by rfl) (hl:(is.all fun i=>decide (X.N.length≤i))=true:=by rfl) (hj:X.N[j]?=some y:=by rfl) (hy:Loc X.env.scope y:=by first | exact Or.inl rfl | exact Or.inr rfl)
  (hsw:swapsWith (.ListComp elt [⟨tg,iter,ifs,0⟩] scope pos) (some (.Name y py)) spos.line X.env=pure true:=by rfl) (hs:∀ x,foldedSetIterable iter X.env x=pure x:=by intro _;rfl)
  (hf:X.fn y=true∨X.env.scope.names.lookup y=some .local:=by first | exact .inl rfl | exact .inr rfl | assumption):DS X (.Assign [.Name y py] (.ListComp elt [⟨tg,iter,ifs,0⟩] scope pos) spos) (Dm.sA j (Dm.bU fi own.length bd t f)):=
 I0 j hN hc (dg.of hS hk) hi hg ht he (rP hl) hj hy hsw hs hf
end
theorem PI.or {X:Cx} {tg it:Expr} {t t':TI} (h:PI X tg it t) (h':PI X tg it t'):PI X tg it (fun σ H R=>t σ H R∨t' σ H R):=fun pins s σ H R I q=>q.elim (h pins s σ H R I) (h' pins s σ H R I)
theorem L1 {K:PySem.W.Frag} {f:Dm.FE} {σ:L2.St} {H:Hp} {R:It→Hp→Prop} (h:tDI (Dm.iS f) σ H R):rq K (tD f) σ H R∨zP K (tD f) σ H R:=by
 obtain ⟨H0,ρ,ys,ρ',st,e,k⟩:=h
 unfold Dm.iS at e
 split at e
 ·cases e
 rename_i x ρ1 e1
 split at e
 ·rename_i ds ρ2 e2
  cases e
  exact .inl (NP ⟨H0,ρ,_,_,st,by unfold Dm.iL;rw [e1];dsimp only;rw [e2],k⟩)
 ·rename_i ds ρ2 e2
  cases e
  exact .inr (NQ ⟨H0,ρ,_,_,st,by unfold Dm.iT;rw [e1];dsimp only;rw [e2],k⟩)
 ·cases e
theorem i_S {X:Cx} {tg e:Expr} {f:Dm.FE} (h:DE X e f):DI X tg e (Dm.iS f):=PI.weak (PI.or (wk h) (zQ h)) fun _ _ _=>L1
noncomputable def AM (K:PySem.W.Frag):Bool:=K.all fun p=>match p.2.cls with | .type n=>n != "list" | _=>true
theorem lookup_mem {a:Addr} {o:Obj}:∀ {K:List (Addr×Obj)},K.lookup a=some o→(a,o)∈K
 | [],h=>by cases h
 | (b,x)::r,h=>by
  rw [List.lookup_cons] at h
  cases q:a == b with
  | true=>
   rw [q] at h
   cases h
   have:a=b:=by simpa using q
   rw [this]
   exact List.mem_cons_self
  | false=>
   rw [q] at h
   exact List.mem_cons_of_mem _ (lookup_mem h)
theorem Jc {f:List Dm.Dat→Option Dm.RV} {K:PySem.W.Frag} {H:Hp} {a:Addr} {ns:List Int} {E:XK} (hf:f [.lst (ns.map Dm.Dat.int)]=some (.val (.bl true))) (hK:AM K=true) (hS:SqL K H a (ns.map V.int)) :
  spD f [.ref a] H (fun v _=>v=.bl true) E:=by
 have hq:Rd H a (.lst (ns.map V.int)):=by
  rcases hS with h | ⟨o,its,n,hk,hc,_⟩
  ·exact h
  ·have:=List.all_eq_true.mp hK _ (lookup_mem hk)
   dsimp only at this
   rw [hc] at this
   exact absurd this (by decide)
 have hr:∀ ns:List Int,aF H (ns.map V.int) (ns.map Dm.Dat.int):=fun ns=>by
  induction ns with
  | nil=>exact .nil
  | cons n ns ih=>exact .cons (.int n) ih
 exact ⟨H,_,_,az.refl _,.cons (.lst hq (hr ns)) .nil,hf,fun v H0' H' _ r=>Rep.qp r⟩
end Br
namespace Br
open PySem PySem.Spec PyProof.Rows L2
theorem yX {X:Cx} {pins:List (Addr×Obj)} {σ:L2.St} {H:Hp} {s:Shared} {h':Heap} {t':Nat} {fp:List Addr} {p:Addr} {o:HO} (I:Inv X pins σ H s) (hf:∀ b∈fp,oE X pins H b)
  (k:∀ b u,b∉fp→s.heap.get? b=some u→h'.get? b=some u) (hp:s.heap.objs.size≤p) (new:bx X.prog X.w (upd H p o) h' p o):Inv X pins σ (upd H p o) { s with heap:=h',toks:=t' }:=by
 have hn:H p=none:=I.hok.fresh hp
 have nf:∀ b u,H b=some u→b∉fp:=fun b u e z=>by rw [(hf b z).1] at e;cases e
 have nL:X.env.locals∉fp:=fun z=>(hf _ z).2.1 rfl
 refine I.step (g':=s.gens) (d':=s.drawn) (ch:=fp) (fun b hb=>?_) (fun b u _ _ hc e _=>k b u hc e) (fun b u _ _ hc e _=>⟨u.slots,k b u hc e⟩)
  (fun b u _ e n=>by rw [aB (Nat.ne_of_lt (Nat.lt_of_lt_of_le (Heap.lt_size e) hp))];exact n) (fun b u hc e=>⟨u,k b u hc e⟩)
  (fun b xs q=>by rw [aB (aP q hn)];exact q) (fun b u xs q=>by rw [aB (aP q hn)];exact q) (fun b _ _ _ q=>by rw [aB (aP q hn)];exact q) (fun m hm=>?_) (fun b u e=>?_) I.bare
 ·obtain ⟨f0,f1,f2,f3,f4,f5⟩:=hf b hb
  exact ⟨f3,f1,f4,f5⟩
 ·obtain ⟨o,es,ep,ho,r⟩:=hm
  exact ⟨o,es,ep,k _ o nL ho,r⟩
 ·by_cases hb:b=p
  ·subst hb;rw [ay] at e;cases e;exact new
  ·rw [aB hb] at e
   refine (I.hok b u e).stay (fun c v hc q=>k c v ?_ q) (fun c q=>by rw [aB (aP q hn)];exact q) (fun c _ _ q=>by rw [aB (aP q hn)];exact q) fun c xs q=>by rw [aB (aP q hn)];exact q
   rcases hc with z | z
   ·rw [z];exact nf b u e
   ·exact nf c _ z
end Br
namespace Dm
noncomputable def aM (i:Nat) (own:Nat) (bd:FB) (t:FT) (el:FE):FE:=fun ρ=>match ρ[i]? with
 | some (.ow (.lst ds))=>if ds.length≤SZ then (match dF bd t el ds (ρ.set i .un++List.replicate own .un) [] with
  | none=>none
  | some (ys,ρ2)=>some (.new (.lst ys),(ρ2.take ρ.length).set i (.ow (.lst ds)))) else none
 | _=>bU (iS (eV i)) own bd t el ρ
end Dm
namespace Br
open PySem PySem.Spec PyProof.Rows L2
theorem AO {K:PySem.W.Frag} {H0:Hp} {a:Addr} {xs:List V} {ds:List Dm.Dat} (rs:aF H0 xs ds):JWa (Itl K a) H0 (some (a,.lst xs)) ds:=by
 intro H0' H s0 s1 hq
 have hq:=hq _ rfl
 have q:SqL K H a xs:=.inl (.inl hq)
 refine ⟨fun i hi=>⟨xs,q,by rw [rs.length];exact hi⟩,fun i d e=>?_⟩
 obtain ⟨v,hv,rv⟩:=rs.get e
 refine ⟨⟨xs,v,q,hv⟩,fun x H' y=>?_⟩
 obtain ⟨e1,y⟩:=y
 subst e1
 have z:=y xs q
 rw [hv] at z
 cases z
 exact ⟨H0',aQ.refl s1,rv.mono s0⟩
theorem wX {K:PySem.W.Frag} {σ:L2.St} {H:Hp} {i own:Nat} {bd:Dm.FB} {g:TG} {t:Dm.FT} {el:Dm.FE} {is:List Nat} {Q:VK} (hb:BD is g bd) (hl:∀ i∈is,σ.length≤i) (h:tD (Dm.aM i own bd t el) σ H Q) :
  tLC (fun σ H R=>rq K (tD (Dm.eV i)) σ H R∨zP K (tD (Dm.eV i)) σ H R) own g (tDT t) (tD el) σ H Q:=by
 obtain ⟨H0,ρ,x,ρ',st,e,k⟩:=h
 unfold Dm.aM at e
 split at e
 ·rename_i ds eo
  split at e
  case isFalse=>cases e
  rename_i hsz
  split at e
  ·cases e
  rename_i ys ρ2 e2
  cases e
  refine .inl ⟨H0,ρ,.slot i,ρ,st,by unfold Dm.eV;rw [eo],fun v H0' H' t1 r=>?_⟩
  obtain ⟨a,qa,na,xs,ha,rs⟩:=t1.st.ow i _ eo
  obtain ⟨r1,_⟩:=r
  rw [qa] at r1
  cases r1
  have nO:¬ ao σ (ρ.set i .un) a:=fun z=>by
   obtain ⟨j,d,hj,h1,h2⟩:=cO z
   exact hj (t1.st.dis j i d _ a h1 eo h2 qa)
  have hlt:i<ρ.length:=(List.getElem?_eq_some_iff.mp eo).1
  refine ⟨a,rfl,⟨xs,.inl (.inl ha)⟩,fun D hD=>rM hb hl (t1.st.mask i) (fun q e=>by cases e;exact ⟨ha,na,nO⟩) (AO rs) hsz e2 (fun v H1 Hc t2 r2 hpa=>?_) D hD⟩
  obtain ⟨ha2,na2⟩:=hpa _ rfl
  rw [List.length_set] at t2 r2
  have oo:∀ b,ao σ ((ρ2.take ρ.length).set i (.ow (.lst ds))) b→b=a∨ao σ (ρ2.take ρ.length) b:=fun b ⟨j,d,h1,h2⟩=>by
   by_cases q:i=j
   ·subst q;rw [qa] at h2;cases h2;exact .inl rfl
   ·rw [List.getElem?_set_ne q] at h1;exact .inr ⟨j,d,h1,h2⟩
  have om:∀ b,ao σ (ρ.set i .un) b→ao σ ρ b:=fun b z=>by
   obtain ⟨j,d,hj,h1,h2⟩:=cO z
   exact ⟨j,d,h1,h2⟩
  have oa:ao σ ρ a:=⟨i,_,eo,qa⟩
  have nO2:¬ ao σ (ρ2.take ρ.length) a:=fun z=>nO (t2.own a z)
  have AQ:(ρ2.take ρ.length).length=ρ.length:=by rw [← t2.st.len,st.len]
  refine k v H1 Hc (t1.trans ⟨⟨t2.st.same,by rw [List.length_set];exact t2.st.len,fun j d h=>?_,fun j d h=>?_,fun j j' d d' b h1 h2 h3 h4=>?_⟩,t2.stp.wide om,fun b z=>?_,fun j z=>?_⟩) ?_
  ·by_cases q:i=j
   ·subst q;rw [List.getElem?_set_self (by rw [AQ];exact hlt)] at h;cases h
   ·rw [List.getElem?_set_ne q] at h;exact t2.st.sh j d h
  ·by_cases q:i=j
   ·subst q
    rw [List.getElem?_set_self (by rw [AQ];exact hlt)] at h
    cases h
    exact ⟨a,qa,na2,xs,ha2,rs.mono t2.stp.s0⟩
   ·rw [List.getElem?_set_ne q] at h;exact t2.st.ow j d h
  ·by_cases q:i=j
   ·subst q
    by_cases q':i=j'
    ·exact q'
    ·rw [List.getElem?_set_ne q'] at h2
     rw [qa] at h3;cases h3
     exact absurd ⟨j',d',h2,h4⟩ nO2
   ·rw [List.getElem?_set_ne q] at h1
    by_cases q':i=j'
    ·subst q'
     rw [qa] at h4;cases h4
     exact absurd ⟨j,d,h1,h3⟩ nO2
    ·rw [List.getElem?_set_ne q'] at h2
     exact t2.st.dis j j' d d' b h1 h2 h3 h4
  ·rcases oo b z with rfl | z
   ·exact oa
   ·exact om b (t2.own b z)
  ·trivial
  ·obtain ⟨D',e',n',no',n0',w'⟩:=r2
   refine ⟨D',e',t1.stp.gone n',fun z=>?_,n0',w'⟩
   rcases oo D' z with rfl | z
   ·rw [n'] at ha;cases ha
   ·exact no' z
 ·have h2:=uV (fi:=Dm.iS (Dm.eV i)) hb hl ⟨H0,ρ,x,ρ',st,e,k⟩
  exact L1 h2
section
variable {X:Cx} {elt tg:Expr} {ifs:List Expr} {scope:Scope} {pos px:Pos} {bd:Dm.FB} {is:List Nat} {t:Dm.FT} {f:Dm.FE} {x:Str}
theorem i_M (i:Nat) (h:DE X (.Name x px) (Dm.eV i)):PI X tg (.Name x px) (fun σ H R=>rq X.K (tD (Dm.eV i)) σ H R∨zP X.K (tD (Dm.eV i)) σ H R):=PI.or (wk h) (zQ h)
theorem bZ (i:Nat) (nm own:List Str) (hg:TGc X nm scope own tg is bd) (hi:DE X (.Name x px) (Dm.eV i)) (ht:∀ cl C s H fp,DTs (bw X nm scope own cl C s H fp) ifs t) (he:∀ cl C s H fp,DE (bw X nm scope own cl C s H fp) elt f)
  (hc:X.calm=true:=by rfl) (hk:scope.kind=.function:=by rfl) (hS:lZ X.env.scope X.N nm scope=true:=by rfl) (hl:(is.all fun i=>decide (X.N.length≤i))=true:=by rfl) (hs:∀ y,foldedSetIterable (.Name x px) X.env y=pure y:=by intro _;rfl) :
  DE X (.ListComp elt [⟨tg,.Name x px,ifs,0⟩] scope pos) (Dm.aM i own.length bd t f):=by
 obtain ⟨g,h1,h2⟩:=hg.ex
 intro pins s σ H Q I h
 exact wM hc (dg.of hS hk) (i_M i hi) h1 ht he hs pins s σ H Q I (wX h2 (fun i hi=>by rw [I.len];exact rP hl i hi) h)
theorem l6 (j i:Nat) (nm own:List Str) {y:Str} {py spos:Pos} (hN:X.N.Nodup) (hg:TGc X nm scope own tg is bd) (hi:DE X (.Name x px) (Dm.eV i)) (ht:∀ cl C s H fp,DTs (bw X nm scope own cl C s H fp) ifs t) (he:∀ cl C s H fp,DE (bw X nm scope own cl C s H fp) elt f)
  (hc:X.calm=true:=by rfl) (hk:scope.kind=.function:=by rfl) (hS:lZ X.env.scope X.N nm scope=true:=by rfl) (hl:(is.all fun i=>decide (X.N.length≤i))=true:=by rfl) (hj:X.N[j]?=some y:=by rfl) (hy:Loc X.env.scope y:=by first | exact Or.inl rfl | exact Or.inr rfl)
  (hsw:swapsWith (.ListComp elt [⟨tg,.Name x px,ifs,0⟩] scope pos) (some (.Name y py)) spos.line X.env=pure true:=by rfl) (hs:∀ y,foldedSetIterable (.Name x px) X.env y=pure y:=by intro _;rfl)
  (hf:X.fn y=true∨X.env.scope.names.lookup y=some .local:=by first | exact .inl rfl | exact .inr rfl | assumption):DS X (.Assign [.Name y py] (.ListComp elt [⟨tg,.Name x px,ifs,0⟩] scope pos) spos) (Dm.sA j (Dm.aM i own.length bd t f)):=by
 obtain ⟨g,h1,h2⟩:=hg.ex
 intro pins s σ H D I h
 exact fT hN hj hy hc (dg.of hS hk) (i_M i hi) h1 ht he hsw hs hf pins s σ H D I (wX h2 (fun i hi=>by rw [I.len];exact rP hl i hi) (Ar h))
end
end Br
namespace Dm
noncomputable def kI:List Dat→List Dat→List Dat
 | x::xs,y::ys=>.tup [x,y]::kI xs ys
 | _,_=>[]
noncomputable def uY (a b:FE):FI:=fun ρ=>match eAs [a,b] ρ with
 | some (vs,ρ1)=>(match tks ρ1 vs with
  | some ([.lst xs,.lst ys],ρ2)=>some (kI xs ys,ρ2)
  | _=>none)
 | none=>none
end Dm
namespace Br
open PySem PySem.Spec PyProof.Rows L2
theorem uZ {X:Cx} {pins:List (Addr×Obj)} {σ:L2.St} {H:Hp} {s:Shared} {h':Heap} {t':Nat} {fp:List Addr} (I:Inv X pins σ H s) (hf:∀ b∈fp,oE X pins H b)
  (k:∀ b u,b∉fp→s.heap.get? b=some u→h'.get? b=some u):Inv X pins σ H { s with heap:=h',toks:=t' }:=by
 have nf:∀ b u,H b=some u→b∉fp:=fun b u e z=>by rw [(hf b z).1] at e;cases e
 have nL:X.env.locals∉fp:=fun z=>(hf _ z).2.1 rfl
 refine I.step (g':=s.gens) (d':=s.drawn) (ch:=fp) (fun b hb=>?_) (fun b u _ _ hc e _=>k b u hc e) (fun b u _ _ hc e _=>⟨u.slots,k b u hc e⟩)
  (fun b u _ e n=>n) (fun b u hc e=>⟨u,k b u hc e⟩)
  (fun b xs q=>q) (fun b u xs q=>q) (fun _ _ _ _ q=>q) (fun m hm=>?_) (fun b u e=>?_) I.bare
 ·obtain ⟨f0,f1,f2,f3,f4,f5⟩:=hf b hb
  exact ⟨f3,f1,f4,f5⟩
 ·obtain ⟨o,es,ep,ho,r⟩:=hm
  exact ⟨o,es,ep,k _ o nL ho,r⟩
 ·refine (I.hok b u e).stay (fun c v hc q=>k c v ?_ q) (fun c q=>q) (fun _ _ _ q=>q) fun c xs q=>q
  rcases hc with z | z
  ·rw [z];exact nf b u e
  ·exact nf c _ z
noncomputable def Itz (K:PySem.W.Frag) (a b:Addr):It:=
 ⟨fun i H=>∃ xs ys x y,SqL K H a xs∧SqL K H b ys∧xs[i]?=some x∧ys[i]?=some y,
  fun i H r H'=>∃ p x y,H p=none∧r=.ref p∧H'=upd H p (.tup [x,y])∧(∀ xs,SqL K H a xs→xs[i]?=some x)∧∀ ys,SqL K H b ys→ys[i]?=some y,
  fun i H=>∃ xs ys,SqL K H a xs∧SqL K H b ys∧(xs.length≤i∨ys.length≤i)⟩
theorem fY {h:Heap} {a b:Addr} {o o':Obj} (ha:h.get? a=some o) (hb:h.get? b=some o') (n:o.cls≠o'.cls):a≠b:=fun z=>by
 subst z
 rw [ha] at hb
 cases hb
 exact n rfl
structure qy (z TI TO i1 i2:Addr):Prop where
 TIz:TI≠z
 TOz:TO≠z
 i1z:i1≠z
 i2z:i2≠z
 TITO:TI≠TO
 TIi1:TI≠i1
 TIi2:TI≠i2
 TOi1:TO≠i1
 TOi2:TO≠i2
 i12:i1≠i2
noncomputable def AR (a b z TI TO i1 i2:Addr) (i:Nat) (h:Heap):Prop:=IsZip h z TI TO .none∧IsPair h TI (.ref i1) (.ref i2)∧(∃ x y,IsPair h TO x y)∧h.IsListIter i1 a i∧h.IsListIter i2 b i
theorem rQ {h:Heap} {a b z TI TO i1 i2:Addr} {i:Nat} {xs ys:Array Value} (F:qy z TI TO i1 i2) (st:AR a b z TI TO i1 i2 i h) (ha:h.IsList a xs) (hb:h.IsList b ys):ZipApart z TI TO i1 i2 a b:=by
 obtain ⟨s1,s2,⟨x,y,s3⟩,s4,s5⟩:=st
 obtain ⟨o4,e4,c4,_⟩:=s4
 obtain ⟨o5,e5,c5,_⟩:=s5
 obtain ⟨oa,ea,ca,_⟩:=ha
 obtain ⟨ob,eb,cb,_⟩:=hb
 have d:∀ {n m:String},n≠m→(Value.type n)≠(Value.type m):=fun q z=>q (by injection z)
 exact ⟨F.TIz,F.TOz,F.i1z,F.i2z,F.TITO,F.TIi1,F.TIi2,F.TOi1,F.TOi2,F.i12,
  fY ea s1 (by rw [ca];exact d (by decide)),fY ea s3 (by rw [ca];exact d (by decide)),fY ea e4 (by rw [ca,c4];exact d (by decide)),fY ea e5 (by rw [ca,c5];exact d (by decide)),
  fY eb s1 (by rw [cb];exact d (by decide)),fY eb s3 (by rw [cb];exact d (by decide)),fY eb e4 (by rw [cb,c4];exact d (by decide)),fY eb e5 (by rw [cb,c5];exact d (by decide))⟩
theorem AS {P:Program} {w:World} {K:PySem.W.Frag} {elts:List Expr} {x1} {tp:Pos} (a b z TI TO i1 i2:Addr) (F:qy z TI TO i1 i2):Turn P w K (.Tuple elts x1 tp) (Itz K a b) [z,TI,TO,i1,i2] z (AR a b z TI TO i1 i2) where
 mem:=by simp
 obj:=fun i h st c hc=>by
  obtain ⟨s1,s2,⟨x,y,s3⟩,⟨o4,e4,c4,d4⟩,⟨o5,e5,c5,d5⟩⟩:=st
  simp only [List.mem_cons,List.not_mem_nil,or_false] at hc
  rcases hc with rfl | rfl | rfl | rfl | rfl
  ·exact ⟨_,s1,fun v q=>by have q':Data.fields _=Data.cell v:=q;cases q'⟩
  ·exact ⟨_,s2,fun v q=>by have q':Data.seq _ _=Data.cell v:=q;cases q'⟩
  ·exact ⟨_,s3,fun v q=>by have q':Data.seq _ _=Data.cell v:=q;cases q'⟩
  ·exact ⟨o4,e4,fun v q=>by rw [d4] at q;cases q⟩
  ·exact ⟨o5,e5,fun v q=>by rw [d5] at q;cases q⟩
 keep:=fun i h h' st k=>by
  obtain ⟨s1,s2,⟨x,y,s3⟩,s4,s5⟩:=st
  exact ⟨k z (by simp) _ s1,k TI (by simp) _ s2,⟨x,y,k TO (by simp) _ s3⟩,s4.at fun o q=>k i1 (by simp) o q,s5.at fun o q=>k i2 (by simp) o q⟩
 item:=by
  intro X hP hw hK hc i pins s σ H E I hf st hg
  subst hP hw hK
  obtain ⟨xs,ys,x,y,hq,hq',hx,hy⟩:=hg
  obtain ⟨its,rv,p,hz⟩:=I.list hq
  obtain ⟨its',rv',p',hz'⟩:=I.list hq'
  obtain ⟨u,hu,ru⟩:=rv.get hx
  obtain ⟨u',hu',ru'⟩:=rv'.get hy
  have D:=rQ F st p.isList p'.isList
  obtain ⟨s1,s2,⟨o1,o2,s3⟩,s4,s5⟩:=st
  have lt:∀ {c o},s.heap.get? c=some o→c<s.heap.objs.size:=fun q=>Heap.lt_size q
  have l1:=lt s1
  have l2:=lt s2
  have l3:=lt s3
  have l4:i1<s.heap.objs.size:=by obtain ⟨_,q,_⟩:=s4;exact lt q
  have l5:i2<s.heap.objs.size:=by obtain ⟨_,q,_⟩:=s5;exact lt q
  refine wpAny_pyNext_zip_item D s1 s2 s3 s4 s5 p.isList p'.isList (x:=u) (y:=u') (by simpa using hu) (by simpa using hu') fun h1 a1 a2 a3 a4 a5 a6 hk=>?_
  refine ⟨_,rfl,wpAny_letOwnedTupleGo_zip a1 fun h2 z2 hs2=>?_⟩
  have ht2:h2.get? s.heap.objs.size=some { cls:=.type "tuple",data:=.seq #[u,u'] }:=(hs2.2 _ (Nat.ne_of_gt l1)).trans a5
  have k2:∀ c o,c∉[z,TI,TO,i1,i2]→s.heap.get? c=some o→h2.get? c=some o:=fun c o hc q=>by
   simp only [List.mem_cons,List.not_mem_nil,or_false,not_or] at hc
   exact (hs2.2 c hc.1).trans (hk c o hc.1 hc.2.2.1 hc.2.2.2.1 hc.2.2.2.2 q)
  have hn:H s.heap.objs.size=none:=I.hok.fresh (Nat.le_refl _)
  have I2:Inv X pins σ (upd H s.heap.objs.size (.tup [x,y])) { s with heap:=h2,toks:=s.toks }:=
   yX I hf k2 (Nat.le_refl _) ⟨by simp [sizeLine],[u,u'],.cons ru (.cons ru' .nil),_,ht2,rfl,_,rfl⟩
  refine ⟨.ref s.heap.objs.size,_,I2,rfl,⟨_,x,y,hn,rfl,rfl,fun vs hv=>by rw [I.lq hv hq];exact hx,fun vs hv=>by rw [I.lq hv hq'];exact hy⟩,⟨z2,?_,⟨_,_,hs2.extBut _ _ D.TOz a2⟩,?_,?_⟩,fun c hc=>?_⟩
  ·exact hs2.extBut _ _ D.TIz (hk TI _ D.TIz D.TITO D.TIi1 D.TIi2 s2)
  ·exact a3.extBut hs2.extBut D.i1z
  ·exact a4.extBut hs2.extBut D.i2z
  ·have hc1:c≠s.heap.objs.size:=fun q=>by
    simp only [List.mem_cons,List.not_mem_nil,or_false] at hc
    rcases hc with r | r | r | r | r
    ·subst r;rw [q] at l1;exact Nat.lt_irrefl _ l1
    ·subst r;rw [q] at l2;exact Nat.lt_irrefl _ l2
    ·subst r;rw [q] at l3;exact Nat.lt_irrefl _ l3
    ·subst r;rw [q] at l4;exact Nat.lt_irrefl _ l4
    ·subst r;rw [q] at l5;exact Nat.lt_irrefl _ l5
   rw [aB hc1]
   exact (hf c hc).1
 done:=by
  intro X hP hw hK hc i pins s σ H E I hf st hg
  subst hP hw hK
  obtain ⟨xs,ys,hq,hq',hx⟩:=hg
  obtain ⟨its,rv,p,hz⟩:=I.list hq
  obtain ⟨its',rv',p',hz'⟩:=I.list hq'
  have hl:=rv.length
  have hl':=rv'.length
  have D:=rQ F st p.isList p'.isList
  obtain ⟨s1,s2,⟨o1,o2,s3⟩,s4,s5⟩:=st
  refine wpAny_pyNext_zip_end (I.ok.hd hc) D s1 s2 s3 s4 s5 p.isList p'.isList ?_ fun h' hk=>⟨rfl,uZ (t':=s.toks) I hf fun c o hc q=>?_⟩
  ·rcases hx with hx | hx
   ·exact .inl (by simp;lia)
   ·exact .inr (by simp;lia)
  ·simp only [List.mem_cons,List.not_mem_nil,or_false,not_or] at hc
   exact hk c o hc.1 hc.2.2.1 hc.2.2.2.1 hc.2.2.2.2 q
 self:=fun A i s Q E st h=>wpAny_pyIter_zip st.1 h
noncomputable def Gv (K:PySem.W.Frag) (ta:TA):TI:=fun σ H R=>ta σ H fun vs H1=>∃ a b,vs=[.ref a,.ref b]∧(∃ xs,SqL K H1 a xs)∧(∃ ys,SqL K H1 b ys)∧R (Itz K a b) H1
section
variable {X:Cx} {l l':Expr} {ta:TA} {p pos:Pos} {elts:List Expr} {x1:Nat} {tp:Pos}
theorem Jd (hg:Gl X "zip") (hm:X.mg "zip" = none) (ha:PA X [l,l'] ta) (hs:starEach [l,l'] X.env=(false,eval l X.env)::starEach [l'] X.env:=by rfl) (hs2:(backTo pos (starEach [l'] X.env)).any (·.1)=false:=by rfl) :
  PI X (.Tuple elts x1 tp) (.Call (.Name "zip" p) [l,l'] [] pos) (Gv X.K ta):=by
 intro pins s σ H R I h
 refine Call_ (gQ I hg hm boot_zip (PyProof.Rows.callWith_type1 (thn (ha pos pins s σ H _ I h) fun us s1 ⟨vs,H1,I1,r1,q1⟩=>?_) hs hs2))
 obtain ⟨a,b,e,⟨xs,hq⟩,⟨ys,hq'⟩,q⟩:=q1
 subst e
 obtain ⟨v1,v2,rfl,r,r'⟩:=vals2 r1
 cases r
 cases r'
 obtain ⟨its,rv,pl,hz⟩:=I1.list hq
 obtain ⟨its',rv',pl',hz'⟩:=I1.list hq'
 refine call_zip_2 pl.isList pl'.isList fun h' e1 e2 e3 e4 e5 hsz k=>?_
 have I2:Inv X pins σ H1 { s1 with heap:=h' }:=I1.kept (t':=s1.toks) k
 have F:qy (s1.heap.objs.size+4) (s1.heap.objs.size+2) (s1.heap.objs.size+3) s1.heap.objs.size (s1.heap.objs.size+1):=by
  constructor<;>first | exact Nat.ne_of_lt (by lia) | exact Nat.ne_of_gt (by lia)
 have T:=AS (P:=X.prog) (w:=X.w) (K:=X.K) (elts:=elts) (x1:=x1) (tp:=tp) a b _ _ _ _ _ F
 have st:AR a b (s1.heap.objs.size+4) (s1.heap.objs.size+2) (s1.heap.objs.size+3) s1.heap.objs.size (s1.heap.objs.size+1) 0 h':=⟨e1,e2,⟨_,_,e3⟩,e4,e5⟩
 refine T.self X.A 0 { s1 with heap:=h' } _ X.xe st ?_
 refine ⟨s1.heap.objs.size+4,_,_,_,H1,rfl,I2,T,st,fun c hc=>?_,q⟩
 have:s1.heap.objs.size≤c:=by
  simp only [List.mem_cons,List.not_mem_nil,or_false] at hc
  rcases hc with r | r | r | r | r<;>(rw [r];first | exact Nat.le_add_right _ _ | exact Nat.le_refl _)
 exact I1.DG this (I1.hok.fresh this)
end
theorem wY:∀ (xs ys:List Dm.Dat),(Dm.kI xs ys).length=min xs.length ys.length
 | [],_=>by simp [Dm.kI]
 | _::_,[]=>by simp [Dm.kI]
 | x::xs,y::ys=>by simp [Dm.kI,wY xs ys]
theorem zip_get:∀ (xs ys:List Dm.Dat) (j:Nat) (d:Dm.Dat),(Dm.kI xs ys)[j]?=some d→∃ x y,xs[j]?=some x∧ys[j]?=some y∧d=.tup [x,y]
 | [],_,_,_,h=>by simp [Dm.kI] at h
 | _::_,[],_,_,h=>by simp [Dm.kI] at h
 | x::xs,y::ys,0,d,h=>by cases h;exact ⟨x,y,rfl,rfl,rfl⟩
 | x::xs,y::ys,j+1,d,h=>zip_get xs ys j d h
theorem Je {K:PySem.W.Frag} {H0:Hp} {a b:Addr} {xs ys:List V} {ds es:List Dm.Dat} (hq:Rd H0 a (.lst xs)) (rs:aF H0 xs ds) (hq':Rd H0 b (.lst ys)) (rs':aF H0 ys es):JW (Itz K a b) H0 (Dm.kI ds es):=by
 intro H0' H s0 s1
 have q:SqL K H a xs:=.inl (az.rd s1 (az.rd s0 hq))
 have q':SqL K H b ys:=.inl (az.rd s1 (az.rd s0 hq'))
 refine ⟨fun i hi=>⟨xs,ys,q,q',?_⟩,fun i d e=>?_⟩
 ·rw [wY] at hi
  have:=rs.length
  have:=rs'.length
  lia
 obtain ⟨x,y,hx,hy,rfl⟩:=zip_get ds es i d e
 obtain ⟨v,hv,rv⟩:=rs.get hx
 obtain ⟨v',hv',rv'⟩:=rs'.get hy
 refine ⟨⟨xs,ys,v,v',q,q',hv,hv'⟩,fun r H' z=>?_⟩
 obtain ⟨p,u,u',hn,rfl,rfl,z1,z2⟩:=z
 have w1:=z1 xs q
 have w2:=z2 ys q'
 rw [hv] at w1
 rw [hv'] at w2
 cases w1
 cases w2
 have g:=aQ.rK (o:=HO.tup [v,v']) s1 hn
 exact ⟨_,g,.tup ay (.cons ((rv.mono s0).mono g.s0) (.cons ((rv'.mono s0).mono g.s0) .nil))⟩
section
variable {σ:L2.St} {H:Hp} {R:It→Hp→Prop}
theorem Jf {K:PySem.W.Frag} {f g:Dm.FE} (h:tDI (Dm.uY f g) σ H R):Gv K (tDA [f,g]) σ H R:=by
 obtain ⟨H0,ρ,ys,ρ',st,e,k⟩:=h
 unfold Dm.uY at e
 split at e
 ·rename_i vs ρ1 e1
  split at e
  ·rename_i xs zs ρ2 e2
   cases e
   refine ⟨H0,ρ,vs,ρ1,st,e1,fun us H0' H' t r=>?_⟩
   obtain ⟨H1,t1,b1,r1⟩:=takes t (az.refl _) r e2
   cases r1 with
   | cons q1 rr=>
    cases rr with
    | cons q2 rr=>
     cases rr
     cases q1 with
     | lst q rs=>
      cases q2 with
      | lst q' rs'=>exact ⟨_,_,rfl,⟨_,.inl (az.rd t1.st.same q)⟩,⟨_,.inl (az.rd t1.st.same q')⟩,k _ H1 H' t1 (Je q rs q' rs')⟩
  ·cases e
 ·cases e
end
section
variable {X:Cx} {a b:Expr} {fa fb:Dm.FE} {p pos:Pos} {elts:List Expr} {x1:Nat} {tp:Pos}
theorem wZ (hg:Gl X "zip") (hm:X.mg "zip" = none) (ha:DA X [a,b] [fa,fb]) (hs:starEach [a,b] X.env=(false,eval a X.env)::starEach [b] X.env:=by rfl) (hs2:(backTo pos (starEach [b] X.env)).any (·.1)=false:=by rfl) :
  DI X (.Tuple elts x1 tp) (.Call (.Name "zip" p) [a,b] [] pos) (Dm.uY fa fb):=PI.weak (Jd hg hm ha hs hs2) fun _ _ _=>Jf
end
end Br
namespace Dm
noncomputable def fnM (n m:Nat) (body:FS) (ds:List Dat):Option (RV×Dat):=if ds.length=n then (match ds with
 | d::r=>(match body (Cell.ow d::(r.map Cell.sh++List.replicate m .un)) with
  | some (.ret z ρ')=>(match ρ'[0]? with
   | some (Cell.ow d')=>some (z,d')
   | _=>none)
  | some (.nx ρ')=>(match ρ'[0]? with
   | some (Cell.ow d')=>some (.val .non,d')
   | _=>none)
  | _=>none)
 | []=>none) else none
noncomputable def flat:Dat→Bool
 | .tup xs=>xs.all fun x=>!fQ x
 | d=>!fQ d
noncomputable def qz:Dat→Bool
 | .lst xs=>xs.all fun x=>!fQ x
 | _=>false
noncomputable def eFm (f:List Dat→Option (RV×Dat)) (j:Nat) (as:List FE):FE:=fun ρ=>match ρ[j]? with
 | some (.ow _)=>(match eAs as ρ with
  | none=>none
  | some (xs,ρ1)=>(match ρ1[j]? with
   | some (.ow d1)=>(match tks ρ1 xs with
    | none=>none
    | some (ds,ρ2)=>(match ρ2[j]? with
     | some (.ow d)=>(match f (d::ds) with
      | none=>none
      | some (v,d')=>if flat v.dat&&qz d' then some (v.bW,ρ1.set j (.ow d')) else some (v.bW,ρ2.set j (.ow d')))
     | _=>none))
   | _=>none))
 | _=>none
end Dm
namespace Br
open PySem PySem.Spec PyProof.Rows L2
noncomputable def spM (f:List Dm.Dat→Option (Dm.RV×Dm.Dat)):Sp:=fun vs H Q _=>∃ H0 a us d ds z d',vs=V.ref a::us∧az H0 H∧H0 a=none∧Own H0 H a d∧aF H0 us ds∧f (d::ds)=some (z,d') ∧
 ∀ v H0' H',Stp (fun b=>b=a) H0 H H0' H'→az H0' H'→H0' a=none→Own H0' H' a d'→uQ H H0' H' v z→Q v H'
theorem cV {n m:Nat} {body:Dm.FS} {vs:List V} {H:Hp} {Q:VK} {E:XK} (h:spM (Dm.fnM n m body) vs H Q E):vs.length=n:=by
 obtain ⟨H0,a,us,d,ds,z,d',e,_,_,_,rs,ef,_⟩:=h
 unfold Dm.fnM at ef
 split at ef
 ·rename_i hl
  rw [e,List.length_cons,rs.length]
  simpa using hl
 ·cases ef
theorem aC.jN {H0 H:Hp} {σ:L2.St} {ρ:Dm.Env} {j:Nat} {a:Addr} {d:Dm.Dat} (st:aC H0 H σ ρ) (q:σ[j]?=some (some (V.ref a))) (no:¬ ao σ ρ a) (n0:H0 a=none) (w:Own H0 H a d):aC H0 H σ (ρ.set j (.ow d)):=by
 have:=st.Aq (i:=j) no n0 w
 have e:σ.set j (some (V.ref a))=σ:=by
  apply List.ext_getElem?
  intro i
  by_cases h:j=i
  ·subst h
   have hl:j<σ.length:=(List.getElem?_eq_some_iff.mp q).1
   rw [List.getElem?_set_self hl,q]
  ·rw [List.getElem?_set_ne h]
 rw [e] at this
 exact this
theorem aC.off {H0 H H0' H':Hp} {σ:L2.St} {ρ:Dm.Env} {a:Addr} (st:aC H0 H σ ρ) (s0:az H0 H0') (ss:az H0' H') (no:¬ ao σ ρ a) (s1:∀ b o,H b=some o→b≠a→H' b=some o) (s2:∀ (i:Nat) (d:Dm.Dat) (b:Addr),ρ[i]?=some (Dm.Cell.ow d)→σ[i]?=some (some (V.ref b))→H0' b=none):aC H0' H' σ ρ where
 same:=ss
 len:=st.len
 sh:=fun i d e=>by
  obtain ⟨v,q,r⟩:=st.sh i d e
  exact ⟨v,q,r.mono s0⟩
 ow:=fun i d e=>by
  obtain ⟨b,q,n,w⟩:=st.ow i d e
  obtain ⟨o,z⟩:=w.some
  have nb:b≠a:=fun y=>no ⟨i,d,e,y▸q⟩
  exact ⟨b,q,s2 i d b e q,w.mono s0 ((s1 b o z nb).trans z.symm)⟩
 dis:=st.dis
theorem e_ {H0 H1:Hp}:∀ {xs:List V} {ds:List Dm.Dat},aF H0 xs ds→(ds.all fun x=>!Dm.fQ x)=true→aF H1 xs ds
 | _,_,.nil,_=>.nil
 | _,_,.cons r rs,h=>by
  rw [List.all_cons,Bool.and_eq_true] at h
  exact .cons (Rep.plain r (by simpa using h.1)) (e_ rs h.2)
section
variable {σ:L2.St} {H:Hp} {Q:VK}
theorem En {f:List Dm.Dat→Option (Dm.RV×Dm.Dat)} {j:Nat} {fs:List Dm.FE} {E:XK} (h:tD (Dm.eFm f j fs) σ H Q):oU (spM f) [] E (tDA (Dm.eV j::fs)) σ H Q:=by
 obtain ⟨H0,ρ,x,ρ',st,e,k⟩:=h
 unfold Dm.eFm at e
 split at e
 case h_2=>cases e
 rename_i d0 h0
 split at e
 ·cases e
 rename_i xs ρ1 e1
 split at e
 case h_2=>cases e
 rename_i d1 h1
 split at e
 ·cases e
 rename_i ds ρ2 e2
 split at e
 case h_2=>cases e
 rename_i d h2
 split at e
 ·cases e
 rename_i z d' fz
 have ea:Dm.eAs (Dm.eV j::fs) ρ=some (.slot j::xs,ρ1):=by
  unfold Dm.eAs
  rw [show Dm.eV j ρ=some (.slot j,ρ) from by unfold Dm.eV;rw [h0]]
  dsimp only
  rw [e1]
 refine ⟨H0,ρ,.slot j::xs,ρ1,st,ea,fun vs H1 Hb t1 r1=>?_⟩
 dsimp only
 rw [List.append_nil]
 cases r1 with
 | cons r0 rr=>
  obtain ⟨H2,t2,b2,r2⟩:=takes t1 (az.refl _) rr e2
  obtain ⟨a,qa,na,wa⟩:=t2.st.ow j d h2
  obtain ⟨q0,_⟩:=r0
  rw [qa] at q0
  cases q0
  obtain ⟨a1,qa1,na1,wa1⟩:=t1.st.ow j d1 h1
  rw [qa] at qa1
  cases qa1
  obtain ⟨oa,ha⟩:=wa.some
  have hl2:j<ρ2.length:=(List.getElem?_eq_some_iff.mp h2).1
  have hl1:j<ρ1.length:=(List.getElem?_eq_some_iff.mp h1).1
  have oa0:ao σ ρ a:=t1.own a ⟨j,d1,h1,qa⟩
  refine ⟨H2,a,_,d,ds,z,d',rfl,t2.st.same,na,wa,r2,fz,fun v H3 Hd s3 ss n3 w3 r3=>?_⟩
  have no2:¬ ao σ (ρ2.set j .un) a:=fun y=>by
   obtain ⟨i,d4,hi,y1,y2⟩:=cO y
   exact hi (t2.st.dis i j d4 d a y1 h2 y2 qa)
  have no1:¬ ao σ (ρ1.set j .un) a:=fun y=>by
   obtain ⟨i,d4,hi,y1,y2⟩:=cO y
   exact hi (t1.st.dis i j d4 d1 a y1 h1 y2 qa)
  split at e
  ·rename_i fl
   cases e
   rw [Bool.and_eq_true] at fl
   obtain ⟨f1,f2⟩:=fl
   have wp:∀ H',Own H' Hd a d':=fun H'=>by
    cases d' with
    | lst ys=>
     obtain ⟨us,y1,y2⟩:=w3
     exact ⟨us,y1,e_ y2 f2⟩
    | _=>cases f2
   have fin:∀ H1':Hp,az H1 H1'→az H1' Hd→(∀ b o,H1' b=some o→H1 b=some o∨((∃ us,o=.tup us)∧H3 b=some o))→fL H H1' Hd σ (ρ1.set j (.ow d')) v z.bW→Q v Hd:=fun H1' m1 m2 m3 rv=>by
    have hd3:∀ b,H1' b≠none→b≠a:=fun b hb y=>by
     subst y
     cases y2:H1' b with
     | none=>exact hb y2
     | some o=>
      rcases m3 b o y2 with y3 | ⟨_,y3⟩
      ·rw [na1] at y3;cases y3
      ·rw [n3] at y3;cases y3
    have n1':H1' a=none:=by
     cases y:H1' a with
     | none=>rfl
     | some o=>exact absurd rfl (hd3 a (by rw [y];exact fun q=>nomatch q))
    have sm:aC H1' Hd σ (ρ1.set j .un):=by
     refine (t1.st.mask j).off m1 m2 no1 (fun b o y nb=>s3.s1 b o y nb) fun i d4 b y1 y2=>?_
     obtain ⟨b',q',nb',w'⟩:=(t1.st.mask j).ow i d4 y1
     rw [y2] at q'
     cases q'
     cases y:H1' b with
     | none=>rfl
     | some o=>
      rcases m3 b o y with y3 | ⟨⟨us,y4⟩,y3⟩
      ·rw [nb'] at y3;cases y3
      ·subst y4
       have nb:b≠a:=hd3 b (by rw [y];exact fun q=>nomatch q)
       cases d4 with
       | lst _=>
        obtain ⟨ws,z1,_⟩:=w'
        have z2:=s3.s1 b _ z1 nb
        rw [ss _ _ y3] at z2
        cases z2
       | dct _ _=>
        obtain ⟨ws,z1,_⟩:=w'
        have z2:=s3.s1 b _ z1 nb
        rw [ss _ _ y3] at z2
        cases z2
       | dcp _ _=>
        obtain ⟨ws,z1,_⟩:=w'
        have z2:=s3.s1 b _ z1 nb
        rw [ss _ _ y3] at z2
        cases z2
       | _=>exact False.elim w'
    have sf:aC H1' Hd σ (ρ1.set j (.ow d')):=by
     have:=sm.jN qa no1 n1' (wp H1')
     rw [List.set_set] at this
     exact this
    refine k v H1' Hd ⟨sf,⟨t1.stp.s0.trans m1,fun b o y nb=>?_,fun b o y=>?_,fun b o y=>?_⟩,fun b y=>?_,fun i y=>?_⟩ rv
    ·have y1:=t1.stp.s1 b o y nb
     exact s3.s1 b o y1 fun q=>nb (by rw [q];exact oa0)
    ·rcases m3 b o y with y3 | ⟨_,y3⟩
     ·exact t1.stp.s2 b o y3
     ·rcases s3.s2 b o y3 with y4 | y4 | y4
      ·exact .inl (t1.stp.gone y4)
      ·exact t2.stp.s2 b o y4
      ·subst y4;rw [n3] at y3;cases y3
    ·obtain ⟨o',y1⟩:=t1.stp.s3 b o y
     exact s3.s3 b o' y1
    ·obtain ⟨i,d4,y1,y2⟩:=y
     by_cases hi:j=i
     ·subst hi
      rw [qa] at y2
      cases y2
      exact oa0
     ·rw [List.getElem?_set_ne hi] at y1
      exact t1.own b ⟨i,d4,y1,y2⟩
    ·trivial
   have m0:az H1 Hd:=fun b o y=>s3.s1 b o (t1.st.same _ _ y) fun q=>by rw [q,na1] at y;cases y
   cases z with
   | new d4=>
    obtain ⟨_,_,_,_,w⟩:=r3
    cases d4 with
    | lst _=>cases f1
    | dct _ _=>cases f1
    | dcp _ _=>cases f1
    | _=>exact False.elim w
   | val d4=>
    have r3':Rep H3 v d4:=r3
    cases d4 with
    | tup es=>
     cases r3' with
     | tup q rs=>
      rename_i a2 us
      have rp:aF H1 us es:=e_ rs f1
      refine fin (upd H1 a2 (.tup us)) (fun b o y=>?_) (fun b o y=>?_) (fun b o y=>?_) (.tup ay (e_ rs f1))
      ·by_cases hb:b=a2
       ·subst hb
        have:=s3.s0 _ _ (b2 _ _ y)
        rw [q] at this
        rw [ay,this]
       ·rw [aB hb];exact y
      ·by_cases hb:b=a2
       ·subst hb
        rw [ay] at y
        cases y
        exact ss _ _ q
       ·rw [aB hb] at y;exact m0 _ _ y
      ·by_cases hb:b=a2
       ·subst hb
        rw [ay] at y
        cases y
        exact .inr ⟨⟨us,rfl⟩,q⟩
       ·rw [aB hb] at y;exact .inl y
    | lst _=>cases f1
    | dct _ _=>cases f1
    | dcp _ _=>cases f1
    | exc _=>cases f1
    | fn _=>exact fin H1 (az.refl _) m0 (fun b o y=>.inl y) (Rep.plain r3' rfl)
    | non=>exact fin H1 (az.refl _) m0 (fun b o y=>.inl y) (Rep.plain r3' rfl)
    | bl _=>exact fin H1 (az.refl _) m0 (fun b o y=>.inl y) (Rep.plain r3' rfl)
    | int _=>exact fin H1 (az.refl _) m0 (fun b o y=>.inl y) (Rep.plain r3' rfl)
    | str _=>exact fin H1 (az.refl _) m0 (fun b o y=>.inl y) (Rep.plain r3' rfl)
  ·cases e
   have sm:aC H3 Hd σ (ρ2.set j .un):=by
    refine (t2.st.mask j).off s3.s0 ss no2 (fun b o y nb=>s3.s1 b o y nb) fun i d4 b y1 y2=>?_
    obtain ⟨b',q',nb',w'⟩:=(t2.st.mask j).ow i d4 y1
    rw [y2] at q'
    cases q'
    obtain ⟨ob,hob⟩:=w'.some
    cases y:H3 b with
    | none=>rfl
    | some o=>
     rcases s3.s2 b o y with y3 | y3 | y3
     ·rw [hob] at y3;cases y3
     ·rw [nb'] at y3;cases y3
     ·exact absurd ⟨i,d4,y1,y3▸y2⟩ no2
   have sf:aC H3 Hd σ (ρ2.set j (.ow d')):=by
    have:=sm.jN qa no2 n3 w3
    rw [List.set_set] at this
    exact this
   have of:∀ b,ao σ (ρ2.set j (.ow d')) b→b=a∨ao σ ρ2 b:=fun b ⟨i,d4,y1,y2⟩=>by
    by_cases hi:j=i
    ·subst hi
     rw [qa] at y2
     cases y2
     exact .inl rfl
    ·rw [List.getElem?_set_ne hi] at y1
     exact .inr ⟨i,d4,y1,y2⟩
   refine k v H3 Hd ⟨sf,t2.stp.trans s3 (fun b y=>.inl (y▸oa0)),fun b y=>?_,fun i y=>?_⟩ ?_
   ·rcases of b y with y | y
    ·exact y▸oa0
    ·exact t2.own b y
   ·trivial
   ·cases z with
    | val d4=>exact r3
    | new d4=>
     obtain ⟨b,y0,y1,y2,y3⟩:=r3
     refine ⟨b,y0,t2.stp.gone y1,fun y=>?_,y2,y3⟩
     rcases of b y with y | y
     ·subst y;rw [ha] at y1;cases y1
     ·exact t2.st.b9 y1 y
end
theorem aI {X:Cx} {es:List Expr} {p pos px:Pos} {k:Nat} {F:Addr} {fd:FuncData} {ps:List Str} {g:List Dm.Dat→Option (Dm.RV×Dm.Dat)} {x y:Str} {j:Nat} {fs:List Dm.FE} (G:aX X.prog X.w X.K X.mg X.base CX0 k F fd ps (spM g)) (hr:bQ k X.A) (hg:Gl X x) (hm:X.mg x=some (.ref F)) (hk:PySem.W.keepIn X.K (.ref F)=true) (hb:Binds X.K fd ps [])
  (ha:DA X (.Name y px::es) (Dm.eV j::fs)) (hdb:(x == ("__debug__" : Str))=false:=by decide) (he:starEach (.Name y px::es) X.env=(false,eval (.Name y px) X.env)::starEach es X.env:=by rfl) (hpl:(backTo pos (starEach es X.env)).any (·.1)=false:=by rfl) :
  DE X (.Call (.Name x p) (.Name y px::es) [] pos) (Dm.eFm g j fs):=PE.weak (p9 G hr hg hm hk hb .nil (wG (X:=X)) ha hdb he hpl) fun _ _ _=>En
theorem jq {N:List Str} {n m:Nat} {body:Dm.FS} {vs:List V} {H:Hp} {Q:VK} {E:XK} (hm:N.length=n+m) (h:spM (Dm.fnM n m body) vs H Q E) :
  tDS body { nx:=fun _ H'=>Q .non H',rt:=Q } (start N vs) H:=by
 have hvn:=cV h
 obtain ⟨H0,a,us,d,ds,z,d',e,s,na,wa,rs,ef,k⟩:=h
 subst e
 have hl:=rs.length
 rw [List.length_cons] at hvn
 have e0:(start N (V.ref a::us))[0]?=some (some (V.ref a)):=rfl
 have get:∀ {i:Nat} {c:Dm.Cell},(Dm.Cell.ow d::(ds.map Dm.Cell.sh++List.replicate m .un))[i]?=some c→(i=0∧c=.ow d)∨(∃ i' d4,i=i'+1∧ds[i']?=some d4∧c=.sh d4)∨c=.un:=fun {i c} y=>by
  cases i with
  | zero=>cases y;exact .inl ⟨rfl,rfl⟩
  | succ i=>
   rw [List.getElem?_cons_succ] at y
   by_cases hi:i<ds.length
   ·rw [List.getElem?_append_left (by simpa using hi),List.getElem?_map,List.getElem?_eq_getElem hi] at y
    cases y
    exact .inr (.inl ⟨i,ds[i],rfl,List.getElem?_eq_getElem hi,rfl⟩)
   ·rw [List.getElem?_append_right (by simpa using hi),List.getElem?_replicate] at y
    split at y
    ·cases y;exact .inr (.inr rfl)
    ·cases y
 have ow0:∀ {i:Nat} {d4:Dm.Dat},(Dm.Cell.ow d::(ds.map Dm.Cell.sh++List.replicate m .un))[i]?=some (.ow d4)→i=0∧d4=d:=fun {i d4} y=>by
  rcases get y with ⟨y1,y2⟩ | ⟨_,_,_,_,y2⟩ | y2
  ·cases y2;exact ⟨y1,rfl⟩
  ·cases y2
  ·cases y2
 have oa:∀ b,ao (start N (V.ref a::us)) (Dm.Cell.ow d::(ds.map Dm.Cell.sh++List.replicate m .un)) b→b=a:=fun b ⟨i,d4,y1,y2⟩=>by
  obtain ⟨y3,_⟩:=ow0 y1
  subst y3
  rw [e0] at y2
  cases y2
  rfl
 have st:aC H0 H (start N (V.ref a::us)) (Dm.Cell.ow d::(ds.map Dm.Cell.sh++List.replicate m .un)):=by
  refine ⟨s,?_,fun i d4 y=>?_,fun i d4 y=>?_,fun i i' d4 d5 b y1 y2 _ _=>(ow0 y1).1.trans (ow0 y2).1.symm⟩
  ·unfold L2.start
   simp only [List.length_append,List.length_map,List.length_replicate,List.length_cons]
   omega
  ·rcases get y with ⟨_,y2⟩ | ⟨i',d5,y1,y2,y3⟩ | y2
   ·cases y2
   ·cases y3
    subst y1
    obtain ⟨v,hv,r⟩:=rs.get y2
    refine ⟨v,?_,r⟩
    have hi:i'<us.length:=(List.getElem?_eq_some_iff.mp hv).1
    unfold L2.start
    rw [List.getElem?_append_left (by simp;omega),List.getElem?_map,List.getElem?_cons_succ,hv]
    rfl
   ·cases y2
  ·obtain ⟨y1,y2⟩:=ow0 y
   subst y1 y2
   exact ⟨a,e0,na,wa⟩
 have fin:∀ {σ':L2.St} {ρ':Dm.Env} {H0' H':Hp},SSt (start N (V.ref a::us)) (Dm.Cell.ow d::(ds.map Dm.Cell.sh++List.replicate m .un)) H0 H σ' ρ' H0' H'→ρ'[0]?=some (.ow d')→Stp (fun b=>b=a) H0 H H0' H'∧H0' a=none∧Own H0' H' a d'∧ao σ' ρ' a:=fun {σ' ρ' H0' H'} t y=>by
  obtain ⟨a',q',n',w'⟩:=t.st.ow 0 d' y
  have fx:=t.fx
  rw [e0,q'] at fx
  cases fx
  exact ⟨t.stp.wide fun b z=>oa b z,n',w',0,d',y,q'⟩
 unfold Dm.fnM at ef
 split at ef
 case isFalse=>cases ef
 dsimp only at ef
 split at ef
 ·rename_i z' ρ' e1
  split at ef
  case h_2=>cases ef
  rename_i d4 y
  cases ef
  refine ⟨H0,_,_,st,e1,fun σ' v H0' H' t r no=>?_⟩
  obtain ⟨f1,f2,f3,f4⟩:=fin t y
  refine k v H0' H' f1 t.st.same f2 f3 ?_
  cases z with
  | val d5=>exact r
  | new d5=>
   obtain ⟨b,y0,y1,y2,y3⟩:=r
   refine ⟨b,y0,?_,y2,y3⟩
   rcases y1 with y1 | y1
   ·exact y1
   ·exact absurd f4 (oa b y1▸no d5 b rfl y0)
 ·rename_i ρ' e1
  split at ef
  case h_2=>cases ef
  rename_i d4 y
  cases ef
  refine ⟨H0,_,_,st,e1,fun σ' H0' H' t=>?_⟩
  obtain ⟨f1,f2,f3,f4⟩:=fin t y
  exact k _ H0' H' f1 t.st.same f2 f3 .non
 ·cases ef
end Br
namespace Dm
noncomputable def bO:List Int→List Dat→Int→Option Dat
 | k::ks,v::vs,i=>if k=i then some v else bO ks vs i
 | _,_,_=>none
noncomputable def w_:List Int→List Dat→Int→Dat→List Dat
 | k::ks,v::vs,i,d=>(if k=i then d else v)::w_ ks vs i d
 | _,_,_,_=>[]
noncomputable def j7 (ks:List Int) (i:Int):List Int:=if (ks.any fun k=>decide (k=i))=true then ks else ks++[i]
noncomputable def j8 (ks:List Int) (vs:List Dat) (i:Int) (d:Dat):List Dat:=if (ks.any fun k=>decide (k=i))=true then w_ ks vs i d else vs++[d]
noncomputable def eDn:FE:=fun ρ=>some (.new (.dct [] []),ρ)
noncomputable def gDx:Dat→Dat→Option RV
 | .dct ks vs,.int i=>(bO ks vs i).map .val
 | _,_=>none
noncomputable def u5:Dat→Dat→Option RV
 | .int i,.dct ks vs=>vB (bO ks vs i).isSome
 | _,_=>none
noncomputable def pB:Dat→Dat→Option RV
 | .int i,.dct ks vs=>vB (!(bO ks vs i).isSome)
 | _,_=>none
noncomputable def j9 (a b:FE):FE:=fun ρ=>match a ρ with
 | none=>none
 | some (x,ρ1)=>match pk ρ1 x with
  | some (.dct _ _)=>(match b ρ1 with
   | none=>none
   | some (y,ρ2)=>match pk ρ2 x with
    | some (.dct ks vs)=>(match pk ρ2 y with
     | some (.int i)=>some (.val ((bO ks vs i).getD .non),ρ2)
     | _=>none)
    | _=>none)
  | _=>none
noncomputable def eD1 (a b:FE):FE:=fun ρ=>match a ρ with
 | some (.val (.int i),ρ1)=>(match b ρ1 with
  | none=>none
  | some (x,ρ2)=>match tk ρ2 x with
   | none=>none
   | some (d,ρ3)=>some (.new (.dct [i] [d]),ρ3))
 | _=>none
noncomputable def jr (i:Nat) (j e:FE):FS:=fun ρ=>match e ρ with
 | none=>none
 | some (x,ρ1)=>match tk ρ1 x with
  | none=>none
  | some (d,ρ2)=>match ρ2[i]? with
   | some (.ow _)=>(match j ρ2 with
    | some (.val (.int k),ρ3)=>(match ρ3[i]? with
     | some (.ow (.dct ks vs))=>if ks.length<SZ then some (.nx (ρ3.set i (.ow (.dct (j7 ks k) (j8 ks vs k d))))) else none
     | _=>none)
    | _=>none)
   | _=>none
end Dm
namespace Br
open PySem PySem.Spec PyProof.Rows L2
theorem dI {H0 H:Hp} (s:az H0 H) {v:V} {ks:List Int} {ds:List Dm.Dat} (r:kH H0 H v (.dct ks ds)):∃ a kvs,v=.ref a∧H a=some (.dK kvs)∧kvs.map (·.1)=ks.map Sum.inl∧aF H0 (kvs.map (·.2)) ds:=by
 rcases r with r | ⟨a,e,kvs,q,ek,rs⟩
 ·cases r with
  | dct q ek rs=>exact ⟨_,_,rfl,s _ _ q,ek,rs⟩
 ·exact ⟨a,kvs,e,q,ek,rs⟩
theorem qA {a b:Int} (h:¬ a=b):¬ (Sum.inl a:Key)=Sum.inl b:=fun q=>h (Sum.inl.inj q)
theorem gq {H0:Hp} (i:Int):∀ {kvs:List (Key×V)} {ks:List Int} {ds:List Dm.Dat},kvs.map (·.1)=ks.map Sum.inl→aF H0 (kvs.map (·.2)) ds →
  (∃ d v,Dm.bO ks ds i=some d∧gS kvs (Sum.inl i)=some v∧Rep H0 v d)∨(Dm.bO ks ds i=none∧gS kvs (Sum.inl i)=none)
 | [],[],_,_,r=>by cases r;exact .inr ⟨rfl,rfl⟩
 | [],_::_,_,e,_=>by cases e
 | _::_,[],_,e,_=>by cases e
 | (k0,v0)::kvs,k::ks,_,e,r=>by
  rw [List.map_cons] at r
  cases r with
  | cons r0 rr=>
   rw [List.map_cons,List.map_cons] at e
   injection e with e1 e2
   have e1:k0=Sum.inl k:=e1
   subst e1
   unfold Dm.bO
   by_cases h:k=i
   ·subst h
    rw [if_pos rfl]
    exact .inl ⟨_,v0,rfl,je rfl,r0⟩
   ·rw [if_neg h,jf (qA h)]
    exact gq i e2 rr
theorem AU (i:Int):∀ {kvs:List (Key×V)} {ks:List Int},kvs.map (·.1)=ks.map Sum.inl→(kvs.any fun kv=>decide (kv.1=Sum.inl i))=(ks.any fun k=>decide (k=i))
 | [],[],_=>rfl
 | [],_::_,e=>by cases e
 | _::_,[],e=>by cases e
 | (k0,v0)::kvs,k::ks,e=>by
  rw [List.map_cons,List.map_cons] at e
  injection e with e1 e2
  have e1:k0=Sum.inl k:=e1
  subst e1
  rw [List.any_cons,List.any_cons,AU i e2]
  congr 1
  by_cases h:k=i
  ·subst h;simp
  ·have:=qA h;simp [h,this]
theorem xg {H0:Hp} (i:Int) {v:V} {d:Dm.Dat} (rv:Rep H0 v d):∀ {kvs:List (Key×V)} {ks:List Int} {ds:List Dm.Dat},kvs.map (·.1)=ks.map Sum.inl→aF H0 (kvs.map (·.2)) ds →
  ((kvs.map fun kv=>if kv.1=Sum.inl i then (kv.1,v) else kv).map (·.1)=ks.map Sum.inl)∧aF H0 ((kvs.map fun kv=>if kv.1=Sum.inl i then (kv.1,v) else kv).map (·.2)) (Dm.w_ ks ds i d)
 | [],[],_,_,r=>by cases r;exact ⟨rfl,.nil⟩
 | [],_::_,_,e,_=>by cases e
 | _::_,[],_,e,_=>by cases e
 | (k0,v0)::kvs,k::ks,_,e,r=>by
  rw [List.map_cons] at r
  cases r with
  | cons r0 rr=>
   rw [List.map_cons,List.map_cons] at e
   injection e with e1 e2
   have e1:k0=Sum.inl k:=e1
   subst e1
   obtain ⟨i1,i2⟩:=xg i rv e2 rr
   unfold Dm.w_
   by_cases h:k=i
   ·subst h
    rw [if_pos rfl,List.map_cons,List.map_cons,List.map_cons,i1]
    simp only [if_true]
    exact ⟨trivial,.cons rv i2⟩
   ·rw [if_neg h,List.map_cons,List.map_cons,List.map_cons,i1]
    have:=qA h
    simp only [this,if_false]
    exact ⟨trivial,.cons r0 i2⟩
theorem Jg {H0:Hp} (i:Int) {v:V} {d:Dm.Dat} (rv:Rep H0 v d) {kvs:List (Key×V)} {ks:List Int} {ds:List Dm.Dat} (e:kvs.map (·.1)=ks.map Sum.inl) (r:aF H0 (kvs.map (·.2)) ds) :
  (putK kvs (Sum.inl i) v).map (·.1)=(Dm.j7 ks i).map Sum.inl∧aF H0 ((putK kvs (Sum.inl i) v).map (·.2)) (Dm.j8 ks ds i d):=by
 have ha:=AU i e
 unfold putK Dm.j7 Dm.j8
 rw [ha]
 cases hb:(ks.any fun k=>decide (k=i)) with
 | true=>
  simp only [if_true]
  exact xg i rv e r
 | false=>
  simp only [Bool.false_eq_true,if_false]
  rw [List.map_append,List.map_append,List.map_append,e]
  exact ⟨rfl,r.append (.cons rv .nil)⟩
theorem L3:OpD (fun x y H Q=>∃ a v,x=.ref a∧fJ H a y (some v)∧Q v H) Dm.gDx:=by
 intro H0 H x y dx dy z Q s rx ry e k
 unfold Dm.gDx at e
 split at e
 ·rename_i ks vs i
  cases aD ry
  obtain ⟨a,kvs,rfl,qa,ek,rs⟩:=dI s rx
  rcases gq i ek rs with ⟨d,v,l1,l2,r⟩ | ⟨l1,_⟩
  ·rw [l1] at e
   cases e
   refine ⟨a,v,rfl,?_,k _ H0 H (aQ.refl s) r⟩
   have:=fJ.k (k:=Sum.inl i) qa
   rw [l2] at this
   exact this
  ·rw [l1] at e;cases e
 ·cases e
theorem Jh:OpD (fun y x H Q=>∃ a o,x=.ref a∧fJ H a y o∧Q (.bl o.isSome) H) Dm.u5:=by
 intro H0 H x y dx dy z Q s rx ry e k
 unfold Dm.u5 at e
 split at e
 ·rename_i i ks vs
  cases e
  cases aD rx
  obtain ⟨a,kvs,rfl,qa,ek,rs⟩:=dI s ry
  refine ⟨a,_,rfl,fJ.k (k:=Sum.inl i) qa,k _ H0 H (aQ.refl s) ?_⟩
  rcases gq i ek rs with ⟨d,v,l1,l2,r⟩ | ⟨l1,l2⟩
  ·rw [l1,l2];exact .bl _
  ·rw [l1,l2];exact .bl _
 ·cases e
theorem Eo:OpD (fun y x H Q=>∃ a o,x=.ref a∧fJ H a y o∧Q (.bl (!o.isSome)) H) Dm.pB:=by
 intro H0 H x y dx dy z Q s rx ry e k
 unfold Dm.pB at e
 split at e
 ·rename_i i ks vs
  cases e
  cases aD rx
  obtain ⟨a,kvs,rfl,qa,ek,rs⟩:=dI s ry
  refine ⟨a,_,rfl,fJ.k (k:=Sum.inl i) qa,k _ H0 H (aQ.refl s) ?_⟩
  rcases gq i ek rs with ⟨d,v,l1,l2,r⟩ | ⟨l1,l2⟩
  ·rw [l1,l2];exact .bl _
  ·rw [l1,l2];exact .bl _
 ·cases e
section
variable {σ:L2.St} {H:Hp} {Q:VK} {D:Ends}
theorem N2 (h:tD Dm.eDn σ H Q):Ab σ H Q:=by
 obtain ⟨H0,ρ,x,ρ',st,e,k⟩:=h
 cases e
 intro p hp
 have g:=aQ.lN (o:=HO.dK []) st.same hp
 exact k _ _ _ (.grow st g) ⟨p,rfl,hp,st.b9 hp,st.same.free hp,[],ay,rfl,.nil⟩
theorem Ji {fo fi:Dm.FE} (h:tD (Dm.j9 fo fi) σ H Q):Af (tD fo) (tD fi) σ H Q:=by
 obtain ⟨H0,ρ,x,ρ',st,e,k⟩:=h
 unfold Dm.j9 at e
 split at e
 ·cases e
 rename_i x1 ρ1 e1
 split at e
 case h_2=>cases e
 rename_i ks0 vs0 p0
 split at e
 ·cases e
 rename_i y1 ρ2 e2
 split at e
 case h_2=>cases e
 rename_i ks vs p1
 split at e
 case h_2=>cases e
 rename_i i p2
 cases e
 refine ⟨H0,ρ,x1,ρ1,st,e1,fun v H1 Hb t1 r1=>?_⟩
 obtain ⟨a,Jj,rfl,qa0,_,_⟩:=dI t1.st.same (r1.look t1.st p0)
 refine ⟨a,rfl,.inl ⟨Jj,.inl qa0⟩,H1,ρ1,y1,_,t1.st,e2,fun u H2 Hc t2 r2=>?_⟩
 have hu:=aD (r2.look t2.st p2)
 subst hu
 obtain ⟨a',kvs,ea,qa,ek,rs⟩:=dI t2.st.same ((r1.mono t2).look t2.st p1)
 cases ea
 refine ⟨_,fJ.k (k:=Sum.inl i) qa,k _ H2 Hc (t1.trans t2) ?_⟩
 rcases gq i ek rs with ⟨d,w,l1,l2,r⟩ | ⟨l1,l2⟩
 ·rw [l1,l2];exact r
 ·rw [l1,l2];exact Rep.non
theorem Jk {i:Nat} {j f:Dm.FE} (h:tDS (Dm.jr i j f) D σ H):Gj (lg i) (tD j) (tD f) D σ H:=by
 obtain ⟨H0,ρ,o,st,e,k⟩:=h
 unfold Dm.jr at e
 split at e
 ·cases e
 rename_i x ρ1 e1
 split at e
 ·cases e
 rename_i d ρ2 e2
 split at e
 case h_2=>cases e
 rename_i d0 h2
 split at e
 ·rename_i m ρ3 e3
  split at e
  ·rename_i ks vs h3
   split at e
   case isFalse=>cases e
   rename_i hz
   cases e
   refine ⟨H0,ρ,_,ρ1,st,e1,fun v H0' H' t r=>?_⟩
   obtain ⟨H1,t1,b1,r1,_,_⟩:=take1 t (az.refl _) r e2
   obtain ⟨a0,q0,_,_⟩:=t1.st.ow i _ h2
   refine ⟨_,q0,H1,ρ2,_,ρ3,t1.st,e3,fun u H2 Hc t2 r2=>?_⟩
   obtain ⟨a,q,n,w⟩:=t2.st.ow i _ h3
   rw [q0] at q
   cases q
   obtain ⟨kvs,y,ek,rs⟩:=w
   have hu:=Rep.isInt r2
   subst hu
   obtain ⟨p1,p2⟩:=Jg m (r1.mono t2.stp.s0) ek rs
   have hlen:kvs.length=ks.length:=by
    have:=congrArg List.length ek
    simpa using this
   refine ⟨a0,_,rfl,Aa.k (k:=Sum.inl m) y (by rw [hlen];exact Nat.lt_of_lt_of_le hz (by decide)),?_⟩
   have ow:ao σ ρ3 a0:=⟨i,_,h3,q0⟩
   have tt:=t1.trans t2
   exact k σ H2 _ ⟨t2.st.write h3 q0 ⟨_,ay,p1,p2⟩,tt.stp.trans (Stp.write ow) fun b z=>.inl (tt.own b z),fun b z=>.inl (tt.own b (cE h3 z)),rfl⟩
  ·cases e
 ·cases e
theorem N3 {fa fb:Dm.FE} (h:tD (Dm.eD1 fa fb) σ H Q):Gk [(tD fa,tD fb)] σ H Q:=by
 obtain ⟨H0,ρ,x,ρ',st,e,k⟩:=h
 unfold Dm.eD1 at e
 split at e
 ·rename_i i ρ1 e1
  split at e
  ·cases e
  rename_i y ρ2 e2
  split at e
  ·cases e
  rename_i d ρ3 e3
  cases e
  intro p hp
  have n0:H0 p=none:=st.same.free hp
  have no:¬ ao σ ρ p:=st.b9 hp
  refine ⟨H0,ρ,_,ρ1,st.aside n0 no,e1,fun u H1 Hb t1 r1=>⟨H1,ρ1,y,ρ2,t1.st,e2,fun v H2 Hc t2 r2=>?_⟩⟩
  have tt:=t1.trans t2
  obtain ⟨H3,t3,b3,r3,_,_⟩:=take1 tt (az.refl _) (r2.early fun a n=>t1.stp.gone n) e3
  obtain ⟨hp3,n3,no3⟩:=t3.dH (o:=HO.dK []) ay n0 no
  have hu:=Rep.isInt r1
  subst hu
  refine ⟨hp3,[(Sum.inl i,v)],rfl,(by simp),?_⟩
  have em:jG [] [((Sum.inl i:Key),v)]=[(Sum.inl i,v)]:=rfl
  rw [em]
  refine k _ H3 _ ⟨t3.st.aside n3 no3,⟨t3.stp.s0,fun a o y nb=>?_,fun a o y=>?_,fun a o y=>?_⟩,t3.own,t3.dfn⟩ ⟨p,rfl,hp,no3,n3,_,ay,rfl,.cons r3 .nil⟩
  ·have ne:a≠p:=fun q=>by rw [q,hp] at y;cases y
   rw [aB ne]
   exact t3.stp.s1 a o (by rw [aB ne];exact y) nb
  ·rcases t3.stp.s2 a o y with y1 | y1 | y1
   ·by_cases ne:a=p
    ·subst ne;rw [n3] at y;cases y
    ·rw [aB ne] at y1;exact .inl y1
   ·exact .inr (.inl y1)
   ·exact .inr (.inr y1)
  ·have ne:a≠p:=fun q=>by rw [q,hp] at y;cases y
   rw [aB ne]
   exact t3.stp.s3 a o (by rw [aB ne];exact y)
 ·cases e
end
theorem u1 {k:Nat} {A:Around} (hr:bQ k A):A.units+1<cLine:=Nat.lt_of_le_of_lt (Nat.add_le_add_left (by decide) _) hr.units
section
variable {X:Cx} {a b e:Expr} {fa fb f:Dm.FE} {pos:Pos} {k:Nat}
theorem Jl:DE X (.Dict [] [] pos) Dm.eDn:=PE.weak Ac fun _ _ _=>N2
theorem N4 (ha:DE X a fa) (hb:DE X b fb):DE X (.Dict [some a] [b] pos) (Dm.eD1 fa fb):=PE.weak (D5 (Ad ha hb D4) rfl rfl (by simp) (by simp)) fun _ _ _=>N3
theorem AV (hr:bQ k X.A) (ha:DE X a fa) (hb:DE X b fb) (hs:IB b:=by intro _ _;rfl):DE X (.Subscript a b pos) (Dm.e2 Dm.gDx fa fb):=PE.weak (D0 (u1 hr) ha hb hs) fun _ _ _=>uS L3
theorem AW (hr:bQ k X.A) (ha:DE X a fa) (hb:DE X b fb) (hm:behindInMarks .In b=false:=by rfl):DT X (.Compare a [.In] [b] pos) (Dm.tV (Dm.e2 Dm.u5 fa fb)):=PT.weak (zG (IC (u1 hr) ha hb) hm) fun σ H Q h=>uS Jh (qq h)
theorem AX (hr:bQ k X.A) (ha:DE X a fa) (hb:DE X b fb) (hm:behindInMarks .NotIn b=false:=by rfl):DT X (.Compare a [.NotIn] [b] pos) (Dm.tV (Dm.e2 Dm.pB fa fb)):=PT.weak (zG (yM (u1 hr) ha hb) hm) fun σ H Q h=>uS Eo (qq h)
theorem AY {apos cpos:Pos} (hr:bQ k X.A) (ha:DE X a fa) (hb:DE X b fb) (m:M1 X a "get" apos b cpos:=by exact ⟨rfl,rfl,rfl,rfl⟩):DE X (.Call (.Attribute a "get" apos) [b] [] cpos) (Dm.j9 fa fb):=PE.weak (Ah (u1 hr) ha hb m) fun _ _ _=>Ji
theorem qB (i:Nat) {x:Str} {px sp:Pos} (hr:bQ k X.A) (hb:DE X b fb) (he:DE X e f) (hi:X.N[i]?=some x:=by rfl) (hv:Vis X.env.scope x:=by first | exact Or.inl rfl | exact Or.inr (Or.inl rfl) | exact Or.inr (Or.inr rfl)) (hd:(x == ("__debug__" : Str))=false:=by decide)
  (hcd:(x == ("__classdict__" : Str))=false:=by decide) (hs:swapsWith e (some (.Subscript (.Name x px) b sp)) pos.line X.env=pure false:=by rfl):DS X (.Assign [.Subscript (.Name x px) b sp] e pos) (Dm.jr i fb f):=
 PS.weak (D3 (u1 hr) (eX hi hv hd hcd) hb he hs) fun _ _ _=>Jk
end
end Br
namespace Dm
noncomputable def Ox (i:Nat):FE:=fun ρ=>match ρ[i]? with
 | some (.ow (.lst ds))=>(match ds[ds.length-1]? with
  | some d=>some (.val d,ρ.set i (.ow (.lst (ds.take (ds.length-1)))))
  | none=>none)
 | _=>none
noncomputable def yY (a:FE) (lo hi:Option FE):FE:=fun ρ=>match a ρ with
 | none=>none
 | some (x,ρ1)=>match part lo ρ1 with
  | none=>none
  | some (l,ρ2)=>match part hi ρ2 with
   | none=>none
   | some (h,ρ3)=>match pk ρ3 x with
    | some (.tup xs)=>if sIx xs.length 0 l=0∧sIx xs.length xs.length h=xs.length then none else some (.val (.tup (cut xs l h)),ρ3)
    | _=>none
noncomputable def pC:List Dat→Option RV
 | [.tup [.int a,.int b]]=>if -1000000≤a∧a≤1000000∧-1000000≤b∧b≤1000000 then vI (a+b) else none
 | _=>none
end Dm
namespace Br
open PySem PySem.Spec PyProof.Rows L2
section
variable {σ:L2.St} {H:Hp} {Q:VK}
theorem N5 {K:PySem.W.Frag} {f:Dm.FE} {Q:Bool→Hp→Prop} (h:tDT (Dm.tTr f) σ H Q):tD f σ H fun x H'=>∃ k,Ie K x H' k∧Q k H':=by
 obtain ⟨H0,ρ,b,ρ',st,e,k⟩:=h
 unfold Dm.tTr at e
 split at e
 ·cases e
 rename_i x ρ1 e1
 split at e
 ·cases e
 rename_i d p1
 split at e
 ·cases e
 rename_i c tc
 cases e
 refine ⟨H0,ρ,x,_,st,e1,fun v H1 Hb t1 r1=>⟨b,?_,k H1 Hb t1⟩⟩
 have rl:=r1.look t1.st p1
 cases d with
 | non=>
  cases tc
  rcases rl with r | ⟨a,_,w⟩
  ·cases r;rfl
  ·exact False.elim w
 | bl c=>
  cases tc
  cases kT rl
  rfl
 | int i=>
  cases tc
  cases aD rl
  rfl
 | tup es=>
  cases tc
  obtain ⟨a,xs,rfl,qa,rs⟩:=b_ t1.st.same rl
  refine .inr (.inl ⟨xs,SqT.of qa,?_⟩)
  cases rs<;>rfl
 | lst es=>
  cases tc
  obtain ⟨a,xs,rfl,qa,rs⟩:=bL t1.st.same rl
  refine .inl ⟨xs,.inl qa,?_⟩
  cases rs<;>rfl
 | str _=>cases tc
 | dct _ _=>cases tc
 | dcp _ _=>cases tc
 | exc _=>cases tc
 | fn _=>cases tc
end
section
variable {X:Cx} {a:Expr} {fa:Dm.FE} {p pos:Pos}
theorem N6 (ha:DE X a fa) (he:∀ whole,isTrue a X.env whole=(do let v ← whole;standAt a.pos;holding [v] (truthy v)):=by intro _;rfl):DT X a (Dm.tTr fa):=PT.weak (zX ha he) fun _ _ _=>N5
end
section
variable {X:Cx} {a b e:Expr} {fa fb f:Dm.FE} {fs:List Dm.FE} {p p2 pos:Pos}
theorem L4 {K:PySem.W.Frag} {lo hi:Option Dm.FE} {σ:L2.St} {H:Hp} {Q:VK} (h:tD (Dm.yY f lo hi) σ H Q):tSl (Li K) (tD f) (tOf lo) (tOf hi) σ H Q:=by
 obtain ⟨H0,ρ,x,ρ',st,e,k⟩:=h
 unfold Dm.yY at e
 split at e
 ·cases e
 rename_i x1 ρ1 e1
 split at e
 ·cases e
 rename_i l ρ2 e2
 split at e
 ·cases e
 rename_i hh ρ3 e3
 split at e
 ·rename_i ds p1
  split at e
  ·cases e
  rename_i hne
  cases e
  refine ⟨H0,ρ,x1,ρ1,st,e1,fun v H1 Hb t1 r1=>?_⟩
  refine gp t1.st e2 fun H2 Hc t2=>?_
  refine gp t2.st e3 fun H3 Hd t3=>?_
  have tt:=t1.trans (t2.trans t3)
  obtain ⟨a,xs,rfl,qa,ra⟩:=b_ t3.st.same ((r1.mono (t2.trans t3)).look t3.st p1)
  refine ⟨a,xs,rfl,SqT.of qa,?_,fun q hq=>?_⟩
  ·rw [ra.length,fX _ _ _ (Nat.zero_le _),fX _ _ _ (Nat.le_refl _)]
   exact hne
  ·have g:=aQ.rK (o:=HO.tup (kD xs l hh)) t3.st.same hq
   exact k _ _ _ (tt.trans (.grow t3.st g)) (.tup ay ((jM ra l hh).mono g.s0))
 ·cases e
theorem L5 {lo hi:Option Expr} {flo fhi:Option Dm.FE} (h:DE X e f) (hl:PO X lo (tOf flo)) (hh:PO X hi (tOf fhi)):DE X (.Subscript e (.Slice lo hi none p2) pos) (Dm.yY f flo fhi):=PE.weak (lF z5 h hl hh) fun _ _ _=>L4
theorem yZ (hc:X.calm=true):cY X (.builtin "sum") (fun xs H Q=>∃ (q:Addr) (i j:Int),xs=[.ref q]∧H q=some (.tup [.int i,.int j])∧(-1000000≤i∧i≤1000000∧-1000000≤j∧j≤1000000)∧Q (.int (i+j)) H):=by
 intro pins s σ H xs us Q I r h
 obtain ⟨q,i,j,rfl,hq,hb,k⟩:=h
 obtain ⟨u,rfl,rx⟩:=vals1 r
 cases rx
 obtain ⟨its,rv,pl,hz⟩:=I.tuple (SqT.of hq)
 obtain ⟨u1,u2,rfl,r1,r2⟩:=vals2 rv
 obtain ⟨t1,rfl⟩:=r1
 obtain ⟨t2,rfl⟩:=r2
 have ht:s.heap.IsTuple q #[.int i t1,.int j t2]:=pl
 obtain ⟨oq,eq,_⟩:=id ht
 have hax:q≠s.heap.objs.size:=Nat.ne_of_lt (Heap.lt_size eq)
 refine PySem.call_sum_walk (wpAny_pyIter_tuple ht ⟨s.heap.objs.size,_,_,_,_,_,fun n=>if n=0 then i else j,rfl,Walks.tuple (A:=X.A.in1) (I.ok.hd hc) s.heap.objs.size q hax #[.int i t1,.int j t2],⟨⟨_,Heap.get?_push_size _ rfl,rfl,rfl⟩,?_⟩,?_,?_,?_,fun h' tk t' hk=>?_⟩)
 ·exact ht.at fun o e=>Heap.get?_push_of_some _ e
 ·intro b hb
  simp only [List.mem_cons,List.not_mem_nil,or_false] at hb
  have hz:(s.heap.push { cls:=.type "tuple_iterator",data:=.fields #[.ref q,.int 0 0] }).objs.size=s.heap.objs.size+1:=Heap.size_push ..
  show b<(s.heap.push { cls:=.type "tuple_iterator",data:=.fields #[.ref q,.int 0 0] }).objs.size
  rw [hz]
  rcases hb with rfl | rfl
  ·exact Nat.lt_succ_self _
  ·exact Nat.lt_succ_of_lt (Heap.lt_size eq)
 ·intro n v hv
  match n,hv with
  | 0,hv=>cases hv;exact ⟨t1,rfl⟩
  | 1,hv=>cases hv;exact ⟨t2,rfl⟩
  | n+2,hv=>simp at hv
 ·intro n hn
  have hn:n<2:=hn
  match n,hn with
  | 0,_=>simp [InLong,preSum];lia
  | 1,_=>simp [InLong,preSum];lia
 ·refine ⟨.int (i+j),H,I.kept (t':=tk) fun b o eb=>hk b o ?_ (Heap.get?_push_of_some _ eb),⟨t',?_⟩,k⟩
  ·intro hm
   have:b=s.heap.objs.size:=by simpa using hm
   exact absurd (Heap.lt_size eb) (by rw [this];exact Nat.lt_irrefl _)
  ·simp [preSum]
theorem Ep:CallD (fun xs H Q=>∃ (q:Addr) (i j:Int),xs=[.ref q]∧H q=some (.tup [.int i,.int j])∧(-1000000≤i∧i≤1000000∧-1000000≤j∧j≤1000000)∧Q (.int (i+j)) H) Dm.pC:=by
 intro H0 H xs ds z Q s rx e k
 unfold Dm.pC at e
 split at e
 ·rename_i i j
  split at e
  ·rename_i hb
   cases e
   cases rx with
   | cons r rr=>
    cases rr
    obtain ⟨q,us,rfl,qa,ra⟩:=b_ s r
    cases ra with
    | cons r1 rr=>
     cases rr with
     | cons r2 rr=>
      cases rr
      cases Rep.isInt r1
      cases Rep.isInt r2
      exact ⟨q,i,j,rfl,qa,hb,k _ H0 H (aQ.refl s) (.int _)⟩
  ·cases e
 ·cases e
theorem Jm (hc:X.calm=true) (hg:Gl X "sum") (hm:X.mg "sum" = none) (ha:DA X [e] fs) (he:starEach [e] X.env=[(false,eval e X.env)]:=by rfl) (hpl:(backTo pos (starEach [] X.env)).any (·.1)=false:=by rfl):DE X (.Call (.Name "sum" p) [e] [] pos) (Dm.eB Dm.pC fs):=yS (yZ hc) Ep PyProof.Rows.boot_sum hg hm ha (he:=he) (hpl:=hpl)
end
end Br
namespace Dm
noncomputable def eT:List Dat→Option (List Int)
 | []=>some []
 | .int i::r=>(eT r).map fun ns=>i::ns
 | _=>none
noncomputable def dedup (ns:List Int):List Int:=ns.foldl (fun acc x=>if acc.any (· == x) then acc else acc++[x]) []
noncomputable def dW:Dat→Option RV
 | .lst ds=>(match eT ds with
  | some ns=>if ns.length≤4000 then vI (dedup ns).length else none
  | none=>none)
 | _=>none
end Dm
namespace Br
open PySem PySem.Spec PyProof.Rows L2
noncomputable def rB (K:PySem.W.Frag):List V→Hp→VK→Prop:=fun xs H Q=>∃ (q:Addr) (ns:List Int),xs=[.ref q]∧SqL K H q (ns.map V.int)∧ns.length+1<scanBound ∧
 ∀ l,H l=none→Q (.ref l) (upd H l (.set (fun k'=>(firstMet (fun i=>ns.getD i 0) ns.length).any (· == k')) (firstMet (fun i=>ns.getD i 0) ns.length).length))
noncomputable def Gw:List V→Hp→VK→Prop:=fun xs H Q=>∃ (q:Addr) (S:Int→Bool) (n:Nat),xs=[.ref q]∧H q=some (.set S n)∧Q (.int n) H
theorem intsAre_of:∀ {ns:List Int} {its:List Value},Vals (ns.map V.int) its→IntsAre its ns
 | [],_,r=>by cases r;exact .nil
 | n::ns,_,r=>by
  rw [List.map_cons] at r
  cases r with
  | cons h t=>
   obtain ⟨tk,rfl⟩:=h
   exact .cons _ _ (intsAre_of t)
section
variable {X:Cx}
theorem y9 (hc:X.calm=true):cY X (.type "set") (rB X.K):=by
 intro pins s σ H xs us Q I r h
 obtain ⟨q,ns,rfl,hq,hb,k⟩:=h
 obtain ⟨u,rfl,rx⟩:=vals1 r
 cases rx
 obtain ⟨its,rv,pl,hz⟩:=I.list hq
 have hl:=rv.length
 rw [List.length_map] at hl
 refine call_set_list (ns:=ns) (I.ok.hd hc) pl.isList (intsAre_of rv) (by rw [List.size_toArray,← hl];exact hb) fun h' tk hS hk=>?_
 have hz2:its.toArray.size=ns.length:=by rw [List.size_toArray,← hl]
 rw [hz2] at hS
 exact ⟨.ref s.heap.objs.size,_,I.laid (a:=s.heap.objs.size) (o:=.set (fun k'=>(firstMet (fun i=>ns.getD i 0) ns.length).any (· == k')) (firstMet (fun i=>ns.getD i 0) ns.length).length) (t':=tk) (fun b u e=>hk b u (Heap.lt_size e) e) (Nat.le_refl _) hS,rfl,k _ (I.hok.fresh (Nat.le_refl _))⟩
theorem y_:cY X (.builtin "len") Gw:=by
 intro pins s σ H xs us Q I r h
 obtain ⟨q,S,n,rfl,hq,k⟩:=h
 obtain ⟨u,rfl,rx⟩:=vals1 r
 cases rx
 obtain ⟨o,es,ep,t,ho,hex,hd,_,_,hb,hf,hn⟩:s.heap.SetOf (intKind X.prog X.w) q S n:=I.hok q _ hq
 have hb':es.size<4096:=hb
 refine call_len_set ho hex hd hf (by lia) ?_
 exact ⟨.int n,H,I.tok _,⟨_,by rw [hn]⟩,k⟩
end
theorem rR {H0:Hp}:∀ {ds:List Dm.Dat} {xs:List V} {ns:List Int},aF H0 xs ds→Dm.eT ds=some ns→xs=ns.map V.int
 | [],_,ns,r,e=>by cases r;cases e;rfl
 | d::ds,_,ns,r,e=>by
  cases r with
  | cons h t=>
   cases d with
   | int i=>
    unfold Dm.eT at e
    cases q:Dm.eT ds with
    | none=>rw [q] at e;cases e
    | some ms=>
     rw [q] at e
     cases e
     cases Rep.isInt h
     rw [rR t q]
     rfl
   | _=>cases e
theorem range_getD (ns:List Int):(List.range ns.length).map (fun i=>ns.getD i 0)=ns:=by
 apply List.ext_getElem?
 intro i
 rw [List.getElem?_map]
 by_cases h:i<ns.length
 ·rw [List.getElem?_range h,List.getElem?_eq_getElem h]
  simp [List.getD_eq_getElem?_getD,h]
 ·rw [List.getElem?_eq_none (by simpa using h),List.getElem?_eq_none (by simpa using h)]
  rfl
theorem l7 (ns:List Int):(firstMet (fun i=>ns.getD i 0) ns.length)=Dm.dedup ns:=by
 unfold firstMet Dm.dedup
 rw [range_getD]
 rfl
section
variable {X:Cx} {e:Expr} {f:Dm.FE} {p p0 pos qx:Pos}
theorem AZ {K:PySem.W.Frag} {σ:L2.St} {H:Hp} {Q:VK} (h:tD (Dm.e1 Dm.dW f) σ H Q):tCB Gw (oS (tCB (rB K) (oS (tD f) uI)) uI) σ H Q:=by
 obtain ⟨H0,ρ,x,ρ',st,e,k⟩:=h
 unfold Dm.e1 at e
 split at e
 ·cases e
 rename_i x1 ρ1 e1
 split at e
 ·cases e
 rename_i dx p1
 split at e
 ·cases e
 rename_i z gz
 cases e
 unfold Dm.dW at gz
 split at gz
 ·rename_i ds
  split at gz
  ·rename_i ns en
   split at gz
   ·rename_i hb
    cases gz
    refine ⟨H0,ρ,x1,_,st,e1,fun v H1 Hb t1 r1=>?_⟩
    obtain ⟨a,xs,rfl,qa,ra⟩:=bL t1.st.same (r1.look t1.st p1)
    have ex:=rR ra en
    subst ex
    refine ⟨a,ns,rfl,.inl qa,by show ns.length+1<4096;lia,fun l hl=>⟨l,_,_,rfl,ay,?_⟩⟩
    rw [l7]
    exact k _ _ _ (t1.trans (.grow t1.st (aQ.lN t1.st.same hl))) (Rep.int _)
   ·cases gz
  ·cases gz
 ·cases gz
theorem l8 (hc:X.calm=true) (hgl:Gl X "len") (hml:X.mg "len" = none) (hg:Gl X "set") (hm:X.mg "set" = none) (h:DE X e f) (hs:starEach [e] X.env=[(false,eval e X.env)]:=by rfl)
  (hs0:starEach [.Call (.Name "set" p) [e] [] pos] X.env=[(false,eval (.Call (.Name "set" p) [e] [] pos) X.env)]:=by rfl) (hpl:(backTo pos (starEach [] X.env)).any (·.1)=false:=by rfl) (N7:(backTo qx (starEach [] X.env)).any (·.1)=false:=by rfl) :
  DE X (.Call (.Name "len" p0) [.Call (.Name "set" p) [e] [] pos] [] qx) (Dm.e1 Dm.dW f):=
 PE.weak (lE y_ hgl hml PySem.boot_len (jc (oZ (y9 hc) hg hm (by rfl) (jc h lD hs) (he:=hs) (hpl:=hpl)) lD hs0) (he:=hs0) (hpl:=N7)) fun _ _ _=>AZ
end
end Br
namespace Ts
open PySem PyProof.Rows
variable {M:Model} {A:Around} {E:Value→Shared→Prop} {s:Shared} {κ:KeyKind} {kd:SortKind} {a₀:Array Keyed}
end Ts
namespace Ts
open PySem PyProof.Rows
variable {M:Model} {A:Around} {E:Value→Shared→Prop} {s:Shared} {κ:KeyKind} {kd:SortKind} {a₀:Array Keyed}
end Ts
namespace Ts
open PySem PyProof.Rows
variable {M:Model} {A:Around} {E:Value→Shared→Prop} {s:Shared} {κ:KeyKind} {kd:SortKind} {a₀:Array Keyed}
end Ts
namespace Ts
open PySem PyProof.Rows
variable {M:Model} {A:Around} {E:Value→Shared→Prop} {s:Shared} {κ:KeyKind} {kd:SortKind} {a₀:Array Keyed}
end Ts
namespace Ts
open PySem PyProof.Rows
variable {A:Around} {E:Value→Shared→Prop} {s:Shared} {κ:KeyKind} {kd:SortKind} {a₀:Array Keyed} {prog:Program} {w:World}
end Ts
namespace Ts
open PySem PyProof.Rows
variable {A:Around} {E:Value→Shared→Prop} {s:Shared} {κ:KeyKind} {kd:SortKind} {a₀:Array Keyed} {prog:Program} {w:World}
end Ts
namespace Ts
open PySem PyProof.Rows
variable {A:Around} {E:Value→Shared→Prop} {s:Shared} {κ:KeyKind} {kd:SortKind} {a₀:Array Keyed} {prog:Program} {w:World}
end Ts
namespace Ts
open PySem PyProof.Rows
variable {A:Around} {E:Value→Shared→Prop} {s:Shared} {κ:KeyKind} {kd:SortKind} {a₀:Array Keyed} {prog:Program} {w:World}
end Ts
namespace Ts
open PySem PyProof.Rows
variable {A:Around} {E:Value→Shared→Prop} {s:Shared} {κ:KeyKind} {kd:SortKind} {prog:Program} {w:World}
end Ts
namespace Ts
open PySem PyProof.Rows
variable {A:Around} {E:Value→Shared→Prop} {s:Shared} {κ:KeyKind} {kd:SortKind} {a₀:Array Keyed} {prog:Program} {w:World}
end Ts
namespace Ts
open PySem PyProof.Rows
variable {A:Around} {E:Value→Shared→Prop} {s:Shared} {κ:KeyKind} {kd:SortKind} {prog:Program} {w:World}
end Ts
namespace Dm
noncomputable def ins {α:Type} (lt:α→α→Bool) (x:α):List α→List α
 | []=>[x]
 | y::l=>if lt y x then y::ins lt x l else x::y::l
noncomputable def fF {α:Type} (lt:α→α→Bool):List α→List α
 | []=>[]
 | x::l=>ins lt x (fF lt l)
theorem l9 {α:Type} (lt:α→α→Bool) (x:α):∀ l,(ins lt x l).Perm (x::l)
 | []=>List.Perm.refl _
 | y::l=>by
  rw [ins]
  split
  ·exact ((l9 lt x l).cons y).trans (List.Perm.swap x y l)
  ·exact List.Perm.refl _
theorem ff {α:Type} (lt:α→α→Bool):∀ l,(fF lt l).Perm l
 | []=>List.Perm.refl _
 | x::l=>(l9 lt x _).trans ((ff lt l).cons x)
theorem l_ {α:Type} {lt:α→α→Bool} (tr:∀ a b c,lt b a=false→lt c b=false→lt c a=false) (as:∀ a b,lt a b=true→lt b a=false) (x:α):∀ l:List α,l.Pairwise (fun a b=>lt b a=false)→(ins lt x l).Pairwise (fun a b=>lt b a=false)
 | [],_=>by simp [ins]
 | y::l,h=>by
  rw [ins]
  obtain ⟨h1,h2⟩:=List.pairwise_cons.mp h
  split
  ·rename_i hl
   refine List.pairwise_cons.mpr ⟨fun z hz=>?_,l_ tr as x l h2⟩
   rcases List.mem_cons.mp ((l9 lt x l).mem_iff.mp hz) with rfl | hz
   ·exact as _ _ hl
   ·exact h1 z hz
  ·rename_i hl
   have hl':lt y x=false:=by simpa using hl
   refine List.pairwise_cons.mpr ⟨fun z hz=>?_,h⟩
   rcases List.mem_cons.mp hz with rfl | hz
   ·exact hl'
   ·exact tr _ _ _ hl' (h1 z hz)
theorem fh {α:Type} {lt:α→α→Bool} (tr:∀ a b c,lt b a=false→lt c b=false→lt c a=false) (as:∀ a b,lt a b=true→lt b a=false):∀ l:List α,(fF lt l).Pairwise (fun a b=>lt b a=false)
 | []=>List.Pairwise.nil
 | x::l=>l_ tr as x _ (fh tr as l)
theorem j_ {α:Type} {lt:α→α→Bool} (tot:∀ a b,lt a b=false→lt b a=false→a=b):∀ {l m:List α},l.Perm m→l.Pairwise (fun a b=>lt b a=false)→m.Pairwise (fun a b=>lt b a=false)→l=m
 | [],m,p,_,_=>(List.nil_perm.mp p).symm
 | x::l,[],p,_,_=>by have:=p.length_eq;simp at this
 | x::l,y::m,p,h1,h2=>by
  obtain ⟨a1,a2⟩:=List.pairwise_cons.mp h1
  obtain ⟨b1,b2⟩:=List.pairwise_cons.mp h2
  have e:x=y:=by
   rcases List.mem_cons.mp (p.mem_iff.mp List.mem_cons_self) with hx | hx
   ·exact hx
   ·rcases List.mem_cons.mp (p.mem_iff.mpr (List.mem_cons_self (a:=y) (l:=m))) with hy | hy
    ·exact hy.symm
    ·exact tot x y (b1 x hx) (a1 y hy)
  subst e
  rw [j_ tot (List.Perm.cons_inv p) a2 b2]
noncomputable def za (i:Nat) (e:FE):FS:=fun ρ=>match ρ[i]? with
 | some (.ow (.lst _))=>(match e ρ with
  | none=>none
  | some (x,ρ1)=>match pk ρ1 x with
   | some (.lst es)=>(match ρ1[i]? with
    | some (.ow (.lst ds))=>if ds.length+es.length≤SZ then some (.nx (ρ1.set i (.ow (.lst (ds++es))))) else none
    | _=>none)
   | _=>none)
 | _=>none
noncomputable def jO (i:Nat) (e:FE):FE:=fun ρ=>match ρ[i]? with
 | some (.ow (.lst _))=>(match e ρ with
  | some (.val (.int j),ρ1)=>(match ρ1[i]? with
   | some (.ow (.lst ds))=>if 0≤j∧j≤BIG then (match ds[j.toNat]? with
     | some d=>some (.val d,ρ1.set i (.ow (.lst (ds.eraseIdx j.toNat))))
     | none=>none) else none
   | _=>none)
  | _=>none)
 | _=>none
noncomputable def isN:Dat→Bool
 | .non=>true
 | _=>false
noncomputable def u6:Dat→Dat→Option RV
 | d,.non=>vB (isN d)
 | _,_=>none
end Dm
namespace Br
open PySem PySem.Spec PyProof.Rows L2
theorem pD {H0:Hp}:∀ ns:List Int,aF H0 (ns.map V.int) (ns.map Dm.Dat.int)
 | []=>.nil
 | n::ns=>.cons (.int n) (pD ns)
section
variable {X:Cx} {a b c e:Expr} {f fa fb:Dm.FE} {fs:List Dm.FE} {p pos:Pos}
noncomputable def L6 (neg:Bool):R2:=fun x y H Q=>y=.non∧Q (.bl (if neg then !decide (x=V.non) else decide (x=V.non))) H
theorem Er {x:V} {v:Value} (r:RelV x v):(v == Value.none)=decide (x=V.non):=by
 cases x with
 | non=>cases r;rfl
 | bl b=>cases r;rfl
 | int i=>obtain ⟨t,rfl⟩:=r;rfl
 | str z=>obtain ⟨t,rfl⟩:=r;rfl
 | byt z=>obtain ⟨t,rfl⟩:=r;rfl
 | flt z=>obtain ⟨t,rfl⟩:=r;rfl
 | ref z=>cases r;rfl
 | ty z=>cases r;rfl
theorem A0:OpR X (compareOp .Is) (L6 false):=by
 intro pins s σ H x y v u Q I rx ry h
 obtain ⟨rfl,q⟩:=h
 cases ry
 refine is_none_gen ?_
 rw [Er rx]
 exact ⟨.bl _,H,I,rfl,q⟩
theorem xh {H0 H:Hp} {x:V} {d:Dm.Dat} (r:kH H0 H x d):decide (x=V.non)=Dm.isN d:=by
 rcases r with r | ⟨a,rfl,w⟩
 ·cases r<;>rfl
 ·cases d with
  | non=>exact False.elim w
  | _=>rfl
theorem A1:OpD (L6 false) Dm.u6:=by
 intro H0 H x y dx dy z Q s rx ry e k
 unfold Dm.u6 at e
 split at e
 ·cases e
  have hy:=xh ry
  have:y=V.non:=of_decide_eq_true (hy.trans rfl)
  refine ⟨this,?_⟩
  rw [if_neg (by decide),xh rx]
  exact k _ H0 H (aQ.refl s) (.bl _)
 ·cases e
theorem L7 (ha:DE X a fa) (hb:DE X b fb):DE X (.Compare a [.Is] [b] pos) (Dm.e2 Dm.u6 fa fb):=pq A0 A1 ha hb (dc _)
theorem L8 (ha:DE X a fa) (hb:DE X b fb):DT X (.Compare a [.Is] [b] pos) (Dm.tV (Dm.e2 Dm.u6 fa fb)):=jn A0 A1 ha hb (dc _)
end
section
variable {X:Cx}
noncomputable def Gx:V→List V→Hp→VK→Prop:=fun x vs H Q=>∃ l b xs zs,x=.ref l∧vs=[.ref b]∧H l=some (.lst xs)∧Rd H b (.lst zs)∧xs.length+zs.length≤sizeLine∧Q .non (upd H l (.lst (xs++zs)))
theorem Es:MtM X "list.extend" Gx:=by
 intro pins s σ H x vs v us Q I rx rv h
 obtain ⟨l,b,xs,zs,rfl,rfl,hH,hB,hz,q⟩:=h
 cases rx
 obtain ⟨u,rfl,ru⟩:=rv.one
 cases ru
 obtain ⟨z,its,n,r,hl,e⟩:=I.Iu hH
 obtain ⟨z2,its2,n2,r2,e2⟩:=hB.ok I.hok
 have hl2:=r2.length
 have tot:its.toArray.size+its2.toArray.size≤sizeLine:=by simp only [List.size_toArray];lia
 have short:¬ (!its.toArray.isEmpty&&Builtin.List.listTooLong (its.toArray.size+its2.toArray.size))=true:=by rw [rC tot,Bool.and_false];decide
 refine call_meets F.slot_list_extend ⟨_,e,rfl⟩ F.entry_list_extend (F.args_list_extend_2 _ _) (AutoSeq1.list_extend_list_list_0 l its.toArray n b its2.toArray n2 short (by rw [List.size_toArray];lia) (by lia)) ⟨e,e2,?_⟩
 exact ⟨.non,_,I.Iq (its':=its++its2) hH e (by simp) (r.append r2) (by rw [List.length_append];lia),rfl,q⟩
end
section
variable {σ:L2.St} {H:Hp} {Q:VK} {D:Ends}
theorem L_ {K:PySem.W.Frag} {i:Nat} {f:Dm.FE} (h:tDS (Dm.za i f) D σ H):rm (tBM K "list" Gx (lg i) (tDA [f])) D σ H:=by
 obtain ⟨H0,ρ,o,st,e,k⟩:=h
 unfold Dm.za at e
 split at e
 case h_2=>cases e
 rename_i ds0 h0
 obtain ⟨a0,q0,n0,w0⟩:=st.ow i _ h0
 refine ⟨_,q0,?_⟩
 split at e
 ·cases e
 rename_i x ρ1 e1
 split at e
 case h_2=>cases e
 rename_i es p1
 split at e
 case h_2=>cases e
 rename_i ds h2
 split at e
 case isFalse=>cases e
 rename_i hz
 cases e
 obtain ⟨xs0,y0,_⟩:=w0
 refine ⟨.inl ⟨rfl,xs0,.inl (.inl y0)⟩,?_⟩
 refine ⟨H0,ρ,[x],ρ1,st,by unfold Dm.eAs;rw [e1];rfl,fun vs H0' H' t r=>?_⟩
 cases r with
 | cons r rr=>
  cases rr
  obtain ⟨b,zs,rfl,qb,rb⟩:=bL t.st.same (r.look t.st p1)
  obtain ⟨a,q,n,w⟩:=t.st.ow i _ h2
  rw [q0] at q
  cases q
  obtain ⟨xs,y,rs⟩:=w
  refine ⟨a0,b,xs,zs,rfl,rfl,y,qb,by rw [rs.length,rb.length];exact Nat.le_trans hz (by decide),?_⟩
  have ow:ao σ ρ1 a0:=⟨i,_,h2,q0⟩
  exact k σ H0' _ ⟨t.st.write h2 q0 ⟨_,ay,rs.append rb⟩,t.stp.trans (Stp.write ow) fun b z=>.inl (t.own b z),fun b z=>.inl (t.own b (cE h2 z)),rfl⟩
theorem mh {α:Type} (l:List α) (i:Nat):l.eraseIdx i=l.take i++l.drop (i+1):=List.eraseIdx_eq_take_drop_succ l i
theorem u7 {H0:Hp} {vs:List V} {ds:List Dm.Dat} (i:Nat) (r:aF H0 vs ds):aF H0 (vs.eraseIdx i) (ds.eraseIdx i):=by
 rw [mh,mh]
 exact (r.take i).append (r.drop (i+1))
theorem Et {K:PySem.W.Frag} {i:Nat} {f:Dm.FE} (h:tD (Dm.jO i f) σ H Q):tBM K "list" z6 (lg i) (tDA [f]) σ H Q:=by
 obtain ⟨H0,ρ,x,ρ',st,e,k⟩:=h
 unfold Dm.jO at e
 split at e
 case h_2=>cases e
 rename_i ds0 h0
 obtain ⟨a0,q0,n0,w0⟩:=st.ow i _ h0
 refine ⟨_,q0,?_⟩
 obtain ⟨xs0,y0,_⟩:=w0
 refine ⟨.inl ⟨rfl,xs0,.inl (.inl y0)⟩,?_⟩
 split at e
 case h_2=>cases e
 rename_i j ρ1 e1
 split at e
 case h_2=>cases e
 rename_i ds h2
 split at e
 case isFalse=>cases e
 rename_i hb
 split at e
 case h_2=>cases e
 rename_i d hd
 cases e
 refine ⟨H0,ρ,[.val (.int j)],ρ1,st,by unfold Dm.eAs;rw [e1];rfl,fun vs H0' H' t r=>?_⟩
 cases r with
 | cons r rr=>
  cases rr
  cases Rep.isInt r
  obtain ⟨a,q,n,w⟩:=t.st.ow i _ h2
  rw [q0] at q
  cases q
  obtain ⟨xs,y,rs⟩:=w
  obtain ⟨v,hv,rv⟩:=rs.get hd
  have hlt:j.toNat<xs.length:=(List.getElem?_eq_some_iff.mp hv).1
  have hB:Dm.BIG=1000000000:=rfl
  refine ⟨a0,xs,j,j.toNat,v,rfl,rfl,y,by lia,by lia,?_,hv,?_⟩
  ·unfold seqIndex?
   simp only [show ¬ j<0 by lia,if_false]
   rw [if_pos (by rw [decide_eq_true (show 0≤j by lia),decide_eq_true (show j<(xs.length:Int) by lia)];rfl)]
  have ow:ao σ ρ1 a0:=⟨i,_,h2,q0⟩
  have hi:i<ρ1.length:=(List.getElem?_eq_some_iff.mp h2).1
  refine k v H0' _ (t.trans ⟨t.st.write h2 q0 ⟨_,ay,u7 _ rs⟩,Stp.write ow,fun b z=>cE h2 z,fun j' z=>trivial⟩) rv
end
section
variable {X:Cx} {e:Expr} {f:Dm.FE} {pos:Pos}
theorem Ma (i:Nat) {x:Str} {px ap cp:Pos} (he:DE X e f) (hi:X.N[i]?=some x:=by rfl) (hv:Vis X.env.scope x:=by first | exact Or.inl rfl | exact Or.inr (Or.inl rfl) | exact Or.inr (Or.inr rfl)) (hd:(x == ("__debug__" : Str))=false:=by decide)
  (hcd:(x == ("__classdict__" : Str))=false:=by decide) (hbase:attributeBase (.Name x px) "extend" X.env (eval (.Name x px) X.env)=eval (.Name x px) X.env:=by rfl)
  (hfew:((backTo cp (starEach [e] X.env)).all (fun x=>!x.1)&&(backToKw cp (keywordEach [] X.env)).all (fun x=>x.1.isSome)
   && decide ([e].length+([]:List Keyword).length+(if ([]:List Keyword).isEmpty then 0 else 1)<30))=true:=by rfl)
  (hline:(ap.endLine == cp.line)=true:=by rfl) (hs:starEach [e] X.env=(false,eval e X.env)::starEach [] X.env:=by rfl) (hplain:(backTo cp (starEach [] X.env)).any (·.1)=false:=by rfl)
  (hsw:swapsWith (.Call (.Attribute (.Name x px) "extend" ap) [e] [] cp) none pos.line X.env=pure false:=by rfl) :
  DS X (.Expr (.Call (.Attribute (.Name x px) "extend" ap) [e] [] cp) pos) (Dm.za i f):=
 PS.weak (kM (wD PySem.F.plainAttrs_list PySem.F.slot_list_extend PySem.F.type_list_extend Es (eX hi hv hd hcd) (aa he af hs) hbase hfew hline hs hplain) hsw) fun _ _ _=>L_
theorem Eu (i:Nat) {x:Str} {px ap cp:Pos} (he:DE X e f) (hi:X.N[i]?=some x:=by rfl) (hv:Vis X.env.scope x:=by first | exact Or.inl rfl | exact Or.inr (Or.inl rfl) | exact Or.inr (Or.inr rfl)) (hd:(x == ("__debug__" : Str))=false:=by decide)
  (hcd:(x == ("__classdict__" : Str))=false:=by decide) (hbase:attributeBase (.Name x px) "pop" X.env (eval (.Name x px) X.env)=eval (.Name x px) X.env:=by rfl)
  (hfew:((backTo cp (starEach [e] X.env)).all (fun x=>!x.1)&&(backToKw cp (keywordEach [] X.env)).all (fun x=>x.1.isSome)
   && decide ([e].length+([]:List Keyword).length+(if ([]:List Keyword).isEmpty then 0 else 1)<30))=true:=by rfl)
  (hline:(ap.endLine == cp.line)=true:=by rfl) (hs:starEach [e] X.env=(false,eval e X.env)::starEach [] X.env:=by rfl) (hplain:(backTo cp (starEach [] X.env)).any (·.1)=false:=by rfl) :
  DE X (.Call (.Attribute (.Name x px) "pop" ap) [e] [] cp) (Dm.jO i f):=
 PE.weak (wD PySem.F.plainAttrs_list PySem.F.slot_list_pop PySem.F.type_list_pop z7 (eX hi hv hd hcd) (aa he af hs) hbase hfew hline hs hplain) fun _ _ _=>Et
end
end Br
namespace L2
open PySem PySem.Spec PyProof.Rows
section
variable {P:Program} {w:World} {K:PySem.W.Frag} {mg:Str→Option Value} {base:Heap} {N:List Str} {qual:Str} {scope:Scope} {f:Addr} {cd:Value} {A:Around} {outer:List Env} {s₀:Shared} {H₀:Hp} {E:XK} {C:Addr}
 {pins:List (Addr×Obj)} {σ:St} {H:Hp} {s:Shared}
end
end L2
namespace Dm
noncomputable def kJ (a:Int):List Int→Int
 | []=>a
 | x::r=>kJ (if x>a then x else a) r
end Dm
namespace Br
open PySem PySem.Spec PyProof.Rows L2
theorem A2 (a x:Int) (l:List Int):Dm.kJ a (l++[x])=if x>Dm.kJ a l then x else Dm.kJ a l:=by
 induction l generalizing a with
 | nil=>rfl
 | cons y l ih=>rw [List.cons_append,Dm.kJ,ih,Dm.kJ]
theorem rS (n0:Int) (ns:List Int):∀ k,k≤ns.length→(n0::ns).getD (argBest (fun i j=>decide ((n0::ns).getD i 0>(n0::ns).getD j 0)) k) 0=Dm.kJ n0 (ns.take k)
 | 0,_=>rfl
 | k+1,h=>by
  have ih:=rS n0 ns k (by lia)
  have e:argBest (fun i j=>decide ((n0::ns).getD i 0>(n0::ns).getD j 0)) (k+1)=if decide ((n0::ns).getD (k+1) 0>(n0::ns).getD (argBest (fun i j=>decide ((n0::ns).getD i 0>(n0::ns).getD j 0)) k) 0) then k+1 else argBest (fun i j=>decide ((n0::ns).getD i 0>(n0::ns).getD j 0)) k:=rfl
  have ek:(n0::ns).getD (k+1) 0=ns[k]'(by omega):=by
   rw [List.getD_eq_getElem?_getD,List.getElem?_cons_succ,List.getElem?_eq_getElem (by lia)];rfl
  rw [e,ih,ek,List.take_succ_eq_append_getElem (by lia),A2]
  by_cases c:ns[k]'(by lia)>Dm.kJ n0 (ns.take k)
  ·rw [decide_eq_true c,if_pos rfl,if_pos c,ek]
  ·rw [decide_eq_false c,if_neg (by decide),if_neg c,ih]
section
variable {X:Cx}
theorem xj {ns:List Int} {its:List Value} (rv:Vals (ns.map V.int) its):∀ (i:Nat) (v:Value),its.toArray[i]?=some v→∃ t,v=.int (ns.getD i 0) t:=by
 intro i v hv
 have hv':its[i]?=some v:=by simpa using hv
 have hlen:=rv.length
 rw [List.length_map] at hlen
 have hi:i<ns.length:=by rw [hlen];exact (List.getElem?_eq_some_iff.mp hv').1
 have hb:(ns.map V.int)[i]?=some (V.int ns[i]):=by rw [List.getElem?_map,List.getElem?_eq_getElem hi];rfl
 obtain ⟨u,hu,ru⟩:=rv.get hb
 rw [hv'] at hu
 cases hu
 obtain ⟨t,rfl⟩:=ru
 exact ⟨t,by rw [List.getD_eq_getElem?_getD,List.getElem?_eq_getElem hi];rfl⟩
theorem mj:∀ {H0:Hp} {us:List V} {ds:List Dm.Dat} {ns:List Int},aF H0 us ds→Dm.eT ds=some ns→us=ns.map V.int
 | _,_,_,_,.nil,h=>by cases h;rfl
 | _,_,_,_,.cons (ds:=ds) (d:=d) r rr,h=>by
  cases d with
  | int i=>
   rw [Dm.eT] at h
   cases hn:Dm.eT ds with
   | none=>rw [hn] at h;cases h
   | some ms=>
    rw [hn] at h
    cases h
    have:=Rep.isInt r
    subst this
    rw [mj rr hn]
    rfl
  | _=>cases h
end
end Br
namespace Dm
noncomputable abbrev FN:=Env→List (List Dat)→Option (Env×List (List Dat))
noncomputable def nNx:FN:=fun ρ r=>some (ρ,r)
noncomputable def zb (s u:FN):FN:=fun ρ r=>match s ρ r with
 | none=>none
 | some (ρ1,r1)=>u ρ1 r1
noncomputable def nIf (t:FT) (a b:FN):FN:=fun ρ r=>match t ρ with
 | none=>none
 | some (true,ρ1)=>a ρ1 r
 | some (false,ρ1)=>b ρ1 r
noncomputable def u9 (i e:FE):FN:=fun ρ r=>match i ρ with
 | some (.val (.int k),ρ1)=>(match ixN r.length k with
  | none=>none
  | some m=>match r[m]? with
   | none=>none
   | some row=>match e ρ1 with
    | none=>none
    | some (x,ρ2)=>match tk ρ2 x with
     | none=>none
     | some (d,ρ3)=>if row.length<SZ then some (ρ3,r.set m (row++[d])) else none)
 | _=>none
noncomputable def kc (bd:FB) (body:FN):List Dat→FN
 | [],ρ,r=>some (ρ,r)
 | d::q,ρ,r=>match bd d ρ with
  | none=>none
  | some ρ1=>match body ρ1 r with
   | none=>none
   | some (ρ2,r2)=>kc bd body q ρ2 r2
noncomputable def u_ (it:FI) (bd:FB) (body:FN):FN:=fun ρ r=>match it ρ with
 | none=>none
 | some (ds,ρ1)=>kc bd body ds ρ1 r
noncomputable def nMk (bd:FB):List Dat→Env→Option Env
 | [],ρ=>some ρ
 | d::r,ρ=>match bd d ρ with
  | none=>none
  | some ρ1=>nMk bd r ρ1
noncomputable def mq (j:Nat) (it:FI) (own:Nat) (bd:FB) (loop:FN):FS:=fun ρ=>if j=0 then none else match it ρ with
 | none=>none
 | some (ds,ρ1)=>if ds.length≤SZ then (match nMk bd ds (ρ1++List.replicate own .un) with
  | none=>none
  | some ρ2=>match loop ((ρ2.take ρ1.length).set j .un) (List.replicate ds.length []) with
   | none=>none
   | some (ρ3,r)=>some (.nx (ρ3.set j (.ow (.lst (r.map .lst)))))) else none
noncomputable def jP:List Dat→Option RV
 | [.dct ks _]=>if ks.length≤63 then some (.new (.lst ((fF (fun a b=>decide (a<b)) ks).map .int))) else none
 | _=>none
noncomputable def rT:List Dat→Option RV
 | [.dct ks vs]=>some (.new (.dct ks vs))
 | _=>none
noncomputable def fk:List Int→List Dat→Int→List Int
 | k::ks,_::vs,i=>if k=i then fk ks vs i else k::fk ks vs i
 | _,_,_=>[]
noncomputable def fm:List Int→List Dat→Int→List Dat
 | k::ks,v::vs,i=>if k=i then fm ks vs i else v::fm ks vs i
 | _,_,_=>[]
noncomputable def mw (i:Nat) (e:FE):FE:=fun ρ=>match ρ[i]? with
 | some (.ow (.dct _ _))=>(match e ρ with
  | some (.val (.int k),ρ1)=>(match ρ1[i]? with
   | some (.ow (.dct ks vs))=>(match bO ks vs k with
    | some d=>some (.val d,ρ1.set i (.ow (.dct (fk ks vs k) (fm ks vs k))))
    | none=>none)
   | _=>none)
  | _=>none)
 | _=>none
mutual
noncomputable def bV:Dat→Bool
 | .tup xs=>fZ xs
 | .lst xs=>fZ xs
 | .dct _ _=>false
 | .dcp _ _=>false
 | .exc _=>false
 | _=>true
noncomputable def fZ:List Dat→Bool
 | []=>true
 | x::r=>bV x&&fZ r
end
noncomputable def tkd (ρ:Env):Val→Option (Dat×Env)
 | .val d=>some (d,ρ)
 | .new d=>some (d,ρ)
 | .slot i=>match ρ[i]? with
  | some (.ow (.dct ks vs))=>some (.dct ks vs,ρ)
  | some (.ow d)=>some (d,ρ.set i (.sh d))
  | some (.sh d)=>some (d,ρ)
  | _=>none
noncomputable def vc (ρ:Env):List Val→Option (List Dat×Env)
 | []=>some ([],ρ)
 | x::r=>match tkd ρ x with
  | none=>none
  | some (d,ρ1)=>match vc ρ1 r with
   | none=>none
   | some (ds,ρ2)=>some (d::ds,ρ2)
noncomputable def eFd (f:List Dat→Option RV) (as:List FE):FE:=fun ρ=>match eAs as ρ with
 | none=>none
 | some (xs,ρ1)=>match vc ρ1 xs with
  | none=>none
  | some (ds,ρ2)=>match f ds with
   | none=>none
   | some v=>if bV v.dat then some (v.bW,ρ2) else none
end Dm
namespace Br
open PySem PySem.Spec PyProof.Rows L2
noncomputable def bg (H0 H:Hp):List Addr→List (List Dm.Dat)→Prop
 | [],[]=>True
 | p::ps,r::rs=>(∃ xs,H p=some (.lst xs)∧aF H0 xs r)∧bg H0 H ps rs
 | _,_=>False
theorem bg.len {H0 H:Hp}:∀ {ps:List Addr} {rs:List (List Dm.Dat)},bg H0 H ps rs→ps.length=rs.length
 | [],[],_=>rfl
 | _::_,_::_,h=>by simp [bg.len h.2]
theorem bg.get {H0 H:Hp}:∀ {ps:List Addr} {rs:List (List Dm.Dat)} {i:Nat} {r:List Dm.Dat},bg H0 H ps rs→rs[i]?=some r→∃ p xs,ps[i]?=some p∧H p=some (.lst xs)∧aF H0 xs r
 | [],[],_,_,_,e=>by simp at e
 | p::_,_::_,0,_,h,e=>by simp at e;subst e;obtain ⟨xs,h1,h2⟩:=h.1;exact ⟨p,xs,rfl,h1,h2⟩
 | _::_,_::_,i+1,_,h,e=>by
  obtain ⟨p,xs,h1,h2⟩:=bg.get (i:=i) h.2 (by simpa using e)
  exact ⟨p,xs,by simpa using h1,h2⟩
theorem bg.mono {H0 H H0' H':Hp}:∀ {ps:List Addr} {rs:List (List Dm.Dat)},bg H0 H ps rs→az H0 H0'→(∀ p∈ps,H' p=H p)→bg H0' H' ps rs
 | [],[],_,_,_=>trivial
 | p::ps,r::rs,h,s,k=>by
  obtain ⟨⟨xs,h1,h2⟩,h3⟩:=h
  exact ⟨⟨xs,by rw [k p List.mem_cons_self];exact h1,h2.mono s⟩,bg.mono h3 s fun q hq=>k q (List.mem_cons_of_mem _ hq)⟩
theorem bg.set {H0 H:Hp} {p:Addr} {xs:List V} {r:List Dm.Dat} (w:aF H0 xs r):∀ {ps:List Addr} {rs:List (List Dm.Dat)} {i:Nat},bg H0 H ps rs→ps.Nodup→ps[i]?=some p→bg H0 (upd H p (.lst xs)) ps (rs.set i r)
 | [],[],_,_,_,e=>by simp at e
 | q::ps,_::rs,0,h,n,e=>by
  simp at e
  subst e
  refine ⟨⟨xs,ay,w⟩,h.2.mono (az.refl _) fun y hy=>aB fun z=>?_⟩
  subst z
  exact (List.nodup_cons.mp n).1 hy
 | q::ps,_::rs,i+1,h,n,e=>by
  have e':ps[i]?=some p:=by simpa using e
  obtain ⟨⟨ys,h1,h2⟩,h3⟩:=h
  obtain ⟨n1,n2⟩:=List.nodup_cons.mp n
  refine ⟨⟨ys,?_,h2⟩,bg.set w h3 n2 e'⟩
  rw [aB fun z=>?_]
  ·exact h1
  ·subst z
   exact n1 (List.mem_of_getElem? e')
theorem bg.some {H0 H:Hp}:∀ {ps:List Addr} {rs:List (List Dm.Dat)},bg H0 H ps rs→∀ p∈ps,∃ o,H p=some o
 | [],[],_,_,h=>by cases h
 | q::ps,_::rs,h,p,hp=>by
  rcases List.mem_cons.mp hp with rfl | hp
  ·obtain ⟨xs,h1,_⟩:=h.1;exact ⟨_,h1⟩
  ·exact bg.some h.2 p hp
structure NS (j:Nat) (σs:L2.St) (ρs:Dm.Env) (H0s Hs:Hp) (σ:L2.St) (ρ:Dm.Env) (H0 H:Hp) (rows:List (List Dm.Dat)):Prop where
 st:aC H0 H σ ρ
 stp:Stp (ao σs ρs) H0s Hs H0 H
 own:∀ a,ao σ ρ a→ao σs ρs a∨Hs a=none
 fx:σ[0]?=σs[0]?
 ex:∃ (L:Addr) (ps:List Addr),σ[j]?=some (some (.ref L))∧Hs L=none∧H0 L=none∧¬ ao σ ρ L∧H L=some (.lst (ps.map V.ref))∧(L::ps).Nodup∧(∀ p∈ps,Hs p=none∧H0 p=none∧¬ ao σ ρ p)∧bg H0 H ps rows
theorem NS.est {j:Nat} {σs:L2.St} {ρs:Dm.Env} {H0s Hs:Hp} {σ:L2.St} {ρ ρ':Dm.Env} {H0 H H0' H':Hp} {rows:List (List Dm.Dat)} (n:NS j σs ρs H0s Hs σ ρ H0 H rows) (t:ESt σ ρ H0 H ρ' H0' H'):NS j σs ρs H0s Hs σ ρ' H0' H' rows:=by
 obtain ⟨L,ps,h1,h2,h3,h4,h5,h6,h7,h8⟩:=n.ex
 obtain ⟨k1,k2,k3⟩:=t.dH h5 h3 h4
 refine ⟨t.st,n.stp.trans t.stp n.own,fun a z=>n.own a (t.own a z),n.fx,L,ps,h1,h2,k2,k3,k1,h6,fun p hp=>?_,h8.mono t.stp.s0 fun p hp=>?_⟩
 ·obtain ⟨q1,q2,q3⟩:=h7 p hp
  obtain ⟨o,q4⟩:=h8.some p hp
  obtain ⟨z1,z2,z3⟩:=t.dH q4 q2 q3
  exact ⟨q1,z2,z3⟩
 ·obtain ⟨q1,q2,q3⟩:=h7 p hp
  obtain ⟨o,q4⟩:=h8.some p hp
  obtain ⟨z1,z2,z3⟩:=t.dH q4 q2 q3
  rw [z1,q4]
theorem NS.bind {j:Nat} {σs:L2.St} {ρs:Dm.Env} {H0s Hs:Hp} {σ σ':L2.St} {ρ ρ':Dm.Env} {H0 H:Hp} {rows:List (List Dm.Dat)} (n:NS j σs ρs H0s Hs σ ρ H0 H rows) (st:aC H0 H σ' ρ') (o:∀ a,ao σ' ρ' a→ao σ ρ a) (hj:σ'[j]?=σ[j]?) (h0:σ'[0]?=σ[0]?):NS j σs ρs H0s Hs σ' ρ' H0 H rows:=by
 obtain ⟨L,ps,h1,h2,h3,h4,h5,h6,h7,h8⟩:=n.ex
 exact ⟨st,n.stp,fun a z=>n.own a (o a z),h0.trans n.fx,L,ps,hj.trans h1,h2,h3,fun z=>h4 (o L z),h5,h6,fun p hp=>⟨(h7 p hp).1,(h7 p hp).2.1,fun z=>(h7 p hp).2.2 (o p z)⟩,h8⟩
noncomputable def rV (H0 H:Hp) (ps:List Addr):Hp:=fun b=>if b∈ps then H b else H0 b
theorem qC {H0 H:Hp} {ps:List Addr} {b:Addr} (h:b∈ps):rV H0 H ps b=H b:=by unfold rV;rw [if_pos h]
theorem f6 {H0 H:Hp} {ps:List Addr} {b:Addr} (h:b∉ps):rV H0 H ps b=H0 b:=by unfold rV;rw [if_neg h]
theorem zc {H0 H:Hp} {ps:List Addr} (s:az H0 H):az H0 (rV H0 H ps):=fun b o e=>by
 by_cases q:b∈ps
 ·rw [qC q];exact s _ _ e
 ·rw [f6 q];exact e
theorem A3 {H0 H:Hp} {ps:List Addr} (s:az H0 H):az (rV H0 H ps) H:=fun b o e=>by
 by_cases q:b∈ps
 ·rw [qC q] at e;exact e
 ·rw [f6 q] at e;exact s _ _ e
theorem bg.reps {H0 H H1:Hp}:∀ {ps:List Addr} {rs:List (List Dm.Dat)},bg H0 H ps rs→az H0 H1→(∀ p∈ps,H1 p=H p)→aF H1 (ps.map V.ref) (rs.map Dm.Dat.lst)
 | [],[],_,_,_=>.nil
 | p::ps,r::rs,h,s,k=>by
  obtain ⟨⟨xs,h1,h2⟩,h3⟩:=h
  exact .cons (.lst (.inl ((k p List.mem_cons_self).trans h1)) (h2.mono s)) (bg.reps h3 s fun q hq=>k q (List.mem_cons_of_mem _ hq))
theorem NS.done {j:Nat} {σs:L2.St} {ρs:Dm.Env} {H0s Hs:Hp} {σ:L2.St} {ρ:Dm.Env} {H0 H:Hp} {rows:List (List Dm.Dat)} (n:NS j σs ρs H0s Hs σ ρ H0 H rows):∃ H0',SSt σs ρs H0s Hs σ (ρ.set j (.ow (.lst (rows.map Dm.Dat.lst)))) H0' H:=by
 obtain ⟨L,ps,h1,h2,h3,h4,h5,h6,h7,h8⟩:=n.ex
 obtain ⟨n1,n2⟩:=List.nodup_cons.mp h6
 have ss:=zc (ps:=ps) n.st.same
 have st:aC (rV H0 H ps) H σ ρ:={
  same:=A3 n.st.same
  len:=n.st.len
  sh:=fun i d h=>by
   obtain ⟨v,z,r⟩:=n.st.sh i d h
   exact ⟨v,z,r.mono ss⟩
  ow:=fun i d h=>by
   obtain ⟨b,z,q,w⟩:=n.st.ow i d h
   have nb:b∉ps:=fun y=>(h7 b y).2.2 ⟨i,d,h,z⟩
   exact ⟨b,z,by rw [f6 nb];exact q,w.mono ss rfl⟩
  dis:=n.st.dis }
 refine ⟨rV H0 H ps,st.jN h1 h4 (by rw [f6 n1];exact h3) ⟨_,h5,h8.reps ss fun p hp=>qC hp⟩,⟨n.stp.s0.trans ss,n.stp.s1,fun a o e=>?_,n.stp.s3⟩,fun a z=>?_,n.fx⟩
 ·by_cases q:a∈ps
  ·exact .inl (h7 a q).1
  ·rw [f6 q] at e;exact n.stp.s2 a o e
 ·obtain ⟨i,d,z1,z2⟩:=z
  by_cases q:j=i
  ·subst q
   rw [h1] at z2
   cases z2
   exact .inr h2
  ·rw [List.getElem?_set_ne q] at z1
   exact n.own a ⟨i,d,z1,z2⟩
noncomputable def tDN (j:Nat) (f:Dm.FN):TS:=fun D σ H=>∃ σs ρs H0s Hs H0 ρ rows ρ' rows',NS j σs ρs H0s Hs σ ρ H0 H rows∧f ρ rows=some (ρ',rows')∧∀ σ' H0' H',NS j σs ρs H0s Hs σ' ρ' H0' H' rows'→az H0 H0'→D.nx σ' H'
section
variable {D:Ends} {σ:L2.St} {H:Hp} {j:Nat}
theorem Mb (h:tDN j Dm.nNx D σ H):zI D σ H:=by
 obtain ⟨σs,ρs,H0s,Hs,H0,ρ,rows,ρ',rows',n,e,k⟩:=h
 cases e
 exact k σ H0 H n (az.refl _)
theorem Jo {s u:Dm.FN} (h:tDN j (Dm.zb s u) D σ H):yt (tDN j s) (tDN j u) D σ H:=by
 obtain ⟨σs,ρs,H0s,Hs,H0,ρ,rows,ρ',rows',n,e,k⟩:=h
 unfold Dm.zb at e
 split at e
 ·cases e
 rename_i ρ1 r1 e1
 exact ⟨σs,ρs,H0s,Hs,H0,ρ,rows,ρ1,r1,n,e1,fun σ' H0' H' n' s1=>⟨σs,ρs,H0s,Hs,H0',ρ1,r1,ρ',rows',n',e,fun σ2 H2 Hc n2 s2=>k σ2 H2 Hc n2 (s1.trans s2)⟩⟩
theorem Mc {t:Dm.FT} {a b:Dm.FN} (h:tDN j (Dm.nIf t a b) D σ H):HQ (tDT t) (tDN j a) (tDN j b) D σ H:=by
 obtain ⟨σs,ρs,H0s,Hs,H0,ρ,rows,ρ',rows',n,e,k⟩:=h
 unfold Dm.nIf at e
 split at e
 ·cases e
 ·rename_i ρ1 e1
  refine ⟨H0,ρ,true,ρ1,n.st,e1,fun H1 Hb t1=>?_⟩
  dsimp only
  rw [if_pos rfl]
  exact ⟨σs,ρs,H0s,Hs,H1,ρ1,rows,ρ',rows',n.est t1,e,fun σ2 H2 Hc n2 s2=>k σ2 H2 Hc n2 (t1.stp.s0.trans s2)⟩
 ·rename_i ρ1 e1
  refine ⟨H0,ρ,false,ρ1,n.st,e1,fun H1 Hb t1=>?_⟩
  dsimp only
  rw [if_neg Bool.false_ne_true]
  exact ⟨σs,ρs,H0s,Hs,H1,ρ1,rows,ρ',rows',n.est t1,e,fun σ2 H2 Hc n2 s2=>k σ2 H2 Hc n2 (t1.stp.s0.trans s2)⟩
theorem Jp {fi:Dm.FI} {bd:Dm.FB} {g:TG} {body:Dm.FN} {is:List Nat} (hb:BD is g bd) (hj:j∉is) (h:tDN j (Dm.u_ fi bd body) D σ H):HX (tDI fi) g (tDN j body) D σ H:=by
 obtain ⟨σs,ρs,H0s,Hs,H0,ρ,rows,ρ',rows',n,e,k⟩:=h
 unfold Dm.u_ at e
 split at e
 ·cases e
 rename_i ys ρ1 e1
 refine ⟨H0,ρ,ys,ρ1,n.st,e1,fun J H00 Hb t1 jw=>?_⟩
 refine ⟨fun i m σ H=>∃ H0 ρ rows,NS j σs ρs H0s Hs σ ρ H0 H rows∧az H00 H0∧m=ys.length-i∧i≤ys.length∧Dm.kc bd body (ys.drop i) ρ rows=some (ρ',rows'),
  ⟨ys.length,H00,ρ1,rows,n.est t1,az.refl _,by simp,Nat.zero_le _,by simpa using e⟩,?_⟩
 rintro i m σ H ⟨H0,ρ,rows,n,s00,rfl,hi,e⟩
 obtain ⟨js,jg⟩:=jw H0 H s00 n.st.same
 by_cases hlt:i<ys.length
 ·have hd:ys[i]?=some ys[i]:=by simp [hlt]
  obtain ⟨g1,g2⟩:=jg i ys[i] hd
  rw [List.drop_eq_getElem_cons hlt] at e
  unfold Dm.kc at e
  refine .inr ⟨g1,fun σ' H'=>∃ H0 ρ rows,NS j σs ρs H0s Hs σ' ρ H0 H' rows∧az H00 H0∧Dm.kc bd body (ys.drop (i+1)) ρ rows=some (ρ',rows'),?_,fun x H' y=>?_⟩
  ·rintro σ' H' ⟨H0',ρ2,r2,h1,h2,h3⟩
   exact ⟨ys.length-(i+1),by lia,H0',ρ2,r2,h1,h2,rfl,hlt,h3⟩
  ·obtain ⟨H0',gr,rx⟩:=g2 x H' y
   split at e
   ·cases e
   ·rename_i ρ2 e2
    have t2:=ESt.grow n.st gr
    have n2:=n.est t2
    refine hb H0' H' σ ρ ρ2 x ys[i] _ t2.st rx e2 fun σ2 st2 o2 k2 _ f2=>?_
    have n3:=n2.bind st2 o2 (k2 j hj) f2
    have s3:az H00 H0':=s00.trans gr.s0
    split at e
    ·cases e
    ·rename_i ρ3 r3 e3
     refine ⟨σs,ρs,H0s,Hs,H0',ρ2,rows,ρ3,r3,n3,e3,fun σ4 H4 Hd n4 s4=>⟨H4,ρ3,r3,n4,s3.trans s4,e⟩⟩
 ·have e':i=ys.length:=by lia
  subst e'
  rw [List.drop_length] at e
  cases e
  exact .inl ⟨js _ (Nat.le_refl _),k σ H0 H n (t1.stp.s0.trans s00)⟩
theorem Jq {K:PySem.W.Frag} {fi f:Dm.FE} (h:tDN j (Dm.u9 fi f) D σ H):rm (tBM K "list" qi (tOp (Il K) (lg j) (tD fi)) (tDA [f])) D σ H:=by
 obtain ⟨σs,ρs,H0s,Hs,H0,ρ,rows,ρ',rows',n,e,k⟩:=h
 unfold Dm.u9 at e
 split at e
 case h_2=>cases e
 rename_i z ρ1 e1
 split at e
 ·cases e
 rename_i m em
 split at e
 ·cases e
 rename_i row er
 split at e
 ·cases e
 rename_i x ρ2 e2
 split at e
 ·cases e
 rename_i d ρ3 e3
 split at e
 case isFalse=>cases e
 rename_i hz
 cases e
 obtain ⟨L,ps0,h1,_⟩:=n.ex
 refine ⟨_,h1,H0,ρ,_,ρ1,n.st,e1,fun y H1 Hb t1 r1=>?_⟩
 have n1:=n.est t1
 obtain ⟨L',ps,q1,q2,q3,q4,q5,q6,q7,q8⟩:=n1.ex
 rw [h1] at q1
 cases q1
 obtain ⟨q,xs,hq,hqx,hqr⟩:=q8.get er
 have hqm:q∈ps:=List.mem_of_getElem? hq
 refine ⟨L,ps.map V.ref,z,V.ref q,rfl,Rep.isInt r1,.inl (.inl q5),?_,.inl ⟨rfl,xs,.inl (.inl hqx)⟩,?_⟩
 ·show (L2.ixN (ps.map V.ref).length z).bind (fun j=>(ps.map V.ref)[j]?)=_
  rw [List.length_map,q8.len,← IK,em]
  show (ps.map V.ref)[m]?=_
  rw [List.getElem?_map,hq]
  rfl
 refine ⟨H1,ρ1,[x],ρ2,n1.st,by unfold Dm.eAs;rw [e2];rfl,fun vs H2 Hc t2 r2=>?_⟩
 cases r2 with
 | cons r rr=>
  cases rr
  obtain ⟨H3,t3,b3,r3,_,_⟩:=take1 t2 (az.refl _) r e3
  have n3:=n1.est t3
  obtain ⟨L',ps',w1,w2,w3,w4,w5,w6,w7,w8⟩:=n3.ex
  rw [h1] at w1
  cases w1
  obtain ⟨k1,_,_⟩:=t3.dH q5 q3 q4
  rw [k1] at w5
  have ep:ps'=ps:=by
   have:ps.map V.ref=ps'.map V.ref:=by injection w5 with z;injection z
   exact ((List.map_inj_right fun a b h=>by injection h).mp this).symm
  subst ep
  obtain ⟨q',ys,hq',hqy,Me⟩:=w8.get er
  rw [hq] at hq'
  cases hq'
  have nL:L≠q:=fun z=>(List.nodup_cons.mp w6).1 (z▸hqm)
  refine ⟨q,ys,_,rfl,rfl,hqy,by rw [Me.length];exact Nat.lt_of_lt_of_le hz (by decide),?_⟩
  obtain ⟨z1,z2,z3⟩:=w7 q hqm
  refine k σ H3 _ ⟨n3.st.aside z2 z3,n3.stp.aside z1,n3.own,n3.fx,L,ps',h1,w2,w3,w4,by rw [aB nL];exact k1,w6,w7,bg.set (Me.append (.cons r3 .nil)) w8 (List.nodup_cons.mp w6).2 hq⟩ (t1.stp.s0.trans t3.stp.s0)
end
theorem A4 {σ:L2.St} {own:Nat} {bd:Dm.FB} {g:TG} {is:List Nat} {Q:VK} {H00 Hb:Hp} {ρ1 ρ2:Dm.Env} {ds:List Dm.Dat} {J:It} (hb:BD is g bd) (hl:∀ i∈is,σ.length≤i)
  (st1:aC H00 Hb σ ρ1) (jw:JW J H00 ds) (hsz:ds.length≤Dm.SZ) (e2:Dm.nMk bd ds (ρ1++List.replicate own .un)=some ρ2) (D:Addr) (hD:Hb D=none)
  (k:∀ H0' H' (ps:List Addr),aC H0' H' σ (ρ2.take ρ1.length)→Stp (ao σ ρ1) H00 Hb H0' H'→(∀ a,ao σ (ρ2.take ρ1.length) a→ao σ ρ1 a)→H' D=some (.lst (ps.map V.ref))→H0' D=none→(D::ps).Nodup→(∀ p∈ps,Hb p=none∧H0' p=none) →
   bg H0' H' ps (List.replicate ds.length [])→Q (.ref D) H') :
  ∃ W:Nat→Nat→L2.St→Hp→Prop,(∃ m,W 0 m (σ++List.replicate own none) (upd Hb D (.lst [])))∧∀ i m σ' H',W i m σ' H' →
  (J.stop i H'∧Q (.ref D) H')∨(J.go i H'∧∀ x H2,J.yld i H' x H2→g x σ' H2 fun σ2 H3=>D8 σ2 H3 fun b H4=>if b=true
   then DM uI σ2 H4 fun y H5=>∃ acc,H5 D=some (.lst acc)∧acc.length<sizeLine∧∃ m',m'<m∧W (i+1) m' σ2 (upd H5 D (.lst (acc++[y])))
   else ∃ m',m'<m∧W (i+1) m' σ2 H4):=by
 have noD:¬ ao σ ρ1 D:=st1.b9 hD
 refine ⟨fun i m σ' H'=>∃ (H0c:Hp) (ρc:Dm.Env) (ps:List Addr),aC H0c H' σ' ρc∧az H00 H0c∧m=ds.length-i∧i≤ds.length∧Dm.nMk bd (ds.drop i) ρc=some ρ2 ∧
  H' D=some (.lst (ps.map V.ref))∧ps.length=i∧H0c D=none∧(D::ps).Nodup∧(∀ p∈ps,Hb p=none∧H0c p=none)∧bg H0c H' ps (List.replicate i [])∧Stp (ao σ ρ1) H00 Hb H0c H'∧(∀ j,j<σ.length→σ'[j]?=σ[j]?)∧(∀ a,ao σ' ρc a→ao σ ρ1 a),
  ⟨ds.length,H00,ρ1++List.replicate own .un,[],(st1.aside (st1.same.free hD) noD).ext own,az.refl _,by simp,Nat.zero_le _,by simpa using e2,ay,rfl,st1.same.free hD,by simp,by simp,trivial,(Stp.refl _ _ _).aside hD,
   fun j hj=>List.getElem?_append_left hj,fun a z=>jK st1 z⟩,?_⟩
 rintro i m σ' H' ⟨H0c,ρc,ps,sc,s00,rfl,hi,ec,hDl,hpl,n0,nd,hps,hro,sp,hσ,ho⟩
 have nOc:¬ ao σ' ρc D:=fun z=>noD (ho D z)
 have nOp:∀ p∈ps,¬ ao σ' ρc p:=fun p hp z=>st1.b9 (hps p hp).1 (ho p z)
 obtain ⟨js,jg⟩:=jw H0c H' s00 sc.same
 by_cases hlt:i<ds.length
 ·have hd:ds[i]?=some ds[i]:=by simp [hlt]
  obtain ⟨g1,g2⟩:=jg i ds[i] hd
  rw [List.drop_eq_getElem_cons hlt] at ec
  unfold Dm.nMk at ec
  refine .inr ⟨g1,fun y H2 yy=>?_⟩
  obtain ⟨H0',gr,rx⟩:=g2 y H2 yy
  split at ec
  ·cases ec
  rename_i ρ3 e3
  have t2:=ESt.grow sc gr
  obtain ⟨hD2,n02,no2⟩:=t2.dH hDl n0 nOc
  refine hb H0' H2 σ' ρc ρ3 y ds[i] _ t2.st rx e3 fun σ3 st3 o3 k3 d3 _=>?_
  unfold D8
  dsimp only
  rw [if_pos rfl]
  refine ⟨Nat.zero_le _,fun p hp=>?_⟩
  have hpD:p≠D:=fun z=>by rw [z,hD2] at hp;cases hp
  have noP:¬ ao σ3 ρ3 p:=st3.b9 hp
  have Mf:∀ q∈ps,q≠p:=fun q hq z=>by
   obtain ⟨o,h1⟩:=hro.some q hq
   have:=gr.s1 q o h1
   rw [z,hp] at this;cases this
  refine ⟨ps.map V.ref,by rw [aB (Ne.symm hpD)];exact hD2,?_,ds.length-(i+1),by lia,H0',ρ3,ps++[p],?_,s00.trans gr.s0,rfl,hlt,ec,?_,by simp [hpl],n02,?_,?_,?_,?_,?_,?_⟩
  ·rw [List.length_map,hpl]
   unfold Dm.SZ at hsz
   exact Nat.lt_of_lt_of_le (Nat.lt_of_lt_of_le hlt hsz) (by decide)
  ·have no3:¬ ao σ3 ρ3 D:=fun z=>no2 (o3 D z)
   exact (st3.aside (st3.same.free hp) noP).aside n02 no3
  ·rw [ay,List.map_append];rfl
  ·rw [← List.cons_append]
   refine List.nodup_append.mpr ⟨nd,by simp,fun a ha b hb=>?_⟩
   rw [List.mem_singleton.mp hb]
   rcases List.mem_cons.mp ha with rfl | ha
   ·exact Ne.symm hpD
   ·exact Mf a ha
  ·intro q hq
   rcases List.mem_append.mp hq with hq | hq
   ·refine ⟨(hps q hq).1,?_⟩
    obtain ⟨o,h1⟩:=hro.some q hq
    exact (t2.dH h1 (hps q hq).2 (nOp q hq)).2.1
   ·rw [List.mem_singleton.mp hq]
    exact ⟨(sp.trans t2.stp fun a z=>.inl (ho a z)).gone hp,st3.same.free hp⟩
  ·have base:bg H0' (upd (upd H2 p (.lst [])) D (.lst (ps.map V.ref++[V.ref p]))) ps (List.replicate i []):=hro.mono gr.s0 fun q hq=>by
    have hqD:q≠D:=fun z=>(List.nodup_cons.mp nd).1 (z▸hq)
    obtain ⟨o,h1⟩:=hro.some q hq
    rw [aB hqD,aB (Mf q hq),gr.s1 q o h1,h1]
   have app:∀ {H0 H:Hp} {ps:List Addr} {rs:List (List Dm.Dat)} {p:Addr},bg H0 H ps rs→H p=some (.lst [])→bg H0 H (ps++[p]) (rs++[[]]):=by
    intro H0 H ps rs p h1 h2
    induction ps generalizing rs with
    | nil=>cases rs with
     | nil=>exact ⟨⟨[],h2,.nil⟩,trivial⟩
     | cons _ _=>exact h1.elim
    | cons q ps ih=>cases rs with
     | nil=>exact h1.elim
     | cons r rs=>exact ⟨h1.1,ih h1.2⟩
   have:=app base (p:=p) (by rw [aB hpD,ay])
   rw [List.replicate_succ']
   exact this
  ·exact ((sp.trans t2.stp fun a z=>.inl (ho a z)).aside ((sp.trans t2.stp fun a z=>.inl (ho a z)).gone hp)).aside hD
  ·exact fun j hj=>(k3 j fun z=>Nat.not_lt.mpr (hl j z) hj).trans (hσ j hj)
  ·exact fun a z=>ho a (o3 a z)
 ·have e':i=ds.length:=by lia
  subst e'
  rw [List.drop_length] at ec
  cases ec
  refine .inl ⟨js _ (Nat.le_refl _),k H0c H' ps ?_ sp ?_ hDl n0 nd hps hro⟩
  all_goals
   have hlen:σ.length≤ρ2.length:=by
    rw [← sc.len]
    refine Nat.not_lt.mp fun z=>?_
    have q:=hσ σ'.length z
    rw [List.getElem?_eq_none (Nat.le_refl _),List.getElem?_eq_getElem z] at q
    cases q
   have tk:∀ {j:Nat} {c:Dm.Cell},(ρ2.take ρ1.length)[j]?=some c→j<σ.length∧ρ2[j]?=some c:=fun {j c} h=>by
    have hj:j<ρ1.length:=by
     have:=(List.getElem?_eq_some_iff.mp h).1
     rw [List.length_take] at this
     lia
    rw [List.getElem?_take_of_lt hj] at h
    exact ⟨by rw [st1.len];exact hj,h⟩
  ·refine ⟨sc.same,?_,fun j d h=>?_,fun j d h=>?_,fun j j' d d' a h1 h2 h3 h4=>?_⟩
   ·rw [List.length_take,← st1.len];lia
   ·obtain ⟨hj,h⟩:=tk h
    obtain ⟨v,q,r⟩:=sc.sh j d h
    exact ⟨v,(hσ j hj).symm.trans q,r⟩
   ·obtain ⟨hj,h⟩:=tk h
    obtain ⟨v,q,r⟩:=sc.ow j d h
    exact ⟨v,(hσ j hj).symm.trans q,r⟩
   ·obtain ⟨hj,h1⟩:=tk h1
    obtain ⟨hj',h2⟩:=tk h2
    exact sc.dis j j' d d' a h1 h2 ((hσ j hj).trans h3) ((hσ j' hj').trans h4)
  ·intro a ⟨j,d,h1,h2⟩
   obtain ⟨hj,h1⟩:=tk h1
   exact ho a ⟨j,d,h1,(hσ j hj).trans h2⟩
theorem pF {j own:Nat} {fi:Dm.FI} {bd:Dm.FB} {loop:Dm.FN} {ρ:Dm.Env} {z:Dm.Out} (q:Dm.mq j fi own bd loop ρ=some z):∃ ds ρ1 ρ2 ρ3 r3,j≠0∧fi ρ=some (ds,ρ1)∧ds.length≤Dm.SZ∧Dm.nMk bd ds (ρ1++List.replicate own .un)=some ρ2 ∧
  loop ((ρ2.take ρ1.length).set j .un) (List.replicate ds.length [])=some (ρ3,r3)∧z=.nx (ρ3.set j (.ow (.lst (r3.map .lst)))):=by
 unfold Dm.mq at q
 split at q
 ·cases q
 rename_i hj0
 split at q
 ·cases q
 rename_i ds ρ1 e1
 split at q
 case isFalse=>cases q
 rename_i hsz
 split at q
 ·cases q
 rename_i ρ2 e2
 split at q
 ·cases q
 rename_i ρ3 r3 e3
 cases q
 exact ⟨ds,ρ1,ρ2,ρ3,r3,hj0,e1,hsz,e2,e3,rfl⟩
theorem Ew {s u:Dm.FS} {ρ:Dm.Env} {o:Dm.Out} (hs:∀ z,s ρ=some z→∃ ρ',z=.nx ρ') (e:Dm.aq s u ρ=some o):∃ ρ1,s ρ=some (.nx ρ1)∧u ρ1=some o:=by
 cases q:s ρ with
 | none=>unfold Dm.aq at e;rw [q] at e;cases e
 | some z=>
  obtain ⟨ρ1,rfl⟩:=hs z q
  unfold Dm.aq at e
  rw [q] at e
  exact ⟨ρ1,rfl,e⟩
theorem Jr {σ:L2.St} {H:Hp} {D:Ends} {j own:Nat} {fi:Dm.FI} {bd:Dm.FB} {g:TG} {is:List Nat} {loop:Dm.FN} {gs:Dm.FS} (hb:BD is g bd) (hl:∀ i∈is,σ.length≤i) (hj:j<σ.length) (h:tDS (Dm.aq (Dm.mq j fi own bd loop) gs) D σ H) :
  yt (uE (tLC (tDI fi) own g D8 (DM uI)) (i_ j)) (yt (tDN j loop) (tDS gs)) D σ H:=by
 obtain ⟨H0,ρ,o,st,e,k⟩:=h
 obtain ⟨ρ9,e9,e⟩:=Ew (fun z q=>by obtain ⟨_,_,_,_,_,_,_,_,_,_,z⟩:=pF q;exact ⟨_,z⟩) e
 obtain ⟨ds,ρ1,ρ2,ρ3,r3,hj0,e1,hsz,e2,e3,z9⟩:=pF e9
 cases z9
 refine ⟨H0,ρ,ds,ρ1,st,e1,fun J H00 Hb t1 jw L hL=>A4 (Q:=fun x H1=>i_ j x σ H1 (yt (tDN j loop) (tDS gs) D)) hb hl t1.st jw hsz e2 L hL fun H0' H' ps st' sp' ho' hDl n0 nd hps hro=>?_⟩
 have nL:¬ ao σ ρ1 L:=t1.st.b9 hL
 have om:∀ a,ao (σ.set j (some (.ref L))) ((ρ2.take ρ1.length).set j .un) a→ao σ (ρ2.take ρ1.length) a:=fun a ⟨i,d,h1,h2⟩=>by
  rcases aT h1 with ⟨_,z⟩ | ⟨hij,h1⟩
  ·cases z
  ·rw [List.getElem?_set_ne (Ne.symm hij)] at h2
   exact ⟨i,d,h1,h2⟩
 have st2:aC H0' H' (σ.set j (some (.ref L))) ((ρ2.take ρ1.length).set j .un):={
  same:=st'.same
  len:=by rw [List.length_set,List.length_set];exact st'.len
  sh:=fun i d h=>by
   rcases aT h with ⟨_,z⟩ | ⟨hij,h⟩
   ·cases z
   ·obtain ⟨v,q,r⟩:=st'.sh i d h
    exact ⟨v,by rw [List.getElem?_set_ne (Ne.symm hij)];exact q,r⟩
  ow:=fun i d h=>by
   rcases aT h with ⟨_,z⟩ | ⟨hij,h⟩
   ·cases z
   ·obtain ⟨v,q,r⟩:=st'.ow i d h
    exact ⟨v,by rw [List.getElem?_set_ne (Ne.symm hij)];exact q,r⟩
  dis:=fun i i' d d' a h1 h2 h3 h4=>by
   rcases aT h1 with ⟨_,z⟩ | ⟨q1,h1⟩
   ·cases z
   rcases aT h2 with ⟨_,z⟩ | ⟨q2,h2⟩
   ·cases z
   rw [List.getElem?_set_ne (Ne.symm q1)] at h3
   rw [List.getElem?_set_ne (Ne.symm q2)] at h4
   exact st'.dis i i' d d' a h1 h2 h3 h4 }
 have sp:Stp (ao σ ρ) H0 H H0' H':=t1.stp.trans sp' fun a z=>.inl (t1.own a z)
 have n:NS j σ ρ H0 H (σ.set j (some (.ref L))) ((ρ2.take ρ1.length).set j .un) H0' H' (List.replicate ds.length []):=
  ⟨st2,sp,fun a z=>.inl (t1.own a (ho' a (om a z))),List.getElem?_set_ne hj0,L,ps,List.getElem?_set_self hj,t1.stp.gone hL,n0,fun z=>nL (ho' L (om L z)),hDl,nd,fun p hp=>⟨t1.stp.gone (hps p hp).1,(hps p hp).2,fun z=>t1.st.b9 (hps p hp).1 (ho' p (om p z))⟩,hro⟩
 refine ⟨σ,ρ,H0,H,H0',_,_,ρ3,r3,n,e3,fun σ4 H4 Hd n4 _=>?_⟩
 obtain ⟨H5,t5⟩:=n4.done
 exact ⟨H5,_,o,t5.st,e,k.pre t5⟩
noncomputable abbrev DN (X:Cx) (j:Nat) (st:Stmt) (f:Dm.FN):Prop:=PS X st (tDN j f)
noncomputable abbrev DNs (X:Cx) (j:Nat) (st:List Stmt) (f:Dm.FN):Prop:=PSs X st (tDN j f)
section
variable {X:Cx} {st:Stmt} {rest:List Stmt} {fs gs:Dm.FN} {e c:Expr} {f:Dm.FE} {pos:Pos} {j:Nat}
theorem Mg:DNs X j [] Dm.nNx:=PSs.weak wg fun _ _ _=>Mb
theorem Js (h1:DN X j st fs) (h2:DNs X j rest gs):DNs X j (st::rest) (Dm.zb fs gs):=PSs.weak (i9 h1 h2) fun _ _ _=>Jo
theorem Gy (h1:DN X j st fs):DNs X j [st] fs:=wj h1
theorem N8 {t:Dm.FT} {x y:List Stmt} (ht:DT X c t) (ha:DNs X j x fs) (hb:DNs X j y gs):DN X j (.If c x y pos) (Dm.nIf t fs gs):=PS.weak (F9 ht ha hb) fun _ _ _=>Mc
theorem Mh {tg it:Expr} {fi:Dm.FI} {is:List Nat} {bd:Dm.FB} {body:List Stmt} (hp:PassesOwn (model X.prog X.w) X.A X.env X.xe) (hc:X.calm=true) (hi:DI X tg it fi) (hg:TG' X tg is bd) (hb:DNs X j body fs) (hj:decide (j∈is)=false:=by rfl)
  (hs:∀ x,foldedSetIterable it X.env x=pure x:=by intro _;rfl):DN X j (.For tg it body [] pos) (Dm.u_ fi bd fs):=by
 obtain ⟨g,h1,h2⟩:=hg.ex
 exact PS.weak (zR hp hc hi h1 hb hs) fun _ _ _=>Jp h2 (of_decide_eq_false hj)
theorem Gz {x:Str} {i:Expr} {fi:Dm.FE} {px sp ap cp:Pos} (hi':DE X i fi) (he:DE X e f) (hi:X.N[j]?=some x:=by rfl) (hv:Vis X.env.scope x:=by first | exact Or.inl rfl | exact Or.inr (Or.inl rfl) | exact Or.inr (Or.inr rfl)) (hd:(x == ("__debug__" : Str))=false:=by decide)
  (hcd:(x == ("__classdict__" : Str))=false:=by decide) (hpl:qe i:=by intro _ _;rfl) (hbase:attributeBase (.Subscript (.Name x px) i sp) "append" X.env (eval (.Subscript (.Name x px) i sp) X.env)=eval (.Subscript (.Name x px) i sp) X.env:=by rfl)
  (hfew:((backTo cp (starEach [e] X.env)).all (fun x=>!x.1)&&(backToKw cp (keywordEach [] X.env)).all (fun x=>x.1.isSome)
   && decide ([e].length+([]:List Keyword).length+(if ([]:List Keyword).isEmpty then 0 else 1)<30))=true:=by rfl)
  (hline:(ap.endLine == cp.line)=true:=by rfl) (hs:starEach [e] X.env=(false,eval e X.env)::starEach [] X.env:=by rfl) (hplain:(backTo cp (starEach [] X.env)).any (·.1)=false:=by rfl)
  (hsw:swapsWith (.Call (.Attribute (.Subscript (.Name x px) i sp) "append" ap) [e] [] cp) none pos.line X.env=pure false:=by rfl) :
  DN X j (.Expr (.Call (.Attribute (.Subscript (.Name x px) i sp) "append" ap) [e] [] cp) pos) (Dm.u9 fi f):=
 PS.weak (kM (wD PySem.F.plainAttrs_list PySem.F.slot_list_append PySem.F.type_list_append jE (Gh wC (eX hi hv hd hcd) hi' hpl) (aa he af hs) hbase hfew hline hs hplain) hsw) fun _ _ _=>Jq
theorem Jt (j:Nat) (nm own:List Str) {y:Str} {py spos Ju:Pos} {tg iter:Expr} {scope:Scope} {is:List Nat} {bd:Dm.FB} {fi:Dm.FI} {loop:Dm.FN} {gs:Dm.FS} {lst:Stmt} (hN:X.N.Nodup) (hg:TGc X nm scope own tg is bd) (hi:DI X tg iter fi) (hlp:DN X j lst loop) (hre:DSs X rest gs)
  (hc:X.calm=true:=by rfl) (hk:scope.kind=.function:=by rfl) (hS:lZ X.env.scope X.N nm scope=true:=by rfl) (hl:(is.all fun i=>decide (X.N.length≤i))=true:=by rfl) (hj:X.N[j]?=some y:=by rfl) (hy:Loc X.env.scope y:=by first | exact Or.inl rfl | exact Or.inr rfl)
  (hsw:swapsWith (.ListComp (.List [] Ju) [⟨tg,iter,[],0⟩] scope pos) (some (.Name y py)) spos.line X.env=pure true:=by rfl) (hs:∀ y,foldedSetIterable iter X.env y=pure y:=by intro _;rfl)
  (hf:X.fn y=true∨X.env.scope.names.lookup y=some .local:=by first | exact .inl rfl | exact .inr rfl | assumption) :
  DSs X (.Assign [.Name y py] (.ListComp (.List [] Ju) [⟨tg,iter,[],0⟩] scope pos) spos::lst::rest) (Dm.aq (Dm.mq j fi own.length bd loop) gs):=by
 obtain ⟨g,h1,h2⟩:=hg.ex
 have h:=i9 (fT hN hj hy hc (dg.of hS hk) hi h1 (fun cl C s H fp=>wL) (fun cl C s H fp=>zY (pos:=Ju) lD) hsw hs hf) (i9 hlp hre)
 intro pins s σ H D I q
 exact h pins s σ H D I (Jr h2 (fun i hi=>by rw [I.len];exact rP hl i hi) (by rw [I.len];exact (List.getElem?_eq_some_iff.mp hj).1) q)
end
theorem xm {H0:Hp} (i:Int):∀ {kvs:List (Key×V)} {ks:List Int} {ds:List Dm.Dat},kvs.map (·.1)=ks.map Sum.inl→aF H0 (kvs.map (·.2)) ds →
  (j4 kvs (Sum.inl i)).map (·.1)=(Dm.fk ks ds i).map Sum.inl∧aF H0 ((j4 kvs (Sum.inl i)).map (·.2)) (Dm.fm ks ds i)
 | [],[],ds,_,r=>by
  cases r
  exact ⟨rfl,.nil⟩
 | [],_::_,_,e,_=>by cases e
 | _::_,[],_,e,_=>by cases e
 | (k,v)::kvs,k'::ks,ds,e,r=>by
  rw [List.map_cons,List.map_cons] at e
  injection e with e1 e2
  cases r with
  | cons h t=>
   obtain ⟨i1,i2⟩:=xm i e2 t
   unfold j4 at i1 i2 ⊢
   dsimp only at e1
   subst e1
   by_cases q:k'=i
   ·subst q
    rw [List.filter_cons_of_neg (by simp),Dm.fk,if_pos rfl,Dm.fm,if_pos rfl]
    exact ⟨i1,i2⟩
   ·have q':¬ (Sum.inl k':Key)=Sum.inl i:=qA q
    rw [List.filter_cons_of_pos (by simpa using q'),Dm.fk,if_neg q,Dm.fm,if_neg q]
    exact ⟨by rw [List.map_cons,List.map_cons,i1],by rw [List.map_cons];exact .cons h i2⟩
section
variable {σ:L2.St} {H:Hp} {Q:VK}
theorem Jv {i:Nat} {f:Dm.FE} (h:tD (Dm.mw i f) σ H Q):Ag (lg i) (tD f) σ H Q:=by
 obtain ⟨H0,ρ,x,ρ',st,e,k⟩:=h
 unfold Dm.mw at e
 split at e
 case h_2=>cases e
 rename_i ks0 vs0 h0
 split at e
 case h_2=>cases e
 rename_i m ρ1 e1
 split at e
 case h_2=>cases e
 rename_i ks vs h1
 split at e
 case h_2=>cases e
 rename_i d hl
 cases e
 obtain ⟨a0,q0,n0,Jj,y0,_⟩:=st.ow i _ h0
 refine ⟨_,q0,a0,rfl,.inl ⟨Jj,.inl y0⟩,H0,ρ,_,ρ1,st,e1,fun u H1 Hb t1 r1=>?_⟩
 have hu:=Rep.isInt r1
 subst hu
 obtain ⟨a,q,n,w⟩:=t1.st.ow i _ h1
 rw [q0] at q
 cases q
 obtain ⟨kvs,y,ek,rs⟩:=w
 rcases gq m ek rs with ⟨d',v,l1,l2,r⟩ | ⟨l1,_⟩
 ·rw [hl] at l1
  cases l1
  obtain ⟨p1,p2⟩:=xm m ek rs
  have ow:ao σ ρ1 a0:=⟨i,_,h1,q0⟩
  have hil:i<ρ1.length:=(List.getElem?_eq_some_iff.mp h1).1
  refine ⟨kvs,Sum.inl m,v,y,rfl,l2,k v H1 _ ⟨t1.st.write h1 q0 ⟨_,ay,p1,p2⟩,t1.stp.trans (Stp.write ow) fun b z=>.inl (t1.own b z),fun b z=>t1.own b (cE h1 z),fun j z=>trivial⟩ r⟩
 ·rw [hl] at l1;cases l1
end
theorem vd {X:Cx}:cY X (.type "dict") (fun xs H Q=>∃ a kvs,xs=[.ref a]∧H a=some (.dK kvs)∧∀ p,H p=none→Q (.ref p) (upd H p (.dK kvs))):=by
 intro pins s σ H xs us Q I r h
 obtain ⟨a,kvs,rfl,ha,k⟩:=h
 obtain ⟨u,rfl,rx⟩:=vals1 r
 cases rx
 exact Aj I (.inl ha) fun p s' hp I'=>⟨.ref p,_,I',rfl,k p hp⟩
theorem Ex:CallD (fun xs H Q=>∃ a kvs,xs=[.ref a]∧H a=some (.dK kvs)∧∀ p,H p=none→Q (.ref p) (upd H p (.dK kvs))) Dm.rT:=by
 intro H0 H vs ds z Q s rs e k
 unfold Dm.rT at e
 split at e
 ·cases e
  cases rs with
  | cons r rr=>
   cases rr
   obtain ⟨a,kvs,rfl,ha,ek,rs⟩:=dI s r
   refine ⟨a,kvs,rfl,ha,fun p hp=>k _ _ _ (aQ.lN s hp) ⟨p,rfl,hp,s.free hp,kvs,ay,ek,rs⟩⟩
 ·cases e
theorem mz:∀ (its:List Value) (ns:List Int),its.length=ns.length→(∀ (i:Nat) (v:Value),its[i]?=some v→∃ n,ns[i]?=some n∧∃ t,v=Value.int n t)→IntsAre its ns
 | [],[],_,_=>.nil
 | [],_::_,h,_=>by cases h
 | _::_,[],h,_=>by cases h
 | v::its,n::ns,h,k=>by
  obtain ⟨m,h1,t,h2⟩:=k 0 v rfl
  simp at h1
  subst h1
  subst h2
  exact .cons n t (mz its ns (by simpa using h) fun i v e=>by
   obtain ⟨m,q1,q2⟩:=k (i+1) v (by simpa using e)
   exact ⟨m,by simpa using q1,q2⟩)
theorem xo:∀ {kvs:List (Key×V)} {vs:List (Key×Value)},KV kvs vs→vs.map (·.1)=kvs.map (·.1)
 | _,_,.nil=>rfl
 | _,_,.cons h t=>by rw [List.map_cons,List.map_cons,xo t,h.1]
theorem eL:∀ {its:List Value} {ns:List Int},IntsAre its ns→Vals (ns.map V.int) its
 | _,_,.nil=>.nil
 | _,_,.cons n t h=>.cons ⟨t,rfl⟩ (eL h)
noncomputable def A5:List V→Hp→VK→Prop:=fun xs H Q=>∃ (p:Addr) (kvs:List (Key×V)) (ns:List Int),xs=[.ref p]∧H p=some (.dK kvs)∧kvs.map (·.1)=ns.map Sum.inl∧ns.length≤63 ∧
 ∀ (ms:List Int) (l:Addr),ms.Perm ns→ms.Pairwise (·≤·)→H l=none→Q (.ref l) (upd H l (.lst (ms.map V.int)))
theorem ve {X:Cx} (hc:X.calm=true):cY X (.builtin "sorted") A5:=by
 intro pins s σ H xs us Q I r h
 obtain ⟨p,kvs,ns,rfl,hq,ek,hl,k⟩:=h
 obtain ⟨u,rfl,rx⟩:=vals1 r
 cases rx
 obtain ⟨z,hd,vs,rel,dd⟩:=wH I.hok hq
 obtain ⟨ep,hat⟩:=dd.dictAt
 have hlen:vs.length=ns.length:=by
  rw [← rel.length]
  have:=congrArg List.length ek
  simpa using this
 have hns:vs.length≤sizeLine:=by rw [← rel.length];exact z
 refine Calls.call_function_entry kind_sorted plain_sorted entry_sorted (args_sorted1 _) ?_
 unfold Builtin.«sorted»
 refine wpAny_bind (m:=checkCount "sorted" 1 1 _) (wpAny_pure ?_)
 refine wpAny_bind (PySem.W.kdu_collect (A:=X.A.in1) (PySem.W.kdl_dict (knd:=a_ X.prog X.w) (kvs:=vs) (ep:=ep) hd) (I.ok.hd hc) hat hns fun h' tk acc hk hacc=>?_)
 have hsz:acc.toList.length=ns.length:=by rw [Array.length_toList,hacc.1,hlen]
 have hI:IntsAre acc.toList ns:=mz _ _ hsz fun i v e=>by
  obtain ⟨ky,x,h1,h2⟩:=hacc.2 i v (by rw [← Array.getElem?_toList];exact e)
  have hk1:(vs.map (·.1))[i]?=some ky:=by rw [List.getElem?_map,h1];rfl
  rw [xo rel,ek,List.getElem?_map] at hk1
  cases q:ns[i]? with
  | none=>rw [q] at hk1;cases hk1
  | some n=>
   rw [q] at hk1
   cases hk1
   exact ⟨n,rfl,(Value.isInt_shape (k:=n) (v:=v) h2)⟩
 have hn:acc.toList.length≤63:=by rw [hsz];exact hl
 refine wpAny_bind (wpAny_newList ?_ (Nat.le_trans hn (by decide)))
 have hL0:(h'.push (seqObj "list" acc.toList.toArray 0)).get? h'.objs.size=some (seqObj "list" acc.toList.toArray 0):=Heap.get?_push_size _ rfl
 have I1:=I.kept (t':=tk) hk
 refine wpAny_bind (wpAny_holding (wpAny_call_entry (s:={ s with heap:=h'.push (seqObj "list" acc.toList.toArray 0),toks:=tk }) slot_list_sort ⟨_,hL0,rfl⟩ entry_list_sort (list_sort_tree hL0 hI (by lia) fun out ms a1 a2 a3=>⟨_,rfl,?_⟩) (args_list_sort _)))
 obtain ⟨c,hc'⟩:=sortedHeap_at (out:=out) hL0
 have hz2:(ms.map V.int).length≤sizeLine:=by rw [List.length_map,a2.length_eq];exact Nat.le_trans hl (by decide)
 refine wpAny_pure ⟨_,rfl,.ref h'.objs.size,_,I1.laid (t':=tk) (fun b o e=>?_) (Nat.le_refl _) (show bx X.prog X.w _ _ _ (.lst (ms.map V.int)) from ⟨hz2,out.toList,c,eL a1,by simpa using hc'⟩),rfl,k ms _ a2 a3 (I1.hok.fresh (Nat.le_refl _))⟩
 have lt:=Heap.lt_size e
 rw [sortedHeap_old (Nat.ne_of_lt lt) (by rw [size_push'];exact Nat.lt_succ_of_lt lt)]
 exact Heap.get?_push_of_some _ e
theorem A6:CallD A5 Dm.jP:=by
 intro H0 H vs ds z Q s rs e k
 unfold Dm.jP at e
 split at e
 ·rename_i ks vs'
  split at e
  case isFalse=>cases e
  rename_i hl
  cases e
  cases rs with
  | cons r rr=>
   cases rr
   obtain ⟨a,kvs,rfl,ha,ek,rs⟩:=dI s r
   refine ⟨a,kvs,ks,rfl,ha,ek,hl,fun ms l pm so hp=>?_⟩
   have em:ms=Dm.fF (fun a b=>decide (a<b)) ks:=Dm.j_ (lt:=fun a b=>decide (a<b)) (fun a b h1 h2=>by simp at h1 h2;lia) (pm.trans (Dm.ff _ ks).symm) (so.imp fun {a b} h=>by simp;lia)
    (Dm.fh (fun a b c h1 h2=>by simp at *;lia) (fun a b h=>by simp at *;lia) ks)
   exact k _ _ _ (aQ.lN s hp) ⟨l,rfl,hp,s.free hp,_,ay,by rw [← em];exact pD ms⟩
 ·cases e
theorem Jw {ρ ρ':Dm.Env} {x:Dm.Val} {d:Dm.Dat} (e:Dm.tkd ρ x=some (d,ρ')):Dm.tk ρ x=some (d,ρ')∨∃ i ks vs,x=.slot i∧ρ[i]?=some (.ow (.dct ks vs))∧d=.dct ks vs∧ρ'=ρ:=by
 cases x with
 | val d'=>exact .inl e
 | new d'=>exact .inl e
 | slot i=>
  unfold Dm.tkd at e
  dsimp only at e
  split at e
  ·rename_i ks vs h
   cases e
   exact .inr ⟨i,ks,vs,rfl,h,rfl,rfl⟩
  ·rename_i d' _ h
   left
   unfold Dm.tk
   dsimp only
   rw [h]
   exact e
  ·rename_i d' h
   left
   unfold Dm.tk
   dsimp only
   rw [h]
   exact e
  ·cases e
theorem A7 {ρ ρ':Dm.Env} {x:Dm.Val} {d:Dm.Dat} {i:Nat} {ks:List Int} {vs:List Dm.Dat} (e:Dm.tkd ρ x=some (d,ρ')) (h:ρ[i]?=some (.ow (.dct ks vs))):ρ'[i]?=some (.ow (.dct ks vs)):=by
 cases x with
 | val d'=>cases e;exact h
 | new d'=>cases e;exact h
 | slot j=>
  unfold Dm.tkd at e
  dsimp only at e
  split at e
  ·cases e;exact h
  ·rename_i d' hn hj
   cases e
   by_cases q:j=i
   ·subst q
    rw [h] at hj
    cases hj
    exact absurd rfl (hn ks vs)
   ·rw [List.getElem?_set_ne q];exact h
  ·cases e;exact h
  ·cases e
theorem pG {i:Nat} {ks:List Int} {vs:List Dm.Dat}:∀ {xs:List Dm.Val} {ρ ρ':Dm.Env} {ds:List Dm.Dat},Dm.vc ρ xs=some (ds,ρ')→ρ[i]?=some (.ow (.dct ks vs))→ρ'[i]?=some (.ow (.dct ks vs))
 | [],_,_,_,e,h=>by cases e;exact h
 | x::xs,ρ,ρ',ds,e,h=>by
  unfold Dm.vc at e
  split at e
  ·cases e
  rename_i d ρ1 e1
  split at e
  ·cases e
  rename_i ds' ρ2 e2
  cases e
  exact pG e2 (A7 e1 h)
noncomputable def N9 (H0:Hp) (σ:L2.St) (ρ:Dm.Env) (v:V) (d:Dm.Dat):Prop:=Rep H0 v d∨∃ (i:Nat) (b:Addr) (ks:List Int) (vs:List Dm.Dat),d=.dct ks vs∧v=.ref b∧ρ[i]?=some (.ow (.dct ks vs))∧σ[i]?=some (some (.ref b))
inductive rW (H0:Hp) (σ:L2.St) (ρ:Dm.Env):List V→List Dm.Dat→Prop
 | nil:rW H0 σ ρ [] []
 | cons {v:V} {d:Dm.Dat} {vs:List V} {ds:List Dm.Dat}:N9 H0 σ ρ v d→rW H0 σ ρ vs ds→rW H0 σ ρ (v::vs) (d::ds)
theorem vf {Hs H0s H0 H:Hp} {σ:L2.St} {ρs:Dm.Env}:∀ {xs:List Dm.Val} {vs:List V} {ρ ρ':Dm.Env} {ds:List Dm.Dat} {H0c:Hp},ESt σ ρs H0s Hs ρ H0c H→az H0 H0c→bY Hs H0 H σ ρ vs xs→Dm.vc ρ xs=some (ds,ρ') →
  ∃ lO,ESt σ ρs H0s Hs ρ' lO H∧az H0c lO∧rW lO σ ρ' vs ds
 | [],_,ρ,ρ',ds,H0c,t,b,r,e=>by
  cases r
  cases e
  exact ⟨H0c,t,az.refl _,.nil⟩
 | x::xs,_,ρ,ρ',ds,H0c,t,b,r,e=>by
  cases r with
  | cons h r=>
   unfold Dm.vc at e
   split at e
   ·cases e
   ·rename_i d ρ1 e1
    split at e
    ·cases e
    ·rename_i ds' ρ2 e2
     cases e
     rcases Jw e1 with e1' | ⟨i,ks,vs,rfl,hi,rfl,rfl⟩
     ·obtain ⟨H1,t1,b1,r1,o1,d1⟩:=take1 t b h e1'
      obtain ⟨H2,t2,b2,r2⟩:=vf t1 (b.trans b1) (r.rho o1 d1) e2
      exact ⟨H2,t2,b1.trans b2,.cons (.inl (r1.mono b2)) r2⟩
     ·obtain ⟨H2,t2,b2,r2⟩:=vf t b r e2
      obtain ⟨q,_⟩:=h
      obtain ⟨a,z,_⟩:=t.st.ow i _ hi
      rw [q] at z
      cases z
      exact ⟨H2,t2,b2,.cons (.inr ⟨i,a,ks,vs,rfl,rfl,pG e2 hi,q⟩) r2⟩
mutual
theorem Rep.noD {H H':Hp} (hk:∀ a o,H a=some o→H' a=some o∨∃ kvs,o=.dK kvs):∀ {v:V} {d:Dm.Dat},Rep H v d→Dm.bV d=true→Rep H' v d
 | _,_,.non,_=>.non
 | _,_,.bl b,_=>.bl b
 | _,_,.int i,_=>.int i
 | _,_,.str x,_=>.str x
 | _,_,.tup h r,n=>.tup (by
   rcases hk _ _ h with z | ⟨_,z⟩
   ·exact z
   ·cases z) (aF.noD hk r (by unfold Dm.bV at n;exact n))
 | _,_,.lst h r,n=>.lst (by
   rcases h with h | ⟨o,h⟩
   ·rcases hk _ _ h with z | ⟨_,z⟩
    ·exact .inl z
    ·cases z
   ·rcases hk _ _ h with z | ⟨_,z⟩
    ·exact .inr ⟨o,z⟩
    ·cases z) (aF.noD hk r (by unfold Dm.bV at n;exact n))
 | _,_,.dct _ _ _,n=>by unfold Dm.bV at n;cases n
 | _,_,.dcp _ _ _,n=>by unfold Dm.bV at n;cases n
 | _,_,.exc _,n=>by unfold Dm.bV at n;cases n
 | _,_,.fn a,_=>.fn a
theorem aF.noD {H H':Hp} (hk:∀ a o,H a=some o→H' a=some o∨∃ kvs,o=.dK kvs):∀ {vs:List V} {ds:List Dm.Dat},aF H vs ds→Dm.fZ ds=true→aF H' vs ds
 | _,_,.nil,_=>.nil
 | _,_,.cons h r,n=>by
  unfold Dm.fZ at n
  rw [Bool.and_eq_true] at n
  exact .cons (Rep.noD hk h n.1) (aF.noD hk r n.2)
end
open Classical in
theorem A8 {σ:L2.St} {H:Hp} {Q:VK} {f:List Dm.Dat→Option Dm.RV} {fs:List Dm.FE} {E:XK} (h:tD (Dm.eFd f fs) σ H Q):oU (spD f) [] E (tDA fs) σ H Q:=by
 obtain ⟨H0,ρ,x,ρ',st,e,k⟩:=h
 unfold Dm.eFd at e
 split at e
 ·cases e
 rename_i xs ρ1 e1
 split at e
 ·cases e
 rename_i ds ρ2 e2
 split at e
 ·cases e
 rename_i z fz
 split at e
 case isFalse=>cases e
 rename_i hno
 injection e with e
 injection e with ea eb
 subst ea
 subst eb
 refine ⟨H0,ρ,xs,ρ1,st,e1,fun vs H1 Hb t1 r1=>?_⟩
 dsimp only
 rw [List.append_nil]
 obtain ⟨H2,t2,b2,r2⟩:=vf t1 (az.refl _) r1 e2
 let B:Addr→Prop:=fun b=>∃ (i:Nat) (ks:List Int) (vs:List Dm.Dat),ρ2[i]?=some (.ow (.dct ks vs))∧σ[i]?=some (some (.ref b))
 have hB:∀ b,B b→H2 b=none∧∃ kvs,Hb b=some (.dK kvs):=fun b ⟨i,ks,vs,h1,h2⟩=>by
  obtain ⟨a,q,n,kvs,w,_⟩:=t2.st.ow i _ h1
  rw [h2] at q
  cases q
  exact ⟨n,kvs,w⟩
 let H2':Hp:=fun b=>if B b then Hb b else H2 b
 have in':∀ b,B b→H2' b=Hb b:=fun b h=>if_pos h
 have out':∀ b,¬ B b→H2' b=H2 b:=fun b h=>if_neg h
 have s2:az H2 H2':=fun b o e=>by
  by_cases q:B b
  ·rw [(hB b q).1] at e;cases e
  ·rw [out' b q];exact e
 have s2b:az H2' Hb:=fun b o e=>by
  by_cases q:B b
  ·rw [in' b q] at e;exact e
  ·rw [out' b q] at e;exact t2.st.same _ _ e
 have rr:∀ {vs:List V} {ds:List Dm.Dat},rW H2 σ ρ2 vs ds→aF H2' vs ds:=fun {vs ds} r=>by
  induction r with
  | nil=>exact .nil
  | cons h _ ih=>
   refine .cons ?_ ih
   rcases h with h | ⟨i,b,ks,vs',rfl,rfl,h1,h2⟩
   ·exact h.mono s2
   ·obtain ⟨a,q,n,kvs,w,ek,rs⟩:=t2.st.ow i _ h1
    rw [h2] at q
    cases q
    exact .dct (by rw [in' _ ⟨i,ks,vs',h1,h2⟩];exact w) ek (rs.mono s2)
 refine ⟨H2',ds,z,s2b,rr r2,fz,fun w H3 Hd g3 r3=>?_⟩
 let H3':Hp:=fun b=>if B b then none else H3 b
 have in3:∀ b,B b→H3' b=none:=fun b h=>if_pos h
 have A9:∀ b,¬ B b→H3' b=H3 b:=fun b h=>if_neg h
 have gr:aQ H2 Hb H3' Hd:=⟨fun b o e=>by
   by_cases q:B b
   ·rw [(hB b q).1] at e;cases e
   ·rw [A9 b q];exact g3.s0 _ _ (s2 _ _ e),g3.s1,fun b o e=>by
   by_cases q:B b
   ·rw [in3 b q] at e;cases e
   ·rw [A9 b q] at e
    rcases g3.s2 b o e with y | y
    ·exact .inl y
    ·rw [out' b q] at y;exact .inr y,fun b o e=>by
   by_cases q:B b
   ·rw [in3 b q] at e;cases e
   ·rw [A9 b q] at e;exact g3.s3 _ _ e⟩
 have hk:∀ a o,H3 a=some o→H3' a=some o∨∃ kvs,o=.dK kvs:=fun a o e=>by
  by_cases q:B a
  ·obtain ⟨_,kvs,y⟩:=hB a q
   have:=g3.s0 a _ ((in' a q).trans y)
   rw [e] at this
   exact .inr ⟨kvs,Option.some.inj this⟩
  ·exact .inl (by rw [A9 a q];exact e)
 have r3':uQ Hb H3' Hd w z:=by
  cases z with
  | val d=>exact Rep.noD hk r3 hno
  | new d=>
   obtain ⟨a,ea,n,n0,w'⟩:=r3
   refine ⟨a,ea,n,?_,?_⟩
   ·by_cases q:B a
    ·exact in3 a q
    ·rw [A9 a q];exact n0
   ·cases d with
    | lst ds'=>obtain ⟨ys,y1,y2⟩:=w';exact ⟨ys,y1,aF.noD hk y2 (by have:Dm.bV (.lst ds')=true:=hno;unfold Dm.bV at this;exact this)⟩
    | dct ks ds'=>have:Dm.bV (.dct ks ds')=true:=hno;unfold Dm.bV at this;cases this
    | dcp ks ds'=>have:Dm.bV (.dcp ks ds')=true:=hno;unfold Dm.bV at this;cases this
    | _=>exact w'.elim
 exact k w H3' Hd (t2.trans (.grow t2.st gr)) ((r3'.toV t2.st).early fun a n=>t2.stp.gone n)
section
variable {X:Cx} {e b:Expr} {es:List Expr} {fs:List Dm.FE} {fb:Dm.FE} {p pos:Pos}
theorem mC {k:Nat} {F:Addr} {fd:FuncData} {ps:List Str} {g:List Dm.Dat→Option Dm.RV} {x:Str} (G:aX X.prog X.w X.K X.mg X.base CX0 k F fd ps (spD g)) (hr:bQ k X.A) (hg:Gl X x) (hm:X.mg x=some (.ref F)) (hk:PySem.W.keepIn X.K (.ref F)=true) (hb:Binds X.K fd ps [])
  (ha:DA X (e::es) fs) (hdb:(x == ("__debug__" : Str))=false:=by decide) (he:starEach (e::es) X.env=(false,eval e X.env)::starEach es X.env:=by rfl) (hpl:(backTo pos (starEach es X.env)).any (·.1)=false:=by rfl) :
  DE X (.Call (.Name x p) (e::es) [] pos) (Dm.eFd g fs):=PE.weak (p9 G hr hg hm hk hb .nil (wG (X:=X)) ha hdb he hpl) fun _ _ _=>A8
theorem Jx (hg:Gl X "dict") (hm:X.mg "dict" = none) (ha:DA X [e] fs) (he:starEach [e] X.env=[(false,eval e X.env)]:=by rfl) (hpl:(backTo pos (starEach [] X.env)).any (·.1)=false:=by rfl):DE X (.Call (.Name "dict" p) [e] [] pos) (Dm.eB Dm.rT fs):=Ej vd Ex (by rfl) hg hm ha (he:=he) (hpl:=hpl)
theorem Ey (hc:X.calm=true) (hg:Gl X "sorted") (hm:X.mg "sorted" = none) (ha:DA X [e] fs) (he:starEach [e] X.env=[(false,eval e X.env)]:=by rfl) (hpl:(backTo pos (starEach [] X.env)).any (·.1)=false:=by rfl):DE X (.Call (.Name "sorted" p) [e] [] pos) (Dm.eB Dm.jP fs):=yS (ve hc) A6 (by rfl) hg hm ha (he:=he) (hpl:=hpl)
theorem A_ (i:Nat) {x:Str} {px apos cpos:Pos} (hb:DE X b fb) (hi:X.N[i]?=some x:=by rfl) (hv:Vis X.env.scope x:=by first | exact Or.inl rfl | exact Or.inr (Or.inl rfl) | exact Or.inr (Or.inr rfl)) (hd:(x == ("__debug__" : Str))=false:=by decide)
  (hcd:(x == ("__classdict__" : Str))=false:=by decide) (m:M1 X (.Name x px) "pop" apos b cpos:=by exact ⟨rfl,rfl,rfl,rfl⟩):DE X (.Call (.Attribute (.Name x px) "pop" apos) [b] [] cpos) (Dm.mw i fb):=PE.weak (Ai (eX hi hv hd hcd) hb m) fun _ _ _=>Jv
end
open PySem
variable {C:List Value→Prop} {us:List Value}
theorem len0 (h:us.length=0) (c:C []):C us:=by rw [List.eq_nil_of_length_eq_zero h];exact c
theorem Ba {n:Nat} {C:List Value→Prop} {us:List Value} (h:us.length=n+1) (c:∀ a us,us.length=n→C (a::us)):C us:=by
 cases us with
 | nil=>cases h
 | cons a us=>exact c a us (by simpa using h)
theorem Mi (h:us.length=1) (c:∀ a,C [a]):C us:=Ba h fun a _ h=>len0 h (C:=fun us=>C (a::us)) (c a)
theorem AQ (h:us.length=2) (c:∀ a b,C [a,b]):C us:=Ba h fun a _ h=>Mi h (C:=fun us=>C (a::us)) (c a)
theorem Mj (h:us.length=3) (c:∀ a b d,C [a,b,d]):C us:=Ba h fun a _ h=>AQ h (C:=fun us=>C (a::us)) (c a)
theorem Mk (h:us.length=4) (c:∀ a b d e,C [a,b,d,e]):C us:=Ba h fun a _ h=>Mj h (C:=fun us=>C (a::us)) (c a)
theorem N_ (h:us.length=5) (c:∀ a b d e f,C [a,b,d,e,f]):C us:=Ba h fun a _ h=>Mk h (C:=fun us=>C (a::us)) (c a)
end Br
namespace L2
open PySem
variable {K:PySem.W.Frag} {x qual:Str} {st:Stmt} {f:Addr} {fd:FuncData} {ps:List Str}
theorem Fun.gU (F:Fun K x qual st f fd) (hp:ps.length=1) (h:∀ (kV doc pm:Value) (an:Option Addr) (cdv ct:Value) (a:Value),bindArgs (PySem.W.fnOf x qual (bK st) (bB st) (ai st) .none kV doc pm an cdv ct) ⟨[a],[]⟩=pure (ps.zip [a])):Binds K fd ps []:=
 F.binds fun kV doc pm an cdv ct us hl=>Br.Mi (C:=fun us=>bindArgs (PySem.W.fnOf x qual (bK st) (bB st) (ai st) .none kV doc pm an cdv ct) ⟨us,[]⟩=pure (ps.zip us)) (hl.trans hp) (h kV doc pm an cdv ct)
theorem Fun.cI (F:Fun K x qual st f fd) (hp:ps.length=2) (h:∀ (kV doc pm:Value) (an:Option Addr) (cdv ct:Value) (a b:Value),bindArgs (PySem.W.fnOf x qual (bK st) (bB st) (ai st) .none kV doc pm an cdv ct) ⟨[a,b],[]⟩=pure (ps.zip [a,b])):Binds K fd ps []:=
 F.binds fun kV doc pm an cdv ct us hl=>Br.AQ (C:=fun us=>bindArgs (PySem.W.fnOf x qual (bK st) (bB st) (ai st) .none kV doc pm an cdv ct) ⟨us,[]⟩=pure (ps.zip us)) (hl.trans hp) (h kV doc pm an cdv ct)
theorem Fun.gW (F:Fun K x qual st f fd) (hp:ps.length=3) (h:∀ (kV doc pm:Value) (an:Option Addr) (cdv ct:Value) (a b d:Value),bindArgs (PySem.W.fnOf x qual (bK st) (bB st) (ai st) .none kV doc pm an cdv ct) ⟨[a,b,d],[]⟩=pure (ps.zip [a,b,d])):Binds K fd ps []:=
 F.binds fun kV doc pm an cdv ct us hl=>Br.Mj (C:=fun us=>bindArgs (PySem.W.fnOf x qual (bK st) (bB st) (ai st) .none kV doc pm an cdv ct) ⟨us,[]⟩=pure (ps.zip us)) (hl.trans hp) (h kV doc pm an cdv ct)
theorem Fun.dJ (F:Fun K x qual st f fd) (hp:ps.length=4) (h:∀ (kV doc pm:Value) (an:Option Addr) (cdv ct:Value) (a b d e:Value),bindArgs (PySem.W.fnOf x qual (bK st) (bB st) (ai st) .none kV doc pm an cdv ct) ⟨[a,b,d,e],[]⟩=pure (ps.zip [a,b,d,e])):Binds K fd ps []:=
 F.binds fun kV doc pm an cdv ct us hl=>Br.Mk (C:=fun us=>bindArgs (PySem.W.fnOf x qual (bK st) (bB st) (ai st) .none kV doc pm an cdv ct) ⟨us,[]⟩=pure (ps.zip us)) (hl.trans hp) (h kV doc pm an cdv ct)
theorem Fun.f7 (F:Fun K x qual st f fd) (hp:ps.length=5) (h:∀ (kV doc pm:Value) (an:Option Addr) (cdv ct:Value) (a b d e g:Value),bindArgs (PySem.W.fnOf x qual (bK st) (bB st) (ai st) .none kV doc pm an cdv ct) ⟨[a,b,d,e,g],[]⟩=pure (ps.zip [a,b,d,e,g])):Binds K fd ps []:=
 F.binds fun kV doc pm an cdv ct us hl=>Br.N_ (C:=fun us=>bindArgs (PySem.W.fnOf x qual (bK st) (bB st) (ai st) .none kV doc pm an cdv ct) ⟨us,[]⟩=pure (ps.zip us)) (hl.trans hp) (h kV doc pm an cdv ct)
end L2
namespace Dm
noncomputable def eFp (a i:Nat) (f:List Dat→Option RV) (as:List FE):FE:=fun ρ=>match ρ[i]? with
 | some (.sh (.fn b))=>if b=a then eF f as ρ else none
 | _=>none
end Dm
namespace Br
open PySem L2
section
variable {X:Cx} {e:Expr} {es:List Expr} {fs:List Dm.FE} {p pos:Pos}
theorem Ml {x:Str} {F:Addr} (hg:Gl X x) (hm:X.mg x=some (.ref F)) (hd:(x == ("__debug__" : Str))=false:=by decide):DE X (.Name x pos) (Dm.eC (.fn F)):=
 PE.weak (DB (v:=V.ref F) hg hm rfl hd) fun _ _ _=>kR fun _=>.fn F
theorem Bb {k:Nat} {F:Addr} {fd:FuncData} {ps:List Str} {sp:Sp} {t:TA} {E:XK} {CX} (i:Nat) {x:Str} (G:aX X.prog X.w X.K X.mg X.base CX k F fd ps sp) (hr:bQ k X.A) (hN:X.N[i]?=some x) (hv:Vis X.env.scope x) (hk:PySem.W.keepIn X.K (.ref F)=true) (hb:Binds X.K fd ps []) (hx:Passes CX X E)
  (ha:PA X (e::es) t) (hd:(x == ("__debug__" : Str))=false) (hcd:(x == ("__classdict__" : Str))=false) (he:starEach (e::es) X.env=(false,eval e X.env)::starEach es X.env) (hpl:(backTo pos (starEach es X.env)).any (·.1)=false) :
  PE X (.Call (.Name x p) (e::es) [] pos) (fun σ H Q=>lg i σ H fun v _=>v=V.ref F∧oU sp [] E t σ H Q):=by
 intro pins s σ H Q I h
 obtain ⟨v,e1,rfl,h⟩:=h
 refine wpAny_Call_Name_kw (thn (eX hN hv hd hcd pins s σ H (fun v H1=>v=V.ref F∧H1=H) I ⟨_,e1,rfl,rfl⟩) fun u s1 ⟨v,H1,I1,r,q1,q2⟩=>?_)
 subst q1 q2
 cases r
 refine PySem.W.callWith_K (h₀:=X.base) I1.ok.mod.kin hk (thn (ha pos pins s1 σ H1 _ I1 h) fun us s2 ⟨vs,H2,I2,r,q⟩=>⟨I2.kIn,?_⟩) he hpl
 exact zZ G hr hb .nil hx I2 r q
theorem Ez {F i:Nat} {f:List Dm.Dat→Option Dm.RV} {E:XK} {σ:L2.St} {H:Hp} {Q:VK} (h:tD (Dm.eFp F i f fs) σ H Q):lg i σ H fun v _=>v=V.ref F∧oU (spD f) [] E (tDA fs) σ H Q:=by
 obtain ⟨H0,ρ,x,ρ',st,e,k⟩:=h
 unfold Dm.eFp at e
 split at e
 ·rename_i b h1
  split at e
  ·rename_i hb
   subst hb
   obtain ⟨v,q,r⟩:=st.sh i _ h1
   cases r
   exact ⟨_,q,rfl,Ao ⟨H0,ρ,x,ρ',st,e,k⟩⟩
  ·cases e
 ·cases e
theorem xq {k:Nat} {F:Addr} {fd:FuncData} {ps:List Str} {g:List Dm.Dat→Option Dm.RV} (i:Nat) {x:Str} (G:aX X.prog X.w X.K X.mg X.base CX0 k F fd ps (spD g)) (hr:bQ k X.A) (hk:PySem.W.keepIn X.K (.ref F)=true) (hb:Binds X.K fd ps [])
  (ha:DA X (e::es) fs) (hN:X.N[i]?=some x:=by rfl) (hv:Vis X.env.scope x:=by first | exact Or.inl rfl | exact Or.inr (Or.inl rfl) | exact Or.inr (Or.inr rfl)) (hd:(x == ("__debug__" : Str))=false:=by decide) (hcd:(x == ("__classdict__" : Str))=false:=by decide)
  (he:starEach (e::es) X.env=(false,eval e X.env)::starEach es X.env:=by rfl) (hpl:(backTo pos (starEach es X.env)).any (·.1)=false:=by rfl) :
  DE X (.Call (.Name x p) (e::es) [] pos) (Dm.eFp F i g fs):=PE.weak (Bb i G hr hN hv hk hb (wG (X:=X)) ha hd hcd he hpl) fun _ _ _=>Ez
end
end Br
namespace Dm
noncomputable def pH:Dat→Dat→Option RV
 | .tup xs,.tup (y::ys)=>if xs.length+(y::ys).length≤SZ then some (.val (.tup (xs++(y::ys)))) else none
 | _,_=>none
end Dm
namespace Br
open PySem PySem.Spec PyProof.Rows L2
noncomputable def GA:R2:=fun x y H Q=>∃ l b xs zs,x=.ref l∧y=.ref b∧H l=some (.tup xs)∧H b=some (.tup zs)∧zs≠[]∧xs.length+zs.length≤sizeLine∧(xs=[]→Q (.ref b) H)∧(xs≠[]→∀ p,H p=none→Q (.ref p) (upd H p (.tup (xs++zs))))
theorem EA {X:Cx}:OpR X (binaryOp .Add) GA:=by
 intro pins s σ H x y v u Q I rx ry h
 obtain ⟨l,b,xs,zs,rfl,rfl,hH,hB,n2,hz,q0,q⟩:=h
 cases rx
 cases ry
 obtain ⟨z1,its,r1,⟨⟨cls,dd,data,sl⟩,ho,hc,n,hd⟩⟩:=(show bx X.prog X.w H s.heap l (.tup xs) from I.hok l _ hH)
 obtain ⟨z2,its2,r2,⟨⟨NI,dd2,data2,sl2⟩,ho2,hc2,n',hd2⟩⟩:=(show bx X.prog X.w H s.heap b (.tup zs) from I.hok b _ hB)
 simp only at hc hd hc2 hd2
 subst hc hd hc2 hd2
 have e:its.toArray++its2.toArray=(its++its2).toArray:=by simp
 have hl:=r1.length
 have hl2:=r2.length
 have m2:its2≠[]:=fun y=>n2 (List.length_eq_zero_iff.mp (by rw [hl2,y];rfl))
 by_cases n1:xs=[]
 ·have m1:its=[]:=List.length_eq_zero_iff.mp (by rw [← hl,n1];rfl)
  exact concat_meets ⟨_,ho,rfl⟩ ⟨_,ho2,rfl⟩ noFill_tuple_add seq_tuple_add PySem.F.slot_tuple_add PySem.F.entry_tuple_add (PySem.F.args_tuple_add_2 _ _)
   (tuple_addW0 l b its.toArray its2.toArray n n' dd dd2 sl sl2 (by simp [m1])) ⟨ho,ho2,.ref b,H,I,rfl,q0 n1⟩
 ·have m1:its≠[]:=fun y=>n1 (List.length_eq_zero_iff.mp (by rw [hl,y];rfl))
  refine concat_meets ⟨_,ho,rfl⟩ ⟨_,ho2,rfl⟩ noFill_tuple_add seq_tuple_add PySem.F.slot_tuple_add PySem.F.entry_tuple_add (PySem.F.args_tuple_add_2 _ _)
   (tuple_addW2 l b its.toArray its2.toArray n n' dd dd2 sl sl2 (by simpa using m1) (by simpa using m2) (by rw [List.size_toArray,List.size_toArray];lia)) ⟨ho,ho2,?_⟩
  rw [e]
  refine ⟨.ref _,_,I.laid (t':=s.toks) (fun _ _ q=>Heap.get?_push_of_some _ q) (Nat.le_refl _) (show bx X.prog X.w _ _ _ (.tup (xs++zs)) from ⟨by rw [List.length_append];exact hz,its++its2,r1.append r2,⟨_,Heap.get?_push_size _ rfl,rfl,0,rfl⟩⟩),rfl,q n1 _ I.fresh⟩
theorem EB:OpD GA Dm.pH:=by
 intro H0 H x y dx dy z Q s rx ry e k
 unfold Dm.pH at e
 split at e
 ·rename_i xs y1 ys
  split at e
  case isFalse=>cases e
  rename_i hz
  cases e
  have r0:Rep H0 y (.tup (y1::ys)):=by
   rcases ry with r | ⟨a,_,w⟩
   ·exact r
   ·exact False.elim w
  obtain ⟨a,us,rfl,qa,ra⟩:=b_ s rx
  obtain ⟨b,ws,rfl,qb,rb⟩:=b_ s ry
  have la:=ra.length
  have lb:=rb.length
  refine ⟨a,b,us,ws,rfl,rfl,qa,qb,fun q=>(by rw [q] at lb;cases lb),by rw [la,lb];exact gn hz,fun q=>?_,fun _ p hp=>?_⟩
  ·subst q
   cases ra
   exact k _ _ _ (aQ.refl s) r0
  ·have g:=aQ.rK (o:=.tup (us++ws)) s hp
   exact k _ _ _ g (.tup ay ((ra.append rb).mono g.s0))
 ·cases e
section
variable {X:Cx} {pos:Pos}
theorem Jy {a b:Expr} {fa fb:Dm.FE} (ha:DE X a fa) (hb:DE X b fb):DE X (.BinOp a .Add b pos) (Dm.e2 Dm.pH fa fb):=rN EA EB ha hb
end
open PySem L2
structure bu (K:PySem.W.Frag) (x:Str) (st:Stmt) (a:Addr) (fd:FuncData):Prop where
 e:PySem.W.nsIn K mainGlobals x=some (some (.ref a))
 F:Fun K x x st a fd
variable {K:PySem.W.Frag} {x:Str} {st:Stmt} {a:Addr} {fd:FuncData} {hp:Heap} {mg:Str→Option Value}
theorem aJ {oc:Value} {od an:Option Addr} {osl:Array (Option Value)} {kV doc pm cdv ct:Value} (e:PySem.W.nsIn K mainGlobals x=some (some (.ref a)))
  (l:K.lookup a=some ⟨oc,od,.func (PySem.W.fnOf x x (bK st) (bB st) (ai st) .none kV doc pm an cdv ct),osl⟩) (c:PySem.W.codeIn K cdv x=true) (k:PySem.W.keepIn K (.ref a)=true) :
  bu K x st a (PySem.W.fnOf x x (bK st) (bB st) (ai st) .none kV doc pm an cdv ct):=⟨e,Iw l c k⟩
theorem mno (X:K.In hp) (G:hp.Ns mainGlobals mg) (e:PySem.W.nsIn K mainGlobals x=some none):mg x=none:=PySem.W.mg_none_of X G e
theorem bu.m (h:bu K x st a fd) (X:K.In hp) (G:hp.Ns mainGlobals mg):mg x=some (.ref a):=PySem.W.mg_of X G h.e
theorem bu.Oa {y:Str} (h:bu K x st a fd) (hb:∀ (kV doc pm:Value) (an:Option Addr) (cdv ct v:Value),bindArgs (PySem.W.fnOf x x (bK st) (bB st) (ai st) .none kV doc pm an cdv ct) ⟨[v],[]⟩=pure [(y,v)]) (s:Shared) (v:Value):BindsTo s fd ⟨[v],[]⟩ [(y,v)]:=by
 obtain ⟨oc,od,kV,doc,pm,an,cdv,ct,osl,rfl,lk,hcd⟩:=h.F.ex
 exact .of_eq (hb kV doc pm an cdv ct v)
theorem hm {j k:Nat} {A:Around} (r:bQ k A) (h:j≤k:=by decide):bQ j A:=r.mono h
theorem fsc {N P:List Str} {sc:Scope} (h1:sc.kind=.function) (h2:sc.isCoroutine=false) (h3:sc.isGenerator=false) (h4:N.take P.length=P) (h:N.Nodup∧(∀ x∈P,sc.names.lookup x=some .local∨sc.names.lookup x=some .cell)∧∀ y∈sc.names,y.2≠.free):av N P sc:=⟨h1,h2,h3,h.1,h4,h.2.1,h.2.2⟩
end Br
namespace Br
open PySem PySem.Spec PyProof.Rows L2
theorem rX {f:Dm.FE}:∀ {fs:List Dm.FE} {ρ ρ':Dm.Env} {xs:List Dm.Val},Dm.eAs (fs++[f]) ρ=some (xs,ρ')→∃ ys ρ1 y,Dm.eAs fs ρ=some (ys,ρ1)∧f ρ1=some (y,ρ')∧xs=ys++[y]∧ys.length=fs.length
 | [],ρ,ρ',xs,h=>by
  rw [List.nil_append] at h
  unfold Dm.eAs at h
  split at h
  ·cases h
  rename_i y ρ1 e1
  unfold Dm.eAs at h
  cases h
  exact ⟨[],ρ,y,rfl,e1,rfl,rfl⟩
 | g::fs,ρ,ρ',xs,h=>by
  rw [List.cons_append] at h
  unfold Dm.eAs at h
  split at h
  ·cases h
  rename_i z ρ1 e1
  split at h
  ·cases h
  rename_i zs ρ2 e2
  cases h
  obtain ⟨ys,ρ3,y,h1,h2,h3,h4⟩:=rX e2
  refine ⟨z::ys,ρ3,y,?_,h2,by rw [h3];rfl,by rw [List.length_cons,List.length_cons,h4]⟩
  unfold Dm.eAs
  rw [e1]
  dsimp only
  rw [h1]
theorem bY.GB {Hs H0 H:Hp} {σ:L2.St} {ρ:Dm.Env} {v:V} {x:Dm.Val} (h:fL Hs H0 H σ ρ v x):∀ {vs:List V} {xs:List Dm.Val},bY Hs H0 H σ ρ vs xs→bY Hs H0 H σ ρ (vs++[v]) (xs++[x])
 | _,_,.nil=>.cons h .nil
 | _,_,.cons a r=>.cons a (bY.GB h r)
theorem bY.GC {Hs H0 H H0' H':Hp} {σ:L2.St} {ρ ρ':Dm.Env} (t:ESt σ ρ H0 H ρ' H0' H'):∀ {vs:List V} {xs:List Dm.Val},bY Hs H0 H σ ρ vs xs→bY Hs H0' H' σ ρ' vs xs
 | _,_,.nil=>.nil
 | _,_,.cons a r=>.cons (a.mono t) (bY.GC t r)
end Br
namespace Dm
noncomputable def EC (a:FE) (lo hi:Option FE):FE:=fun ρ=>match a ρ with
 | none=>none
 | some (x,ρ1)=>match part lo ρ1 with
  | none=>none
  | some (l,ρ2)=>match part hi ρ2 with
   | none=>none
   | some (h,ρ3)=>match pk ρ3 x with
    | some (.tup xs)=>some (.val (.tup (cut xs l h)),ρ3)
    | _=>none
end Dm
namespace HT
open PySem PySem.Spec PyProof.Rows
section
open PySem.SeqAt
open PySem.AutoSeq1 (wpAny_loadPart')
open PySem.MeetsSeq PySem.MeetsSeq2 PySem.MeetsSeq3
variable {prog:Program} {w:World} {A:Around} {E:Value→Shared→Prop} {s:Shared}
theorem gE {t sl:Addr} {items:Array Value} {vl vu:Value} {lo hi:Option Int} {Q:Value→Shared→Prop} (ht:IsTup s.heap t items) (hs:s.heap.IsSliceOf sl vl vu .none) (pl:IsPart vl lo) (pu:IsPart vu hi)
  (hw:sIx items.size 0 lo=0∧sIx items.size items.size hi=items.size) (h:Q (.ref t) s):wpAny (model prog w) A (getItem (.ref t) (.ref sl)) Q E s:=by
 obtain ⟨os,hos,hcs,hds⟩:=id hs
 have hTs:s.TypeIs (.ref sl) "slice" := ⟨os,hos,hcs⟩
 unfold getItem
 try with_reducible refine wpAny_holding ?_
 first | refine wpAny_bind (wpAny_pure ?_) | skip
 refine wpAny_bind (wpAny_sequenceKey ht.typeIs (by decide) ?_)
 refine wpAny_bind (wpAny_callSpecial?_slot (name:=Str.ofString "__getitem__") ht.typeIs PyProof.Rows.slot_tuple_getitem
  (wpAny_call_entry PyProof.Rows.slot_tuple_getitem ht.typeIs entry_tuple_getitem ?_ (args_tuple_getitem _ _)))
 show wpAny _ _ (Builtin.Tuple.tupleItemsOf (.ref t) >>= _) _ _ s
 refine wpAny_bind (tupleItemsOf_ ht ?_)
 refine wpAny_bind (wpAny_typeOf hTs ?_)
 rw [if_pos (by decide)]
 refine wpAny_bind (eE hs pl pu ?_)
 have hyes:(((sIx items.size 0 lo:Nat):Int) == 0&&(1:Int) == 1&&(sIx items.size items.size hi-sIx items.size 0 lo) == items.size)=true:=by
  rw [hw.1,hw.2]
  simp
 show wpAny _ _ (if (((sIx items.size 0 lo:Nat):Int) == 0&&(1:Int) == 1&&(sIx items.size items.size hi-sIx items.size 0 lo) == items.size)=true then _ else _) _ _ s
 rw [if_pos hyes]
 refine wpAny_bind (m:=Builtin.Tuple.tupleIsExact _) ?_
 unfold Builtin.Tuple.tupleIsExact
 refine wpAny_bind (wpAny_typeOf ht.typeIs (wpAny_pure ?_))
 rw [if_pos (by decide)]
 refine wpAny_bind (wpAny_rule ?_)
 first
  | exact wpAny_pure ⟨_,rfl,wpAny_pure h⟩
  | exact wpAny_bind (wpAny_pure (wpAny_pure ⟨_,rfl,wpAny_pure h⟩))
  | exact wpAny_bind (wpAny_pure ⟨_,rfl,wpAny_pure h⟩)
end
end HT
namespace Br
open PySem PySem.Spec PyProof.Rows L2
noncomputable def Mm (K:PySem.W.Frag):V→Option Int→Option Int→Hp→VK→Prop:=fun x lo hi H Q=>∃ a xs,x=.ref a∧SqT K H a xs ∧
 ((¬ (HT.sIx xs.length 0 lo=0∧HT.sIx xs.length xs.length hi=xs.length)∧∀ p,H p=none→Q (.ref p) (upd H p (.tup (kD xs lo hi))))∨((HT.sIx xs.length 0 lo=0∧HT.sIx xs.length xs.length hi=xs.length)∧Q (.ref a) H))
theorem ED {X:Cx}:SlR X (Mm X.K):=by
 intro pins s σ H x v vl vu lo hi sl Q I rx hs pl pu h
 obtain ⟨a,xs,rfl,hx,⟨hw,q⟩ | ⟨hw,q⟩⟩:=h
 ·exact z5 pins s σ H _ v vl vu lo hi sl Q I rx hs pl pu ⟨a,xs,rfl,hx,hw,q⟩
 ·cases rx
  obtain ⟨its,r,ht,hz⟩:=I.tuple hx
  have hlen:its.toArray.size=xs.length:=by rw [List.size_toArray];exact r.length.symm
  refine ⟨"tuple",_,PyProof.Rows.slot_tuple_getitem.lookup,ht.typeIs,?_⟩
  exact HT.gE ht hs pl pu (by rw [hlen];exact hw) ⟨.ref a,H,I,rfl,q⟩
theorem zd {ds:List Dm.Dat} {l h:Option Int} (w:Dm.sIx ds.length 0 l=0∧Dm.sIx ds.length ds.length h=ds.length):Dm.cut ds l h=ds:=by
 unfold Dm.cut
 rw [w.1,w.2]
 simp
section
variable {X:Cx} {e:Expr} {f:Dm.FE} {p2 pos:Pos}
theorem Mn {K:PySem.W.Frag} {lo hi:Option Dm.FE} {σ:L2.St} {H:Hp} {Q:VK} (h:tD (Dm.EC f lo hi) σ H Q):tSl (Mm K) (tD f) (tOf lo) (tOf hi) σ H Q:=by
 obtain ⟨H0,ρ,x,ρ',st,e,k⟩:=h
 unfold Dm.EC at e
 split at e
 ·cases e
 rename_i x1 ρ1 e1
 split at e
 ·cases e
 rename_i l ρ2 e2
 split at e
 ·cases e
 rename_i hh ρ3 e3
 split at e
 ·rename_i ds p1
  cases e
  refine ⟨H0,ρ,x1,ρ1,st,e1,fun v H1 Hb t1 r1=>?_⟩
  refine gp t1.st e2 fun H2 Hc t2=>?_
  refine gp t2.st e3 fun H3 Hd t3=>?_
  have tt:=t1.trans (t2.trans t3)
  rcases (r1.mono (t2.trans t3)).look t3.st p1 with rp | ⟨_,_,z⟩
  ·cases rp with
   | tup qa ra=>
    rename_i a xs
    refine ⟨a,xs,rfl,SqT.of (t3.st.same _ _ qa),?_⟩
    by_cases hw:Dm.sIx ds.length 0 l=0∧Dm.sIx ds.length ds.length hh=ds.length
    ·refine .inr ⟨?_,?_⟩
     ·rw [ra.length,fX _ _ _ (Nat.zero_le _),fX _ _ _ (Nat.le_refl _)]
      exact hw
     ·refine k _ _ _ tt ?_
      show Rep H3 (.ref a) (.tup (Dm.cut ds l hh))
      rw [zd hw]
      exact .tup qa ra
    ·refine .inl ⟨?_,fun q hq=>?_⟩
     ·rw [ra.length,fX _ _ _ (Nat.zero_le _),fX _ _ _ (Nat.le_refl _)]
      exact hw
     ·have g:=aQ.rK (o:=HO.tup (kD xs l hh)) t3.st.same hq
      exact k _ _ _ (tt.trans (.grow t3.st g)) (.tup ay ((jM ra l hh).mono g.s0))
  ·exact z.elim
 ·cases e
theorem Mp {lo hi:Option Expr} {flo fhi:Option Dm.FE} (h:DE X e f) (hl:PO X lo (tOf flo)) (hh:PO X hi (tOf fhi)):DE X (.Subscript e (.Slice lo hi none p2) pos) (Dm.EC f flo fhi):=PE.weak (lF ED h hl hh) fun _ _ _=>Mn
end
end Br
namespace Dm
noncomputable def jt:List Int→Int→Int
 | [],d=>d
 | n::ns,_=>kJ n ns
noncomputable def pI:List Dat→Option RV
 | [.lst xs,.int d]=>(match eT xs with
  | some ns=>vI (jt ns d)
  | none=>none)
 | _=>none
end Dm
namespace PySem
open Sem (wp)
noncomputable def Jz (P:Nat→Value→Prop) (bt:Nat→Nat→Bool):Nat→Array Value→Prop
 | 0,old=>old=#[]
 | j+1,old=>∃ vb,old=#[vb,vb]∧P (argBest bt j) vb
noncomputable def xr (P:Nat→Value→Prop) (bt:Nat→Nat→Bool) (n:Nat) (d v:Value):Prop:=match n with
 | 0=>v=d
 | m+1=>P (argBest bt m) v
theorem EE {prog:Program} {w:World} {A:Around} {E:Value→Shared→Prop} {s:Shared} {id:String} {b:Builtin} {args:List Value} {kw:List (Str×Value)} {Q:Value→Shared→Prop} (hk:builtinKind id=none) (hp:plainId id=true)
  (hb:entryFor table id=some b) (ha:argsOk id ⟨args,kw⟩)
  (hc:wpAny (model prog w) A.in1 (b ⟨args,kw⟩) (fun fin s'=>match fin with
   | .done f=>(match (Except.ok f:Result) with | .ok (.ret v)=>Q v s' | .ok _=>False | .error e=>E e s')
   | .again c'=>c'.quiet=true∧codeAny (model prog w) A c' (fun r s'=>match r with | .ok (.ret v)=>Q v s' | .ok _=>False | .error e=>E e s') s') E s) :
  wpAny (model prog w) A (call (.builtin id) args kw) Q E s:=by
 refine wpAny_call (codeAny_call_builtin hp hb ?_)
 simp only [checkBuiltinCall,hk]
 cases Ob:Manifest.signature? id with
 | none=>exact wpAny_pure hc
 | some sig=>
  refine wpAny_of_eq (a:=()) ?_ hc
  unfold argsOk at ha
  rw [Ob] at ha
  exact ha
theorem ze (a d:Value):argsOk "max" ⟨[a],[("default",d)]⟩:=by unfold argsOk;kernel_rfl
section
variable {prog:Program} {w:World} {A:Around} {R:Result→Shared→Prop} {I:Addr} {fp wr:List Addr} {n:Nat} {P:Nat→Value→Prop} {St:Nat→Heap→Prop}
theorem zf (W:Walks prog w A.in1 I fp wr n P St) (bt:Nat→Nat→Bool) (hcmp:CmpOf prog w A.in1 .Gt P bt) (S:Addr) (hSf:S∉fp) (dv:Value) :
  ∀ (k j:Nat) (s:Shared) (old:Array Value) (c:Nat),n-j=k→j≤n→St j s.heap→Jz P bt j old→s.heap.get? S=some { cls:=.type "list",dict:=none,data:=.seq old c,slots:=#[] } →
  (∀ v h' tk,xr P bt n dv v→(∀ b o,b∉wr→b≠S→s.heap.get? b=some o→h'.get? b=some o)→R (.ok (.ret v)) { s with heap:=h',toks:=tk }) →
  codeAny (model prog w) A (.builtin "max.loop" ⟨[.ref I,.none,.ref S],[("default",dv)]⟩) R s:=by
 have hSw:S∉wr:=fun h=>hSf (W.sub _ h)
 have nm:(toString "max" ++ toString ".loop" : String) = "max.loop" := by decide
 intro k
 induction k with
 | zero=>
  intro j s old c hk hj hst hB hS hR
  have hin:j=n:=by lia
  subst hin
  refine codeAny_builtin F.entry_max_loop (?_:wpAny _ _ _ _ _ _)
  rw [Around.under_plainId F.plain_max_loop _]
  refine wpAny_bind (wpAny_seqItems hS rfl ?_)
  refine wpAny_bind (wpAny_tryCatch (W.done s _ _ hst fun h' tk hk'=>?_))
  have hS':=hk' S _ hSw hS
  cases j with
  | zero=>
   have ho:old=#[]:=hB
   subst ho
   exact wpAny_bind (wpAny_rule (wpAny_pure (hR dv h' tk rfl fun b o hbw _ e=>hk' b o hbw e)))
  | succ j=>
   obtain ⟨vb,ho,hP⟩:=hB
   subst ho
   refine wpAny_bind ?_
   refine wpAny_updateSeq hS' rfl (wpAny_bind (wpAny_letGo (wpAny_pure ?_)))
   exact hR vb _ tk hP fun b o hbw hbS e=>(Heap.get?_update_other _ _ (Ne.symm hbS)).trans (hk' b o hbw e)
 | succ k ih=>
  intro j s old c hk hj hst hB hS hR
  have hlt:j<n:=by lia
  refine codeAny_builtin F.entry_max_loop (?_:wpAny _ _ _ _ _ _)
  rw [Around.under_plainId F.plain_max_loop _]
  refine wpAny_bind (wpAny_seqItems hS rfl ?_)
  refine wpAny_bind (wpAny_tryCatch (W.item j s _ _ hlt hst fun v h' tk hP JA hk'=>?_))
  have hS':=hk' S _ hSw hS
  cases j with
  | zero=>
   have ho:old=#[]:=hB
   subst ho
   refine wpAny_bind (wpAny_pure (wpAny_bind ?_))
   refine wpAny_updateSeq hS' rfl ?_
   rw [nm]
   refine wpAny_pure ⟨plainId_quiet F.plain_max_loop _,ih 1 _ _ _ (by lia) hlt (W.frame _ _ _ JA fun b hbf o e=>(Heap.get?_update_other _ _ (fun h:S=b=>hSf (by rw [h];exact hbf))).trans e) ⟨v,rfl,hP⟩ (Heap.get?_update_self _ hS' rfl) fun v' h'' Bc hP' Bd=>?_⟩
   exact hR v' h'' Bc hP' fun b o hbw hbS e=>Bd b o hbw hbS ((Heap.get?_update_other _ _ (Ne.symm hbS)).trans (hk' b o hbw e))
  | succ j=>
   obtain ⟨vb,ho,hPb⟩:=hB
   subst ho
   refine wpAny_bind (wpAny_pure ?_)
   refine wpAny_bind (wpAny_tryCatch (wpAny_holding (wpAny_bind (hcmp (j+1) (argBest bt j) v vb _ _ _ hP hPb (wpAny_bind (wpAny_holding (wpAny_truthy_bool (wpAny_bind (wpAny_letGo (wpAny_pure ?_))))))))))
   cases hb:bt (j+1) (argBest bt j) with
   | true=>
    simp only [if_true]
    refine wpAny_bind (wpAny_updateSeq hS' rfl (wpAny_bind (wpAny_letGo ?_)))
    rw [nm]
    refine wpAny_pure ⟨plainId_quiet F.plain_max_loop _,ih (j+2) _ _ _ (by lia) hlt (W.frame _ _ _ JA fun b hbf o e=>(Heap.get?_update_other _ _ (fun h:S=b=>hSf (by rw [h];exact hbf))).trans e) ⟨v,rfl,by simp only [argBest,hb,if_true];exact hP⟩ (Heap.get?_update_self _ hS' rfl) fun v' h'' Bc hP' Bd=>?_⟩
    exact hR v' h'' Bc hP' fun b o hbw hbS e=>Bd b o hbw hbS ((Heap.get?_update_other _ _ (Ne.symm hbS)).trans (hk' b o hbw e))
   | false=>
    simp only [Bool.false_eq_true,if_false]
    refine wpAny_bind (wpAny_letGo ?_)
    rw [nm]
    refine wpAny_pure ⟨plainId_quiet F.plain_max_loop _,ih (j+2) _ _ _ (by lia) hlt JA ⟨vb,rfl,by simp only [argBest,hb,Bool.false_eq_true,if_false];exact hPb⟩ hS' fun v' h'' Bc hP' Bd=>?_⟩
    exact hR v' h'' Bc hP' fun b o hbw hbS e=>Bd b o hbw hbS (hk' b o hbw e)
end
theorem zg {prog:Program} {w:World} {A:Around} {E:Value→Shared→Prop} {s:Shared} {x dv:Value} {Q:Value→Shared→Prop}
  (h:wpAny (model prog w) A.in1 (pyIter x) (fun it s₂=>∃ I fp wr n P St bt,it=.ref I∧Walks prog w A.in1 I fp wr n P St∧St 0 s₂.heap∧(∀ b∈fp,b<s₂.heap.objs.size)∧CmpOf prog w A.in1 .Gt P bt ∧
   ∀ v h' tk,xr P bt n dv v→(∀ b o,b∉wr→s₂.heap.get? b=some o→h'.get? b=some o)→Q v { s₂ with heap:=h',toks:=tk }) E s) :
  wpAny (model prog w) A (call (.builtin "max") [x] [("default",dv)]) Q E s:=by
 have nm:(toString "max" ++ toString ".loop" : String) = "max.loop" := by decide
 refine EE F.kind_max F.plain_max F.entry_max (ze _ _) ?_
 refine wpAny_bind (wpAny_of_eq (show Builtin.Builtins.bindParams "max" ["key","default"] 0 ⟨[],[("default",dv)]⟩=pure [none,some dv] from rfl) ?_)
 refine wpAny_bind (wpAny_pure ?_)
 refine wpAny_bind (wpAny_mono h (fun it s₂ h₂=>?_) fun _ _ e=>e)
 obtain ⟨I,fp,wr,n,P,St,bt,rfl,W,hst,hfp,hcmp,hQ⟩:=h₂
 refine wpAny_bind (wpAny_newObj_type ?_)
 have hSf:s₂.heap.objs.size∉fp:=fun hm=>Nat.lt_irrefl _ (hfp _ hm)
 rw [nm]
 refine wpAny_pure ⟨plainId_quiet F.plain_max_loop _,zf W bt hcmp s₂.heap.objs.size hSf dv n 0 _ _ _ rfl (Nat.zero_le _) (W.frame _ _ _ hst fun b _ o e=>Heap.get?_push_of_some _ e) rfl (Heap.get?_push_size _ rfl) fun v h' tk hP hk=>?_⟩
 exact hQ v h' tk hP fun b o hbw e=>hk b o hbw (Nat.ne_of_lt (Heap.lt_size e)) (Heap.get?_push_of_some _ e)
end PySem
namespace Br
open PySem PySem.Spec PyProof.Rows L2
noncomputable def Be (X:Cx) (f:Value) (nm:Str) (r:List V→Hp→VK→Prop):Prop:=∀ (pins:List (Addr×Obj)) (s:Shared) (σ:L2.St) (H:Hp) (vs:List V) (v:V) (us:List Value) (u:Value) (Q:VK),Inv X pins σ H s→Vals vs us→RelV v u→r (vs++[v]) H Q→wpAny (model X.prog X.w) X.A (call f us [(nm,u)]) (EP X pins σ Q) X.xe s
theorem Oc {X:Cx} {x nm:Str} {id:String} {e e2:Expr} {es:List Expr} {fs:List Dm.FE} {f:Dm.FE} {p pos kpos:Pos} {r:List V→Hp→VK→Prop} {g:List Dm.Dat→Option Dm.RV} (hc:Be X (.builtin id) nm r) (cd:CallD r g) (hv:bootBuiltins x=some (.builtin id)) (hg:Gl X x) (hm:X.mg x=none) (ha:DA X (e::es) fs) (h2:DE X e2 f)
  (he:backTo pos (starEach (e::es) X.env)=(false,eval e X.env)::backTo pos (starEach es X.env)) (hpl:(backTo pos (starEach (e::es) X.env)).any (·.1)=false) (hn:x ≠ "__name__" := by decide) (hdb:(x == ("__debug__" : Str))=false:=by decide) :
  DE X (.Call (.Name x p) (e::es) [⟨some nm,e2,kpos⟩] pos) (Dm.eB g (fs++[f])):=by
 intro pins s σ H Q I h
 have h':=IF cd h
 obtain ⟨H0,ρ,xs,ρ',st,e0,k⟩:=h'
 obtain ⟨ys,ρ1,y,e1,e2',rfl,hl⟩:=rX e0
 refine wpAny_Call_Name_kw (gQ I hg hm hv ?_ hn hdb)
 refine PyProof.Rows.callWith_kw (thn (ha pos pins s σ H (fun vs H1=>tD f σ H1 fun v H2=>r (vs++[v]) H2 Q) I ⟨H0,ρ,ys,ρ1,st,e1,fun vs H0' H' t rr=>⟨H0',ρ1,y,ρ',t.st,e2',fun v Aw H'' t2 r2=>k (vs++[v]) Aw H'' (t.trans t2) (bY.GB (r2.early fun a z=>t.stp.gone z) (bY.GC t2 rr))⟩⟩) fun us s1 ⟨vs,H1,I1,r1,q1⟩=>?_) he hpl rfl rfl
 refine kws_cons (thn (h2 pins s1 σ H1 _ I1 q1) fun u s2 ⟨v,H2,I2,r2,q2⟩=>?_)
 exact kws_nil (hc pins s2 σ H2 vs v us u Q I2 r1 r2 q2)
section
variable {X:Cx}
theorem zh (hc:X.calm=true):Be X (.builtin "max") "default" (fun xs H Q=>∃ (a:Addr) (ns:List Int) (d:Int),xs=[.ref a,.int d]∧Rd H a (.lst (ns.map V.int))∧Q (.int (Dm.jt ns d)) H):=by
 intro pins s σ H xs y us u Q I r ry h
 obtain ⟨a,ns,d,hxs,hq,q⟩:=h
 obtain ⟨rfl,rfl⟩:xs=[.ref a]∧y=.int d:=by
  have:=List.append_inj' (s₂:=[V.ref a]) (t₂:=[V.int d]) hxs rfl
  exact ⟨this.1,by injection this.2⟩
 obtain ⟨u1,rfl,rx⟩:=vals1 r
 cases rx
 obtain ⟨t0,rfl⟩:=ry
 obtain ⟨z,its,n,rv,e⟩:=hq.ok I.hok
 have hl:s.heap.IsList a its.toArray:=⟨_,e,rfl,_,rfl⟩
 have hlen:=rv.length
 rw [List.length_map] at hlen
 have hax:a≠s.heap.objs.size:=Nat.ne_of_lt (Heap.lt_size e)
 have e1:its.toArray.size=ns.length:=by rw [List.size_toArray,← hlen]
 refine PySem.zg (wpAny_pyIter_list hl ⟨s.heap.objs.size,_,_,_,_,_,_,rfl,Walks.list (A:=X.A.in1) (I.ok.hd hc) s.heap.objs.size a hax its.toArray,⟨⟨_,Heap.get?_push_size _ rfl,rfl,rfl⟩,hl.push _⟩,?_,CmpOf.ints_gt (fun i=>ns.getD i 0) (xj rv),fun v h' tk hp hk=>?_⟩)
 ·intro b hb
  simp only [List.mem_cons,List.not_mem_nil,or_false] at hb
  rcases hb with rfl | rfl
  ·show s.heap.objs.size<_;exact Heap.size_push ..▸Nat.lt_succ_self _
  ·show b<_;exact Heap.size_push ..▸Nat.lt_succ_of_lt (Heap.lt_size e)
 ·have out:∃ t',v=.int (Dm.jt ns d) t':=by
   cases ns with
   | nil=>
    have e0:its.toArray.size=0:=e1
    have hv:v=.int d t0:=by rw [e0] at hp;exact hp
    exact ⟨t0,hv⟩
   | cons n0 nr=>
    have e2:its.toArray.size=nr.length+1:=e1
    rw [e2] at hp
    obtain ⟨t',hv⟩:=xj rv _ _ hp
    refine ⟨t',hv.trans ?_⟩
    rw [rS n0 nr _ (Nat.le_refl _),List.take_length]
    rfl
  obtain ⟨t',rfl⟩:=out
  refine ⟨.int (Dm.jt ns d),H,I.kept (t':=tk) fun b o eb=>hk b o ?_ (Heap.get?_push_of_some _ eb),⟨t',rfl⟩,q⟩
  intro hm
  have:b=s.heap.objs.size:=by simpa using hm
  exact absurd (Heap.lt_size eb) (by rw [this];exact Nat.lt_irrefl _)
theorem EF:CallD (fun xs H Q=>∃ (a:Addr) (ns:List Int) (d:Int),xs=[.ref a,.int d]∧Rd H a (.lst (ns.map V.int))∧Q (.int (Dm.jt ns d)) H) Dm.pI:=by
 intro H0 H vs ds z Q s rs e k
 unfold Dm.pI at e
 split at e
 ·split at e
  ·rename_i ns hb
   cases e
   cases rs with
   | cons r rr=>
    cases rr with
    | cons r2 rr2=>
    cases rr2
    obtain ⟨a,us,rfl,qa,ra⟩:=bL s r
    have:=mj ra hb
    subst this
    have:=aD r2
    subst this
    exact ⟨a,ns,_,rfl,qa,k _ H0 H (aQ.refl s) (.int _)⟩
  ·cases e
 ·cases e
theorem JB {e e2:Expr} {fs:List Dm.FE} {f:Dm.FE} {p pos kpos:Pos} (hc:X.calm=true) (hg:Gl X "max") (hm:X.mg "max" = none) (ha:DA X [e] fs) (h2:DE X e2 f) (he:backTo pos (starEach [e] X.env)=(false,eval e X.env)::backTo pos (starEach [] X.env):=by rfl)
  (hpl:(backTo pos (starEach [e] X.env)).any (·.1)=false:=by rfl):DE X (.Call (.Name "max" p) [e] [⟨some "default",e2,kpos⟩] pos) (Dm.eB Dm.pI (fs++[f])):=Oc (zh hc) EF (by rfl) hg hm ha h2 he hpl
end
end Br
set_option maxHeartbeats 4000000
namespace Ts
open PySem PyProof.Rows
variable {A:Around} {E:Value→Shared→Prop} {s:Shared} {prog:Program} {w:World}
end Ts
namespace Br
open PySem PySem.Spec PyProof.Rows L2
theorem okQ {P:Program} {w:World} {K:PySem.W.Frag} {mg:Str→Option Value} {base:Heap} {x qual:Str} {st:Stmt} {f:Addr} {fd:FuncData} {N ps:List Str} {k n m:Nat} {body:Dm.FS} (F:Fun K x qual st f fd) (S:av N ps (ai st))
  (hb:∀ (cdv:Value) (A:Around) (outer:List Env) (s:Shared) (H:Hp) (E:XK),bQ k (A.deeper (envOfC qual (ai st) s.heap.objs.size f cdv))→DSs (uJ CX0 P w K mg base N qual (ai st) f cdv A outer s H E).nox (bB st) body)
  (hn:ps.length=n:=by rfl) (hm:N.length=n+m:=by rfl):aX P w K mg base CX0 (k+1) f fd ps (spD (Dm.fn n m body)):=
 F.ok S (fun vs H Q E h=>(Ax h).trans hn.symm) fun cdv A outer s H vs Q E hr h=>⟨_,hb cdv A outer s H E hr,NR hm h⟩
end Br
namespace Dm
noncomputable def pJ:Dat→Dat→Option RV
 | .tup (x::xs),.tup ys=>if (x::xs).length+ys.length≤SZ then some (.val (.tup ((x::xs)++ys))) else none
 | _,_=>none
noncomputable def xu:Dat→Option RV
 | .tup xs=>some (.val (.tup xs.reverse))
 | _=>none
end Dm
namespace HT
open PySem PySem.Spec PyProof.Rows
section
open PySem.SeqAt
open PySem.AutoSeq1 (wpAny_loadPart')
open PySem.MeetsSeq PySem.MeetsSeq2 PySem.MeetsSeq3
variable {prog:Program} {w:World} {A:Around} {E:Value→Shared→Prop} {s:Shared}
theorem rY {sl:Addr} {vs:Value} {n:Nat} {Q:Int×Int×Nat→Shared→Prop} (hs:s.heap.IsSliceOf sl .none .none vs) (ps:IsPart vs (some (-1))) (h:Q ((n:Int)-1,-1,n) s) :
  wpAny (model prog w) A (Builtin.Slice.sliceApplied (.ref sl) (pure (n:Int))) Q E s:=by
 obtain ⟨os,hos,_,hds⟩:=id hs
 unfold Builtin.Slice.sliceApplied Builtin.Slice.sliceFields
 refine wpAny_bind (wpAny_bind (wpAny_field hos hds (x:=.none) rfl (wpAny_bind (wpAny_field hos hds (x:=.none) rfl (wpAny_bind (wpAny_field hos hds (x:=vs) rfl (wpAny_pure ?_)))))))
 refine wpAny_bind (gR ps ?_)
 show wpAny _ _ (if ((-1:Int) == 0)=true then _ else _) _ _ s
 rw [if_neg (by decide)]
 refine wpAny_bind (slicePart_none (wpAny_bind (slicePart_none (wpAny_bind (wpAny_pure ?_)))))
 show wpAny _ _ (pure ((n:Int)-1,(-1:Int),Builtin.Slice.slicePlaces ((n:Int)-1) (-1) (-1))) _ _ s
 have e:Builtin.Slice.slicePlaces ((n:Int)-1) (-1) (-1)=n:=by
  unfold Builtin.Slice.slicePlaces
  rw [if_neg (by decide)]
  by_cases h:(n:Int)-1 > -1
  ·rw [if_pos h,show (- -1:Int)=1 by decide,Int.ediv_one]
   lia
  ·rw [if_neg h]
   lia
 rw [e]
 exact wpAny_pure h
theorem Bf (xs:Array Value):((List.range xs.size).filterMap fun (k:Nat)=>xs[((xs.size:Int)-1+(k:Int)*-1).toNat]?).toArray=xs.toList.reverse.toArray:=by
 congr 1
 have e:(List.range xs.size).filterMap (fun (k:Nat)=>xs[((xs.size:Int)-1+(k:Int)*-1).toNat]?)=((List.range xs.size).map fun k=>xs.size-1-k).filterMap (xs[·]?):=by
  rw [List.filterMap_map]
  have g:∀ l:List Nat,(∀ k∈l,k<xs.size)→l.filterMap (fun (k:Nat)=>xs[((xs.size:Int)-1+(k:Int)*-1).toNat]?)=l.filterMap ((fun i=>xs[i]?)∘fun k=>xs.size-1-k):=fun l=>by
   induction l with
   | nil=>exact fun _=>rfl
   | cons k l ih=>
    intro hk
    have:=hk k List.mem_cons_self
    rw [List.filterMap_cons,List.filterMap_cons,ih fun x hx=>hk x (List.mem_cons_of_mem _ hx)]
    have e:((xs.size:Int)-1+(k:Int)*-1).toNat=xs.size-1-k:=by lia
    rw [e]
    rfl
  exact g _ fun k hk=>List.mem_range.mp hk
 rw [e,PySem.W.krv_range,List.filterMap_reverse,PySem.W.krv_all]
theorem ju {t sl:Addr} {items:Array Value} {vs:Value} {Q:Value→Shared→Prop} (ht:IsTup s.heap t items) (hs:s.heap.IsSliceOf sl .none .none vs) (ps:IsPart vs (some (-1)))
  (h:Q (.ref s.heap.objs.size) { s with heap:=s.heap.push { cls:=.type "tuple",data:=.seq items.toList.reverse.toArray } }) (hsz:items.size≤sizeLine):wpAny (model prog w) A (getItem (.ref t) (.ref sl)) Q E s:=by
 have hz:sizeOk (.seq items.toList.reverse.toArray):=by
  show items.toList.reverse.toArray.size≤sizeLine
  simpa using hsz
 obtain ⟨os,hos,hcs,_⟩:=id hs
 have hTs:s.TypeIs (.ref sl) "slice" := ⟨os,hos,hcs⟩
 unfold getItem
 try with_reducible refine wpAny_holding ?_
 first | refine wpAny_bind (wpAny_pure ?_) | skip
 refine wpAny_bind (wpAny_sequenceKey ht.typeIs (by decide) ?_)
 refine wpAny_bind (wpAny_callSpecial?_slot (name:=Str.ofString "__getitem__") ht.typeIs PyProof.Rows.slot_tuple_getitem (wpAny_call_entry PyProof.Rows.slot_tuple_getitem ht.typeIs entry_tuple_getitem ?_ (args_tuple_getitem _ _)))
 show wpAny _ _ (Builtin.Tuple.tupleItemsOf (.ref t) >>= _) _ _ s
 refine wpAny_bind (tupleItemsOf_ ht (wpAny_bind (wpAny_typeOf hTs ?_)))
 rw [if_pos (by decide)]
 refine wpAny_bind (rY hs ps ?_)
 show wpAny _ _ (if ((((items.size:Int)-1) == 0&&(-1:Int) == 1&&items.size == items.size)=true) then _ else _) _ _ s
 rw [if_neg (by simp),Bf]
 first
  | exact wpAny_bind (m:=Builtin.Tuple.tupleExact _) (wpAny_newObj_type (wpAny_pure ⟨_,rfl,wpAny_pure h⟩) hz)
  | exact wpAny_bind (m:=Builtin.Tuple.tupleExact _) (wpAny_newObj_type (wpAny_bind (wpAny_pure (wpAny_pure ⟨_,rfl,wpAny_pure h⟩))) hz)
  | exact wpAny_bind (wpAny_bind (m:=Builtin.Tuple.tupleExact _) (wpAny_newObj_type (wpAny_pure (wpAny_pure ⟨_,rfl,wpAny_pure h⟩)) hz))
  | exact wpAny_bind (wpAny_bind (m:=Builtin.Tuple.tupleExact _) (wpAny_newObj_type (wpAny_pure ⟨_,rfl,wpAny_pure h⟩) hz))
end
end HT
namespace Br
open PySem PySem.Spec PyProof.Rows L2
theorem EG {K:PySem.W.Frag}:OpD (L2.Gg K) Dm.pJ:=by
 intro H0 H x y dx dy z Q s rx ry e k
 unfold Dm.pJ at e
 split at e
 ·rename_i x1 xs ys
  split at e
  case isFalse=>cases e
  rename_i hz
  cases e
  have r0:Rep H0 x (.tup (x1::xs)):=by
   rcases rx with r | ⟨a,_,w⟩
   ·exact r
   ·exact False.elim w
  obtain ⟨a,us,rfl,qa,ra⟩:=b_ s rx
  obtain ⟨b,ws,rfl,qb,rb⟩:=b_ s ry
  have la:=ra.length
  have lb:=rb.length
  refine ⟨a,b,us,ws,rfl,rfl,SqT.of qa,SqT.of qb,fun q=>(by rw [q] at la;cases la),by rw [la,lb];exact gn hz,fun q=>?_,fun _ p hp=>?_⟩
  ·subst q
   cases rb
   refine k _ _ _ (aQ.refl s) ?_
   show Rep H0 (.ref a) (.tup ((x1::xs)++[]))
   rw [List.append_nil]
   exact r0
  ·have g:=aQ.rK (o:=.tup (us++ws)) s hp
   exact k _ _ _ g (.tup ay ((ra.append rb).mono g.s0))
 ·cases e
section
variable {X:Cx} {pos p2:Pos} {e:Expr} {f:Dm.FE}
theorem JC {a b:Expr} {fa fb:Dm.FE} (ha:DE X a fa) (hb:DE X b fb):DE X (.BinOp a .Add b pos) (Dm.e2 Dm.pJ fa fb):=rN L2.DR EG ha hb
noncomputable def GD (K:PySem.W.Frag) (te:TE):TE:=fun σ H Q=>te σ H fun x H1=>∃ a xs,x=.ref a∧SqT K H1 a xs∧∀ p,H1 p=none→Q (.ref p) (upd H1 p (.tup xs.reverse))
theorem EH {te:TE} {k p3 p4} (he:PE X e te):PE X (.Subscript e (.Slice none none (some (.UnaryOp .USub (.Constant (.int 1) k p3) p4)) p2) pos) (GD X.K te):=by
 intro pins s σ H Q I h
 refine Subscript_ (thn (he pins s σ H _ I h) fun v s1 h1=>?_)
 obtain ⟨x,H1,I1,r1,a,xs,rfl,hx,q⟩:=h1
 cases r1
 refine wpAny_Slice ?_
 rw [evalPart_none]
 refine wpAny_pure (wpAny_pure ?_)
 have hstep:=qc (X:=X) (Gd (pos:=p4) zT (uC (i:=1) (j:=k) (pos:=p3) (X:=X)))
 refine thn (hstep pins s1 σ H1 (fun o H'=>o=some (-1)∧H'=H1) I1 ⟨_,rfl,_,rfl,rfl,rfl⟩) fun vs s2 h2=>?_
 obtain ⟨o,H2,I2,ps,rfl,rfl⟩:=h2
 have I3:Inv X pins σ H2 { s2 with heap:=s2.heap.push { cls:=.type "slice",data:=.fields #[.none,.none,vs] } }:=I2.kept (t':=s2.toks) fun b ob q=>Heap.get?_push_of_some _ q
 obtain ⟨its,r,ht,hz⟩:=I3.tuple hx
 have hlen:=r.length
 have hg:wpAny (model X.prog X.w) X.A (getItem (.ref a) (.ref s2.heap.objs.size)) (EP X pins σ Q) X.xe { s2 with heap:=s2.heap.push { cls:=.type "slice",data:=.fields #[.none,.none,vs] } }:=by
  refine HT.ju ht (Heap.IsSliceOf.new ..) ps ?_ (by rw [List.size_toArray]<;>lia)
  rw [show its.toArray.toList.reverse.toArray=its.reverse.toArray by simp]
  refine ⟨.ref _,_,I3.laid (t':=s2.toks) (o:=.tup xs.reverse) (fun b ob q=>Heap.get?_push_of_some _ q) (Nat.le_refl _) ?_,rfl,q _ (I3.hok.fresh (Nat.le_refl _))⟩
  exact ⟨by rw [List.length_reverse];exact hz,_,r.reverse,IsTup.new _ _⟩
 show wpAny (model X.prog X.w) X.A (subscriptTail e (.Slice none none (some (.UnaryOp .USub (.Constant (.int 1) k p3) p4)) p2) (.ref a) (.ref s2.heap.objs.size)) (EP X pins σ Q) X.xe _
 exact tail_any (ops:=[.ref a,.ref s2.heap.objs.size]) ht.typeIs PyProof.Rows.slot_tuple_getitem.lookup hg (by with_unfolding_all rfl)
theorem JD {K:PySem.W.Frag} {σ:L2.St} {H:Hp} {Q:VK} (h:tD (Dm.e1 Dm.xu f) σ H Q):GD K (tD f) σ H Q:=by
 obtain ⟨H0,ρ,x,ρ',st,e,k⟩:=h
 unfold Dm.e1 at e
 split at e
 ·cases e
 rename_i x1 ρ1 e1
 split at e
 ·cases e
 rename_i dx p1
 split at e
 ·cases e
 rename_i z gz
 unfold Dm.xu at gz
 split at gz
 ·cases gz
  cases e
  refine ⟨H0,ρ,x1,_,st,e1,fun v H1 Hb t1 r1=>?_⟩
  obtain ⟨a,xs,rfl,qa,ra⟩:=b_ t1.st.same (r1.look t1.st p1)
  refine ⟨a,xs,rfl,SqT.of qa,fun q hq=>?_⟩
  have g:=aQ.rK (o:=HO.tup xs.reverse) t1.st.same hq
  exact k _ _ _ (t1.trans (.grow t1.st g)) (.tup ay (ra.reverse.mono g.s0))
 ·cases gz
theorem JE {k p3 p4} (h:DE X e f):DE X (.Subscript e (.Slice none none (some (.UnaryOp .USub (.Constant (.int 1) k p3) p4)) p2) pos) (Dm.e1 Dm.xu f):=PE.weak (EH h) fun _ _ _=>JD
end
end Br
namespace Dm
noncomputable def We (e:FE) (ρ:Env) (Q:Val→Env→Prop):Prop:=∃ v ρ',e ρ=some (v,ρ')∧Q v ρ'
noncomputable def Wt (t:FT) (ρ:Env) (Q:Bool→Env→Prop):Prop:=∃ v ρ',t ρ=some (v,ρ')∧Q v ρ'
noncomputable def Was (as:List FE) (ρ:Env) (Q:List Val→Env→Prop):Prop:=∃ v ρ',eAs as ρ=some (v,ρ')∧Q v ρ'
noncomputable def Wi (it:FI) (ρ:Env) (Q:List Dat→Env→Prop):Prop:=∃ v ρ',it ρ=some (v,ρ')∧Q v ρ'
noncomputable def KO (N:Env→Prop) (R:RV→Env→Prop) (B C:Env→Prop):Out→Prop
 | .nx ρ=>N ρ
 | .ret r ρ=>R r ρ
 | .bk ρ=>B ρ
 | .ct ρ=>C ρ
noncomputable def Ws (s:FS) (ρ:Env) (N:Env→Prop) (R:RV→Env→Prop) (B C:Env→Prop):Prop:=∃ o,s ρ=some o∧KO N R B C o
noncomputable def Wr (o:Option RV) (P:RV→Prop):Prop:=∃ r,o=some r∧P r
noncomputable def Wif (c:Bool) (X Y:Prop):Prop:=(c=true→X)∧(c=false→Y)
noncomputable def Wg1 (g:Dat→Option RV) (o:Option Dat) (K:RV→Prop):Prop:=∃ d v,o=some d∧g d=some v∧K v
noncomputable def Wg2 (g:Dat→Dat→Option RV) (o p:Option Dat) (K:RV→Prop):Prop:=∃ d e v,o=some d∧p=some e∧g d e=some v∧K v
noncomputable def WB (g:List Dat→Option RV) (o:Option (List Dat)) (K:RV→Prop):Prop:=∃ ds v,o=some ds∧g ds=some v∧K v
noncomputable def WT (o:Option (List Dat×Env)) (K:List Dat→Env→Prop):Prop:=∃ ds ρ,o=some (ds,ρ)∧ds.length≤SZ∧K ds ρ
noncomputable def WF (f:List Dat→Option RV) (ρ:Env) (xs:List Val) (Q:Val→Env→Prop):Prop:=∃ ds v,pks ρ xs=some ds∧f ds=some v∧(if fQ v.dat then ∃ ds' ρ2,tks ρ xs=some (ds',ρ2)∧Q v.bW ρ2 else Q v.bW ρ)
noncomputable def Wk (ρ:Env) (x:Val) (K:Dat→Env→Prop):Prop:=∃ d ρ',tk ρ x=some (d,ρ')∧K d ρ'
noncomputable def Wp (o:Option FE) (ρ:Env) (K:Option Int→Env→Prop):Prop:=∃ i ρ',part o ρ=some (i,ρ')∧K i ρ'
theorem Wif.t {X Y:Prop} (x:X):Wif true X Y:=⟨fun _=>x,fun h=>by cases h⟩
theorem Wif.f {X Y:Prop} (y:Y):Wif false X Y:=⟨fun h=>(by cases h),fun _=>y⟩
theorem Wif.yes {c:Bool} {X Y:Prop} (h:c=true) (x:X):Wif c X Y:=⟨fun _=>x,fun h'=>by rw [h] at h';cases h'⟩
theorem Wif.no {c:Bool} {X Y:Prop} (h:c=false) (y:Y):Wif c X Y:=⟨fun h'=>(by rw [h] at h';cases h'),fun _=>y⟩
theorem Wif.dec {p:Prop} [Decidable p] {X Y:Prop} (x:p→X) (y:¬ p→Y):Wif (decide p) X Y:=⟨fun h=>x (of_decide_eq_true h),fun h=>y (of_decide_eq_false h)⟩
theorem We.v {i:Nat} {ρ:Env} {d:Dat} {Q:Val→Env→Prop} (h:ρ[i]?=some (.sh d)) (q:Q (.val d) ρ):We (eV i) ρ Q:=⟨_,_,by unfold eV;rw [h],q⟩
theorem We.w {i:Nat} {ρ:Env} {d:Dat} {Q:Val→Env→Prop} (h:ρ[i]?=some (.ow d)) (q:Q (.slot i) ρ):We (eV i) ρ Q:=⟨_,_,by unfold eV;rw [h],q⟩
theorem We.c {d:Dat} {ρ:Env} {Q:Val→Env→Prop} (q:Q (.val d) ρ):We (eC d) ρ Q:=⟨_,_,rfl,q⟩
theorem We.e1 {g:Dat→Option RV} {a:FE} {ρ:Env} {Q:Val→Env→Prop} (h:We a ρ fun x ρ1=>Wg1 g (pk ρ1 x) fun v=>Q v.bW ρ1):We (e1 g a) ρ Q:=by
 obtain ⟨x,ρ1,h1,d,v,h2,h3,q⟩:=h
 exact ⟨_,_,by unfold Dm.e1;rw [h1];dsimp only;rw [h2];dsimp only;rw [h3],q⟩
theorem We.e2 {g:Dat→Dat→Option RV} {a b:FE} {ρ:Env} {Q:Val→Env→Prop} (h:We a ρ fun x ρ1=>We b ρ1 fun y ρ2=>Wg2 g (pk ρ2 x) (pk ρ2 y) fun v=>Q v.bW ρ2):We (e2 g a b) ρ Q:=by
 obtain ⟨x,ρ1,h1,y,ρ2,h2,d,e,v,h3,h4,h5,q⟩:=h
 exact ⟨_,_,by unfold Dm.e2;rw [h1];dsimp only;rw [h2];dsimp only;rw [h3];dsimp only;rw [h4];dsimp only;rw [h5],q⟩
theorem Was.nil {ρ:Env} {Q:List Val→Env→Prop} (q:Q [] ρ):Was [] ρ Q:=⟨_,_,rfl,q⟩
theorem Was.cons {a:FE} {r:List FE} {ρ:Env} {Q:List Val→Env→Prop} (h:We a ρ fun x ρ1=>Was r ρ1 fun xs ρ2=>Q (x::xs) ρ2):Was (a::r) ρ Q:=by
 obtain ⟨x,ρ1,h1,xs,ρ2,h2,q⟩:=h
 exact ⟨_,_,by unfold eAs;rw [h1];dsimp only;rw [h2],q⟩
theorem We.B {g:List Dat→Option RV} {as:List FE} {ρ:Env} {Q:Val→Env→Prop} (h:Was as ρ fun xs ρ1=>WB g (pks ρ1 xs) fun v=>Q v.bW ρ1):We (eB g as) ρ Q:=by
 obtain ⟨x,ρ1,h1,d,v,h2,h3,q⟩:=h
 exact ⟨_,_,by unfold eB;rw [h1];dsimp only;rw [h2];dsimp only;rw [h3],q⟩
theorem We.T {as:List FE} {ρ:Env} {Q:Val→Env→Prop} (h:Was as ρ fun xs ρ1=>WT (tks ρ1 xs) fun ds ρ2=>Q (.val (.tup ds)) ρ2):We (cN as) ρ Q:=by
 obtain ⟨x,ρ1,h1,ds,ρ2,h2,h3,q⟩:=h
 exact ⟨_,_,by unfold cN;rw [h1];dsimp only;rw [h2];dsimp only;rw [if_pos h3],q⟩
theorem We.L {as:List FE} {ρ:Env} {Q:Val→Env→Prop} (h:Was as ρ fun xs ρ1=>WT (tks ρ1 xs) fun ds ρ2=>Q (.new (.lst ds)) ρ2):We (bS as) ρ Q:=by
 obtain ⟨x,ρ1,h1,ds,ρ2,h2,h3,q⟩:=h
 exact ⟨_,_,by unfold bS;rw [h1];dsimp only;rw [h2];dsimp only;rw [if_pos h3],q⟩
theorem WT.mk {ρ:Env} {xs:List Val} {ds:List Dat} {ρ2 ρ3:Env} {K:List Dat→Env→Prop} (k:K ds ρ3) (h:tks ρ xs=some (ds,ρ2)) (hn:ρ2=ρ3) (hl:ds.length≤SZ):WT (tks ρ xs) K:=⟨_,_,hn▸h,hl,k⟩
theorem We.F {f:List Dat→Option RV} {as:List FE} {ρ:Env} {Q:Val→Env→Prop} (h:Was as ρ fun xs ρ1=>WF f ρ1 xs Q):We (eF f as) ρ Q:=by
 obtain ⟨x,ρ1,h1,ds,v,h2,h3,h4⟩:=h
 by_cases hb:fQ v.dat=true
 ·rw [if_pos hb] at h4
  obtain ⟨ds',ρ2,h5,q⟩:=h4
  exact ⟨_,_,by unfold eF;rw [h1];dsimp only;rw [h2];dsimp only;rw [h3];dsimp only;rw [if_pos hb,h5],q⟩
 ·rw [if_neg hb] at h4
  exact ⟨_,_,by unfold eF;rw [h1];dsimp only;rw [h2];dsimp only;rw [h3];dsimp only;rw [if_neg hb],h4⟩
theorem WF.box {f:List Dat→Option RV} {ρ ρ2 ρ3:Env} {xs:List Val} {ds ds':List Dat} {v:RV} {Q:Val→Env→Prop} (h2:f ds=some v) (q:Q v.bW ρ3) (h1:pks ρ xs=some ds) (h3:fQ v.dat=true) (h4:tks ρ xs=some (ds',ρ2)) (hn:ρ2=ρ3):WF f ρ xs Q:=
 ⟨_,_,h1,h2,by rw [if_pos h3];exact ⟨_,_,h4,hn▸q⟩⟩
theorem WF.val {f:List Dat→Option RV} {ρ:Env} {xs:List Val} {ds:List Dat} {v:RV} {Q:Val→Env→Prop} (h2:f ds=some v) (q:Q v.bW ρ) (h1:pks ρ xs=some ds) (h3:fQ v.dat=false):WF f ρ xs Q:=
 ⟨_,_,h1,h2,by rw [if_neg (by rw [h3];decide)];exact q⟩
theorem We.If {t:FT} {a b:FE} {ρ:Env} {Q:Val→Env→Prop} (h:Wt t ρ fun c ρ1=>Wif c (We a ρ1 Q) (We b ρ1 Q)):We (eIf t a b) ρ Q:=by
 obtain ⟨c,ρ1,h1,h2,h3⟩:=h
 cases c with
 | true=>obtain ⟨v,ρ2,h4,q⟩:=h2 rfl;exact ⟨_,_,by unfold eIf;rw [h1];exact h4,q⟩
 | false=>obtain ⟨v,ρ2,h4,q⟩:=h3 rfl;exact ⟨_,_,by unfold eIf;rw [h1];exact h4,q⟩
noncomputable def Wb (v:Val) (K:Bool→Prop):Prop:=∃ c,v=.val (.bl c)∧K c
theorem Wb.mk {c:Bool} {K:Bool→Prop} (k:K c):Wb (.val (.bl c)) K:=⟨c,rfl,k⟩
theorem We.And {a b:FE} {ρ:Env} {Q:Val→Env→Prop} (h:We a ρ fun v ρ1=>Wb v fun c=>Wif c (We b ρ1 Q) (Q (.val (.bl false)) ρ1)):We (fR a b) ρ Q:=by
 obtain ⟨v,ρ1,h1,c,rfl,h2,h3⟩:=h
 cases c with
 | true=>obtain ⟨v,ρ2,h4,q⟩:=h2 rfl;exact ⟨_,_,by unfold fR;rw [h1];exact h4,q⟩
 | false=>exact ⟨_,_,by unfold fR;rw [h1],h3 rfl⟩
theorem Wt.V {a:FE} {ρ:Env} {Q:Bool→Env→Prop} (h:We a ρ fun v ρ1=>Wb v fun c=>Q c ρ1):Wt (tV a) ρ Q:=by
 obtain ⟨v,ρ1,h1,c,rfl,h2⟩:=h
 exact ⟨_,_,by unfold tV;rw [h1],h2⟩
theorem Wt.Not {t:FT} {ρ:Env} {Q:Bool→Env→Prop} (h:Wt t ρ fun c ρ1=>Q (!c) ρ1):Wt (eu t) ρ Q:=by
 obtain ⟨v,ρ1,h1,h2⟩:=h
 exact ⟨_,_,by unfold eu;rw [h1],h2⟩
theorem Wt.And {t u:FT} {ρ:Env} {Q:Bool→Env→Prop} (h:Wt t ρ fun c ρ1=>Wif c (Wt u ρ1 Q) (Q false ρ1)):Wt (jD t u) ρ Q:=by
 obtain ⟨c,ρ1,h1,h2,h3⟩:=h
 cases c with
 | true=>obtain ⟨v,ρ2,h4,q⟩:=h2 rfl;exact ⟨_,_,by unfold jD;rw [h1];exact h4,q⟩
 | false=>exact ⟨_,_,by unfold jD;rw [h1],h3 rfl⟩
theorem Wt.Or {t u:FT} {ρ:Env} {Q:Bool→Env→Prop} (h:Wt t ρ fun c ρ1=>Wif c (Q true ρ1) (Wt u ρ1 Q)):Wt (tOr t u) ρ Q:=by
 obtain ⟨c,ρ1,h1,h2,h3⟩:=h
 cases c with
 | false=>obtain ⟨v,ρ2,h4,q⟩:=h3 rfl;exact ⟨_,_,by unfold tOr;rw [h1];exact h4,q⟩
 | true=>exact ⟨_,_,by unfold tOr;rw [h1],h2 rfl⟩
theorem Wt.Tr {a:FE} {ρ:Env} {Q:Bool→Env→Prop} (h:We a ρ fun x ρ1=>∃ d c,pk ρ1 x=some d∧truth d=some c∧Q c ρ1):Wt (tTr a) ρ Q:=by
 obtain ⟨x,ρ1,h1,d,c,h2,h3,q⟩:=h
 exact ⟨_,_,by unfold tTr;rw [h1];dsimp only;rw [h2];dsimp only;rw [h3],q⟩
theorem Wt.T {ρ:Env} {Q:Bool→Env→Prop} (q:Q true ρ):Wt bq ρ Q:=⟨_,_,rfl,q⟩
theorem Wk.val {ρ:Env} {d:Dat} {K:Dat→Env→Prop} (k:K d ρ):Wk ρ (.val d) K:=⟨_,_,rfl,k⟩
theorem Wk.new {ρ:Env} {d:Dat} {K:Dat→Env→Prop} (k:K d ρ):Wk ρ (.new d) K:=⟨_,_,rfl,k⟩
theorem Wk.slot {ρ ρ':Env} {i:Nat} {d:Dat} {K:Dat→Env→Prop} (k:K d ρ') (h:ρ[i]?=some (.ow d)) (hs:ρ.set i (.sh d)=ρ'):Wk ρ (.slot i) K:=⟨_,_,by unfold tk;dsimp only;rw [h];dsimp only;rw [hs],k⟩
noncomputable def zj:Dat→Option (List Dat)
 | .lst ds=>some ds
 | .tup ds=>some ds
 | _=>none
theorem Wi.S {a:FE} {ρ:Env} {Q:List Dat→Env→Prop} (h:We a ρ fun x ρ1=>Wk ρ1 x fun d ρ2=>∃ ds,zj d=some ds∧Q ds ρ2):Wi (iS a) ρ Q:=by
 obtain ⟨x,ρ1,h1,d,ρ2,h2,ds,hd,q⟩:=h
 cases d with
 | lst xs=>cases hd;exact ⟨_,_,by unfold iS;rw [h1];dsimp only;rw [h2],q⟩
 | tup xs=>cases hd;exact ⟨_,_,by unfold iS;rw [h1];dsimp only;rw [h2],q⟩
 | _=>cases hd
noncomputable def cz (v:Val) (K:Int→Prop):Prop:=∃ i,v=.val (.int i)∧K i
theorem cz.mk {i:Int} {K:Int→Prop} (k:K i):cz (.val (.int i)) K:=⟨i,rfl,k⟩
theorem Wi.R1 {a:FE} {ρ:Env} {Q:List Dat→Env→Prop} (h:We a ρ fun v ρ1=>cz v fun j=>Q (ups 0 j.toNat) ρ1∧j≤BIG∧-BIG≤j):Wi (iR1 a) ρ Q:=by
 obtain ⟨v,ρ1,h1,j,rfl,q,h2⟩:=h
 exact ⟨_,_,by unfold iR1;rw [h1];dsimp only;rw [if_pos h2],q⟩
theorem Wi.R2 {a b:FE} {ρ:Env} {Q:List Dat→Env→Prop} (h:We a ρ fun v ρ1=>cz v fun i=>We b ρ1 fun w ρ2=>cz w fun j=>Q (ups i (j-i).toNat) ρ2∧j≤BIG∧-BIG≤j∧i≤BIG∧-BIG≤i):Wi (iR2 a b) ρ Q:=by
 obtain ⟨v,ρ1,h1,i,rfl,w,ρ2,h2,j,rfl,q,h3⟩:=h
 exact ⟨_,_,by unfold iR2;rw [h1];dsimp only;rw [h2];dsimp only;rw [if_pos h3],q⟩
theorem Wp.none {ρ:Env} {K:Option Int→Env→Prop} (k:K none ρ):Wp none ρ K:=⟨_,_,rfl,k⟩
theorem Wp.some {f:FE} {ρ:Env} {K:Option Int→Env→Prop} (h:We f ρ fun v ρ1=>cz v fun i=>K (some i) ρ1):Wp (some f) ρ K:=by
 obtain ⟨v,ρ1,h1,i,rfl,k⟩:=h
 exact ⟨_,_,by unfold part;dsimp only;rw [h1],k⟩
noncomputable def Wsl (o:Option Dat) (l h:Option Int) (K:Dat→Prop):Prop:=∃ xs,o=some (.lst xs)∧K (.lst (cut xs l h))
noncomputable def cA {α:Type} (xs:List α) (lo hi:Option Int):List α:=(xs.drop (sIx xs.length 0 lo)).take (sIx xs.length xs.length hi-sIx xs.length 0 lo)
theorem GF {α:Type} (enc:α→Dat) (xs:List α) (lo hi:Option Int):cut (xs.map enc) lo hi=(cA xs lo hi).map enc:=by
 unfold cut cA
 rw [List.length_map,← List.map_drop,← List.map_take]
theorem dM {α:Type} (xs:List α) (lo hi:Option Int):(cA xs lo hi).length≤xs.length:=by
 unfold cA
 rw [List.length_take,List.length_drop];lia
theorem b4 {α:Type} {xs:List α} {lo hi:Option Int} {x:α} (h:x∈cA xs lo hi):x∈xs:=List.mem_of_mem_drop (List.mem_of_mem_take h)
theorem Wsl.A {α:Type} {enc:α→Dat} {xs:List α} {o:Option Dat} {l h:Option Int} {K:Dat→Prop} (k:K (.lst ((cA xs l h).map enc))) (ho:o=some (.lst (xs.map enc))):Wsl o l h K:=⟨_,ho,by rw [GF];exact k⟩
theorem We.Sl {a:FE} {lo hi:Option FE} {ρ:Env} {Q:Val→Env→Prop} (h:We a ρ fun x ρ1=>Wp lo ρ1 fun l ρ2=>Wp hi ρ2 fun h ρ3=>Wsl (pk ρ3 x) l h fun d=>Q (.new d) ρ3):We (eSl a lo hi) ρ Q:=by
 obtain ⟨x,ρ1,h1,l,ρ2,h2,hh,ρ3,h3,xs,h4,q⟩:=h
 exact ⟨_,_,by unfold eSl;rw [h1];dsimp only;rw [h2];dsimp only;rw [h3];dsimp only;rw [h4],q⟩
theorem We.SlT {a:FE} {lo hi:Option FE} {ρ:Env} {Q:Val→Env→Prop} (h:We a ρ fun x ρ1=>Wp lo ρ1 fun l ρ2=>Wp hi ρ2 fun h ρ3=>∃ xs,pk ρ3 x=some (.tup xs)∧¬ (sIx xs.length 0 l=0∧sIx xs.length xs.length h=xs.length)∧Q (.val (.tup (cut xs l h))) ρ3):We (yY a lo hi) ρ Q:=by
 obtain ⟨x,ρ1,h1,l,ρ2,h2,hh,ρ3,h3,xs,h4,h5,q⟩:=h
 exact ⟨_,_,by unfold yY;rw [h1];dsimp only;rw [h2];dsimp only;rw [h3];dsimp only;rw [h4];dsimp only;rw [if_neg h5],q⟩
theorem Ws.nx {ρ:Env} {N:Env→Prop} {R:RV→Env→Prop} {B C:Env→Prop} (n:N ρ):Ws sNx ρ N R B C:=⟨_,rfl,n⟩
theorem Ws.seq {s u:FS} {ρ:Env} {N:Env→Prop} {R:RV→Env→Prop} {B C:Env→Prop} (h:Ws s ρ (fun ρ1=>Ws u ρ1 N R B C) R B C):Ws (aq s u) ρ N R B C:=by
 obtain ⟨o,h1,h2⟩:=h
 cases o with
 | nx ρ1=>obtain ⟨o,h3,h4⟩:=h2;exact ⟨o,by unfold aq;rw [h1];exact h3,h4⟩
 | ret r ρ1=>exact ⟨.ret r ρ1,by unfold aq;rw [h1],h2⟩
 | bk ρ1=>exact ⟨.bk ρ1,by unfold aq;rw [h1],h2⟩
 | ct ρ1=>exact ⟨.ct ρ1,by unfold aq;rw [h1],h2⟩
noncomputable def WA (i:Nat) (v:Val) (ρ:Env) (N:Env→Prop):Prop:=match v with
 | .new d=>N (ρ.set i (.ow d))
 | x=>Wk ρ x fun d ρ2=>N (ρ2.set i (.sh d))
theorem Ws.A {i:Nat} {e:FE} {ρ:Env} {N:Env→Prop} {R:RV→Env→Prop} {B C:Env→Prop} (h:We e ρ fun v ρ1=>WA i v ρ1 N) (hi:i≠0):Ws (sA i e) ρ N R B C:=by
 obtain ⟨v,ρ1,h1,h2⟩:=h
 cases v with
 | new d=>exact ⟨.nx _,by unfold sA;rw [if_neg hi,h1],h2⟩
 | val d=>obtain ⟨d',ρ2,h3,h4⟩:=h2;exact ⟨.nx _,by unfold sA;rw [if_neg hi,h1];dsimp only;rw [h3],h4⟩
 | slot j=>obtain ⟨d',ρ2,h3,h4⟩:=h2;exact ⟨.nx _,by unfold sA;rw [if_neg hi,h1];dsimp only;rw [h3],h4⟩
theorem WA.new {i:Nat} {d:Dat} {ρ ρ2:Env} {N:Env→Prop} (n:N ρ2) (hs:ρ.set i (.ow d)=ρ2):WA i (.new d) ρ N:=by unfold WA;dsimp only;rw [hs];exact n
theorem WA.val {i:Nat} {d:Dat} {ρ ρ2:Env} {N:Env→Prop} (n:N ρ2) (hs:ρ.set i (.sh d)=ρ2):WA i (.val d) ρ N:=⟨_,_,rfl,by show N _;rw [hs];exact n⟩
theorem WA.slot {i j:Nat} {d:Dat} {ρ ρ2:Env} {N:Env→Prop} (n:N ρ2) (h:ρ[j]?=some (.ow d)) (hs:(ρ.set j (.sh d)).set i (.sh d)=ρ2):WA i (.slot j) ρ N:=⟨_,_,by unfold tk;dsimp only;rw [h],by show N _;rw [hs];exact n⟩
theorem Ws.U {is:List Nat} {e:FE} {ρ:Env} {N:Env→Prop} {R:RV→Env→Prop} {B C:Env→Prop} (h:We e ρ fun x ρ1=>Wk ρ1 x fun d ρ2=>∃ ds ρ3,d=.tup ds∧sets is ds ρ2=some ρ3∧N ρ3):Ws (sU is e) ρ N R B C:=by
 obtain ⟨x,ρ1,h1,d,ρ2,h2,ds,ρ3,rfl,h3,n⟩:=h
 exact ⟨.nx _,by unfold sU;rw [h1];dsimp only;rw [h2];dsimp only;rw [h3],n⟩
theorem Ws.E {e:FE} {ρ:Env} {N:Env→Prop} {R:RV→Env→Prop} {B C:Env→Prop} (h:We e ρ fun _ ρ1=>N ρ1):Ws (sE e) ρ N R B C:=by
 obtain ⟨x,ρ1,h1,n⟩:=h
 exact ⟨.nx _,by unfold sE;rw [h1],n⟩
noncomputable def WR (v:Val) (ρ:Env) (R:RV→Env→Prop):Prop:=match v with
 | .new d=>R (.new d) ρ
 | .val d=>R (.val d) ρ
 | .slot i=>(∃ d,ρ[i]?=some (.ow d)∧R (.new d) (ρ.set i .un))
theorem Ws.R {e:FE} {ρ:Env} {N:Env→Prop} {R:RV→Env→Prop} {B C:Env→Prop} (h:We e ρ fun v ρ1=>WR v ρ1 R):Ws (sR e) ρ N R B C:=by
 obtain ⟨v,ρ1,h1,h2⟩:=h
 cases v with
 | new d=>exact ⟨.ret _ _,by unfold sR;rw [h1],h2⟩
 | val d=>exact ⟨.ret _ _,by unfold sR;rw [h1],h2⟩
 | slot i=>obtain ⟨d,h3,h4⟩:=h2;exact ⟨.ret _ _,by unfold sR;rw [h1];dsimp only;rw [h3],h4⟩
theorem WR.new {d:Dat} {ρ:Env} {R:RV→Env→Prop} (r:R (.new d) ρ):WR (.new d) ρ R:=r
theorem WR.val {d:Dat} {ρ:Env} {R:RV→Env→Prop} (r:R (.val d) ρ):WR (.val d) ρ R:=r
theorem WR.slot {d:Dat} {ρ:Env} {i:Nat} {R:RV→Env→Prop} (r:R (.new d) (ρ.set i .un)) (h:ρ[i]?=some (.ow d)):WR (.slot i) ρ R:=⟨d,h,r⟩
theorem Ws.If {t:FT} {a b:FS} {ρ:Env} {N:Env→Prop} {R:RV→Env→Prop} {B C:Env→Prop} (h:Wt t ρ fun c ρ1=>Wif c (Ws a ρ1 N R B C) (Ws b ρ1 N R B C)):Ws (sIf t a b) ρ N R B C:=by
 obtain ⟨c,ρ1,h1,h2,h3⟩:=h
 cases c with
 | true=>obtain ⟨o,h4,q⟩:=h2 rfl;exact ⟨_,by unfold sIf;rw [h1];exact h4,q⟩
 | false=>obtain ⟨o,h4,q⟩:=h3 rfl;exact ⟨_,by unfold sIf;rw [h1];exact h4,q⟩
theorem Ws.App {i:Nat} {e:FE} {ρ:Env} {N:Env→Prop} {R:RV→Env→Prop} {B C:Env→Prop} {ds0:List Dat} (h:We e ρ fun x ρ1=>Wk ρ1 x fun d ρ2=>∃ ds ρ3,ρ2[i]?=some (.ow (.lst ds))∧ρ2.set i (.ow (.lst (ds++[d])))=ρ3∧N ρ3∧ds.length<SZ) (h0:ρ[i]?=some (.ow (.lst ds0))):Ws (qk i e) ρ N R B C:=by
 obtain ⟨x,ρ1,h1,d,ρ2,h2,ds,ρ3,h3,h5,n,h4⟩:=h
 exact ⟨.nx _,by unfold qk;rw [h0];dsimp only;rw [h1];dsimp only;rw [h2];dsimp only;rw [h3];dsimp only;rw [if_pos h4,h5],n⟩
theorem mD {i:Nat} {d:Dat} {ds:List Dat} {ρ2 ρ3:Env} {N:Env→Prop} (n:N ρ3) (h:ρ2[i]?=some (.ow (.lst ds))) (hs:ρ2.set i (.ow (.lst (ds++[d])))=ρ3) (hl:ds.length<SZ):∃ ds ρ3,ρ2[i]?=some (.ow (.lst ds))∧ρ2.set i (.ow (.lst (ds++[d])))=ρ3∧N ρ3∧ds.length<SZ:=⟨_,_,h,hs,n,hl⟩
theorem Ws.Set {i:Nat} {j e:FE} {ρ:Env} {N:Env→Prop} {R:RV→Env→Prop} {B C:Env→Prop} (h:We e ρ fun x ρ1=>Wk ρ1 x fun d ρ2=>(∃ d0,ρ2[i]?=some (.ow d0))∧We j ρ2 fun y ρ3=>cz y fun k=>∃ ds m ρ4,ρ3[i]?=some (.ow (.lst ds))∧ixN ds.length k=some m∧ρ3.set i (.ow (.lst (ds.set m d)))=ρ4∧N ρ4):Ws (ql i j e) ρ N R B C:=by
 obtain ⟨x,ρ1,h1,d,ρ2,h2,⟨d0,h0⟩,y,ρ3,h3,k,rfl,ds,m,ρ4,h4,h5,h6,n⟩:=h
 exact ⟨.nx _,by unfold ql;rw [h1];dsimp only;rw [h2];dsimp only;rw [h0];dsimp only;rw [h3];dsimp only;rw [h4];dsimp only;rw [h5];dsimp only;rw [h6],n⟩
theorem Ws.JF {i:Nat} {j e:FE} {ρ:Env} {N:Env→Prop} {R:RV→Env→Prop} {B C:Env→Prop} (h:We e ρ fun x ρ1=>Wk ρ1 x fun d ρ2=>(∃ d0,ρ2[i]?=some (.ow d0))∧We j ρ2 fun y ρ3=>cz y fun k=>∃ ks vs ρ4,ρ3[i]?=some (.ow (.dct ks vs))∧ρ3.set i (.ow (.dct (j7 ks k) (j8 ks vs k d)))=ρ4∧N ρ4∧ks.length<SZ):Ws (jr i j e) ρ N R B C:=by
 obtain ⟨x,ρ1,h1,d,ρ2,h2,⟨d0,h0⟩,y,ρ3,h3,k,rfl,ks,vs,ρ4,h4,h5,n,h6⟩:=h
 exact ⟨.nx _,by unfold jr;rw [h1];dsimp only;rw [h2];dsimp only;rw [h0];dsimp only;rw [h3];dsimp only;rw [h4];dsimp only;rw [if_pos h6,h5],n⟩
theorem qD {i:Nat} {k:Int} {d:Dat} {ks:List Int} {vs:List Dat} {ρ3 ρ4:Env} {N:Env→Prop} (n:N ρ4) (h:ρ3[i]?=some (.ow (.dct ks vs))) (hs:ρ3.set i (.ow (.dct (j7 ks k) (j8 ks vs k d)))=ρ4) (hl:ks.length<SZ):∃ ks vs ρ4,ρ3[i]?=some (.ow (.dct ks vs))∧ρ3.set i (.ow (.dct (j7 ks k) (j8 ks vs k d)))=ρ4∧N ρ4∧ks.length<SZ:=⟨_,_,_,h,hs,n,hl⟩
theorem Ws.For {it:FI} {bd:FB} {body:FS} {ρ:Env} {N:Env→Prop} {R:RV→Env→Prop} {B C:Env→Prop} (h:Wi it ρ fun ds ρ1=>Ws (jH bd body ds) ρ1 N R B C):Ws (eZ it bd body) ρ N R B C:=by
 obtain ⟨ds,ρ1,h1,o,h2,h3⟩:=h
 exact ⟨o,by unfold eZ;rw [h1];exact h2,h3⟩
theorem Ws.inv {α:Type} (enc:α→Dat) (bd:FB) (body:FS) (xs:List α) (ρ:Env) (N:Env→Prop) (R:RV→Env→Prop) (B C:Env→Prop) (I:List α→List α→Env→Prop)
  (h0:I [] xs ρ) (hs:∀ p x q ρ,xs=p++x::q→I p (x::q) ρ→∃ ρ1,bd (enc x) ρ=some ρ1∧Ws body ρ1 (fun ρ2=>I (p++[x]) q ρ2) R N (fun ρ2=>I (p++[x]) q ρ2)) (he:∀ ρ,I xs [] ρ→N ρ):Ws (jH bd body (xs.map enc)) ρ N R B C:=by
 have go:∀ (q p:List α) (ρ:Env),xs=p++q→I p q ρ→Ws (jH bd body (q.map enc)) ρ N R B C:=fun q=>by
  induction q with
  | nil=>intro p ρ e i;rw [List.append_nil] at e;exact ⟨.nx _,rfl,he ρ (e▸i)⟩
  | cons x q ih=>
   intro p ρ e i
   obtain ⟨ρ1,h1,o,h2,h3⟩:=hs p x q ρ e i
   have e':xs=(p++[x])++q:=by rw [List.append_assoc];exact e
   cases o with
   | nx ρ2=>obtain ⟨o,h4,h5⟩:=ih _ _ e' h3;exact ⟨o,by rw [List.map_cons,jH,h1];dsimp only;rw [h2];exact h4,h5⟩
   | ct ρ2=>obtain ⟨o,h4,h5⟩:=ih _ _ e' h3;exact ⟨o,by rw [List.map_cons,jH,h1];dsimp only;rw [h2];exact h4,h5⟩
   | bk ρ2=>exact ⟨.nx _,by rw [List.map_cons,jH,h1];dsimp only;rw [h2],h3⟩
   | ret r ρ2=>exact ⟨.ret _ _,by rw [List.map_cons,jH,h1];dsimp only;rw [h2],h3⟩
 exact go xs [] ρ rfl h0
theorem Wr.fn {n m:Nat} {body:FS} {ds:List Dat} {ρ:Env} {P:RV→Prop} (b:Ws body ρ (fun _=>P (.val .non)) (fun r _=>P r) (fun _=>False) (fun _=>False)) (hρ:ds.map Cell.sh++List.replicate m .un=ρ) (h:ds.length=n):Wr (fn n m body ds) P:=by
 obtain ⟨o,h1,h2⟩:=b
 cases o with
 | nx ρ1=>exact ⟨_,by unfold Dm.fn;rw [if_pos h,hρ,h1],h2⟩
 | ret r ρ1=>exact ⟨_,by unfold Dm.fn;rw [if_pos h,hρ,h1],h2⟩
 | bk ρ1=>exact h2.elim
 | ct ρ1=>exact h2.elim
theorem Wr.eq {o:Option RV} {r:RV} (h:Wr o fun x=>x=r):o=some r:=by obtain ⟨x,h1,rfl⟩:=h;exact h1
theorem xw {α:Type} (enc:α→Dat) (p:α→Bool) (v:α→Dat) (bd:FB) (t:FT) (el:FE) (mk:Cell→Env) (hb:∀ d c,bd d (mk c)=some (mk (.sh d))):∀ (xs:List α) (c:Cell) (acc:List Dat),
  (∀ x∈xs,t (mk (.sh (enc x)))=some (p x,mk (.sh (enc x))))→(∀ x∈xs,p x=true→We el (mk (.sh (enc x))) fun w ρ'=>Wk ρ' w fun d ρ''=>d=v x∧ρ''=mk (.sh (enc x))) →
  ∃ c',dF bd t el (xs.map enc) (mk c) acc=some (acc++(xs.filter p).map v,mk c')
 | [],c,acc,_,_=>⟨c,by simp [dF]⟩
 | x::xs,c,acc,ht,he=>by
  rw [List.map_cons,dF,hb]
  dsimp only
  rw [ht x List.mem_cons_self]
  have ht':=fun y hy=>ht y (List.mem_cons_of_mem _ hy)
  have he':=fun y hy=>he y (List.mem_cons_of_mem _ hy)
  by_cases h:p x=true
  ·obtain ⟨w,ρ',h1,d,ρ'',h2,rfl,rfl⟩:=he x List.mem_cons_self h
   rw [h]
   dsimp only
   rw [h1]
   dsimp only
   rw [h2]
   obtain ⟨c',e⟩:=xw enc p v bd t el mk hb xs (.sh (enc x)) (acc++[v x]) ht' he'
   exact ⟨c',by dsimp only;rw [e,List.filter_cons_of_pos h];simp⟩
  ·rw [Bool.not_eq_true] at h
   rw [h]
   obtain ⟨c',e⟩:=xw enc p v bd t el mk hb xs (.sh (enc x)) acc ht' he'
   exact ⟨c',by dsimp only;rw [e,List.filter_cons_of_neg (by rw [h];decide)]⟩
theorem Wt.get {t:FT} {ρ:Env} {c:Bool} (h:Wt t ρ fun c' ρ'=>c'=c∧ρ'=ρ):t ρ=some (c,ρ):=by
 obtain ⟨_,_,h1,rfl,rfl⟩:=h;exact h1
theorem We.Comp {α:Type} (enc:α→Dat) (xs:List α) (p:α→Bool) (v:α→Dat) {it:FI} {k:Nat} {t:FT} {el:FE} {ρ ρ1:Env} {Q:Val→Env→Prop}
  (q:Q (.new (.lst ((xs.filter p).map v))) ρ1) (hit:it ρ=some (xs.map enc,ρ1)) (hk:ρ1.length=k) (hk0:k≠0) (hl:xs.length≤SZ)
  (ht:∀ x∈xs,Wt t (ρ1++[.sh (enc x)]) fun c ρ'=>c=p x∧ρ'=ρ1++[.sh (enc x)])
  (he:∀ x∈xs,p x=true→We el (ρ1++[.sh (enc x)]) fun w ρ'=>Wk ρ' w fun d ρ''=>d=v x∧ρ''=ρ1++[.sh (enc x)]):We (bU it 1 (bN k) t el) ρ Q:=by
 have bd:∀ (d:Dat) (c:Cell),bN k d (ρ1++[c])=some (ρ1++[.sh d]):=fun d c=>by
  unfold bN
  rw [if_neg hk0,List.set_append_right _ _ (by lia)]
  simp [hk]
 obtain ⟨c',e⟩:=xw enc p v (bN k) t el (fun c=>ρ1++[c]) bd xs .un [] (fun x hx=>Wt.get (ht x hx)) he
 refine ⟨_,_,?_,q⟩
 unfold bU
 rw [hit]
 dsimp only
 rw [if_pos (by rw [List.length_map];exact hl)]
 show (match dF _ _ _ _ (ρ1++[.un]) [] with | none=>none | some (ys,ρ2)=>some (Val.new (.lst ys),ρ2.take ρ1.length))=_
 rw [e]
 dsimp only
 rw [List.nil_append,List.take_left]
theorem We.GG {α:Type} (enc:α→Dat) (xs:List α) (p:α→Bool) (v:α→Dat) {i:Nat} {k:Nat} {t:FT} {el:FE} {ρ:Env} {Q:Val→Env→Prop} {d:Dat}
  (q:Q (.new (.lst ((xs.filter p).map v))) ρ) (hi:ρ[i]?=some (.sh d)) (hd:zj d=some (xs.map enc)) (hk:ρ.length=k) (hk0:k≠0) (hl:xs.length≤SZ)
  (ht:∀ x∈xs,Wt t (ρ++[.sh (enc x)]) fun c ρ'=>c=p x∧ρ'=ρ++[.sh (enc x)])
  (he:∀ x∈xs,p x=true→We el (ρ++[.sh (enc x)]) fun w ρ'=>Wk ρ' w fun d ρ''=>d=v x∧ρ''=ρ++[.sh (enc x)]):We (aM i 1 (bN k) t el) ρ Q:=by
 have hit:iS (eV i) ρ=some (xs.map enc,ρ):=by
  unfold iS eV
  rw [hi]
  cases d with
  | lst ys=>cases hd;rfl
  | tup ys=>cases hd;rfl
  | _=>cases hd
 obtain ⟨a,ρ',h1,h2⟩:=We.Comp enc xs p v (Q:=Q) q hit hk hk0 hl ht he
 refine ⟨a,ρ',?_,h2⟩
 unfold aM
 rw [hi]
 exact h1
theorem We.Mq {α:Type} (enc:α→Dat) (xs:List α) (p:α→Bool) (v:α→Dat) {i:Nat} {k:Nat} {t:FT} {el:FE} {ρ ρ1:Env} {Q:Val→Env→Prop}
  (q:Q (.new (.lst ((xs.filter p).map v))) ρ) (hi:ρ[i]?=some (.ow (.lst (xs.map enc)))) (h1:ρ.set i .un=ρ1) (hk:ρ.length=k) (hk0:k≠0) (hl:xs.length≤SZ)
  (ht:∀ x∈xs,Wt t (ρ1++[.sh (enc x)]) fun c ρ'=>c=p x∧ρ'=ρ1++[.sh (enc x)])
  (he:∀ x∈xs,p x=true→We el (ρ1++[.sh (enc x)]) fun w ρ'=>Wk ρ' w fun d ρ''=>d=v x∧ρ''=ρ1++[.sh (enc x)]):We (aM i 1 (bN k) t el) ρ Q:=by
 have hlen:ρ1.length=ρ.length:=by rw [← h1,List.length_set]
 have hil:i<ρ.length:=(List.getElem?_eq_some_iff.mp hi).1
 have bd:∀ (d:Dat) (c:Cell),bN k d (ρ1++[c])=some (ρ1++[.sh d]):=fun d c=>by
  unfold bN
  rw [if_neg hk0,List.set_append_right _ _ (by lia)]
  simp [hk,hlen]
 obtain ⟨c',e⟩:=xw enc p v (bN k) t el (fun c=>ρ1++[c]) bd xs .un [] (fun x hx=>Wt.get (ht x hx)) he
 refine ⟨_,_,?_,q⟩
 unfold aM
 rw [hi]
 dsimp only
 rw [if_pos (by rw [List.length_map];exact hl),h1]
 show (match dF _ _ _ _ (ρ1++[.un]) [] with | none=>none | some (ys,ρ2)=>some (Val.new (.lst ys),(ρ2.take ρ.length).set i (.ow (.lst (xs.map enc)))))=_
 rw [e]
 dsimp only
 rw [List.nil_append,← hlen,List.take_left,← h1,List.set_set]
 congr 2
 apply List.ext_getElem?
 intro j
 by_cases h:i=j
 ·subst h;rw [List.getElem?_set_self hil,hi]
 ·rw [List.getElem?_set_ne h]
theorem We.Map {α β:Type} (enc:α→Dat) (xs:List α) (f:α→β) (dN:β→Dat) {it:FI} {k:Nat} {el:FE} {ρ ρ1:Env} {Q:Val→Env→Prop}
  (q:Q (.new (.lst ((xs.map f).map dN))) ρ1) (hit:it ρ=some (xs.map enc,ρ1)) (hk:ρ1.length=k) (hk0:k≠0) (hl:xs.length≤SZ)
  (he:∀ x∈xs,We el (ρ1++[.sh (enc x)]) fun w ρ'=>Wk ρ' w fun d ρ''=>d=dN (f x)∧ρ''=ρ1++[.sh (enc x)]):We (bU it 1 (bN k) bq el) ρ Q:=
 We.Comp enc xs (fun _=>true) (fun x=>dN (f x)) (by rw [List.filter_eq_self.mpr (fun _ _=>rfl)];rw [List.map_map] at q;exact q) hit hk hk0 hl (fun _ _=>Wt.T ⟨rfl,rfl⟩) fun x hx _=>he x hx
theorem We.f9 {α β:Type} (enc:α→Dat) (xs:List α) (f:α→β) (dN:β→Dat) {i:Nat} {k:Nat} {el:FE} {ρ:Env} {Q:Val→Env→Prop} {d:Dat}
  (q:Q (.new (.lst ((xs.map f).map dN))) ρ) (hi:ρ[i]?=some (.sh d)) (hd:zj d=some (xs.map enc)) (hk:ρ.length=k) (hk0:k≠0) (hl:xs.length≤SZ)
  (he:∀ x∈xs,We el (ρ++[.sh (enc x)]) fun w ρ'=>Wk ρ' w fun d ρ''=>d=dN (f x)∧ρ''=ρ++[.sh (enc x)]):We (aM i 1 (bN k) bq el) ρ Q:=
 We.GG enc xs (fun _=>true) (fun x=>dN (f x)) (by rw [List.filter_eq_self.mpr (fun _ _=>rfl)];rw [List.map_map] at q;exact q) hi hd hk hk0 hl (fun _ _=>Wt.T ⟨rfl,rfl⟩) fun x hx _=>he x hx
theorem We.EI {α β:Type} (enc:α→Dat) (xs:List α) (f:α→β) (dN:β→Dat) {i:Nat} {k:Nat} {el:FE} {ρ ρ1:Env} {Q:Val→Env→Prop}
  (q:Q (.new (.lst ((xs.map f).map dN))) ρ) (hi:ρ[i]?=some (.ow (.lst (xs.map enc)))) (h1:ρ.set i .un=ρ1) (hk:ρ.length=k) (hk0:k≠0) (hl:xs.length≤SZ)
  (he:∀ x∈xs,We el (ρ1++[.sh (enc x)]) fun w ρ'=>Wk ρ' w fun d ρ''=>d=dN (f x)∧ρ''=ρ1++[.sh (enc x)]):We (aM i 1 (bN k) bq el) ρ Q:=
 We.Mq enc xs (fun _=>true) (fun x=>dN (f x)) (by rw [List.filter_eq_self.mpr (fun _ _=>rfl)];rw [List.map_map] at q;exact q) hi h1 hk hk0 hl (fun _ _=>Wt.T ⟨rfl,rfl⟩) fun x hx _=>he x hx
theorem We.oH {α β:Type} (enc:α→Dat) (xs:List α) (p:α→Bool) (f:α→β) (dN:β→Dat) {i:Nat} {k:Nat} {t:FT} {el:FE} {ρ:Env} {Q:Val→Env→Prop} {d:Dat}
  (q:Q (.new (.lst (((xs.filter p).map f).map dN))) ρ) (hi:ρ[i]?=some (.sh d)) (hd:zj d=some (xs.map enc)) (hk:ρ.length=k) (hk0:k≠0) (hl:xs.length≤SZ)
  (ht:∀ x∈xs,Wt t (ρ++[.sh (enc x)]) fun c ρ'=>c=p x∧ρ'=ρ++[.sh (enc x)])
  (he:∀ x∈xs,p x=true→We el (ρ++[.sh (enc x)]) fun w ρ'=>Wk ρ' w fun d ρ''=>d=dN (f x)∧ρ''=ρ++[.sh (enc x)]):We (aM i 1 (bN k) t el) ρ Q:=
 We.GG enc xs p (fun x=>dN (f x)) (by rw [List.map_map] at q;exact q) hi hd hk hk0 hl ht he
theorem xx (i j:Int):gEq (.int i) (.int j)=vB (decide (i=j)):=by
 have:(i == j)=decide (i=j):=by by_cases h:i=j<;>simp [h]
 show vB (i == j)=_
 rw [this]
theorem qE (i j:Int):gNe (.int i) (.int j)=vB (!decide (i=j)):=by
 have:(i == j)=decide (i=j):=by by_cases h:i=j<;>simp [h]
 show vB (!(i == j))=_
 rw [this]
theorem Wg2.eq {i j:Int} {o p:Option Dat} {K:RV→Prop} (k:K (.val (.bl (decide (i=j))))) (ho:o=some (.int i)) (hp:p=some (.int j)):Wg2 gEq o p K:=⟨_,_,_,ho,hp,xx i j,k⟩
theorem Wg2.ne {i j:Int} {o p:Option Dat} {K:RV→Prop} (k:K (.val (.bl (!decide (i=j))))) (ho:o=some (.int i)) (hp:p=some (.int j)):Wg2 gNe o p K:=⟨_,_,_,ho,hp,qE i j,k⟩
theorem Wg2.neb {i j:Bool} {o p:Option Dat} {K:RV→Prop} (k:K (.val (.bl (!(i == j))))) (ho:o=some (.bl i)) (hp:p=some (.bl j)):Wg2 gNe o p K:=⟨_,_,_,ho,hp,rfl,k⟩
theorem Wg2.Bg {i j:Bool} {o p:Option Dat} {K:RV→Prop} (k:K (.val (.bl (i != j)))) (ho:o=some (.bl i)) (hp:p=some (.bl j)):Wg2 ji o p K:=⟨_,_,_,ho,hp,rfl,k⟩
theorem Wg2.lt {i j:Int} {o p:Option Dat} {K:RV→Prop} (k:K (.val (.bl (decide (i<j))))) (ho:o=some (.int i)) (hp:p=some (.int j)):Wg2 gLt o p K:=⟨_,_,_,ho,hp,rfl,k⟩
theorem Wg2.le {i j:Int} {o p:Option Dat} {K:RV→Prop} (k:K (.val (.bl (decide (i≤j))))) (ho:o=some (.int i)) (hp:p=some (.int j)):Wg2 gLe o p K:=⟨_,_,_,ho,hp,rfl,k⟩
theorem Wg2.gt {i j:Int} {o p:Option Dat} {K:RV→Prop} (k:K (.val (.bl (decide (j<i))))) (ho:o=some (.int i)) (hp:p=some (.int j)):Wg2 gGt o p K:=⟨_,_,_,ho,hp,rfl,k⟩
theorem Wg2.ge {i j:Int} {o p:Option Dat} {K:RV→Prop} (k:K (.val (.bl (decide (j≤i))))) (ho:o=some (.int i)) (hp:p=some (.int j)):Wg2 gGe o p K:=⟨_,_,_,ho,hp,rfl,k⟩
theorem Wg2.add {i j:Int} {o p:Option Dat} {K:RV→Prop} (k:K (.val (.int (i+j)))) (ho:o=some (.int i)) (hp:p=some (.int j)):Wg2 bC o p K:=⟨_,_,_,ho,hp,rfl,k⟩
theorem Wg2.gG {xs ys:List Dat} {o p:Option Dat} {K:RV→Prop} (k:K (.new (.lst (xs++ys)))) (ho:o=some (.lst xs)) (hp:p=some (.lst ys)) (h:xs.length+ys.length≤SZ):Wg2 bC o p K:=⟨_,_,_,ho,hp,by unfold bC;dsimp only;rw [if_pos h],k⟩
theorem Wg2.sub {i j:Int} {o p:Option Dat} {K:RV→Prop} (k:K (.val (.int (i-j)))) (ho:o=some (.int i)) (hp:p=some (.int j)):Wg2 ez o p K:=⟨_,_,_,ho,hp,rfl,k⟩
theorem Wg2.mul {i j:Int} {o p:Option Dat} {K:RV→Prop} (k:K (.val (.int (i*j)))) (ho:o=some (.int i)) (hp:p=some (.int j)) (h:(-B64<i∧i<B64)∨(-B64<j∧j<B64)):Wg2 jh o p K:=⟨_,_,_,ho,hp,by unfold jh;dsimp only;rw [if_pos h],k⟩
theorem Wg2.div {i j:Int} {o p:Option Dat} {K:RV→Prop} (k:K (.val (.int (i / j)))) (ho:o=some (.int i)) (hp:p=some (.int j)) (h:0<j∧j<dR):Wg2 uO o p K:=⟨_,_,_,ho,hp,by unfold uO;dsimp only;rw [if_pos h],k⟩
theorem Wg2.mod {i j:Int} {o p:Option Dat} {K:RV→Prop} (k:K (.val (.int (i % j)))) (ho:o=some (.int i)) (hp:p=some (.int j)) (h:0<j):Wg2 kG o p K:=⟨_,_,_,ho,hp,by unfold kG;dsimp only;rw [if_pos h],k⟩
theorem Wg2.pow {i j z:Int} {o p:Option Dat} {K:RV→Prop} (k:K (.val (.int z))) (ho:o=some (.int i)) (hp:p=some (.int j)) (h:0≤j∧j≤1000000∧i.natAbs<1000000) (hz:i ^ j.toNat=z):Wg2 uP o p K:=⟨_,_,_,ho,hp,by unfold uP;dsimp only;rw [if_pos h,hz],k⟩
theorem Wg2.ix {d e:Dat} {v:Dat} {o p:Option Dat} {K:RV→Prop} (k:K (.val v)) (ho:o=some d) (hp:p=some e) (h:gIx d e=some (.val v)):Wg2 gIx o p K:=⟨_,_,_,ho,hp,h,k⟩
theorem gu {α:Type} (enc:α→Dat) (xs:List α) (i:Int) (h0:0≤i) (h1:i<xs.length):atI (xs.map enc) i=some (enc (xs[i.toNat]'(by omega))):=by
 unfold atI ixN
 rw [List.length_map,if_pos h0,if_pos h1]
 show (xs.map enc)[i.toNat]?=_
 rw [List.getElem?_map,List.getElem?_eq_getElem (by lia)]
 rfl
theorem Wg2.ixL {α:Type} {enc:α→Dat} {xs:List α} {i:Int} {o p:Option Dat} {K:RV→Prop} (h0:0≤i) (h1:i<xs.length) (k:K (.val (enc (xs[i.toNat]'(by lia))))) (ho:o=some (.lst (xs.map enc))) (hp:p=some (.int i)):Wg2 gIx o p K:=
 ⟨_,_,_,ho,hp,by unfold gIx;dsimp only;rw [gu enc xs i h0 h1];rfl,k⟩
theorem kU (i:Int) (xs:List Int):inD (.int i) (xs.map Dat.int)=decide (i∈xs):=by
 induction xs with
 | nil=>rfl
 | cons x xs ih=>
  have ih':(xs.map Dat.int).any (fun y=>eqD y (.int i))=decide (i∈xs):=ih
  unfold inD
  rw [List.map_cons,List.any_cons,ih']
  show ((x == i)||_)=_
  by_cases h:x=i
  ·simp [h]
  ·have h':¬ i=x:=fun z=>h z.symm
   simp [h,h']
theorem qF (xs:List Int):(xs.map Dat.int).all (okD 7)=true:=by
 rw [List.all_eq_true]
 intro d hd
 obtain ⟨x,_,rfl⟩:=List.mem_map.mp hd
 rfl
theorem Wg2.inL {i:Int} {xs:List Int} {o p:Option Dat} {K:RV→Prop} (k:K (.val (.bl (decide (i∈xs))))) (ho:o=some (.int i)) (hp:p=some (.lst (xs.map Dat.int))):Wg2 gIn o p K:=
 ⟨_,_,_,ho,hp,by unfold gIn;dsimp only;rw [show okD 8 (.int i)=true from rfl,qF,kU];rfl,k⟩
theorem Wg2.Mr {i:Int} {xs:List Int} {o p:Option Dat} {K:RV→Prop} (k:K (.val (.bl (!decide (i∈xs))))) (ho:o=some (.int i)) (hp:p=some (.lst (xs.map Dat.int))):Wg2 b8 o p K:=
 ⟨_,_,_,ho,hp,by unfold b8;dsimp only;rw [show okD 8 (.int i)=true from rfl,qF,kU];rfl,k⟩
theorem Wg2.inT {i:Int} {xs:List Int} {o p:Option Dat} {K:RV→Prop} (k:K (.val (.bl (decide (i∈xs))))) (ho:o=some (.int i)) (hp:p=some (.tup (xs.map Dat.int))):Wg2 gIn o p K:=
 ⟨_,_,_,ho,hp,by unfold gIn;dsimp only;rw [show okD 8 (.int i)=true from rfl,qF,kU];rfl,k⟩
theorem Wg2.Ms {i:Int} {xs:List Int} {o p:Option Dat} {K:RV→Prop} (k:K (.val (.bl (!decide (i∈xs))))) (ho:o=some (.int i)) (hp:p=some (.tup (xs.map Dat.int))):Wg2 b8 o p K:=
 ⟨_,_,_,ho,hp,by unfold b8;dsimp only;rw [show okD 8 (.int i)=true from rfl,qF,kU];rfl,k⟩
theorem Wg2.Mt {i a b:Int} {o p:Option Dat} {K:RV→Prop} (k:K (.val (.bl (!decide (i=a∨i=b))))) (ho:o=some (.int i)) (hp:p=some (.tup [.int a,.int b])):Wg2 b8 o p K:=
 Wg2.Ms (xs:=[a,b]) (by have:(i∈[a,b])=(i=a∨i=b):=(by simp);simp only [this];exact k) ho hp
theorem Wg2.din {i:Int} {ks:List Int} {vs:List Dat} {o p:Option Dat} {K:RV→Prop} (k:K (.val (.bl (bO ks vs i).isSome))) (ho:o=some (.int i)) (hp:p=some (.dct ks vs)):Wg2 u5 o p K:=⟨_,_,_,ho,hp,rfl,k⟩
theorem Wg2.Mu {i:Int} {ks:List Int} {vs:List Dat} {o p:Option Dat} {K:RV→Prop} (k:K (.val (.bl (!(bO ks vs i).isSome)))) (ho:o=some (.int i)) (hp:p=some (.dct ks vs)):Wg2 pB o p K:=⟨_,_,_,ho,hp,rfl,k⟩
theorem Wg2.dx {i:Int} {ks:List Int} {vs:List Dat} {d:Dat} {o p:Option Dat} {K:RV→Prop} (h:bO ks vs i=some d) (k:K (.val d)) (ho:o=some (.dct ks vs)) (hp:p=some (.int i)):Wg2 gDx o p K:=⟨_,_,_,ho,hp,by unfold gDx;dsimp only;rw [h];rfl,k⟩
theorem WB.min2 {i j:Int} {o:Option (List Dat)} {K:RV→Prop} (k:K (.val (.int (if j<i then j else i)))) (ho:o=some [.int i,.int j]):WB o8 o K:=⟨_,_,ho,rfl,k⟩
theorem WB.max2 {i j:Int} {o:Option (List Dat)} {K:RV→Prop} (k:K (.val (.int (if j>i then j else i)))) (ho:o=some [.int i,.int j]):WB o9 o K:=⟨_,_,ho,rfl,k⟩
theorem WB.list {xs:List Dat} {o:Option (List Dat)} {K:RV→Prop} (k:K (.new (.lst xs))) (ho:o=some [.lst xs]):WB dS o K:=⟨_,_,ho,rfl,k⟩
theorem WB.int {b:Bool} {o:Option (List Dat)} {K:RV→Prop} (k:K (.val (.int (b2i b)))) (ho:o=some [.bl b]):WB Al o K:=⟨_,_,ho,rfl,k⟩
theorem WB.sum2 {a b:Int} {o:Option (List Dat)} {K:RV→Prop} (k:K (.val (.int (a+b)))) (ho:o=some [.tup [.int a,.int b]]) (h:-1000000≤a∧a≤1000000∧-1000000≤b∧b≤1000000):WB pC o K:=⟨_,_,ho,by unfold pC;dsimp only;rw [if_pos h],k⟩
theorem Wg1.mk {g:Dat→Option RV} {d:Dat} {v:RV} {o:Option Dat} {K:RV→Prop} (k:K v) (ho:o=some d) (h:g d=some v):Wg1 g o K:=⟨_,_,ho,h,k⟩
theorem jv {xs:List Dat} {Q:List Dat→Prop} (q:Q xs):∃ ds,zj (.lst xs)=some ds∧Q ds:=⟨_,rfl,q⟩
theorem ndT {p:Prop} [Decidable p] (h:(!decide p)=true):¬ p:=by intro z;rw [decide_eq_true z] at h;cases h
theorem ndF {p:Prop} [Decidable p] (h:(!decide p)=false):p:=Decidable.byContradiction fun z=>by rw [decide_eq_false z] at h;cases h
theorem EJ (xs:List Dat) (h:okD 8 (.lst xs)=true):gEq (.lst xs) (.lst [])=vB xs.isEmpty:=by
 unfold gEq
 rw [h]
 cases xs<;>rfl
theorem pK {α:Type} (enc:α→Dat) (xs:List α) (h:∀ x,okD 7 (enc x)=true):okD 8 (.lst (xs.map enc))=true:=by
 unfold okD
 rw [List.all_eq_true]
 intro d hd
 obtain ⟨x,_,rfl⟩:=List.mem_map.mp hd
 exact h x
theorem Wg2.mE {xs:List Dat} {o p:Option Dat} {K:RV→Prop} (k:K (.val (.bl xs.isEmpty))) (ho:o=some (.lst xs)) (hp:p=some (.lst [])) (h:okD 8 (.lst xs)=true):Wg2 gEq o p K:=⟨_,_,_,ho,hp,EJ xs h,k⟩
theorem Wg2.JG {xs ys:List Int} {o p:Option Dat} {K:RV→Prop} (k:K (.new (.lst ((xs++ys).map Dat.int)))) (ho:o=some (.lst (xs.map Dat.int))) (hp:p=some (.lst (ys.map Dat.int))) (h:xs.length+ys.length≤SZ):Wg2 bC o p K:=⟨_,_,_,ho,hp,by unfold bC;dsimp only;rw [List.length_map,List.length_map,if_pos h,List.map_append],k⟩
theorem Wg2.Bh {xs:List Int} {y:Int} {o p:Option Dat} {K:RV→Prop} (k:K (.new (.lst ((xs++[y]).map Dat.int)))) (ho:o=some (.lst (xs.map Dat.int))) (hp:p=some (.lst [.int y])) (h:xs.length+1≤SZ):Wg2 bC o p K:=Wg2.JG (ys:=[y]) k ho hp h
theorem WB.fq {α:Type} {enc:α→Dat} {xs:List α} {o:Option (List Dat)} {K:RV→Prop} (k:K (.val (.int xs.length))) (ho:o=some [.lst (xs.map enc)]):WB bX o K:=⟨_,_,ho,by unfold bX;dsimp only;rw [List.length_map],k⟩
theorem Ws.mono {s:FS} {ρ:Env} {N N':Env→Prop} {R:RV→Env→Prop} {B C:Env→Prop} (h:Ws s ρ N' R B C) (k:∀ ρ',N' ρ'→N ρ'):Ws s ρ N R B C:=by
 obtain ⟨o,h1,h2⟩:=h
 cases o with
 | nx ρ1=>exact ⟨.nx ρ1,h1,k _ h2⟩
 | ret r ρ1=>exact ⟨.ret r ρ1,h1,h2⟩
 | bk ρ1=>exact ⟨.bk ρ1,h1,h2⟩
 | ct ρ1=>exact ⟨.ct ρ1,h1,h2⟩
theorem vg {ρ:Env} {i:Nat} {d:Dat} {W:Prop} (h:ρ[i]?=some (.ow d)) (w:W):(∃ d0,ρ[i]?=some (.ow d0))∧W:=⟨⟨d,h⟩,w⟩
theorem We.Dn {ρ:Env} {Q:Val→Env→Prop} (q:Q (.new (.dct [] [])) ρ):We eDn ρ Q:=⟨_,_,rfl,q⟩
theorem We.D1 {a b:FE} {ρ:Env} {Q:Val→Env→Prop} (h:We a ρ fun v ρ1=>cz v fun i=>We b ρ1 fun x ρ2=>Wk ρ2 x fun d ρ3=>Q (.new (.dct [i] [d])) ρ3):We (eD1 a b) ρ Q:=by
 obtain ⟨v,ρ1,h1,i,rfl,x,ρ2,h2,d,ρ3,h3,q⟩:=h
 exact ⟨_,_,by unfold eD1;rw [h1];dsimp only;rw [h2];dsimp only;rw [h3],q⟩
theorem b5 {bd:FB} {d:Dat} {ρ ρ1 ρ2:Env} {W:Env→Prop} (h:bd d ρ=some ρ1) (hn:ρ1=ρ2) (w:W ρ2):∃ ρ1,bd d ρ=some ρ1∧W ρ1:=⟨ρ1,h,hn▸w⟩
theorem Bj {α:Type} (enc:α→Dat) (p:α→Bool) (v:α→Dat) (bd:FB) (t:FT) (el:FE) (e0:Env) (env:α→Env) (h0:∀ x,bd (enc x) e0=some (env x)) (h1:∀ x y,bd (enc x) (env y)=some (env x)):∀ (xs:List α) (acc:List Dat) (e:Env),(e=e0∨∃ y,e=env y) →
  (∀ x∈xs,t (env x)=some (p x,env x))→(∀ x∈xs,p x=true→We el (env x) fun w ρ'=>Wk ρ' w fun d ρ''=>d=v x∧ρ''=env x) →
  ∃ e',(e'=e0∨∃ y,e'=env y)∧dF bd t el (xs.map enc) e acc=some (acc++(xs.filter p).map v,e')
 | [],acc,e,he,_,_=>⟨e,he,by simp [dF]⟩
 | x::xs,acc,e,he,ht,hel=>by
  have hb:bd (enc x) e=some (env x):=by
   rcases he with rfl | ⟨y,rfl⟩
   ·exact h0 x
   ·exact h1 x y
  rw [List.map_cons,dF,hb]
  dsimp only
  rw [ht x List.mem_cons_self]
  have ht':=fun y hy=>ht y (List.mem_cons_of_mem _ hy)
  have he':=fun y hy=>hel y (List.mem_cons_of_mem _ hy)
  by_cases h:p x=true
  ·obtain ⟨w,ρ',g1,d,ρ'',g2,rfl,rfl⟩:=hel x List.mem_cons_self h
   rw [h]
   dsimp only
   rw [g1]
   dsimp only
   rw [g2]
   obtain ⟨e',q,z⟩:=Bj enc p v bd t el e0 env h0 h1 xs (acc++[v x]) _ (.inr ⟨x,rfl⟩) ht' he'
   exact ⟨e',q,by dsimp only;rw [z,List.filter_cons_of_pos h];simp⟩
  ·rw [Bool.not_eq_true] at h
   rw [h]
   obtain ⟨e',q,z⟩:=Bj enc p v bd t el e0 env h0 h1 xs acc _ (.inr ⟨x,rfl⟩) ht' he'
   exact ⟨e',q,by dsimp only;rw [z,List.filter_cons_of_neg (by rw [h];decide)]⟩
theorem We.Bk {α β:Type} (enc:α→Dat) (xs:List α) (p:α→Bool) (f:α→β) (dN:β→Dat) (env:α→Env) {it:FI} {own:Nat} {bd:FB} {t:FT} {el:FE} {ρ ρ1:Env} {Q:Val→Env→Prop}
  (q:Q (.new (.lst (((xs.filter p).map f).map dN))) ρ1) (hit:it ρ=some (xs.map enc,ρ1)) (h0:∀ x,bd (enc x) (ρ1++List.replicate own .un)=some (env x)) (h1:∀ x y,bd (enc x) (env y)=some (env x)) (h2:∀ x,(env x).take ρ1.length=ρ1) (hl:xs.length≤SZ)
  (ht:∀ x∈xs,Wt t (env x) fun c ρ'=>c=p x∧ρ'=env x)
  (he:∀ x∈xs,p x=true→We el (env x) fun w ρ'=>Wk ρ' w fun d ρ''=>d=dN (f x)∧ρ''=env x):We (bU it own bd t el) ρ Q:=by
 obtain ⟨e',q',e⟩:=Bj enc p (fun x=>dN (f x)) bd t el _ env h0 h1 xs [] _ (.inl rfl) (fun x hx=>Wt.get (ht x hx)) he
 refine ⟨_,_,?_,q⟩
 unfold bU
 rw [hit]
 dsimp only
 rw [if_pos (by rw [List.length_map];exact hl),e]
 dsimp only
 rw [List.nil_append,List.map_map]
 have:e'.take ρ1.length=ρ1:=by
  rcases q' with rfl | ⟨y,rfl⟩
  ·exact List.take_left
  ·exact h2 y
 rw [this]
 rfl
theorem We.Mv {α β:Type} (enc:α→Dat) (xs:List α) (p:α→Bool) (f:α→β) (dN:β→Dat) (d1 d2 d3:α→Dat) (henc:∀ x,enc x=.tup [d1 x,d2 x,d3 x]) {i k:Nat} {t:FT} {el:FE} {ρ:Env} {Q:Val→Env→Prop} {d:Dat}
  (q:Q (.new (.lst (((xs.filter p).map f).map dN))) ρ) (hi:ρ[i]?=some (.sh d)) (hd:zj d=some (xs.map enc)) (hk:ρ.length=k) (hk0:k≠0) (hl:xs.length≤SZ)
  (ht:∀ x∈xs,Wt t (ρ++[.sh (d1 x),.sh (d2 x),.sh (d3 x)]) fun c ρ'=>c=p x∧ρ'=ρ++[.sh (d1 x),.sh (d2 x),.sh (d3 x)])
  (he:∀ x∈xs,p x=true→We el (ρ++[.sh (d1 x),.sh (d2 x),.sh (d3 x)]) fun w ρ'=>Wk ρ' w fun d ρ''=>d=dN (f x)∧ρ''=ρ++[.sh (d1 x),.sh (d2 x),.sh (d3 x)]):We (aM i 3 (bT [k,k+1,k+2]) t el) ρ Q:=by
 have hit:iS (eV i) ρ=some (xs.map enc,ρ):=by
  unfold iS eV
  rw [hi]
  cases d with
  | lst ys=>cases hd;rfl
  | tup ys=>cases hd;rfl
  | _=>cases hd
 have b:∀ (x:α) (c1 c2 c3:Cell),bT [k,k+1,k+2] (enc x) (ρ++[c1,c2,c3])=some (ρ++[.sh (d1 x),.sh (d2 x),.sh (d3 x)]):=fun x c1 c2 c3=>by
  rw [henc]
  show sets [k,k+1,k+2] [d1 x,d2 x,d3 x] _=_
  rw [sets,if_neg hk0,sets,if_neg (by lia),sets,if_neg (by lia),sets]
  rw [List.set_append_right _ _ (by lia),List.set_append_right _ _ (by lia),List.set_append_right _ _ (by lia)]
  subst hk
  rw [Nat.sub_self,show ρ.length+1-ρ.length=1 by lia,show ρ.length+2-ρ.length=2 by lia]
  rfl
 obtain ⟨a,ρ',g1,g2⟩:=We.Bk enc xs p f dN (fun x=>(ρ++[Cell.sh (d1 x),Cell.sh (d2 x),Cell.sh (d3 x)]:Env)) (own:=3) (bd:=bT [k,k+1,k+2]) (Q:=Q) q hit (fun x=>b x .un .un .un) (fun x y=>b x (.sh (d1 y)) (.sh (d2 y)) (.sh (d3 y))) (fun x=>List.take_left) hl ht he
 refine ⟨a,ρ',?_,g2⟩
 unfold aM
 rw [hi]
 exact g1
theorem WB.tuple {xs:List Dat} {o:Option (List Dat)} {K:RV→Prop} (k:K (.val (.tup xs))) (ho:o=some [.lst xs]):WB jI o K:=⟨_,_,ho,rfl,k⟩
noncomputable def ltI (a b:Int):Bool:=decide (a<b)
theorem vh (ns:List Int):eT (ns.map Dat.int)=some ns:=by
 induction ns with
 | nil=>rfl
 | cons m ms ih=>rw [List.map_cons,eT,ih];rfl
theorem oJ (ns:List Int):(fF ltI ns).Pairwise (fun a b=>ltI b a=false):=fh (fun a b c h1 h2=>by simp [ltI] at *;lia) (fun a b h=>by simp [ltI] at *;lia) ns
theorem Bl (N M:List Int):gNe (.lst (N.map Dat.int)) (.lst (M.map Dat.int))=vB (!decide (N=M)):=by
 have ok:∀ ns:List Int,okD 8 (.lst (ns.map Dat.int))=true:=fun ns=>pK Dat.int ns fun _=>rfl
 have eq:∀ N M:List Int,dG (N.map Dat.int) (M.map Dat.int)=decide (N=M):=fun N=>by
  induction N with
  | nil=>intro M;cases M<;>rfl
  | cons n N ih=>
   intro M
   cases M with
   | nil=>rfl
   | cons m M=>
    rw [List.map_cons,List.map_cons,dG,ih M]
    show ((n == m)&&_)=_
    rw [Bool.eq_iff_iff]
    simp
 unfold gNe
 rw [ok,ok]
 show vB (!dG _ _)=_
 rw [eq]
theorem Wg2.neI {N M:List Int} {o p:Option Dat} {K:RV→Prop} (k:K (.val (.bl (!decide (N=M))))) (ho:o=some (.lst (N.map Dat.int))) (hp:p=some (.lst (M.map Dat.int))):Wg2 gNe o p K:=⟨_,_,_,ho,hp,Bl N M,k⟩
theorem Ws.Ext {i:Nat} {e:FE} {ρ:Env} {N:Env→Prop} {R:RV→Env→Prop} {B C:Env→Prop} {ds0:List Dat} (h:We e ρ fun x ρ1=>∃ es ds ρ3,pk ρ1 x=some (.lst es)∧ρ1[i]?=some (.ow (.lst ds))∧ρ1.set i (.ow (.lst (ds++es)))=ρ3∧N ρ3∧ds.length+es.length≤SZ) (h0:ρ[i]?=some (.ow (.lst ds0))):Ws (za i e) ρ N R B C:=by
 obtain ⟨x,ρ1,h1,es,ds,ρ3,h2,h3,h5,n,h4⟩:=h
 exact ⟨.nx _,by unfold za;rw [h0];dsimp only;rw [h1];dsimp only;rw [h2];dsimp only;rw [h3];dsimp only;rw [if_pos h4,h5],n⟩
theorem Ws.wh {t:FT} {body:FS} {N:Env→Prop} {R:RV→Env→Prop} {B C:Env→Prop} (I:Nat→Env→Prop)
  (hs:∀ k ρ,I k ρ→Wt t ρ fun c ρ1=>Wif c (Ws body ρ1 (fun ρ2=>∃ k',k'<k∧I k' ρ2) R N (fun ρ2=>∃ k',k'<k∧I k' ρ2)) (N ρ1)):∀ (n k:Nat) (ρ:Env),k<n→I k ρ→Ws (whD t body n) ρ N R B C
 | 0,k,_,h,_=>absurd h (Nat.not_lt_zero k)
 | n+1,k,ρ,h,i=>by
  obtain ⟨c,ρ1,h1,h2,h3⟩:=hs k ρ i
  cases c with
  | false=>exact ⟨.nx _,by rw [whD,h1],h3 rfl⟩
  | true=>
   obtain ⟨o,h4,h5⟩:=h2 rfl
   cases o with
   | nx ρ2=>
    obtain ⟨k',hk,i'⟩:=h5
    obtain ⟨o,h6,h7⟩:=Ws.wh (N:=N) (R:=R) (B:=B) (C:=C) I hs n k' ρ2 (by lia) i'
    exact ⟨o,by rw [whD,h1];dsimp only;rw [h4];exact h6,h7⟩
   | ct ρ2=>
    obtain ⟨k',hk,i'⟩:=h5
    obtain ⟨o,h6,h7⟩:=Ws.wh (N:=N) (R:=R) (B:=B) (C:=C) I hs n k' ρ2 (by lia) i'
    exact ⟨o,by rw [whD,h1];dsimp only;rw [h4];exact h6,h7⟩
   | bk ρ2=>exact ⟨.nx _,by rw [whD,h1];dsimp only;rw [h4],h5⟩
   | ret r ρ2=>exact ⟨.ret _ _,by rw [whD,h1];dsimp only;rw [h4],h5⟩
theorem zk {α:Type} (p:α→Bool) (xs:List α):bools (xs.map fun x=>Dat.bl (p x))=some (xs.map p):=by
 induction xs with
 | nil=>rfl
 | cons x xs ih=>rw [List.map_cons,bools,ih];rfl
theorem WB.all {α:Type} (p:α→Bool) {xs:List α} {o:Option (List Dat)} {K:RV→Prop} (k:K (.val (.bl (xs.all p)))) (ho:o=some [.lst (xs.map fun x=>Dat.bl (p x))]):WB gC o K:=⟨_,_,ho,by
 unfold gC
 dsimp only
 rw [zk]
 have:(xs.map p).all id=xs.all p:=by rw [List.all_map];rfl
 dsimp only
 rw [this],k⟩
theorem We.Od {a b:FE} {ρ:Env} {Q:Val→Env→Prop} (h:We a ρ fun x ρ1=>(∃ ks vs,pk ρ1 x=some (.dct ks vs))∧We b ρ1 fun y ρ2=>∃ ks vs i,pk ρ2 x=some (.dct ks vs)∧pk ρ2 y=some (.int i)∧Q (.val ((bO ks vs i).getD .non)) ρ2):We (j9 a b) ρ Q:=by
 obtain ⟨x,ρ1,h1,⟨ks,vs,h2⟩,y,ρ2,h3,ks',vs',i,h4,h5,q⟩:=h
 exact ⟨_,_,by unfold j9;rw [h1];dsimp only;rw [h2];dsimp only;rw [h3];dsimp only;rw [h4];dsimp only;rw [h5],q⟩
theorem Wg2.isN {d:Dat} {o p:Option Dat} {K:RV→Prop} (k:K (.val (.bl (Dm.isN d)))) (ho:o=some d) (hp:p=some .non):Wg2 u6 o p K:=⟨_,_,_,ho,hp,by cases d<;>rfl,k⟩
theorem Ws.cut {s u:FS} {ρ:Env} {N:Env→Prop} {R:RV→Env→Prop} {B C:Env→Prop} (J:Env→Prop) (h1:Ws s ρ J R B C) (h2:∀ ρ',J ρ'→Ws u ρ' N R B C):Ws (aq s u) ρ N R B C:=Ws.seq (Ws.mono h1 h2)
noncomputable def WrM (o:Option (RV×Dat)) (P:RV→Dat→Prop):Prop:=∃ z d,o=some (z,d)∧P z d
theorem WrM.fn {n m:Nat} {body:FS} {d:Dat} {r:List Dat} {ρ:Env} {P:RV→Dat→Prop} (b:Ws body ρ (fun ρ'=>∃ d',ρ'[0]?=some (.ow d')∧P (.val .non) d') (fun z ρ'=>∃ d',ρ'[0]?=some (.ow d')∧P z d') (fun _=>False) (fun _=>False)) (hρ:Cell.ow d::(r.map Cell.sh++List.replicate m .un)=ρ) (h:(d::r).length=n):WrM (fnM n m body (d::r)) P:=by
 obtain ⟨o,h1,h2⟩:=b
 cases o with
 | nx ρ1=>obtain ⟨d',h3,h4⟩:=h2;exact ⟨_,_,by unfold fnM;rw [if_pos h];dsimp only;rw [hρ,h1];dsimp only;rw [h3],h4⟩
 | ret z ρ1=>obtain ⟨d',h3,h4⟩:=h2;exact ⟨_,_,by unfold fnM;rw [if_pos h];dsimp only;rw [hρ,h1];dsimp only;rw [h3],h4⟩
 | bk ρ1=>exact h2.elim
 | ct ρ1=>exact h2.elim
noncomputable def WFm (f:List Dat→Option (RV×Dat)) (j:Nat) (ρ1:Env) (xs:List Val) (Q:Val→Env→Prop):Prop:=
 ∃ d1 ds ρ2 d v d',ρ1[j]?=some (.ow d1)∧tks ρ1 xs=some (ds,ρ2)∧ρ2[j]?=some (.ow d)∧f (d::ds)=some (v,d')∧(if (flat v.dat&&qz d')=true then Q v.bW (ρ1.set j (.ow d')) else Q v.bW (ρ2.set j (.ow d')))
theorem We.Fm {f:List Dat→Option (RV×Dat)} {j:Nat} {as:List FE} {ρ:Env} {d0:Dat} {Q:Val→Env→Prop} (h:Was as ρ fun xs ρ1=>WFm f j ρ1 xs Q) (h0:ρ[j]?=some (.ow d0)):We (eFm f j as) ρ Q:=by
 obtain ⟨xs,ρ1,h1,d1,ds,ρ2,d,v,d',h2,h3,h4,h5,q⟩:=h
 by_cases c:(flat v.dat&&qz d')=true
 ·rw [if_pos c] at q
  exact ⟨_,_,by unfold eFm;rw [h0];dsimp only;rw [h1];dsimp only;rw [h2];dsimp only;rw [h3];dsimp only;rw [h4];dsimp only;rw [h5];dsimp only;rw [if_pos c],q⟩
 ·rw [if_neg c] at q
  exact ⟨_,_,by unfold eFm;rw [h0];dsimp only;rw [h1];dsimp only;rw [h2];dsimp only;rw [h3];dsimp only;rw [h4];dsimp only;rw [h5];dsimp only;rw [if_neg c],q⟩
theorem WFm.any {f:List Dat→Option (RV×Dat)} {j:Nat} {ρ1 ρ3:Env} {xs:List Val} {d d':Dat} {ds:List Dat} {v:RV} {Q:Val→Env→Prop} (h5:f (d::ds)=some (v,d')) (q:Q v.bW ρ3) (h2:ρ1[j]?=some (.ow d)) (h3:tks ρ1 xs=some (ds,ρ1)) (hn:ρ1.set j (.ow d')=ρ3):WFm f j ρ1 xs Q:=
 ⟨_,_,_,_,_,_,h2,h3,h2,h5,by rw [hn];split<;>exact q⟩
theorem We.Fd {f:List Dat→Option RV} {as:List FE} {ρ:Env} {Q:Val→Env→Prop} (h:Was as ρ fun xs ρ1=>∃ ds ρ2 v,vc ρ1 xs=some (ds,ρ2)∧f ds=some v∧bV v.dat=true∧Q v.bW ρ2):We (eFd f as) ρ Q:=by
 obtain ⟨xs,ρ1,h1,ds,ρ2,v,h2,h3,h4,q⟩:=h
 exact ⟨_,_,by unfold eFd;rw [h1];dsimp only;rw [h2];dsimp only;rw [h3];dsimp only;rw [if_pos h4],q⟩
theorem jQ:∀ (xs:List Dat),(∀ x∈xs,bV x=true)→fZ xs=true
 | [],_=>by unfold fZ;rfl
 | x::xs,h=>by
  unfold fZ
  rw [h x List.mem_cons_self,jQ xs fun y hy=>h y (List.mem_cons_of_mem _ hy)]
  rfl
theorem gv {α:Type} (enc:α→Dat) (xs:List α) (h:∀ x,bV (enc x)=true):bV (.lst (xs.map enc))=true:=by
 unfold bV
 exact jQ _ fun d hd=>by obtain ⟨x,_,rfl⟩:=List.mem_map.mp hd;exact h x
theorem pL (i:Int):bV (.int i)=true:=by unfold bV;rfl
theorem vj (xs:List Int):bV (.lst (xs.map Dat.int))=true:=gv _ _ pL
theorem WB.dict {ks:List Int} {vs:List Dat} {o:Option (List Dat)} {K:RV→Prop} (k:K (.new (.dct ks vs))) (ho:o=some [.dct ks vs]):WB rT o K:=⟨_,_,ho,rfl,k⟩
theorem WB.Mw {ks:List Int} {vs:List Dat} {o:Option (List Dat)} {K:RV→Prop} (k:K (.new (.lst ((fF ltI ks).map Dat.int)))) (ho:o=some [.dct ks vs]) (h:ks.length≤63):WB jP o K:=⟨_,_,ho,by
 unfold jP
 dsimp only
 rw [if_pos h]
 rfl,k⟩
theorem We.Mx {i:Nat} {e:FE} {ρ ρ2:Env} {k:Int} {ks:List Int} {vs:List Dat} {d:Dat} {Q:Val→Env→Prop} (hl:bO ks vs k=some d) (q:Q (.val d) ρ2) (h:ρ[i]?=some (.ow (.dct ks vs))) (he:e ρ=some (.val (.int k),ρ)) (hs:ρ.set i (.ow (.dct (fk ks vs k) (fm ks vs k)))=ρ2):We (mw i e) ρ Q:=⟨_,_,by
 unfold mw
 rw [h]
 dsimp only
 rw [he]
 dsimp only
 rw [h]
 dsimp only
 rw [hl]
 dsimp only
 rw [hs],q⟩
theorem Wi.get {it:FI} {ρ ρ1:Env} {ds:List Dat} (h:Wi it ρ fun x y=>x=ds∧y=ρ1):it ρ=some (ds,ρ1):=by
 obtain ⟨_,_,h1,rfl,rfl⟩:=h;exact h1
theorem We.Fp {a i:Nat} {f:List Dat→Option RV} {as:List FE} {ρ:Env} {Q:Val→Env→Prop} (h:ρ[i]?=some (.sh (.fn a))) (k:We (eF f as) ρ Q):We (eFp a i f as) ρ Q:=by
 obtain ⟨v,ρ',e,q⟩:=k
 exact ⟨v,ρ',by unfold eFp;rw [h];dsimp only;rw [if_pos rfl];exact e,q⟩
end Dm
namespace Fl
structure Tie where
 m:Int
 a:Int
 b:Int
deriving Inhabited
noncomputable def one (b:Bool):Int:=if b then 1 else 0
noncomputable def Ends (t:Tie) (p q:Int):Prop:=t.a≠t.b∧((t.a=p∧t.b=q)∨(t.b=p∧t.a=q))
theorem Ends.symm {t:Tie} {p q:Int} (h:Ends t p q):Ends t q p:=⟨h.1,h.2.symm.imp (fun x=>⟨x.2,x.1⟩) (fun x=>⟨x.2,x.1⟩)⟩
noncomputable abbrev Hd:=Int→Option Int
noncomputable def val (o:Option Int) (t:Tie) (S:Int→Bool):Int:=
 if t.a=t.b then 0 else if o=some t.b then one (S t.a)-one (S t.b) else if o=some t.a then one (S t.b)-one (S t.a) else 0
noncomputable def c_ (r:List Tie) (H:Hd) (S:Int→Bool):Int:=match r with
 | []=>0
 | t::r=>val (H t.m) t S+c_ r H S
noncomputable def put (H:Hd) (m:Int) (o:Option Int):Hd:=fun x=>if x=m then o else H x
theorem zl {r:List Tie} {H H':Hd} {S:Int→Bool} (h:∀ t∈r,H t.m=H' t.m):c_ r H S=c_ r H' S:=by
 induction r with
 | nil=>rfl
 | cons t r ih=>rw [c_,c_,h t List.mem_cons_self,ih fun u hu=>h u (List.mem_cons_of_mem _ hu)]
theorem rZ {r:List Tie} (nd:(r.map (·.m)).Nodup) {t:Tie} (ht:t∈r) (H:Hd) (o:Option Int) (S:Int→Bool):c_ r (put H t.m o) S=c_ r H S-val (H t.m) t S+val o t S:=by
 induction r with
 | nil=>cases ht
 | cons u r ih=>
  rw [List.map_cons,List.nodup_cons] at nd
  rcases List.mem_cons.mp ht with rfl | ht'
  ·rw [c_,c_]
   have e1:put H t.m o t.m=o:=by unfold put;rw [if_pos rfl]
   rw [e1,zl (H:=put H t.m o) (H':=H) fun v hv=>?_]
   ·lia
   ·unfold put
    rw [if_neg fun e=>?_]
    exact nd.1 (List.mem_map.mpr ⟨v,hv,e⟩)
  ·have hne:u.m≠t.m:=fun e=>nd.1 (List.mem_map.mpr ⟨t,ht',e.symm⟩)
   rw [c_,c_,ih nd.2 ht']
   have e1:put H t.m o u.m=H u.m:=by unfold put;rw [if_neg hne]
   rw [e1]
   lia
theorem gw {t:Tie} {p q:Int} (h:Ends t p q) (S:Int→Bool):val (some q) t S=one (S p)-one (S q):=by
 obtain ⟨h1,h2⟩:=h
 unfold val
 rw [if_neg h1]
 rcases h2 with ⟨rfl,rfl⟩ | ⟨rfl,rfl⟩
 ·rw [if_pos rfl]
 ·rw [if_neg (by intro e;injection e with e;exact h1 e),if_pos rfl]
theorem f_ (t:Tie) (S:Int→Bool):val none t S=0:=by
 unfold val
 split
 ·rfl
 ·simp
noncomputable def Ok (r:List Tie) (H:Hd):Prop:=∀ t∈r,∀ x,H t.m=some x→x=t.a∨x=t.b
noncomputable def gb (H:Hd) (m q:Int):Hd:=put H m (if (H m).isSome then none else some q)
theorem vm {r:List Tie} (nd:(r.map (·.m)).Nodup) {H:Hd} (ok:Ok r H) {t:Tie} (ht:t∈r) {p q:Int} (he:Ends t p q) (hf:H t.m≠some q) (S:Int→Bool) :
  c_ r (gb H t.m q) S=c_ r H S+one (S p)-one (S q):=by
 unfold gb
 rw [rZ nd ht]
 cases e:H t.m with
 | none=>
  simp only [Option.isSome_none,Bool.false_eq_true,if_false]
  rw [f_,gw he]
  lia
 | some x=>
  have hx:=ok t ht x e
  have:x=p:=by
   rw [e] at hf
   have hxq:x≠q:=fun z=>hf (by rw [z])
   obtain ⟨_,h2⟩:=he
   lia
  subst this
  simp only [Option.isSome_some,if_true]
  rw [f_,gw he.symm]
  lia
theorem uniq {r:List Tie} (nd:(r.map (·.m)).Nodup) {u t:Tie} (hu:u∈r) (ht:t∈r) (e:u.m=t.m):u=t:=by
 induction r with
 | nil=>cases hu
 | cons v r ih=>
  rw [List.map_cons,List.nodup_cons] at nd
  rcases List.mem_cons.mp hu with rfl | h1
  ·rcases List.mem_cons.mp ht with rfl | h2
   ·rfl
   ·exact absurd (List.mem_map.mpr ⟨t,h2,e.symm⟩) nd.1
  ·rcases List.mem_cons.mp ht with rfl | h2
   ·exact absurd (List.mem_map.mpr ⟨u,h1,e⟩) nd.1
   ·exact ih nd.2 h1 h2
theorem Bm {r:List Tie} (nd:(r.map (·.m)).Nodup) {H:Hd} (ok:Ok r H) {t:Tie} (ht:t∈r) {p q:Int} (he:Ends t p q):Ok r (gb H t.m q):=by
 intro u hu x hx
 unfold gb put at hx
 by_cases e:u.m=t.m
 ·rw [if_pos e] at hx
  have:u=t:=uniq nd hu ht e
  subst this
  split at hx
  ·cases hx
  ·injection hx with hx
   obtain ⟨_,h2⟩:=he
   lia
 ·rw [if_neg e] at hx
  exact ok u hu x hx
noncomputable abbrev Step:=Int×Int
noncomputable def Way (R:Int→Step→Prop):Int→List Step→Int→Prop
 | x,[],y=>x=y
 | x,s::w,y=>R x s∧Way R s.2 w y
theorem Way.snoc {R:Int→Step→Prop}:∀ {w:List Step} {x y:Int} {s:Step},Way R x w y→R y s→Way R x (w++[s]) s.2
 | [],_,_,_,h,k=>by cases h;exact ⟨k,rfl⟩
 | _::_,_,_,_,h,k=>⟨h.1,Way.snoc h.2 k⟩
theorem Way.mono {R R':Int→Step→Prop} (h:∀ p s,R p s→R' p s):∀ {w:List Step} {x y:Int},Way R x w y→Way R' x w y
 | [],_,_,k=>k
 | _::_,_,_,k=>⟨h _ _ k.1,Way.mono h k.2⟩
noncomputable def fG (r:List Tie) (p:Int) (s:Step):Prop:=∃ t∈r,t.m=s.1∧Ends t p s.2
noncomputable def mF (r:List Tie) (H:Hd) (p:Int) (s:Step):Prop:=fG r p s∧H s.1≠some s.2
noncomputable def Led (r:List Tie) (H:Hd) (p:Int) (s:Step):Prop:=fG r p s∧H s.1=some s.2
theorem jR {r:List Tie} (nd:(r.map (·.m)).Nodup) {R:Int→Step→Prop} (hR:∀ p s,R p s→fG r p s) {x y:Int} {s:Step} {w:List Step} (h:Way R x (s::w) y) (hn:(x::(s::w).map (·.2)).Nodup):∀ u∈w,u.1≠s.1:=by
 obtain ⟨h1,h2⟩:=h
 obtain ⟨t,ht,hm,he⟩:=hR _ _ h1
 have main:∀ (w:List Step) (z:Int),Way R z w y→(∀ u∈w,u.2≠x∧u.2≠s.2)→∀ u∈w,u.1≠s.1:=fun w=>by
  induction w with
  | nil=>intro z _ _ u hu;cases hu
  | cons v w ih=>
   intro z hw hd u hu
   rcases List.mem_cons.mp hu with rfl | hu
   ·intro e
    obtain ⟨t',ht',hm',he'⟩:=hR _ _ hw.1
    have:=uniq nd ht' ht (by rw [hm',e,hm])
    subst this
    obtain ⟨d1,d2⟩:=hd u List.mem_cons_self
    obtain ⟨_,he⟩:=he
    obtain ⟨_,he'⟩:=he'
    lia
   ·exact ih v.2 hw.2 (fun u hu=>hd u (List.mem_cons_of_mem _ hu)) u hu
 rw [List.map_cons,List.nodup_cons,List.nodup_cons] at hn
 refine main w s.2 h2 fun u hu=>⟨fun e=>hn.1 ?_,fun e=>hn.2.1 ?_⟩
 ·exact List.mem_cons_of_mem _ (List.mem_map.mpr ⟨u,hu,e⟩)
 ·exact List.mem_map.mpr ⟨u,hu,e⟩
theorem kg {r:List Tie} (nd:(r.map (·.m)).Nodup) {R:Int→Step→Prop} (hR:∀ p s,R p s→fG r p s) {y:Int}:∀ {w:List Step} {x:Int},Way R x w y→(x::w.map (·.2)).Nodup→(w.map (·.1)).Nodup
 | [],_,_,_=>by simp
 | s::w,x,h,hn=>by
  rw [List.map_cons,List.nodup_cons]
  refine ⟨fun e=>?_,kg nd hR h.2 (by rw [List.map_cons,List.nodup_cons] at hn;exact hn.2)⟩
  obtain ⟨u,hu,e⟩:=List.mem_map.mp e
  exact jR nd hR h hn u hu e
noncomputable def kh (H:Hd):List Step→Hd
 | []=>H
 | s::w=>kh (gb H s.1 s.2) w
theorem r8 {H:Hd} {m q x:Int} (h:x≠m):gb H m q x=H x:=by unfold gb put;rw [if_neg h]
theorem gX {r:List Tie} (nd:(r.map (·.m)).Nodup) (S:Int→Bool):∀ {w:List Step} {x y:Int} {H:Hd},Ok r H→Way (mF r H) x w y→(x::w.map (·.2)).Nodup →
  Ok r (kh H w)∧c_ r (kh H w) S=c_ r H S+one (S x)-one (S y)
 | [],x,y,H,ok,h,_=>by
  cases h
  exact ⟨ok,by rw [kh];lia⟩
 | s::w,x,y,H,ok,h,hn=>by
  have hfr:=jR nd (fun p s h=>h.1) h hn
  obtain ⟨⟨⟨t,ht,hm,he⟩,hf⟩,h2⟩:=h
  have ok1:=Bm nd ok ht he
  have f1:=vm nd ok ht he (by rw [hm];exact hf) S
  rw [hm] at ok1 f1
  have h3:Way (mF r (gb H s.1 s.2)) s.2 w y:=by
   have main:∀ (w:List Step) (z:Int),(∀ u∈w,u.1≠s.1)→Way (mF r H) z w y→Way (mF r (gb H s.1 s.2)) z w y:=fun w=>by
    induction w with
    | nil=>intro _ _ h;exact h
    | cons u w ih=>
     intro z hu hw
     exact ⟨⟨hw.1.1,by rw [r8 (hu u List.mem_cons_self)];exact hw.1.2⟩,ih u.2 (fun v hv=>hu v (List.mem_cons_of_mem _ hv)) hw.2⟩
   exact main w s.2 hfr h2
  obtain ⟨k1,k2⟩:=gX nd S ok1 h3 (by rw [List.map_cons,List.nodup_cons] at hn;exact hn.2)
  rw [kh]
  exact ⟨k1,by rw [k2,f1];lia⟩
noncomputable def fH (H:Hd):List Step→Hd
 | []=>H
 | s::w=>fH (put H s.1 none) w
theorem gf:∀ {w:List Step} {H:Hd} {x:Int},(∀ u∈w,u.1≠x)→fH H w x=H x
 | [],_,_,_=>rfl
 | s::w,H,x,h=>by
  rw [fH,gf fun u hu=>h u (List.mem_cons_of_mem _ hu)]
  unfold put
  rw [if_neg fun e=>h s List.mem_cons_self e.symm]
theorem gY:∀ {w:List Step} {H:Hd} {x:Int},x∈w.map (·.1)→fH H w x=none
 | [],_,_,h=>by cases h
 | s::w,H,x,h=>by
  rw [fH]
  by_cases e:x∈w.map (·.1)
  ·exact gY e
  ·rw [gf fun u hu z=>e (List.mem_map.mpr ⟨u,hu,z⟩)]
   rw [List.map_cons] at h
   rcases List.mem_cons.mp h with rfl | h
   ·unfold put;rw [if_pos rfl]
   ·exact absurd h e
theorem gZ {r:List Tie} (nd:(r.map (·.m)).Nodup) (S:Int→Bool):∀ {w:List Step} {x y:Int} {H:Hd},Ok r H→Way (Led r H) x w y→(x::w.map (·.2)).Nodup →
  Ok r (fH H w)∧c_ r (fH H w) S=c_ r H S-one (S x)+one (S y)
 | [],x,y,H,ok,h,_=>by
  cases h
  exact ⟨ok,by rw [fH];lia⟩
 | s::w,x,y,H,ok,h,hn=>by
  have hfr:=jR nd (fun p s h=>h.1) h hn
  obtain ⟨⟨⟨t,ht,hm,he⟩,hf⟩,h2⟩:=h
  have ok1:Ok r (put H s.1 none):=fun u hu z hz=>by
   unfold put at hz
   split at hz
   ·cases hz
   ·exact ok u hu z hz
  have f1:=rZ nd ht H none S
  rw [f_,hm,hf,gw he] at f1
  have h3:Way (Led r (put H s.1 none)) s.2 w y:=by
   have main:∀ (w:List Step) (z:Int),(∀ u∈w,u.1≠s.1)→Way (Led r H) z w y→Way (Led r (put H s.1 none)) z w y:=fun w=>by
    induction w with
    | nil=>intro _ _ h;exact h
    | cons u w ih=>
     intro z hu hw
     exact ⟨⟨hw.1.1,by unfold put;rw [if_neg (hu u List.mem_cons_self)];exact hw.1.2⟩,ih u.2 (fun v hv=>hu v (List.mem_cons_of_mem _ hv)) hw.2⟩
   exact main w s.2 hfr h2
  obtain ⟨k1,k2⟩:=gZ nd S ok1 h3 (by rw [List.map_cons,List.nodup_cons] at hn;exact hn.2)
  rw [fH]
  exact ⟨k1,by rw [k2,f1];lia⟩
noncomputable def over (S:Int→Bool) (t:Tie):Bool:=S t.a != S t.b
theorem Bo {r:List Tie} {H:Hd} {S:Int→Bool} (hc:∀ p s,S p=true→mF r H p s→S s.2=true):c_ r H S=((r.filter (over S)).length:Nat):=by
 have main:∀ (q:List Tie),(∀ t∈q,t∈r)→c_ q H S=((q.filter (over S)).length:Nat):=fun q=>by
  induction q with
  | nil=>intro _;rfl
  | cons t q ih=>
   intro hq
   rw [c_,ih fun u hu=>hq u (List.mem_cons_of_mem _ hu)]
   by_cases ho:over S t=true
   ·rw [List.filter_cons_of_pos ho]
    have hne:t.a≠t.b:=fun e=>by unfold over at ho;rw [e] at ho;simp at ho
    have hv:val (H t.m) t S=1:=by
     unfold over at ho
     cases ha:S t.a with
     | true=>
      have hb:S t.b=false:=by rw [ha] at ho;simpa using ho
      have he:Ends t t.a t.b:=⟨hne,.inl ⟨rfl,rfl⟩⟩
      have:H t.m=some t.b:=Decidable.byContradiction fun e=>by
       have:=hc t.a (t.m,t.b) ha ⟨⟨t,hq t List.mem_cons_self,rfl,he⟩,e⟩
       rw [hb] at this
       cases this
      rw [this,gw he,ha,hb]
      rfl
     | false=>
      have hb:S t.b=true:=by rw [ha] at ho;simpa using ho
      have he:Ends t t.b t.a:=⟨hne,.inr ⟨rfl,rfl⟩⟩
      have:H t.m=some t.a:=Decidable.byContradiction fun e=>by
       have:=hc t.b (t.m,t.a) hb ⟨⟨t,hq t List.mem_cons_self,rfl,he⟩,e⟩
       rw [ha] at this
       cases this
      rw [this,gw he,ha,hb]
      rfl
    rw [hv,List.length_cons]
    lia
   ·rw [List.filter_cons_of_neg ho]
    have hv:val (H t.m) t S=0:=by
     unfold over at ho
     have:S t.a=S t.b:=by simpa using ho
     unfold val
     rw [this]
     split
     ·rfl
     ·split
      ·lia
      ·split<;>lia
    rw [hv]
    lia
 exact main r fun _ h=>h
theorem Bp {r:List Tie} {H:Hd} {S:Int→Bool} (ok:Ok r H) (hc:∀ p s,S p=true→Led r H p s→S s.2=true):c_ r H S≤0:=by
 have main:∀ (q:List Tie),(∀ t∈q,t∈r)→c_ q H S≤0:=fun q=>by
  induction q with
  | nil=>intro _;exact Int.le_refl _
  | cons t q ih=>
   intro hq
   rw [c_]
   have h1:=ih fun u hu=>hq u (List.mem_cons_of_mem _ hu)
   have hv:val (H t.m) t S≤0:=by
    by_cases hne:t.a=t.b
    ·unfold val;rw [if_pos hne];exact Int.le_refl _
    cases e:H t.m with
    | none=>rw [f_];exact Int.le_refl _
    | some x=>
     have key:∀ p,Ends t p x→val (some x) t S≤0:=fun p he=>by
      rw [gw he]
      cases hp:S p with
      | false=>cases S x<;>decide
      | true=>
       have:=hc p (t.m,x) hp ⟨⟨t,hq t List.mem_cons_self,rfl,he⟩,e⟩
       rw [this]
       decide
     rcases ok t (hq t List.mem_cons_self) x e with rfl | rfl
     ·exact key t.b ⟨hne,.inr ⟨rfl,rfl⟩⟩
     ·exact key t.a ⟨hne,.inl ⟨rfl,rfl⟩⟩
   lia
 exact main r fun _ h=>h
structure Flow (r:List Tie) (H:Hd) (a b:Int) (k:Nat):Prop where
 ok:Ok r H
 eq:∀ S,c_ r H S=(k:Int)*(one (S a)-one (S b))
theorem Flow.zero (r:List Tie) (a b:Int):Flow r (fun _=>none) a b 0:=⟨fun _ _ _ h=>(by cases h),fun S=>by
 induction r with
 | nil=>simp [c_]
 | cons t r ih=>rw [c_,f_,ih];simp⟩
theorem Flow.more {r:List Tie} (nd:(r.map (·.m)).Nodup) {H:Hd} {a b:Int} {k:Nat} (f:Flow r H a b k) {w:List Step} (h:Way (mF r H) a w b) (hn:(a::w.map (·.2)).Nodup):Flow r (kh H w) a b (k+1):=
 ⟨(gX nd (fun _=>true) f.ok h hn).1,fun S=>by
  rw [(gX nd S f.ok h hn).2,f.eq S]
  have:((k+1:Nat):Int)=(k:Int)+1:=by lia
  rw [this,Int.add_mul]
  lia⟩
theorem Flow.less {r:List Tie} (nd:(r.map (·.m)).Nodup) {H:Hd} {a b:Int} {k:Nat} (f:Flow r H a b (k+1)) {w:List Step} (h:Way (Led r H) a w b) (hn:(a::w.map (·.2)).Nodup):Flow r (fH H w) a b k:=
 ⟨(gZ nd (fun _=>true) f.ok h hn).1,fun S=>by
  rw [(gZ nd S f.ok h hn).2,f.eq S]
  have:((k+1:Nat):Int)=(k:Int)+1:=by lia
  rw [this,Int.add_mul]
  lia⟩
theorem Flow.cut {r:List Tie} {H:Hd} {a b:Int} {k:Nat} (f:Flow r H a b k) {S:Int→Bool} (ha:S a=true) (hb:S b=false) (hc:∀ p s,S p=true→mF r H p s→S s.2=true):(r.filter (over S)).length=k:=by
 have h1:=Bo hc
 rw [f.eq S,ha,hb] at h1
 simp [one] at h1
 lia
theorem Flow.reach {r:List Tie} {H:Hd} {a b:Int} {k:Nat} (f:Flow r H a b (k+1)) {S:Int→Bool} (ha:S a=true) (hc:∀ p s,S p=true→Led r H p s→S s.2=true):S b=true:=by
 cases hb:S b with
 | true=>rfl
 | false=>
  have h1:=Bp f.ok hc
  rw [f.eq S,ha,hb] at h1
  simp [one] at h1
  lia
end Fl
namespace Dm
theorem WB.maxD {ns:List Int} {d:Int} {o:Option (List Dat)} {K:RV→Prop} (k:K (.val (.int (jt ns d)))) (ho:o=some [.lst (ns.map Dat.int),.int d]):WB pI o K:=⟨_,_,ho,by unfold pI;dsimp only;rw [vh],k⟩
end Dm
namespace P
open Dm
noncomputable def jx:FN:=
  (nIf (tV (e2 gNe (eV 4) (eV 5))) (zb (u9 (eV 4) (cN [(eV 3),(eV 5)]))
  (u9 (eV 5) (cN [(eV 3),(eV 4)]))) nNx)
noncomputable def EK:List Dat→Option RV:=fn 2 4
  (aq (mq 2 (iR1 (eV 0)) 1 (bN 6) (u_ (iS (eV 1)) (bT [3,4,5])
  jx))
  (sR (eV 2)))
noncomputable def Bq:List Dat→Option RV:=fn 2 0
  (sR (aM 0 1 (bN 2) bq (aM 2 1 (bN 3) (tV (e2 gNe (j9 (eV 1) (e2 gIx (eV 3) (eC (.int 0)))) (e2 gIx (eV 3) (eC (.int 1))))) (eV 3))))
noncomputable def Bs:List Dat→Option RV:=fn 2 0
  (sR (aM 0 1 (bN 2) bq (aM 2 1 (bN 3) (tV (e2 gEq (j9 (eV 1) (e2 gIx (eV 3) (eC (.int 0)))) (e2 gIx (eV 3) (eC (.int 1))))) (eV 3))))
noncomputable def GH:FS:=
  (sIf (tV (e2 pB (e2 gIx (eV 5) (eC (.int 1))) (eV 2))) (aq (jr 2 (e2 gIx (eV 5) (eC (.int 1))) (e2 bC (e2 gDx (eV 2) (eV 4)) (bS [(eV 5)])))
  (qk 3 (e2 gIx (eV 5) (eC (.int 1))))) sNx)
noncomputable def GI:FS:=
  (aq (sA 4 (jO 3 (eC (.int 0))))
  (eZ (iS (e2 gIx (eV 0) (eV 4))) (bN 5)
  GH))
noncomputable def r9:List Dat→Option RV:=fn 2 4
  (aq (sA 2 (eD1 (eV 1) (bS [])))
  (aq (sA 3 (bS [(eV 1)]))
  (aq (whD (tTr (eV 3))
  GI 100)
  (sR (eV 2)))))
noncomputable def GJ:FS:=
  (sIf (tV (e2 u5 (eV 2) (eV 0))) (sE (mw 0 (eV 2))) (jr 0 (eV 2) (eV 3)))
noncomputable def Bt:List Dat→Option (RV×Dat):=fnM 2 2
  (eZ (iS (eV 1)) (bT [2,3])
  GJ)
noncomputable def GK:FS:=
  (sE (mw 5 (eV 9)))
noncomputable def GL:FS:=
  (aq (sA 8 (bU (iS (e2 gDx (eF r9 [(eFd Bs [(eV 0),(eV 5)]),(eV 2)]) (eV 3))) 1 (bN 10) bq (e2 gIx (eV 10) (eC (.int 0)))))
  (aq (eZ (iS (eV 8)) (bN 9)
  GK)
  (qk 6 (eV 8))))
noncomputable def zm:List Dat→Option RV:=fn 5 5
  (aq (sA 5 (eB rT [(eV 1)]))
  (aq (sA 6 (bS []))
  (aq (eZ (iR1 (eV 4)) (bN 7)
  GL)
  (sR (eV 6)))))
noncomputable def GN:FS:=
  (aq (sA 9 (eF r9 [(eFd Bq [(eV 5),(eV 6)]),(eV 2)]))
  (sIf (tV (e2 u5 (eV 3) (eV 9))) (aq (sE (eFm Bt 6 [(e2 gDx (eV 9) (eV 3))]))
  (sA 8 (e2 bC (eV 8) (eC (.int 1))))) (sA 7 (eB jI [(eB jP [(eV 9)])]))))
noncomputable def vn:List Dat→Option RV:=fn 5 5
  (aq (sA 5 (eF EK [(eV 0),(eV 1)]))
  (aq (sA 6 eDn)
  (aq (sA 7 (eC .non))
  (aq (sA 8 (eC (.int 0)))
  (aq (whD (jD (tV (e2 gLt (eV 8) (eV 4))) (tV (e2 u6 (eV 7) (eC .non))))
  GN 100)
  (sR (cN [(eFd zm [(eV 5),(eV 6),(eV 2),(eV 3),(eV 8)]),(eV 7)])))))))
noncomputable def EL:List Dat→Option RV:=fn 5 0
  (sR (e2 u6 (e2 gIx (eF vn [(eV 0),(eV 1),(eV 2),(eV 3),(eV 4)]) (eC (.int 1))) (eC .non)))
noncomputable def JH:List Dat→Option RV:=fn 1 0
  (sR (fR (e1 (kF isI) (eV 0)) (Ak (e1 (kF isB) (eV 0)))))
noncomputable def Bu:List Dat→Option RV:=fn 3 0
  (sR (fR (eF JH [(eV 0)]) (e7 gLe gLe (eV 1) (eV 0) (eV 2))))
noncomputable def xy:List Dat→Option RV:=fn 2 0
  (sR (eF Bu [(eV 1),(eC (.int 0)),(e2 ez (eV 0) (eC (.int 1)))]))
noncomputable def xA:List Dat→Option RV:=fn 1 0
  (sR (eF Bu [(eV 0),(eC (.int 1)),(eC (.int 6))]))
noncomputable def r_:List Dat→Option RV:=fn 1 0
  (sR (eB gC [(bU (iR2 (eC (.int 1)) (eB bX [(eV 0)])) 1 (bN 1) bq (e2 gLt (e2 gIx (eV 0) (e2 ez (eV 1) (eC (.int 1)))) (e2 gIx (eV 0) (eV 1))))]))
noncomputable def xB:List Dat→Option RV:=fn 2 0
  (sR (fR (e1 (kF isT) (eV 1)) (fR (eB gC [(aM 1 1 (bN 2) bq (eF xy [(eV 0),(eV 2)]))]) (eF r_ [(eV 1)]))))
noncomputable def sd:List Dat→Option RV:=fn 1 0
  (sIf (eu (tV (eF xA [(eV 0)]))) (fun _=>none) sNx)
noncomputable def xC:List Dat→Option RV:=fn 2 0
  (sR (aM 0 3 (bT [2,3,4]) (tV (e2 gNe (e2 gIn (eV 3) (eV 1)) (e2 gIn (eV 4) (eV 1)))) (eV 2)))
noncomputable def Bv:FS:=
  (sIf (tV (e2 gNe (eV 6) (eV 7))) (jr 4 (eV 5) (cN [(eV 6),(eV 7)])) sNx)
noncomputable def Bw:FS:=
  (aq (sIf (tOr (tV (e2 u5 (eV 5) (eV 9))) (tOr (tV (e2 pB (eV 5) (eV 4))) (tV (e2 b8 (eV 8) (e2 gDx (eV 4) (eV 5)))))) (sR (eC (.bl false))) sNx)
  (aq (jr 9 (eV 5) (eC (.bl true)))
  (sA 8 (e2 ez (eB pC [(e2 gDx (eV 4) (eV 5))]) (eV 8)))))
noncomputable def xD:List Dat→Option RV:=fn 4 6
  (aq (sA 4 eDn)
  (aq (eZ (iS (eV 0)) (bT [5,6,7])
  Bv)
  (aq (sA 8 (eV 1))
  (aq (sA 9 eDn)
  (aq (eZ (iS (eV 3)) (bN 5)
  Bw)
  (sR (e2 gEq (eV 8) (eV 2))))))))
noncomputable def Bx:FS:=
  (za 4 (eV 5))
noncomputable def xE:List Dat→Option RV:=fn 4 2
  (aq (sA 4 (bS []))
  (aq (eZ (iS (eV 3)) (bN 5)
  Bx)
  (sR (fR (e2 gEq (e1 dW (eV 4)) (eB bX [(eV 4)])) (eB gC [(aM 3 1 (bN 6) bq (eF xD [(eV 0),(eV 1),(eV 2),(eV 6)]))])))))
noncomputable def pM:List Dat→Option RV:=fn 2 0
  (sR (aM 0 1 (bN 2) (tV (e2 gNe (eV 2) (eV 1))) (eV 2)))
noncomputable def By (bR aZ:Nat):FS:=
  (aq (sA 6 (eF pM [(eV 4),(eV 5)]))
  (sIf (tOr (tV (e2 gEq (e2 gIx (eV 5) (eC (.int 1))) (e2 gIx (eV 5) (eC (.int 2))))) (tV (eFp bR 3 EL [(eV 0),(eV 6),(e2 gIx (eV 5) (eC (.int 1))),(e2 gIx (eV 5) (eC (.int 2))),(eV 2)]))) (sA 4 (eV 6)) sNx))
noncomputable def se (bR aZ:Nat):List Dat→Option RV:=fn 4 3
  (aq (sA 4 (eB dS [(eV 1)]))
  (aq (eZ (iS (eV 1)) (bN 5)
  (By bR aZ))
  (sR (eV 4))))
noncomputable def pN:List Dat→Option RV:=fn 1 0
  (sR (bU (iR1 (eV 0)) 1 (bN 1) bq (bS [])))
noncomputable def pO:List Dat→Option RV:=fn 5 0
  (sR (e2 gIx (eF vn [(eV 0),(eV 1),(eV 2),(eV 3),(eV 4)]) (eC (.int 0))))
noncomputable def xF (bR aZ:Nat):List Dat→Option RV:=fn 5 1
  (aq (sA 5 (aM 1 1 (bN 6) (tV (e2 b8 (eV 6) (eV 2))) (eV 6)))
  (sR (aM 5 1 (bN 6) bq (eIf (tV (e2 gEq (e2 gIx (eV 6) (eC (.int 1))) (e2 gIx (eV 6) (eC (.int 2))))) (eF pN [(eV 3)]) (eFp aZ 4 pO [(eV 0),(eV 2),(e2 gIx (eV 6) (eC (.int 1))),(e2 gIx (eV 6) (eC (.int 2))),(eV 3)])))))
noncomputable def ki:List Dat→Option RV:=fn 4 0
  (sR (e2 gIx (eF vn [(eV 0),(eF pM [(eV 1),(eV 2)]),(e2 gIx (eV 2) (eC (.int 1))),(e2 gIx (eV 2) (eC (.int 2))),(eV 3)]) (eC (.int 1))))
noncomputable def mG (bR aZ:Nat):List Dat→Option RV:=fn 3 2
  (aq (sE (eF sd [(eV 2)]))
  (aq (sA 3 (eF (se bR aZ) [(eV 0),(eV 1),(eV 2),(eC (.fn bR))]))
  (aq (sA 4 (aM 3 1 (bN 5) bq (eF ki [(eV 0),(eV 3),(eV 5),(eV 2)])))
  (sR (cN [(aM 3 1 (bN 5) bq (e2 gIx (eV 5) (eC (.int 0)))),(eF (xF bR aZ) [(eV 0),(eV 1),(eV 3),(eV 2),(eC (.fn aZ))]),(eV 4)])))))
noncomputable def xG:List Dat→Option RV:=fn 4 0
  (aq (sIf (tV (e2 gEq (e2 gIx (eV 1) (eC (.int 1))) (e2 gIx (eV 1) (eC (.int 2))))) (sR (e2 gEq (eV 3) (eF pN [(eV 2)]))) sNx)
  (sR (fR (e2 gEq (eB bX [(eV 3)]) (eV 2)) (eF xE [(eV 0),(e2 gIx (eV 1) (eC (.int 1))),(e2 gIx (eV 1) (eC (.int 2))),(eV 3)]))))
noncomputable def xH:List Dat→Option RV:=fn 5 1
  (aq (sIf (eu (tV (eF xB [(eV 0),(eV 4)]))) (sR (eC (.bl false))) sNx)
  (aq (sA 5 (eF xC [(eV 1),(eV 4)]))
  (sR (fR (e2 gIn (e2 gIx (eV 2) (eC (.int 0))) (eV 5)) (e2 gLe (eB bX [(eV 5)]) (eV 3))))))
noncomputable def pP:List Dat→Option RV:=fn 4 2
  (aq (sE (eF sd [(eV 2)]))
  (aq (sA 4 (aM 1 1 (bN 6) (tV (e2 gIn (e2 gIx (eV 6) (eC (.int 0))) (e2 gIx (eV 3) (eC (.int 0))))) (eV 6)))
  (aq (sIf (tOr (eu (tV (eF r_ [(e2 gIx (eV 3) (eC (.int 0)))]))) (tV (e2 gNe (eB bX [(eV 4)]) (eB bX [(e2 gIx (eV 3) (eC (.int 0)))])))) (sR (eC (.bl false))) sNx)
  (aq (sA 5 (aM 1 1 (bN 6) (tV (e2 b8 (eV 6) (eV 4))) (eV 6)))
  (aq (sIf (tOr (tV (e2 gNe (eB bX [(e2 gIx (eV 3) (eC (.int 1)))]) (eB bX [(eV 5)]))) (tV (e2 gNe (eB bX [(e2 gIx (eV 3) (eC (.int 2)))]) (eB bX [(eV 4)])))) (sR (eC (.bl false))) sNx)
  (aq (sIf (eu (tV (eB gC [(bU (uY (eV 5) (e2 gIx (eV 3) (eC (.int 1)))) 2 (bT [6,7]) bq (eF xG [(eV 4),(eV 6),(eV 2),(eV 7)]))]))) (sR (eC (.bl false))) sNx)
  (sR (eB gC [(bU (uY (eV 4) (e2 gIx (eV 3) (eC (.int 2)))) 2 (bT [6,7]) bq (eF xH [(eV 0),(eV 4),(eV 6),(eV 2),(eV 7)]))]))))))))
noncomputable def sj:List Dat→Option RV:=fn 2 0
  (aq (sIf (tV (e2 gLt (eV 1) (eB bX [(eV 0)]))) (sR (e2 gIx (eV 0) (eV 1))) sNx)
  (sR (eC (.int 0))))
noncomputable def BA:FS:=
  (aq (sA 5 (e2 kG (e2 jh (e2 bC (e2 bC (e2 bC (e2 kG (eV 2) (eC (.int 998244353))) (e2 jh (e2 jh (eC (.int 89)) (eV 4)) (eV 4))) (e2 jh (eC (.int 7)) (eV 1))) (eC (.int 1))) (eC (.int 48271))) (eC (.int 2147483647))))
  (aq (sA 5 (e2 kG (e2 jh (eV 5) (eV 5)) (eC (.int 1000000007))))
  (aq (sA 5 (e2 kG (e2 jh (e2 bC (eV 5) (e2 jh (eC (.int 7919)) (eV 4))) (eC (.int 69621))) (eC (.int 2147483587))))
  (sA 3 (e2 bC (e2 jh (eV 3) (eC (.int 1000003))) (e2 kG (e2 uO (eV 5) (eC (.int 8))) (eC (.int 1000003))))))))
noncomputable def pQ:List Dat→Option RV:=fn 2 4
  (aq (sA 2 (eF sj [(eV 0),(eV 1)]))
  (aq (sIf (tV (e2 gGe (eV 2) (e2 uP (eC (.int 10)) (eC (.int 18))))) (sR (bS [(eV 2)])) sNx)
  (aq (sA 3 (eC (.int 0)))
  (aq (eZ (iR1 (eC (.int 48))) (bN 4)
  BA)
  (sR (bS [(eV 3)]))))))
noncomputable def br:List Dat→Option (RV×Dat):=fnM 2 1
  (aq (sA 2 (e2 kG (e2 gIx (eV 0) (eC (.int 0))) (eV 1)))
  (aq (ql 0 (eC (.int 0)) (e2 uO (e2 gIx (eV 0) (eC (.int 0))) (eV 1)))
  (sR (eV 2))))
noncomputable def BB:FS:=
  (aq (sA 8 (eFm br 0 [(eV 1)]))
  (aq (sA 9 (eFm br 0 [(eV 1)]))
  (aq (sIf (jD (tV (e2 gGt (eV 4) (eC (.int 0)))) (tV (e2 gEq (eV 8) (eV 9)))) (sA 9 (e2 kG (e2 bC (eV 8) (eC (.int 1))) (eV 1))) sNx)
  (aq (sIf (jD (tV (e2 gGt (eV 7) (eC (.int 0)))) (tV (e2 gEq (eFm br 0 [(eC (.int 4))]) (eC (.int 0))))) (aq (sA 8 (e2 gIx (e2 gIx (eV 6) (e2 ez (eV 7) (eC (.int 1)))) (eC (.int 1))))
  (sA 9 (e2 gIx (e2 gIx (eV 6) (e2 ez (eV 7) (eC (.int 1)))) (eC (.int 2))))) sNx)
  (aq (qk 6 (cN [(eV 5),(eB o8 [(eV 8),(eV 9)]),(eB o9 [(eV 8),(eV 9)])]))
  (sA 5 (e2 bC (e2 bC (eV 5) (eC (.int 1))) (e2 jh (eFm br 0 [(e2 gIx (bS [(eC (.int 1)),(eC (.int 3)),(eC (.int 1000))]) (eV 4))]) (e2 gIx (bS [(eC (.int 1)),(eC (.int 1)),(e2 uP (eC (.int 10)) (eC (.int 25)))]) (eV 4))))))))))
noncomputable def sq:List Dat→Option (RV×Dat):=fnM 3 7
  (aq (sA 3 (eFm br 0 [(e2 bC (eV 2) (eC (.int 1)))]))
  (aq (sA 4 (eFm br 0 [(eC (.int 3))]))
  (aq (sA 5 (eFm br 0 [(eC (.int 4))]))
  (aq (sA 6 (bS []))
  (aq (eZ (iR1 (eV 3)) (bN 7)
  BB)
  (sR (eV 6)))))))
noncomputable def xJ:List Dat→Option RV:=fn 1 0
  (sR (fR (e1 (kF isI) (eV 0)) (Ak (e1 (kF isB) (eV 0)))))
noncomputable def xK:List Dat→Option RV:=fn 1 0
  (sR (fR (e1 (kF isL) (eV 0)) (eB gC [(aM 0 1 (bN 1) bq (eF xJ [(eV 1)]))])))
noncomputable def BC:FS:=
  (aq (sA 6 (aM 0 1 (bN 7) (tV (e2 gEq (e2 gIx (eV 7) (eC (.int 0))) (eV 5))) (eV 7)))
  (aq (sIf (tOr (tV (e2 gEq (eV 6) (bS []))) (tOr (tV (e2 gEq (e2 gIx (e2 gIx (eV 6) (eC (.int 0))) (eC (.int 1))) (e2 gIx (e2 gIx (eV 6) (eC (.int 0))) (eC (.int 2))))) (tV (e2 b8 (eV 4) (yY (e2 gIx (eV 6) (eC (.int 0))) (some (eC (.int 1))) none))))) (sR (eC (.bl false))) sNx)
  (sA 4 (e2 ez (e2 bC (e2 gIx (e2 gIx (eV 6) (eC (.int 0))) (eC (.int 1))) (e2 gIx (e2 gIx (eV 6) (eC (.int 0))) (eC (.int 2)))) (eV 4)))))
noncomputable def xM:List Dat→Option RV:=fn 4 3
  (aq (sIf (tOr (eu (tV (eF xK [(eV 3)]))) (tV (e2 gNe (e1 dW (eV 3)) (eB bX [(eV 3)])))) (sR (eC (.bl false))) sNx)
  (aq (sA 4 (eV 1))
  (aq (eZ (iS (eV 3)) (bN 5)
  BC)
  (sR (e2 gEq (eV 4) (eV 2))))))
noncomputable def BE:FS:=
  (sA 4 (e2 bC (eV 4) (eV 5)))
noncomputable def xN:List Dat→Option RV:=fn 4 2
  (aq (sIf (tOr (eu (tV (e1 (kF isL) (eV 3)))) (eu (tV (eB gC [(aM 3 1 (bN 6) bq (eF xM [(eV 0),(eV 1),(eV 2),(eV 6)]))])))) (sR (eC (.bl false))) sNx)
  (aq (sA 4 (bS []))
  (aq (eZ (iS (eV 3)) (bN 5)
  BE)
  (sR (e2 gEq (e1 dW (eV 4)) (eB bX [(eV 4)]))))))
noncomputable def BF:List Dat→Option RV:=fn 2 0
  (sR (aM 0 3 (bT [2,3,4]) (tV (e2 gNe (e2 gIn (eV 3) (eV 1)) (e2 gIn (eV 4) (eV 1)))) (eV 2)))
noncomputable def xO:List Dat→Option RV:=fn 2 0
  (aq (sIf (tOr (eu (tV (e1 (kF isT) (eV 1)))) (eu (tV (eB gC [(aM 1 1 (bN 2) bq (fR (eF xJ [(eV 2)]) (e7 gLe gLt (eC (.int 0)) (eV 2) (eV 0))))])))) (sR (eC (.bl false))) sNx)
  (sR (eB gC [(bU (iR2 (eC (.int 1)) (eB bX [(eV 1)])) 1 (bN 2) bq (e2 gLt (e2 gIx (eV 1) (e2 ez (eV 2) (eC (.int 1)))) (e2 gIx (eV 1) (eV 2))))])))
noncomputable def xP:List Dat→Option RV:=fn 5 1
  (aq (sIf (eu (tV (eF xO [(eV 0),(eV 4)]))) (sR (eC (.bl false))) sNx)
  (aq (sA 5 (eF BF [(eV 1),(eV 4)]))
  (sR (fR (e2 gIn (e2 gIx (eV 2) (eC (.int 0))) (eV 5)) (e2 gLe (eB bX [(eV 5)]) (eV 3))))))
noncomputable def BG:FS:=
  (aq (sIf (tOr (tV (e2 gNe (eB bX [(eV 10)]) (eV 2))) (eu (tV (eF xN [(eV 7),(e2 gIx (eV 9) (eC (.int 1))),(e2 gIx (eV 9) (eC (.int 2))),(eV 10)])))) (sR (eC (.bl false))) sNx)
  (sIf (jD (tV (e2 gEq (e2 gIx (eV 9) (eC (.int 1))) (e2 gIx (eV 9) (eC (.int 2))))) (tV (e2 gNe (eV 10) (bU (iR1 (eV 2)) 1 (bN 11) bq (bS []))))) (sR (eC (.bl false))) sNx))
noncomputable def sr:List Dat→Option RV:=fn 4 7
  (aq (sU [4,5,6] (eV 3))
  (aq (sA 7 (aM 1 1 (bN 11) (tV (e2 gIn (e2 gIx (eV 11) (eC (.int 0))) (eV 4))) (eV 11)))
  (aq (sA 8 (aM 1 1 (bN 11) (tV (e2 b8 (e2 gIx (eV 11) (eC (.int 0))) (eV 4))) (eV 11)))
  (aq (sIf (tOr (tV (e2 gNe (aM 7 1 (bN 11) bq (e2 gIx (eV 11) (eC (.int 0)))) (eV 4))) (tOr (tV (e2 gNe (eB bX [(eV 5)]) (eB bX [(eV 8)]))) (tV (e2 gNe (eB bX [(eV 6)]) (eB bX [(eV 7)]))))) (sR (eC (.bl false))) sNx)
  (aq (eZ (uY (eV 8) (eV 5)) (bT [9,10])
  BG)
  (sR (eB gC [(bU (uY (eV 7) (eV 6)) 2 (bT [11,12]) bq (eF xP [(eV 0),(eV 7),(eV 11),(eV 2),(eV 12)]))])))))))
noncomputable def jy:List Dat→Option (RV×Dat):=fnM 3 2
  (aq (sIf (tV (e2 gEq (eV 1) (bS []))) (sR (eV 1)) sNx)
  (aq (sA 3 (eFm br 0 [(eB bX [(eV 1)])]))
  (aq (sA 4 (eFm br 0 [(eB bX [(eV 1)])]))
  (aq (sIf (tV (e2 gEq (eV 2) (eC (.int 0)))) (sR (e2 bC (eSl (eV 1) none (some (eV 3))) (eSl (eV 1) (some (e2 bC (eV 3) (eC (.int 1)))) none))) sNx)
  (aq (sIf (tV (e2 gEq (eV 2) (eC (.int 1)))) (sR (e2 bC (e2 bC (eSl (eV 1) none (some (eV 3))) (bS [(e2 gIx (eV 1) (eV 4))])) (eSl (eV 1) (some (eV 3)) none))) sNx)
  (aq (sIf (tV (e2 gEq (eV 2) (eC (.int 2)))) (sR (e2 bC (e2 bC (eSl (eV 1) none (some (eV 3))) (bS [(e2 gIx (eV 1) (eV 4))])) (eSl (eV 1) (some (e2 bC (eV 3) (eC (.int 1)))) none))) sNx)
  (sR (e1 qo (eV 1)))))))))
noncomputable def su:List Dat→Option (RV×Dat):=fnM 4 4
  (aq (sIf (tV (e2 gEq (eV 2) (bS []))) (sR (eV 2)) sNx)
  (aq (sA 4 (eFm br 0 [(eB bX [(eV 2)])]))
  (aq (sA 5 (bU (iS (e2 gIx (eV 2) (eV 4))) 1 (bN 8) bq (eB dS [(eV 8)])))
  (aq (sA 6 (e2 bC (aM 1 1 (bN 8) bq (e2 gIx (eV 8) (eC (.int 0)))) (bS [(eC (.int 7))])))
  (aq (sA 7 (eFm br 0 [(eB bX [(eV 5)])]))
  (aq (sIf (tV (e2 gEq (eV 3) (eC (.int 0)))) (ql 5 (eV 7) (e2 bC (e2 gIx (eV 5) (eV 7)) (bS [(e2 gIx (eV 6) (eFm br 0 [(eB bX [(eV 6)])]))]))) (sIf (tV (e2 gEq (eV 3) (eC (.int 1)))) (ql 5 (eV 7) (bS [(e2 gIx (eV 6) (eFm br 0 [(eB bX [(eV 6)])]))])) (sIf (tV (e2 gEq (eV 3) (eC (.int 2)))) (ql 5 (eV 7) (e1 qo (e2 gIx (eV 5) (eC (.int 0))))) (sA 5 (eFm jy 0 [(eV 5),(eFm br 0 [(eC (.int 4))])])))))
  (sR (e2 bC (e2 bC (eSl (eV 2) none (some (eV 4))) (bS [(eV 5)])) (eSl (eV 2) (some (e2 bC (eV 4) (eC (.int 1)))) none)))))))))
noncomputable def sy:List Dat→Option (RV×Dat):=fnM 3 4
  (aq (sIf (tV (e2 gEq (eV 2) (bS []))) (sR (eV 2)) sNx)
  (aq (sA 3 (eFm br 0 [(eB bX [(eV 2)])]))
  (aq (sA 4 (e2 gIx (eV 2) (eV 3)))
  (aq (sA 5 (e2 ez (eFm br 0 [(e2 bC (eV 1) (eC (.int 2)))]) (eC (.int 1))))
  (aq (sA 6 (bS [(e2 pH (eV 4) (cN [(eV 5)])),(e2 pJ (cN [(eV 5)]) (eV 4)),(EC (eV 4) (some (eC (.int 1))) none),(e1 xu (eV 4)),(cN [(eV 5)])]))
  (aq (qk 6 (eB jI [(bU (iR1 (eV 1)) 1 (bN 7) (tV (e2 b8 (eV 7) (eV 4))) (eV 7))]))
  (sR (e2 bC (e2 bC (eSl (eV 2) none (some (eV 3))) (bS [(e2 gIx (eV 6) (eFm br 0 [(eC (.int 6))]))])) (eSl (eV 2) (some (e2 bC (eV 3) (eC (.int 1)))) none)))))))))
noncomputable def sC:List Dat→Option (RV×Dat):=fnM 3 8
  (aq (sU [3,4,5] (eV 2))
  (aq (sA 6 (aM 1 1 (bN 11) (tV (e2 b8 (e2 gIx (eV 11) (eC (.int 0))) (eV 3))) (eV 11)))
  (aq (sIf (tV (e2 gEq (eV 6) (bS []))) (sR (eV 2)) sNx)
  (aq (sA 7 (eFm br 0 [(eB bX [(eV 6)])]))
  (aq (sA 8 (e2 gIx (eV 6) (eV 7)))
  (aq (sA 9 (eB bX [(aM 3 1 (bN 11) (tV (e2 gLt (eV 11) (e2 gIx (eV 8) (eC (.int 0))))) (eV 11))]))
  (aq (sA 10 (cN [(e2 gIx (eV 8) (e2 bC (eC (.int 1)) (eFm br 0 [(eC (.int 2))])))]))
  (sR (cN [(e2 bC (e2 bC (eSl (eV 3) none (some (eV 9))) (bS [(e2 gIx (eV 8) (eC (.int 0)))])) (eSl (eV 3) (some (eV 9)) none)),(e2 bC (eSl (eV 4) none (some (eV 7))) (eSl (eV 4) (some (e2 bC (eV 7) (eC (.int 1)))) none)),(e2 bC (e2 bC (eSl (eV 5) none (some (eV 9))) (bS [(eV 10)])) (eSl (eV 5) (some (eV 9)) none))])))))))))
noncomputable def sF (bR aZ:Nat):List Dat→Option (RV×Dat):=fnM 5 4
  (aq (sA 5 (eFm br 0 [(eC (.int 18))]))
  (aq (sU [6,7,8] (eV 4))
  (aq (sIf (tV (e2 gGt (eV 5) (eC (.int 15)))) (sR (eFm sC 0 [(eV 2),(eV 4)])) sNx)
  (aq (sIf (tV (e2 gLt (eV 5) (eC (.int 4)))) (sR (cN [(eFm jy 0 [(eV 6),(eV 5)]),(eV 7),(eV 8)])) sNx)
  (aq (sIf (tV (e2 gLt (eV 5) (eC (.int 7)))) (sR (cN [(eV 6),(eFm jy 0 [(eV 7),(e2 ez (eV 5) (eC (.int 4)))]),(eV 8)])) sNx)
  (aq (sIf (tV (e2 gLt (eV 5) (eC (.int 11)))) (sR (cN [(eV 6),(eFm su 0 [(eV 2),(eV 7),(e2 ez (eV 5) (eC (.int 7)))]),(eV 8)])) sNx)
  (aq (sIf (tV (e2 gEq (eV 5) (eC (.int 11)))) (sR (cN [(eV 6),(eV 7),(eFm jy 0 [(eV 8),(eFm br 0 [(eC (.int 4))])])])) sNx)
  (aq (sIf (tV (e2 gLt (eV 5) (eC (.int 14)))) (sR (cN [(eV 6),(eV 7),(eFm sy 0 [(eV 1),(eV 8)])])) sNx)
  (aq (sIf (tV (e2 gEq (eV 5) (eC (.int 14)))) (sR (eF (mG bR aZ) [(eV 1),(eB dS [(eV 2)]),(e2 bC (eC (.int 1)) (eFm br 0 [(eC (.int 6))]))])) sNx)
  (sR (eV 4)))))))))))
noncomputable def sG (bR aZ:Nat):List Dat→Option RV:=fn 3 5
  (aq (sA 3 (eB pI ([(aM 1 1 (bN 8) bq (e2 gIx (eV 8) (eC (.int 0))))]++[(eC (.int 0))])))
  (aq (sU [4,5,6] (eF (mG bR aZ) [(eV 0),(bU (iS (e1 qo (eV 1))) 3 (bT [8,9,10]) bq (cN [(e2 ez (eV 3) (eV 8)),(eV 9),(eV 10)])),(eV 2)]))
  (aq (sA 7 (aM 5 1 (bN 8) bq (aM 8 1 (bN 9) bq (aM 9 1 (bN 10) bq (e2 ez (eV 3) (eV 10))))))
  (sR (cN [(bU (iS (e1 qo (eV 4))) 1 (bN 8) bq (e2 ez (eV 3) (eV 8))),(e1 qo (eV 7)),(e1 qo (eV 6))])))))
noncomputable def sH (bR aZ:Nat):List Dat→Option (RV×Dat):=fnM 4 1
  (aq (sA 4 (eFm br 0 [(eC (.int 4))]))
  (aq (sIf (tV (e2 gEq (eV 4) (eC (.int 0)))) (sR (eF (sG bR aZ) [(eV 1),(eV 2),(eV 3)])) sNx)
  (aq (sIf (tV (e2 gEq (eV 4) (eC (.int 1)))) (sR (cN [(aM 2 1 (bN 5) bq (e2 gIx (eV 5) (eC (.int 0)))),(bS []),(aM 2 1 (bN 5) bq (cN [(e2 gIx (eV 5) (eC (.int 1)))]))])) sNx)
  (sR (eF (mG bR aZ) [(eV 1),(eB dS [(eV 2)]),(eV 3)])))))
noncomputable def vo (bR aZ:Nat):FS:=
  (aq (sA 1 (eF pQ [(eV 0),(eV 3)]))
  (aq (sA 4 (e2 bC (eC (.int 1)) (eFm br 1 [(e2 gIx (bS [(eC (.int 3)),(eC (.int 6))]) (eFm br 1 [(eC (.int 2))]))])))
  (aq (sA 5 (eFm sq 1 [(eV 2),(e2 gIx (bS [(eC (.int 9)),(eC (.int 9)),(eC (.int 9)),(e2 gIx (bS [(eC (.int 60)),(eC (.int 12))]) (eB Al [(e2 gGt (eV 3) (eC (.int 1)))]))]) (eFm br 1 [(eC (.int 4))]))]))
  (aq (sA 6 (eFm (sH bR aZ) 1 [(eV 2),(eV 5),(eV 4)]))
  (aq (sIf (tV (e2 gNe (eF pP [(eV 2),(eB dS [(eV 5)]),(eV 4),(eV 6)]) (eF sr [(eV 2),(eV 5),(eV 4),(eV 6)]))) (sR (eC (.bl false))) sNx)
  (aq (sIf (tV (e2 ji (eF pP [(eV 2),(eB dS [(eV 5)]),(eV 4),(eF (sG bR aZ) [(eV 2),(eV 5),(eV 4)])]) (eC (.bl true)))) (sR (eC (.bl false))) sNx)
  (aq (sA 6 (eFm (sF bR aZ) 1 [(eV 2),(eV 5),(eV 4),(eV 6)]))
  (aq (sA 7 (cN [(eB dS [(e2 gIx (eV 6) (eC (.int 0)))]),(bU (iS (e2 gIx (eV 6) (eC (.int 1)))) 1 (bN 9) bq (aM 9 1 (bN 10) bq (eB dS [(eV 10)]))),(eB dS [(e2 gIx (eV 6) (eC (.int 2)))])]))
  (aq (sA 8 (eF pP [(eV 2),(eB dS [(eV 5)]),(eV 4),(eV 7)]))
  (sIf (tOr (eu (tV (e1 (kF isB) (eV 8)))) (tOr (tV (e2 gNe (eV 8) (eF sr [(eV 2),(eV 5),(eV 4),(eV 6)]))) (tV (e2 gNe (eV 7) (eV 6))))) (sR (eC (.bl false))) sNx))))))))))
noncomputable def mH (bR aZ:Nat):List Dat→Option RV:=fn 1 8
  (aq (sA 1 (eF pQ [(eV 0),(eC (.int 0))]))
  (aq (sA 2 (e2 bC (eC (.int 1)) (eFm br 1 [(e2 gIx (bS [(eC (.int 6)),(eC (.int 6)),(eC (.int 6)),(eC (.int 10))]) (eFm br 1 [(eC (.int 4))]))])))
  (aq (eZ (iR2 (eC (.int 1)) (eB o9 [(eC (.int 2)),(eB o8 [(eC (.int 5)),(eB bX [(eV 0)])])])) (bN 3)
  (vo bR aZ))
  (sR (eC (.bl true))))))
end P
local macro_rules | `(tactic| array_get_dec)=>`(tactic| first | with_reducible refine Dm.Ws.seq ?_ | with_reducible refine Dm.We.e2 ?_ | ((with_reducible apply Dm.We.v);(focus rfl)) | ((with_reducible apply Dm.We.w);(focus rfl)) | with_reducible refine Dm.We.c ?_ | (refine Dm.WA.val ?_ (by first | (dsimp only [List.set];first | done | rfl) | rfl)) | (refine Dm.WA.new ?_ (by first | (dsimp only [List.set];first | done | rfl) | rfl)) | (refine Dm.WA.slot ?_ rfl (by first | (dsimp only [List.set];first | done | rfl) | rfl)) | with_reducible refine Dm.Ws.A ?_ (by decide) | with_reducible refine Dm.Ws.If ?_ | with_reducible refine Dm.Wt.V ?_ | with_reducible refine Dm.Wt.Not ?_ | with_reducible refine Dm.Wt.And ?_ | with_reducible refine Dm.Wt.Or ?_ | with_reducible refine Dm.Wt.T ?_ | (refine Dm.Wb.mk ?_) | (refine Dm.cz.mk ?_) | with_reducible refine Dm.Wif.t ?_ | with_reducible refine Dm.Wif.f ?_ | with_reducible refine Dm.Was.nil ?_ | with_reducible refine Dm.Was.cons ?_ | with_reducible refine Dm.We.B ?_ | with_reducible refine Dm.We.F ?_ | with_reducible refine Dm.We.T ?_ | with_reducible refine Dm.We.L ?_ | with_reducible refine Dm.We.e1 ?_ | with_reducible refine Dm.We.If ?_ | with_reducible refine Dm.We.And ?_ | with_reducible refine Dm.We.Or ?_ | with_reducible refine Dm.We.Not ?_ | with_reducible refine Dm.We.Sl ?_ | with_reducible refine Dm.We.SlT ?_ | with_reducible refine Dm.Wp.none ?_ | with_reducible refine Dm.Wp.some ?_ | (refine Dm.Wsl.A (enc:=Dm.Dat.int) ?_ rfl) | (refine Dm.Wsl.mk ?_ rfl) | (refine Dm.WT.mk ?_ rfl (by first | (dsimp only [List.set];first | done | rfl) | rfl) (by exact Nat.le_of_ble_eq_true rfl)) | (refine Dm.Wk.val ?_) | (refine Dm.Wk.new ?_) | (refine Dm.Wk.slot ?_ rfl (by first | (dsimp only [List.set];first | done | rfl) | rfl)) | with_reducible refine Dm.We.Dn ?_ | with_reducible refine Dm.We.D1 ?_ | with_reducible refine Dm.Ws.JF ?_ | (refine Dm.Oz ?_ rfl) | (refine Dm.vg rfl ?_) | (refine Dm.qD ?_ rfl (by first | (dsimp only [List.set];first | done | rfl) | rfl) ?_) | (refine Dm.Ws.App ?_ rfl) | (refine Dm.mD ?_ rfl (by first | (dsimp only [List.set];first | done | rfl) | rfl) ?_) | with_reducible refine Dm.Ws.U ?_ | (refine Dm.Oe ?_ rfl (by first | (dsimp only [List.set];first | done | rfl) | rfl)) | with_reducible refine Dm.Ws.R ?_ | (refine Dm.WR.new ?_) | (refine Dm.WR.val ?_) | (refine Dm.WR.slot ?_ rfl) | with_reducible refine Dm.Ws.nx ?_ | with_reducible refine Dm.Ws.bk ?_ | with_reducible refine Dm.Ws.ct ?_ | with_reducible refine Dm.Ws.E ?_ | with_reducible refine Dm.Ws.For ?_ | with_reducible refine Dm.Wi.S ?_ | with_reducible refine Dm.Wi.L ?_ | with_reducible refine Dm.Wi.R1 ?_ | with_reducible refine Dm.Wi.R2 ?_ | (refine Dm.jv ?_) | (refine Dm.Nv ?_) | (refine Dm.Wg2.eq ?_ rfl rfl) | (refine Dm.Wg2.ne ?_ rfl rfl) | (refine Dm.Wg2.mE ?_ rfl rfl ?_) | (refine Dm.Wg2.Ou ?_ rfl rfl ?_) | (refine Dm.Wg2.eqb ?_ rfl rfl) | (refine Dm.Wg2.neb ?_ rfl rfl) | (refine Dm.Wg2.Bg ?_ rfl rfl) | (refine Dm.Wg2.isb ?_ rfl rfl) | (refine Dm.Wg2.lt ?_ rfl rfl) | (refine Dm.Wg2.le ?_ rfl rfl) | (refine Dm.Wg2.gt ?_ rfl rfl) | (refine Dm.Wg2.ge ?_ rfl rfl) | (refine Dm.Wg2.add ?_ rfl rfl) | (refine Dm.Wg2.JG ?_ rfl rfl ?_) | (refine Dm.Wg2.Bh ?_ rfl rfl ?_) | (refine Dm.Wg2.gG ?_ rfl rfl ?_) | (refine Dm.Wg2.sub ?_ rfl rfl) | (refine Dm.Wg2.mul ?_ rfl rfl (by first | exact Or.inl (by decide) | exact Or.inr (by decide))) | (refine Dm.Wg2.mul ?_ rfl rfl ?_) | (refine Dm.Wg2.div ?_ rfl rfl (by decide)) | (refine Dm.Wg2.div ?_ rfl rfl ?_) | (refine Dm.Wg2.mod ?_ rfl rfl (by decide)) | (refine Dm.Wg2.mod ?_ rfl rfl ?_) | (refine Dm.Wg2.din ?_ rfl rfl) | (refine Dm.Wg2.Mu ?_ rfl rfl) | (refine Dm.Wg2.inP ?_ rfl rfl) | (refine Dm.Wg2.Mt ?_ rfl rfl) | (refine Dm.Wg2.ix ?_ rfl rfl rfl) | (refine Dm.WB.fq (enc:=Dm.Dat.int) ?_ rfl) | (refine Dm.WB.len ?_ rfl) | (refine Dm.WB.OA ?_ rfl) | (refine Dm.WB.min2 ?_ rfl) | (refine Dm.WB.max2 ?_ rfl) | (refine Dm.WB.list ?_ rfl) | (refine Dm.WB.int ?_ rfl) | (refine Dm.WB.sum2 ?_ rfl ?_) | (refine Dm.Wg1.OB (enc:=Dm.Dat.int) ?_ rfl) | (refine Dm.Wg1.mk ?_ rfl rfl))
namespace P
open Dm Fl
noncomputable def aK (t:Tie):Dat:=.tup [.int t.m,.int t.a,.int t.b]
noncomputable def ak (r:List Tie):Dat:=.lst (r.map aK)
noncomputable def cj (s:Step):Dat:=.tup [.int s.1,.int s.2]
noncomputable def cQ (w:List Step):Dat:=.lst (w.map cj)
noncomputable def Pl (n:Nat) (r:List Tie):Prop:=∀ t∈r,0≤t.a∧t.a<n∧0≤t.b∧t.b<n
noncomputable def cR (x:Int) (t:Tie):Option Step:=if t.a=t.b then none else if t.a=x then some (t.m,t.b) else if t.b=x then some (t.m,t.a) else none
noncomputable def aO (r:List Tie) (x:Int):List Step:=r.filterMap (cR x)
noncomputable def cF (n:Nat) (r:List Tie):List (List Dat):=(List.range n).map fun i:Nat=>(aO r i).map cj
theorem xQ {i e:FE} {ρ ρ1 ρ2 ρ3:Env} {rows:List (List Dat)} {k:Int} {m:Nat} {row:List Dat} {x:Val} {d:Dat} (h1:i ρ=some (.val (.int k),ρ1)) (h2:ixN rows.length k=some m) (h3:rows[m]?=some row) (h4:e ρ1=some (x,ρ2)) (h5:tk ρ2 x=some (d,ρ3)) (h6:row.length<SZ) :
  u9 i e ρ rows=some (ρ3,rows.set m (row++[d])):=by
 unfold u9
 rw [h1]
 dsimp only
 rw [h2]
 dsimp only
 rw [h3]
 dsimp only
 rw [h4]
 dsimp only
 rw [h5]
 dsimp only
 rw [if_pos h6]
theorem jz (r:List Tie) (t:Tie) (x:Int):aO (r++[t]) x=aO r x++(cR x t).toList:=by
 unfold aO
 rw [List.filterMap_append]
 cases h:cR x t with
 | none=>simp [h]
 | some s=>simp [h]
theorem BH {n:Nat} {k:Int} (h0:0≤k) (h1:k<n):ixN n k=some k.toNat:=by
 unfold ixN
 rw [if_pos h0,if_pos h1]
theorem gx (n:Nat) (r:List Tie) (i:Nat) (h:i<n):(cF n r)[i]?=some ((aO r i).map cj):=by
 unfold cF
 rw [List.getElem?_map,List.getElem?_range h]
 rfl
theorem dD (n:Nat) (r:List Tie):(cF n r).length=n:=by simp [cF]
theorem dX (r:List Tie) (x:Int):(aO r x).length≤r.length:=List.length_filterMap_le _ _
theorem vp (n:Nat) (r:List Tie) (t:Tie) (h:t.a≠t.b) (a0:0≤t.a) (a1:t.a<n) (b0:0≤t.b) (b1:t.b<n) :
  ((cF n r).set t.a.toNat ((aO r t.a).map cj++[cj (t.m,t.b)])).set t.b.toNat ((aO r t.b).map cj++[cj (t.m,t.a)])=cF n (r++[t]):=by
 apply List.ext_getElem?
 intro i
 by_cases hi:i<n
 ·rw [gx _ _ _ hi,jz,List.map_append]
  by_cases eb:t.b.toNat=i
  ·have e:(i:Int)=t.b:=by lia
   rw [← eb,List.getElem?_set_self (by rw [List.length_set,dD];lia),eb,e]
   have:cR t.b t=some (t.m,t.a):=by unfold cR;rw [if_neg h,if_neg (fun z=>h z),if_pos rfl]
   rw [this]
   rfl
  ·rw [List.getElem?_set_ne eb]
   by_cases ea:t.a.toNat=i
   ·have e:(i:Int)=t.a:=by lia
    rw [← ea,List.getElem?_set_self (by rw [dD];lia),ea,e]
    have:cR t.a t=some (t.m,t.b):=by unfold cR;rw [if_neg h,if_pos rfl]
    rw [this]
    rfl
   ·rw [List.getElem?_set_ne ea,gx _ _ _ hi]
    have:cR i t=none:=by unfold cR;rw [if_neg h,if_neg (by lia),if_neg (by lia)]
    rw [this]
    simp
 ·rw [List.getElem?_eq_none (by rw [List.length_set,List.length_set,dD];lia),List.getElem?_eq_none (by rw [dD];lia)]
theorem vq (n:Nat) (r:List Tie) (t:Tie) (h:t.a=t.b):cF n (r++[t])=cF n r:=by
 unfold cF
 apply List.map_congr_left
 intro i _
 rw [jz]
 have:cR i t=none:=by unfold cR;rw [if_pos h]
 rw [this]
 simp
theorem zo (n:Nat) (r:List Tie) (t:Tie) (hl:r.length<1000) (a0:0≤t.a) (a1:t.a<n) (b0:0≤t.b) (b1:t.b<n) (c0 c1 c2:Cell) :
  jx [c0,c1,c2,.sh (.int t.m),.sh (.int t.a),.sh (.int t.b)] (cF n r)=some ([c0,c1,c2,.sh (.int t.m),.sh (.int t.a),.sh (.int t.b)],cF n (r++[t])):=by
 have ht:tV (e2 gNe (eV 4) (eV 5)) [c0,c1,c2,.sh (.int t.m),.sh (.int t.a),.sh (.int t.b)]=some (!decide (t.a=t.b),[c0,c1,c2,.sh (.int t.m),.sh (.int t.a),.sh (.int t.b)]):=by
  unfold tV e2 eV
  simp [pk,qE,RV.bW]
 unfold jx nIf
 rw [ht]
 by_cases h:t.a=t.b
 ·rw [decide_eq_true h]
  rw [vq n r t h]
  rfl
 ·rw [decide_eq_false h]
  show zb _ _ _ _=_
  unfold zb
  have k1:=(dX r t.a)
  have k2:=(dX r t.b)
  have hz:SZ=100000:=rfl
  have ea:((t.a.toNat:Nat):Int)=t.a:=by lia
  have eb:((t.b.toNat:Nat):Int)=t.b:=by lia
  rw [xQ (k:=t.a) (m:=t.a.toNat) (row:=(aO r t.a).map cj) (d:=cj (t.m,t.b)) (ρ3:=[c0,c1,c2,.sh (.int t.m),.sh (.int t.a),.sh (.int t.b)]) rfl (by rw [dD];exact BH a0 a1) (by rw [gx _ _ _ (by lia),ea]) rfl rfl (by rw [List.length_map];lia)]
  dsimp only
  rw [xQ (k:=t.b) (m:=t.b.toNat) (row:=(aO r t.b).map cj) (d:=cj (t.m,t.a)) (ρ3:=[c0,c1,c2,.sh (.int t.m),.sh (.int t.a),.sh (.int t.b)]) rfl (by rw [List.length_set,dD];exact BH b0 b1)
   (by rw [List.getElem?_set_ne (by lia),gx _ _ _ (by lia),eb]) rfl rfl (by rw [List.length_map];lia)]
  rw [vp n r t h a0 a1 b0 b1]
theorem mJ (n:Nat) (c0 c1 c2:Cell):∀ (q p:List Tie) (c3 c4 c5:Cell),Pl n q→p.length+q.length≤1000 →
  ∃ c3' c4' c5',kc (bT [3,4,5]) jx (q.map aK) [c0,c1,c2,c3,c4,c5] (cF n p)=some ([c0,c1,c2,c3',c4',c5'],cF n (p++q))
 | [],p,c3,c4,c5,_,_=>⟨c3,c4,c5,by rw [List.append_nil];rfl⟩
 | t::q,p,c3,c4,c5,hp,hl=>by
  obtain ⟨a0,a1,b0,b1⟩:=hp t List.mem_cons_self
  rw [List.length_cons] at hl
  obtain ⟨c3',c4',c5',e⟩:=mJ n c0 c1 c2 q (p++[t]) (.sh (.int t.m)) (.sh (.int t.a)) (.sh (.int t.b)) (fun u hu=>hp u (List.mem_cons_of_mem _ hu)) (by rw [List.length_append,List.length_singleton];lia)
  refine ⟨c3',c4',c5',?_⟩
  rw [List.map_cons,kc]
  show (match jx [c0,c1,c2,.sh (.int t.m),.sh (.int t.a),.sh (.int t.b)] (cF n p) with | none=>none | some (ρ2,r2)=>kc (bT [3,4,5]) jx (q.map aK) ρ2 r2)=_
  rw [zo n p t (by lia) a0 a1 b0 b1]
  dsimp only
  rw [e,List.append_assoc]
  rfl
theorem BI (pre:Env) (k:Nat) (hk:pre.length=k) (h0:k≠0):∀ (ds:List Dat) (c:Cell),∃ c',nMk (bN k) ds (pre++[c])=some (pre++[c'])
 | [],c=>⟨c,rfl⟩
 | d::ds,c=>by
  obtain ⟨c',e⟩:=BI pre k hk h0 ds (.sh d)
  refine ⟨c',?_⟩
  rw [nMk]
  have:bN k d (pre++[c])=some (pre++[.sh d]):=by
   unfold bN
   rw [if_neg h0,List.set_append_right _ _ (by lia)]
   simp [hk]
  rw [this]
  exact e
noncomputable def b7 (n:Nat) (R:Int→List Step):Dat:=.lst ((List.range n).map fun i:Nat=>cQ (R i))
theorem sI (n:Nat) (hn:n≤1000) (r:List Tie) (hr:Pl n r) (hl:r.length≤1000):EK [.int n,ak r]=some (.new (b7 n (aO r))):=by
 obtain ⟨c3,c4,c5,e⟩:=mJ n (.sh (.int n)) (.sh (ak r)) .un r [] .un .un .un hr (by simpa using hl)
 obtain ⟨c',e2⟩:=BI [.sh (.int n),.sh (ak r),.un,.un,.un,.un] 6 rfl (by decide) (ups 0 n) .un
 have h0:cF n []=List.replicate n []:=by
  unfold cF aO
  apply List.ext_getElem?
  intro i
  by_cases hi:i<n
  ·rw [List.getElem?_map,List.getElem?_range hi,List.getElem?_replicate,if_pos hi]
   rfl
  ·rw [List.getElem?_eq_none (by simp;lia),List.getElem?_eq_none (by simp;lia)]
 have hu:(ups 0 n).length=n:=by simp [ups]
 have e1:iR1 (eV 0) [.sh (.int n),.sh (ak r),.un,.un,.un,.un]=some (ups 0 n,[.sh (.int n),.sh (ak r),.un,.un,.un,.un]):=by
  show (if (n:Int)≤BIG∧-BIG≤(n:Int) then some (ups 0 (n:Int).toNat,_) else none)=_
  rw [if_pos (by unfold BIG;lia)]
  rfl
 rw [h0,List.nil_append] at e
 have en:mq 2 (iR1 (eV 0)) 1 (bN 6) (u_ (iS (eV 1)) (bT [3,4,5]) jx) [.sh (.int n),.sh (ak r),.un,.un,.un,.un]=some (.nx [.sh (.int n),.sh (ak r),.ow (b7 n (aO r)),c3,c4,c5]):=by
  unfold mq
  rw [if_neg (by decide),e1]
  dsimp only
  rw [if_pos (by rw [hu];unfold SZ;lia)]
  show (match nMk (bN 6) (ups 0 n) ([.sh (.int n),.sh (ak r),.un,.un,.un,.un]++[.un]) with | none=>none | some ρ2=>_)=_
  rw [e2]
  dsimp only
  rw [hu]
  show (match u_ (iS (eV 1)) (bT [3,4,5]) jx [.sh (.int n),.sh (ak r),.un,.un,.un,.un] (List.replicate n []) with | none=>none | some (ρ3,r3)=>_)=_
  have:u_ (iS (eV 1)) (bT [3,4,5]) jx [.sh (.int n),.sh (ak r),.un,.un,.un,.un] (List.replicate n [])=some ([.sh (.int n),.sh (ak r),.un,c3,c4,c5],cF n r):=e
  rw [this]
  have e3:(cF n r).map Dat.lst=(List.range n).map fun i:Nat=>cQ (aO r i):=by
   unfold cF
   rw [List.map_map]
   rfl
  show some (Out.nx [.sh (.int n),.sh (ak r),.ow (.lst ((cF n r).map Dat.lst)),c3,c4,c5])=_
  rw [e3]
  rfl
 apply Wr.eq
 unfold EK
 (refine Dm.Wr.fn ?_ rfl rfl;dsimp only [List.map,List.replicate,List.cons_append,List.nil_append])
 refine Ws.seq ⟨_,en,?_⟩
 refine Ws.R (We.w rfl (WR.slot ?_ rfl))
 rfl
noncomputable def hdF (h:List (Int×Int)):Hd:=fun m=>(h.find? fun e=>decide (e.1=m)).map (·.2)
noncomputable def hk (h:List (Int×Int)):List Int:=h.map (·.1)
noncomputable def hv (h:List (Int×Int)):List Dat:=h.map fun e=>Dat.int e.2
noncomputable def bI (h:List (Int×Int)):Dat:=.dct (hk h) (hv h)
theorem kW (h:List (Int×Int)) (m:Int):bO (hk h) (hv h) m=(hdF h m).map Dat.int:=by
 unfold hk hv hdF
 induction h with
 | nil=>rfl
 | cons e h ih=>
  rw [List.map_cons,List.map_cons,bO,List.find?_cons]
  by_cases q:e.1=m
  ·rw [if_pos q,decide_eq_true q];rfl
  ·rw [if_neg q,decide_eq_false q];exact ih
theorem qG {h:List (Int×Int)} {m:Int}:(hdF h m).isSome=decide (m∈hk h):=by
 unfold hdF hk
 induction h with
 | nil=>rfl
 | cons e h ih=>
  rw [List.find?_cons]
  by_cases q:e.1=m
  ·rw [decide_eq_true q];simp [q]
  ·rw [decide_eq_false q]
   have q':¬ m=e.1:=fun z=>q z.symm
   simp only [List.map_cons,List.mem_cons,q',false_or]
   exact ih
theorem JI (o:Option Int) (y:Int):gNe ((o.map Dat.int).getD .non) (.int y)=vB (!decide (o=some y)):=by
 cases o with
 | none=>rfl
 | some z=>
  show gNe (.int z) (.int y)=_
  rw [qE]
  have:(z=y)=(some z=some y):=by simp
  simp only [this]
theorem JJ (o:Option Int) (y:Int):gEq ((o.map Dat.int).getD .non) (.int y)=vB (decide (o=some y)):=by
 cases o with
 | none=>rfl
 | some z=>
  show gEq (.int z) (.int y)=_
  rw [xx]
  have:(z=y)=(some z=some y):=by simp
  simp only [this]
noncomputable def sJ (h:List (Int×Int)) (R:Int→List Step):Int→List Step:=fun x=>(R x).filter fun s=>!decide (hdF h s.1=some s.2)
noncomputable def sL (h:List (Int×Int)) (R:Int→List Step):Int→List Step:=fun x=>(R x).filter fun s=>decide (hdF h s.1=some s.2)
theorem xR (g:Dat→Dat→Option RV) (p:Option Int→Int→Bool) (hg:∀ o y,g ((o.map Dat.int).getD .non) (.int y)=vB (p o y)) (h:List (Int×Int)) (A:Cell) (w:List Step) (hl:w.length≤1000) :
  We (aM 2 1 (bN 3) (tV (e2 g (j9 (eV 1) (e2 gIx (eV 3) (eC (.int 0)))) (e2 gIx (eV 3) (eC (.int 1))))) (eV 3)) [A,.sh (bI h),.sh (cQ w)] fun v ρ'=>Wk ρ' v fun d ρ''=>d=cQ (w.filter fun s=>p (hdF h s.1) s.2)∧ρ''=[A,.sh (bI h),.sh (cQ w)]:=by
 refine We.oH cj w (fun s=>p (hdF h s.1) s.2) id cj (d:=cQ w) ?_ rfl rfl rfl (by decide) (by unfold SZ;lia) (fun s _=>?_) fun s _ _=>?_
 ·rw [List.map_id]
  exact Wk.new ⟨rfl,rfl⟩
 ·refine Wt.V (We.e2 (We.Od (We.v rfl ⟨⟨_,_,rfl⟩,We.e2 (We.v rfl (We.c (Wg2.ix ?_ rfl rfl rfl)))⟩)))
  refine ⟨hk h,hv h,s.1,rfl,rfl,We.e2 (We.v rfl (We.c (Wg2.ix ?_ rfl rfl rfl)))⟩
  refine ⟨_,_,_,rfl,rfl,(by rw [kW];exact hg _ _),?_⟩
  exact Wb.mk ⟨rfl,rfl⟩
 ·exact We.v rfl (Wk.val ⟨rfl,rfl⟩)
theorem gO (n:Nat) (hn:n≤1000) (R:Int→List Step) (hR:∀ i:Nat,i<n→(R i).length≤1000) (h:List (Int×Int)):Bq [b7 n R,bI h]=some (.new (b7 n (sJ h R))):=by
 apply Wr.eq
 unfold Bq
 (refine Dm.Wr.fn ?_ rfl rfl;dsimp only [List.map,List.replicate,List.cons_append,List.nil_append])
 refine Ws.R ?_
 refine We.f9 (fun i:Nat=>cQ (R i)) (List.range n) id (fun i:Nat=>cQ (sJ h R i)) (d:=b7 n R) ?_ rfl rfl rfl (by decide) (by rw [List.length_range];unfold SZ;lia) fun i hi=>?_
 ·rw [List.map_id];rfl
 ·exact xR gNe (fun o y=>!decide (o=some y)) JI h _ (R i) (hR i (List.mem_range.mp hi))
theorem qH (n:Nat) (hn:n≤1000) (R:Int→List Step) (hR:∀ i:Nat,i<n→(R i).length≤1000) (h:List (Int×Int)):Bs [b7 n R,bI h]=some (.new (b7 n (sL h R))):=by
 apply Wr.eq
 unfold Bs
 (refine Dm.Wr.fn ?_ rfl rfl;dsimp only [List.map,List.replicate,List.cons_append,List.nil_append])
 refine Ws.R ?_
 refine We.f9 (fun i:Nat=>cQ (R i)) (List.range n) id (fun i:Nat=>cQ (sL h R i)) (d:=b7 n R) ?_ rfl rfl rfl (by decide) (by rw [List.length_range];unfold SZ;lia) fun i hi=>?_
 ·rw [List.map_id];rfl
 ·exact xR gEq (fun o y=>decide (o=some y)) JJ h _ (R i) (hR i (List.mem_range.mp hi))
theorem EM (ks:List Int) (i:Int):(ks.any fun k=>decide (k=i))=decide (i∈ks):=by
 induction ks with
 | nil=>rfl
 | cons k ks ih=>
  rw [List.any_cons,ih]
  by_cases h:k=i
  ·simp [h]
  ·have h':¬ i=k:=fun z=>h z.symm
   simp [h,h']
theorem kX {ks:List Int} {vs:List Dat} {i:Int} {d:Dat} (h:i∉ks):j7 ks i=ks++[i]∧j8 ks vs i d=vs++[d]:=by
 unfold j7 j8
 rw [EM,decide_eq_false h]
 exact ⟨rfl,rfl⟩
theorem jS {α:Type} (key:α→Int) (val:α→Dat) (xs:List α) (i:Int):bO (xs.map key) (xs.map val) i=(xs.find? fun x=>decide (key x=i)).map val:=by
 induction xs with
 | nil=>rfl
 | cons x xs ih=>
  rw [List.map_cons,List.map_cons,bO,List.find?_cons]
  by_cases h:key x=i
  ·simp [h]
  ·simp [h,ih]
theorem eU {α:Type} [DecidableEq α]:∀ (l m:List α),l.Nodup→(∀ x∈l,x∈m)→l.length≤m.length
 | [],_,_,_=>Nat.zero_le _
 | x::l,m,h,k=>by
  obtain ⟨h1,h2⟩:=List.nodup_cons.mp h
  have hx:x∈m:=k x List.mem_cons_self
  have:=eU l (m.erase x) h2 fun y hy=>(List.mem_erase_of_ne (fun e:y=x=>h1 (by rw [← e];exact hy))).mpr (k y (List.mem_cons_of_mem _ hy))
  rw [List.length_erase_of_mem hx] at this
  have:=List.length_pos_of_mem hx
  simp
  lia
noncomputable def places (n:Nat):List Int:=(List.range n).map fun i:Nat=>(i:Int)
theorem places_len (n:Nat):(places n).length=n:=by simp [places]
theorem vt (n:Nat) (x:Int):x∈places n↔0≤x∧x<n:=by
 unfold places
 rw [List.mem_map]
 constructor
 ·rintro ⟨i,hi,rfl⟩
  have:=List.mem_range.mp hi
  lia
 ·rintro ⟨h0,h1⟩
  exact ⟨x.toNat,List.mem_range.mpr (by lia),by lia⟩
noncomputable abbrev Sr:=List (Int×List Step)
noncomputable def sk (s:Sr):List Int:=s.map (·.1)
noncomputable def sv (s:Sr):List Dat:=s.map fun e=>cQ e.2
noncomputable def InR (R:Int→List Step) (p:Int) (s:Step):Prop:=s∈R p
structure BJ (R:Int→Step→Prop) (a:Int) (w:List Step) (p:Int):Prop where
 way:Way R a w p
 nd:(a::w.map (·.2)).Nodup
structure Fnd (n:Nat) (R:Int→List Step) (a:Int) (s:Sr):Prop where
 nd:(sk s).Nodup
 pl:∀ x∈sk s,0≤x∧x<n
 st:a∈sk s
 way:∀ e∈s,BJ (InR R) a e.2 e.1∧∀ x∈a::e.2.map (·.2),x∈sk s
theorem Fnd.len {n:Nat} {R:Int→List Step} {a:Int} {s:Sr} (h:Fnd n R a s):s.length≤n:=by
 have:=eU (sk s) (places n) h.nd fun x hx=>(vt n x).mpr (h.pl x hx)
 rw [places_len] at this
 simpa [sk] using this
theorem Fnd.EN {n:Nat} {R:Int→List Step} {a:Int} {s:Sr} (h:Fnd n R a s) {e:Int×List Step} (he:e∈s):e.2.length<s.length:=by
 obtain ⟨h1,h2⟩:=h.way e he
 have:=eU (a::e.2.map (·.2)) (sk s) h1.nd h2
 simp [sk] at this
 lia
theorem dm (s:Sr) (x:Int) (w:List Step):sk (s++[(x,w)])=sk s++[x]:=by simp [sk]
theorem EO (s:Sr) (x:Int) (w:List Step):sv (s++[(x,w)])=sv s++[cQ w]:=by simp [sv]
theorem qI (s:Sr) (x:Int):(∃ w,(x,w)∈s∧bO (sk s) (sv s) x=some (cQ w))∨(x∉sk s∧bO (sk s) (sv s) x=none):=by
 unfold sk sv
 rw [jS (fun e:Int×List Step=>e.1) (fun e=>cQ e.2) s x]
 cases hf:s.find? fun e=>decide (e.1=x) with
 | none=>
  refine Or.inr ⟨fun h=>?_,rfl⟩
  obtain ⟨e,he,hx⟩:=List.mem_map.mp h
  have:=List.find?_eq_none.mp hf e he
  simp [hx] at this
 | some e=>
  have h1:=List.mem_of_find?_eq_some hf
  have h2:=List.find?_some hf
  have h2:e.1=x:=by simpa using h2
  exact Or.inl ⟨e.2,by rw [← h2];exact h1,rfl⟩
theorem kj (s:Sr) (x:Int):(bO (sk s) (sv s) x).isSome=decide (x∈sk s):=by
 rcases qI s x with ⟨ts,h1,h2⟩ | ⟨h1,h2⟩
 ·have:x∈sk s:=List.mem_map.mpr ⟨_,h1,rfl⟩
  rw [h2,decide_eq_true this];rfl
 ·rw [h2,decide_eq_false h1];rfl
theorem Fnd.start {n:Nat} {R:Int→List Step} {a:Int} (a0:0≤a) (a1:a<n):Fnd n R a [(a,[])] where
 nd:=by simp [sk]
 pl:=by intro x hx;simp [sk] at hx;subst hx;exact ⟨a0,a1⟩
 st:=by simp [sk]
 way:=by
  intro e he
  simp at he
  subst he
  exact ⟨⟨rfl,by simp⟩,by simp [sk]⟩
theorem Fnd.step {n:Nat} {R:Int→List Step} {a:Int} {s:Sr} (h:Fnd n R a s) {p:Int} {w:List Step} (hp:(p,w)∈s) {u:Step} (hu:u∈R p) (hn:u.2∉sk s) (u0:0≤u.2) (u1:u.2<n):Fnd n R a (s++[(u.2,w++[u])]) where
 nd:=by
  rw [dm]
  exact List.nodup_append.mpr ⟨h.nd,by simp,fun x hx y hy=>by rw [List.mem_singleton.mp hy];exact fun e=>hn (e▸hx)⟩
 pl:=by
  intro x hx
  rw [dm] at hx
  rcases List.mem_append.mp hx with hx | hx
  ·exact h.pl x hx
  ·rw [List.mem_singleton.mp hx];exact ⟨u0,u1⟩
 st:=by rw [dm];exact List.mem_append_left _ h.st
 way:=by
  intro e he
  rw [dm]
  rcases List.mem_append.mp he with he | he
  ·obtain ⟨k1,k2⟩:=h.way e he
   exact ⟨k1,fun x hx=>List.mem_append_left _ (k2 x hx)⟩
  ·rw [List.mem_singleton.mp he]
   obtain ⟨k1,k2⟩:=h.way _ hp
   refine ⟨⟨k1.way.snoc hu,?_⟩,fun x hx=>?_⟩
   ·dsimp only at k1 k2 ⊢
    rw [List.map_append,← List.cons_append]
    exact List.nodup_append.mpr ⟨k1.nd,by simp,fun x hx y hy=>by rw [List.mem_singleton.mp hy];exact fun e:x=u.2=>hn (by rw [← e];exact k2 x hx)⟩
   ·dsimp only at k1 k2 hx ⊢
    rw [List.map_append,← List.cons_append] at hx
    rcases List.mem_append.mp hx with hx | hx
    ·exact List.mem_append_left _ (k2 x hx)
    ·exact List.mem_append_right _ (by simpa using hx)
noncomputable def Done (R:Int→List Step) (K:List Int) (x:Int):Prop:=∀ u∈R x,u.2∈K
noncomputable def ER (n:Nat) (R:Int→List Step) (a:Int) (s:Sr) (ps:List Int) (c4 c5:Cell):Env:=[.sh (b7 n R),.sh (.int a),.ow (.dct (sk s) (sv s)),.ow (.lst (ps.map Dat.int)),c4,c5]
theorem JK {ps:List Int} {p0:Int} {i:Nat} {e:FE} {ρ ρ2:Env} {Q:Val→Env→Prop} (q:Q (.val (.int p0)) ρ2) (h:ρ[i]?=some (.ow (.lst ((p0::ps).map Dat.int)))) (he:e ρ=some (.val (.int 0),ρ)) (hs:ρ.set i (.ow (.lst (ps.map Dat.int)))=ρ2):We (jO i e) ρ Q:=
 ⟨_,_,by
  unfold jO
  rw [h]
  dsimp only
  rw [he]
  dsimp only
  rw [h]
  dsimp only
  rw [if_pos (by unfold BIG;lia)]
  show some (Val.val (.int p0),ρ.set i (.ow (.lst (ps.map Dat.int))))=_
  rw [hs],q⟩
theorem ES (n:Nat) (R:Int→List Step) (x:Int) (h0:0≤x) (h1:x<n):gIx (b7 n R) (.int x)=some (.val (cQ (R x))):=by
 unfold b7 gIx
 dsimp only
 rw [gu (fun i:Nat=>cQ (R i)) (List.range n) x h0 (by rw [List.length_range];exact h1)]
 have e:(((List.range n)[x.toNat]'(by rw [List.length_range];lia):Nat):Int)=x:=by rw [List.getElem_range];lia
 rw [e]
 rfl
theorem ko (n:Nat) (hn:n≤40) (R:Int→List Step) (hR:∀ i:Int,0≤i→i<n→∀ u∈R i,0≤u.2∧u.2<n) (a:Int) (a0:0≤a) (a1:a<n) :
  ∃ s:Sr,r9 [b7 n R,.int a]=some (.new (.dct (sk s) (sv s)))∧Fnd n R a s∧∀ x∈sk s,Done R (sk s) x:=by
 suffices h:Wr (r9 [b7 n R,.int a]) fun v=>∃ s:Sr,v=.new (.dct (sk s) (sv s))∧Fnd n R a s∧∀ x∈sk s,Done R (sk s) x by
  obtain ⟨v,h1,s,rfl,h2⟩:=h
  exact ⟨s,h1,h2⟩
 unfold r9
 (refine Dm.Wr.fn ?_ rfl rfl;dsimp only [List.map,List.replicate,List.cons_append,List.nil_append])
 repeat array_get_dec
 refine Ws.wh (fun k ρ=>∃ (s:Sr) (ps:List Int) (c4 c5:Cell),ρ=ER n R a s ps c4 c5∧Fnd n R a s∧(∀ x∈ps,x∈sk s)∧(∀ x∈sk s,x∈ps∨Done R (sk s) x)∧k=ps.length+(n-s.length)∧k≤40) ?_ 100 n _ (by lia) ⟨[(a,[])],[a],_,_,rfl,Fnd.start a0 a1,by simp [sk],by simp [sk],by simp;lia,hn⟩
 rintro k ρ ⟨s,ps,c4,c5,rfl,F,hps,hd,hk,OC⟩
 unfold ER
 refine Wt.Tr ?_
 refine We.w rfl ?_
 refine ⟨_,!(ps.map Dat.int).isEmpty,rfl,rfl,?_⟩
 have len:=F.len
 cases ps with
 | nil=>
  refine Wif.no rfl ?_
  refine Ws.R (We.w rfl (WR.slot ?_ rfl))
  exact ⟨s,rfl,F,fun x hx=>(hd x hx).resolve_left (by simp)⟩
 | cons p0 ps0=>
  refine Wif.yes rfl ?_
  unfold GI
  refine Ws.seq (Ws.A ?_ (by decide))
  refine JK (ps:=ps0) (p0:=p0) ?_ rfl rfl rfl
  refine WA.val ?_ (by first | (dsimp only [List.set];first | done | rfl) | rfl)
  have hp0:p0∈sk s:=hps p0 (by simp)
  obtain ⟨q0,q1⟩:=F.pl p0 hp0
  refine Ws.For (Wi.S (We.e2 (We.v rfl (We.v rfl (Wg2.ix ?_ rfl rfl (ES n R p0 q0 q1))))))
  refine Wk.val (jv ?_)
  refine Ws.inv cj _ _ (R p0) _ _ _ _ _ (fun p q ρ=>∃ (s:Sr) (ps:List Int) (c5:Cell),ρ=ER n R a s ps (.sh (.int p0)) c5∧Fnd n R a s∧(∀ x∈ps,x∈sk s)∧p0∈sk s∧(∀ x∈sk s,x∈ps∨x=p0∨Done R (sk s) x)∧(∀ u∈p,u.2∈sk s)∧k=ps.length+1+(n-s.length)) ⟨s,ps0,_,rfl,F,fun x hx=>hps x (by simp [hx]),hp0,?_,by simp,by rw [hk];simp⟩ ?_ ?_
  ·intro x hx
   rcases hd x hx with h | h
   ·rcases List.mem_cons.mp h with h | h
    ·exact .inr (.inl h)
    ·exact .inl h
   ·exact .inr (.inr h)
  ·rintro p u q ρ e' ⟨s,ps,c5,rfl,F,hps,hp0,hd,hp,hk⟩
   have len:=F.len
   have hu:u∈R p0:=by rw [e'];simp
   obtain ⟨u0,u1⟩:=hR p0 q0 q1 u hu
   unfold ER
   refine Dm.b5 rfl (by first | (dsimp only [List.set];first | done | rfl) | rfl) ?_
   unfold GH
   refine Ws.If (Wt.V (We.e2 (We.e2 (We.v rfl (We.c (Wg2.ix ?_ rfl rfl rfl))))))
   refine We.w rfl (Wg2.Mu ?_ rfl rfl)
   refine Wb.mk ?_
   rw [kj]
   refine ⟨fun h=>?_,fun h=>?_⟩
   ·have hnew:=ndT h
    obtain ⟨w,t1,t2⟩:∃ w,(p0,w)∈s∧bO (sk s) (sv s) p0=some (cQ w):=by
     rcases qI s p0 with h | h
     ·exact h
     ·exact absurd hp0 h.1
    have wl:=F.EN t1
    refine Ws.seq (Ws.JF (We.e2 (We.e2 (We.w rfl (We.v rfl (Wg2.dx t2 ?_ rfl rfl))))))
    refine We.L (Was.cons (We.v rfl (Was.nil (WT.mk ?_ rfl rfl (by exact Nat.le_of_ble_eq_true rfl)))))
    refine Wg2.gG ?_ rfl rfl (by rw [List.length_map];dsimp only at wl;simp;unfold SZ;lia)
    refine Wk.new (vg rfl (We.e2 (We.v rfl (We.c (Wg2.ix ?_ rfl rfl rfl)))))
    refine cz.mk (qD ?_ rfl (by first | (dsimp only [List.set];first | done | rfl) | rfl) (by simp only [sk,List.length_map];unfold SZ;lia))
    refine Ws.App (We.e2 (We.v rfl (We.c (Wg2.ix ?_ rfl rfl rfl)))) rfl
    refine Wk.val (mD ?_ rfl (by first | (dsimp only [List.set];first | done | rfl) | rfl) (by rw [List.length_map];unfold SZ;lia))
    have F':=F.step t1 hu hnew u0 u1
    have len':=F'.len
    have em:Dat.lst (w.map cj++[cj u])=cQ (w++[u]):=by simp [cQ]
    obtain ⟨p1,p2⟩:=kX (ks:=sk s) (vs:=sv s) (i:=u.2) (d:=cQ (w++[u])) hnew
    refine ⟨s++[(u.2,w++[u])],ps++[u.2],.sh (cj u),?_,F',?_,?_,?_,?_,?_⟩
    ·rw [em,p1,p2,dm,EO,List.map_append]
     rfl
    ·intro x hx
     rw [dm]
     rcases List.mem_append.mp hx with hx | hx
     ·exact List.mem_append_left _ (hps x hx)
     ·exact List.mem_append_right _ hx
    ·rw [dm];exact List.mem_append_left _ hp0
    ·intro x hx
     rw [dm] at hx ⊢
     rcases List.mem_append.mp hx with hx | hx
     ·rcases hd x hx with h | h | h
      ·exact .inl (List.mem_append_left _ h)
      ·exact .inr (.inl h)
      ·exact .inr (.inr fun y hy=>List.mem_append_left _ (h y hy))
     ·exact .inl (List.mem_append_right _ hx)
    ·intro v hv
     rw [dm]
     rcases List.mem_append.mp hv with hv | hv
     ·exact List.mem_append_left _ (hp v hv)
     ·rw [List.mem_singleton.mp hv];simp
    ·rw [hk];simp at len' ⊢;lia
   ·have hold:=ndF h
    refine Ws.nx ?_
    refine ⟨s,ps,.sh (cj u),rfl,F,hps,hp0,hd,fun v hv=>?_,hk⟩
    rcases List.mem_append.mp hv with hv | hv
    ·exact hp v hv
    ·rw [List.mem_singleton.mp hv];exact hold
  ·rintro ρ ⟨s,ps,c5,rfl,F,hps,hp0,hd,hp,hk⟩
   refine ⟨ps.length+(n-s.length),by lia,s,ps,_,_,rfl,F,hps,fun x hx=>?_,rfl,by lia⟩
   rcases hd x hx with h | rfl | h
   ·exact .inl h
   ·exact .inr hp
   ·exact .inr h
noncomputable def kq (h:List (Int×Int)) (s:Step):List (Int×Int):=if s.1∈hk h then h.filter fun e=>decide (e.1≠s.1) else h++[s]
theorem mK (h:List (Int×Int)) (m:Int):hdF (h.filter fun e=>decide (e.1≠m))=put (hdF h) m none:=by
 funext x
 unfold put hdF
 rw [List.find?_filter]
 by_cases e:x=m
 ·subst e
  rw [if_pos rfl,List.find?_eq_none.mpr fun y _=>by simp]
  rfl
 ·rw [if_neg e]
  congr 1
  congr 1
  funext y
  by_cases q:y.1=x
  ·have:y.1≠m:=fun z=>e (q.symm.trans z)
   simp [q,e]
  ·simp [q]
theorem ET (h:List (Int×Int)) (s:Step) (hn:s.1∉hk h):hdF (h++[s])=put (hdF h) s.1 (some s.2):=by
 funext x
 unfold put hdF
 rw [List.find?_append]
 by_cases e:x=s.1
 ·subst e
  rw [if_pos rfl]
  have:(h.find? fun e=>decide (e.1=s.1))=none:=List.find?_eq_none.mpr fun y hy=>by
   intro z
   exact hn (List.mem_map.mpr ⟨y,hy,of_decide_eq_true z⟩)
  rw [this]
  simp
 ·rw [if_neg e]
  have e':¬ s.1=x:=fun z=>e z.symm
  cases hf:(h.find? fun e=>decide (e.1=x)) with
  | none=>simp [e']
  | some y=>rfl
theorem BK (h:List (Int×Int)) (s:Step):hdF (kq h s)=gb (hdF h) s.1 s.2:=by
 unfold kq gb
 rw [qG]
 by_cases q:s.1∈hk h
 ·rw [if_pos q,if_pos (decide_eq_true q),mK]
 ·rw [if_neg q,if_neg (by simpa using q),ET h s q]
noncomputable def cg (h:List (Int×Int)):List Step→List (Int×Int)
 | []=>h
 | s::w=>cg (kq h s) w
theorem pR:∀ (w:List Step) (h:List (Int×Int)),hdF (cg h w)=kh (hdF h) w
 | [],_=>rfl
 | s::w,h=>by rw [cg,kh,pR w,BK]
theorem gg:∀ (w:List Step) (h:List (Int×Int)) (s:Step),cg h (w++[s])=kq (cg h w) s
 | [],_,_=>rfl
 | _::w,h,s=>by rw [List.cons_append,cg,cg,gg w]
theorem kY (h:List (Int×Int)) (m:Int):fk (hk h) (hv h) m=hk (h.filter fun e=>decide (e.1≠m))∧fm (hk h) (hv h) m=hv (h.filter fun e=>decide (e.1≠m)):=by
 unfold hk hv
 induction h with
 | nil=>exact ⟨rfl,rfl⟩
 | cons e h ih=>
  rw [List.map_cons,List.map_cons,fk,fm]
  by_cases q:e.1=m
  ·rw [if_pos q,if_pos q,List.filter_cons_of_neg (by simpa using q)];exact ih
  ·rw [if_neg q,if_neg q,List.filter_cons_of_pos (by simpa using q),List.map_cons,List.map_cons,ih.1,ih.2];exact ⟨rfl,rfl⟩
structure Hok (r:List Tie) (h:List (Int×Int)):Prop where
 nd:(hk h).Nodup
 sub:∀ m∈hk h,m∈r.map (·.m)
theorem Hok.len {r:List Tie} {h:List (Int×Int)} (k:Hok r h):h.length≤r.length:=by
 have:=eU (hk h) (r.map (·.m)) k.nd k.sub
 simpa [hk] using this
theorem Hok.nil (r:List Tie):Hok r []:=⟨by simp [hk],by simp [hk]⟩
theorem Hok.drop {r:List Tie} {h:List (Int×Int)} (k:Hok r h) (m:Int):Hok r (h.filter fun e=>decide (e.1≠m)):=by
 refine ⟨(k.nd.sublist (List.Sublist.map _ (List.filter_sublist))),fun x hx=>k.sub x ?_⟩
 obtain ⟨e,he,rfl⟩:=List.mem_map.mp hx
 exact List.mem_map.mpr ⟨e,(List.mem_filter.mp he).1,rfl⟩
theorem Hok.lead {r:List Tie} {h:List (Int×Int)} (k:Hok r h) {s:Step} (hs:s.1∈r.map (·.m)):Hok r (kq h s):=by
 unfold kq
 split
 ·exact k.drop _
 ·rename_i q
  refine ⟨?_,fun x hx=>?_⟩
  ·unfold hk
   rw [List.map_append]
   exact List.nodup_append.mpr ⟨k.nd,by simp,fun x hx y hy=>by
    have:y=s.1:=by simpa using hy
    rw [this];exact fun e=>q (e▸hx)⟩
  ·unfold hk at hx
   rw [List.map_append] at hx
   rcases List.mem_append.mp hx with hx | hx
   ·exact k.sub x hx
   ·have:x=s.1:=by simpa using hx
    rw [this];exact hs
theorem Hok.BL {r:List Tie}:∀ {w:List Step} {h:List (Int×Int)},Hok r h→(∀ s∈w,s.1∈r.map (·.m))→Hok r (cg h w)
 | [],_,k,_=>k
 | s::w,h,k,hs=>by
  rw [cg]
  exact Hok.BL (w:=w) (k.lead (hs s List.mem_cons_self)) fun u hu=>hs u (List.mem_cons_of_mem _ hu)
theorem oK (r:List Tie) (hl:r.length≤1000) (h:List (Int×Int)) (k:Hok r h) (w:List Step) (hw:∀ s∈w,s.1∈r.map (·.m)):Bt [bI h,cQ w]=some (.val .non,bI (cg h w)):=by
 suffices q:WrM (Bt [bI h,cQ w]) fun z d=>z=.val .non∧d=bI (cg h w) by
  obtain ⟨z,d,h1,rfl,rfl⟩:=q
  exact h1
 unfold Bt
 refine WrM.fn ?_ rfl rfl
 refine Ws.For (Wi.S (We.v rfl (Wk.val (jv ?_))))
 refine Ws.inv cj _ _ w _ _ _ _ _ (fun p q ρ=>∃ c2 c3,ρ=[.ow (bI (cg h p)),.sh (cQ w),c2,c3]) ⟨_,_,rfl⟩ ?_ ?_
 ·rintro p s q ρ e ⟨c2,c3,rfl⟩
  refine Dm.b5 rfl (by first | (dsimp only [List.set];first | done | rfl) | rfl) ?_
  have kp:Hok r (cg h p):=k.BL fun u hu=>hw u (by rw [e];exact List.mem_append_left _ hu)
  have len:=kp.len
  unfold GJ
  refine Ws.If (Wt.V (We.e2 (We.v rfl (We.w rfl (Wg2.din ?_ rfl rfl)))))
  refine Wb.mk ?_
  rw [kW,Option.isSome_map,qG]
  refine Wif.dec (fun hm=>?_) fun hm=>?_
  ·obtain ⟨x,hx⟩:∃ x,hdF (cg h p) s.1=some x:=Option.isSome_iff_exists.mp (by rw [qG];exact decide_eq_true hm)
   refine Ws.E (We.Mx (k:=s.1) (d:=.int x) (by rw [kW,hx];rfl) ?_ rfl rfl rfl)
   refine ⟨.sh (.int s.1),.sh (.int s.2),?_⟩
   rw [gg,kq,if_pos hm,(kY _ _).1,(kY _ _).2]
   rfl
  ·refine Ws.JF (We.v rfl (Wk.val (vg rfl (We.v rfl (cz.mk (qD ?_ rfl (by first | (dsimp only [List.set];first | done | rfl) | rfl) ?_))))))
   ·refine ⟨.sh (.int s.1),.sh (.int s.2),?_⟩
    rw [gg,kq,if_neg hm]
    obtain ⟨p1,p2⟩:=kX (ks:=hk (cg h p)) (vs:=hv (cg h p)) (i:=s.1) (d:=.int s.2) hm
    rw [p1,p2]
    unfold bI hk hv
    rw [List.map_append,List.map_append]
    rfl
   ·unfold hk;rw [List.length_map];unfold SZ;lia
 ·rintro ρ ⟨c2,c3,rfl⟩
  exact ⟨_,rfl,rfl,rfl⟩
theorem kr {r:List Tie} {x:Int} {s:Step}:s∈aO r x↔fG r x s:=by
 unfold aO
 rw [List.mem_filterMap]
 constructor
 ·rintro ⟨t,ht,e⟩
  unfold cR at e
  split at e
  ·cases e
  rename_i hne
  split at e
  ·rename_i ha
   cases e
   exact ⟨t,ht,rfl,hne,.inl ⟨ha,rfl⟩⟩
  ·split at e
   ·rename_i hb
    cases e
    exact ⟨t,ht,rfl,hne,.inr ⟨hb,rfl⟩⟩
   ·cases e
 ·rintro ⟨t,ht,hm,hne,he⟩
  refine ⟨t,ht,?_⟩
  unfold cR
  rw [if_neg hne]
  rcases he with ⟨h1,h2⟩ | ⟨h1,h2⟩
  ·rw [if_pos h1,hm,h2]
  ·rw [if_neg (fun z=>hne (z.trans h1.symm)),if_pos h1,hm,h2]
theorem sM {n:Nat} {r:List Tie} (hp:Pl n r) {x:Int} {s:Step} (h:fG r x s):(0≤x∧x<n)∧0≤s.2∧s.2<n:=by
 obtain ⟨t,ht,_,_,he⟩:=h
 have:=hp t ht
 lia
theorem EU {r:List Tie} {x:Int} {s:Step} (h:fG r x s):s.1∈r.map (·.m):=by
 obtain ⟨t,ht,hm,_⟩:=h
 exact List.mem_map.mpr ⟨t,ht,hm⟩
theorem vv {r:List Tie} {R:Int→Step→Prop} (hR:∀ p s,R p s→fG r p s) {y:Int}:∀ {w:List Step} {x:Int},Way R x w y→∀ s∈w,s.1∈r.map (·.m)
 | [],_,_,s,hs=>by cases hs
 | u::w,x,h,s,hs=>by
  rcases List.mem_cons.mp hs with rfl | hs
  ·exact EU (hR _ _ h.1)
  ·exact vv hR h.2 s hs
theorem mL {r:List Tie} {h:List (Int×Int)} {p:Int} {s:Step}:InR (sJ h (aO r)) p s↔mF r (hdF h) p s:=by
 unfold InR sJ mF
 rw [List.mem_filter,kr]
 simp
theorem qJ {r:List Tie} {h:List (Int×Int)} {p:Int} {s:Step}:InR (sL h (aO r)) p s↔Led r (hdF h) p s:=by
 unfold InR sL Led
 rw [List.mem_filter,kr]
 simp
theorem zp (w:List Step):bV (cQ w)=true:=gv _ _ fun s=>by unfold cj bV;exact jQ _ (by intro x hx;simp at hx;rcases hx with rfl | rfl<;>exact pL _)
theorem g7 (n:Nat) (R:Int→List Step):bV (b7 n R)=true:=gv (fun i:Nat=>cQ (R i)) _ fun i=>zp _
noncomputable def mso (w:List Step):List Int:=w.map (·.1)
noncomputable def msD (w:List Step):Dat:=.lst ((mso w).map Dat.int)
noncomputable def cJ (h:List (Int×Int)):List Int→List (Int×Int)
 | []=>h
 | m::ms=>cJ (h.filter fun e=>decide (e.1≠m)) ms
theorem ku:∀ (ms:List Int) (h:List (Int×Int)) (m:Int),cJ h (ms++[m])=(cJ h ms).filter fun e=>decide (e.1≠m)
 | [],_,_=>rfl
 | _::ms,h,m=>by rw [List.cons_append,cJ,cJ,ku ms]
theorem jT:∀ (w:List Step) (h:List (Int×Int)),hdF (cJ h (mso w))=fH (hdF h) w
 | [],_=>rfl
 | s::w,h=>by
  show hdF (cJ _ (mso w))=fH _ w
  rw [jT w,mK]
theorem kB:∀ (ms:List Int) (h:List (Int×Int)) (x:Int),x∉ms→hdF (cJ h ms) x=hdF h x
 | [],_,_,_=>rfl
 | m::ms,h,x,hx=>by
  rw [cJ,kB ms _ x fun z=>hx (List.mem_cons_of_mem _ z),mK]
  unfold put
  rw [if_neg fun z=>hx (by rw [z];exact List.mem_cons_self)]
theorem Hok.drops {r:List Tie}:∀ {ms:List Int} {h:List (Int×Int)},Hok r h→Hok r (cJ h ms)
 | [],_,k=>k
 | m::ms,h,k=>by rw [cJ];exact Hok.drops (ms:=ms) (k.drop m)
theorem vz {r:List Tie} {H:Hd} {y:Int}:∀ {w:List Step} {x:Int},Way (Led r H) x w y→∀ s∈w,H s.1=some s.2
 | [],_,_,s,hs=>by cases hs
 | u::w,x,h,s,hs=>by
  rcases List.mem_cons.mp hs with rfl | hs
  ·exact h.1.2
  ·exact vz h.2 s hs
structure qK (r:List Tie) (a b:Int) (ws:List (List Step)):Prop where
 way:∀ w∈ws,BJ (fG r) a w b
 nd:(ws.map mso).flatten.Nodup
noncomputable def zq (n:Nat) (r:List Tie) (h0 h:List (Int×Int)) (a b:Int) (c:Nat) (ws:List (List Step)) (c7 c8 c9:Cell):Env:=
 [.sh (b7 n (aO r)),.sh (bI h0),.sh (.int a),.sh (.int b),.sh (.int c),.ow (bI h),.ow (.lst (ws.map msD)),c7,c8,c9]
theorem zu (n:Nat) (hn:n≤40) (r:List Tie) (hp:Pl n r) (nd:(r.map (·.m)).Nodup) (hl:r.length≤1000) (h:List (Int×Int)) (k:Hok r h) (a b:Int) (a0:0≤a) (a1:a<n) (c:Nat) (hc:c≤1000) (fl:Flow r (hdF h) a b c) :
  ∃ ws:List (List Step),zm [b7 n (aO r),bI h,.int a,.int b,.int c]=some (.new (.lst (ws.map msD)))∧ws.length=c∧qK r a b ws:=by
 suffices q:Wr (zm [b7 n (aO r),bI h,.int a,.int b,.int c]) fun v=>∃ ws:List (List Step),v=.new (.lst (ws.map msD))∧ws.length=c∧qK r a b ws by
  obtain ⟨v,h1,ws,rfl,h2⟩:=q
  exact ⟨ws,h1,h2⟩
 unfold zm
 (refine Dm.Wr.fn ?_ rfl rfl;dsimp only [List.map,List.replicate,List.cons_append,List.nil_append])
 refine Ws.seq (Ws.A (We.B (Was.cons (We.v rfl (Was.nil (WB.dict (ks:=hk h) (vs:=hv h) ?_ rfl))))) (by decide))
 refine WA.new ?_ (by first | (dsimp only [List.set];first | done | rfl) | rfl)
 refine Ws.seq (Ws.A (We.L (Was.nil (WT.mk ?_ rfl rfl (by decide)))) (by decide))
 refine WA.new ?_ (by first | (dsimp only [List.set];first | done | rfl) | rfl)
 refine Ws.seq (Ws.For (Wi.R1 (We.v rfl (cz.mk ⟨?_,by unfold BIG;lia,by unfold BIG;lia⟩))))
 refine Ws.inv (fun i:Nat=>Dat.int (0+(i:Nat))) _ _ (List.range c) _ _ _ _ _ (fun p q ρ=>∃ (h':List (Int×Int)) (ws:List (List Step)) (c7 c8 c9:Cell),ρ=zq n r h h' a b c ws c7 c8 c9∧Hok r h'∧ws.length=p.length∧Flow r (hdF h') a b q.length∧qK r a b ws∧∀ m∈(ws.map mso).flatten,hdF h' m=none)
  ⟨h,[],_,_,_,rfl,k,rfl,by rw [List.length_range];exact fl,⟨by simp,by simp⟩,by simp⟩ ?_ ?_
 ·rintro p x q ρ e ⟨h',ws,c7,c8,c9,rfl,k',wl,fl',W,hno⟩
  rw [List.length_cons] at fl'
  unfold zq
  refine Dm.b5 rfl (by first | (dsimp only [List.set];first | done | rfl) | rfl) ?_
  unfold GL
  have hR:∀ i:Nat,i<n→(aO r i).length≤1000:=fun i _=>Nat.le_trans (dX r i) hl
  obtain ⟨s,es,F,hd⟩:=ko n hn (sL h' (aO r)) (fun i _ _ u hu=>(sM hp ((qJ (h:=h')).mp hu).1).2) a a0 a1
  have hb:b∈sk s:=by
   have:=fl'.reach (S:=fun y=>decide (y∈sk s)) (decide_eq_true F.st) fun y u hy hu=>decide_eq_true (hd y (of_decide_eq_true hy) u (qJ.mpr hu))
   exact of_decide_eq_true this
  obtain ⟨w,t1,t2⟩:∃ w,(b,w)∈s∧bO (sk s) (sv s) b=some (cQ w):=by
   rcases qI s b with h | h
   ·exact h
   ·exact absurd hb h.1
  obtain ⟨⟨w1,w2⟩,_⟩:=F.way _ t1
  have EN:=F.EN t1
  have Of:=F.len
  dsimp only at w1 w2 EN
  have w1':Way (Led r (hdF h')) a w b:=w1.mono fun _ _ z=>qJ.mp z
  have wm:=kg nd (fun p s h=>h.1) w1' w2
  have hit:iS (e2 gDx (eF r9 [(eFd Bs [(eV 0),(eV 5)]),(eV 2)]) (eV 3)) [.sh (b7 n (aO r)),.sh (bI h),.sh (.int a),.sh (.int b),.sh (.int c),.ow (bI h'),.ow (.lst (ws.map msD)),.sh (.int (0+(x:Nat))),c8,c9]
    = some (w.map cj,[.sh (b7 n (aO r)),.sh (bI h),.sh (.int a),.sh (.int b),.sh (.int c),.ow (bI h'),.ow (.lst (ws.map msD)),.sh (.int (0+(x:Nat))),c8,c9]):=by
   apply Wi.get
   refine Wi.S (We.e2 (We.F (Was.cons (We.Fd (Was.cons (We.v rfl (Was.cons (We.w rfl (Was.nil ?_)))))))))
   refine ⟨_,_,_,rfl,qH n (by lia) (aO r) hR h',g7 _ _,?_⟩
   refine Was.cons (We.v rfl (Was.nil (WF.box es ?_ rfl rfl rfl rfl)))
   refine We.v rfl (Wg2.dx t2 ?_ rfl rfl)
   exact Wk.val (jv ⟨rfl,rfl⟩)
  refine Ws.seq (Ws.A (We.Map cj w (fun s=>s.1) Dat.int ?_ hit rfl (by decide) (by unfold SZ;lia) fun s _=>We.e2 (We.v rfl (We.c (Wg2.ix (Wk.val ⟨rfl,rfl⟩) rfl rfl rfl)))) (by decide))
  refine WA.new ?_ (by first | (dsimp only [List.set];first | done | rfl) | rfl)
  refine Ws.seq (Ws.For (Wi.S (We.w rfl (Wk.slot (jv ?_) rfl (by first | (dsimp only [List.set];first | done | rfl) | rfl)))))
  refine Ws.inv Dat.int _ _ (mso w) _ _ _ _ _ (fun pm qm ρ=>∃ c9,ρ=zq n r h (cJ h' pm) a b c ws (.sh (.int (0+(x:Nat)))) (.sh (msD w)) c9) ⟨_,rfl⟩ ?_ ?_
  ·rintro pm m qm ρ em ⟨c9,rfl⟩
   unfold zq
   refine Dm.b5 rfl (by first | (dsimp only [List.set];first | done | rfl) | rfl) ?_
   unfold GK
   have hm:m∉pm:=by
    have:(mso w).Nodup:=wm
    rw [em] at this
    exact fun z=>(List.nodup_append.mp this).2.2 m z m List.mem_cons_self rfl
   have hmw:m∈mso w:=by rw [em];simp
   obtain ⟨st,hst,rfl⟩:=List.mem_map.mp hmw
   have hx:hdF (cJ h' pm) st.1=some st.2:=by rw [kB pm h' st.1 hm];exact vz w1' st hst
   refine Ws.E (We.Mx (k:=st.1) (d:=.int st.2) (by rw [kW,hx];rfl) ?_ rfl rfl rfl)
   refine ⟨.sh (.int st.1),?_⟩
   rw [ku,(kY _ _).1,(kY _ _).2]
   rfl
  ·rintro ρ ⟨c9,rfl⟩
   unfold zq
   refine Ws.App (We.v rfl (Wk.val (mD ?_ rfl (by first | (dsimp only [List.set];first | done | rfl) | rfl) ?_))) rfl
   ·have fl2:=fl'.less nd w1' w2
    rw [← jT] at fl2
    refine ⟨cJ h' (mso w),ws++[w],.sh (.int (0+(x:Nat))),.sh (msD w),c9,?_,k'.drops,by simp [wl],fl2,⟨fun v hv=>?_,?_⟩,fun m hm=>?_⟩
    ·rw [List.map_append];rfl
    ·rcases List.mem_append.mp hv with hv | hv
     ·exact W.way v hv
     ·rw [List.mem_singleton.mp hv];exact ⟨w1'.mono fun _ _ z=>z.1,w2⟩
    ·rw [List.map_append,List.flatten_append]
     refine List.nodup_append.mpr ⟨W.nd,by rw [List.map_cons,List.map_nil,List.flatten_cons,List.flatten_nil,List.append_nil];exact wm,fun m hm z hz=>?_⟩
     intro e
     subst e
     have:m∈mso w:=by simpa using hz
     obtain ⟨st,hst,rfl⟩:=List.mem_map.mp this
     have h1:=vz w1' st hst
     rw [hno _ hm] at h1
     cases h1
    ·rw [List.map_append,List.flatten_append] at hm
     rw [jT]
     rcases List.mem_append.mp hm with hm | hm
     ·by_cases z:m∈mso w
      ·exact gY z
      ·rw [gf fun u hu e=>z (List.mem_map.mpr ⟨u,hu,e⟩)];exact hno m hm
     ·rw [List.map_cons,List.map_nil,List.flatten_cons,List.flatten_nil,List.append_nil] at hm
      exact gY hm
   ·rw [List.length_map,wl]
    have:=congrArg List.length e
    rw [List.length_range,List.length_append] at this
    unfold SZ;lia
 ·rintro ρ ⟨h',ws,c7,c8,c9,rfl,k',wl,fl',W,hno⟩
  unfold zq
  refine Ws.R (We.w rfl (WR.slot ?_ rfl))
  exact ⟨ws,rfl,by rw [wl,List.length_range],W⟩
noncomputable def tupI (S:List Int):Dat:=.tup (S.map Dat.int)
noncomputable def ovr (S:List Int) (t:Tie):Bool:=decide (t.a∈S) != decide (t.b∈S)
noncomputable def cL (r:List Tie) (S:List Int):List Int:=(r.filter (ovr S)).map (·.m)
noncomputable def JL (n:Nat) (a b:Int) (S:List Int):Prop:=S.Pairwise (· < ·)∧(∀ x∈S,0≤x∧x<n)∧a∈S∧b∉S
noncomputable def jA:Option (List Int)→Dat
 | none=>.non
 | some S=>tupI S
theorem BN {l:List Int} (h:l.Nodup):(fF ltI l).Pairwise (· < ·):=by
 have h1:=oJ l
 have h2:(fF ltI l).Nodup:=(ff ltI l).nodup_iff.mpr h
 refine (List.Pairwise.and h1 h2).imp fun {x y} q=>?_
 obtain ⟨q1,q2⟩:=q
 simp [ltI] at q1
 lia
structure Apart (n:Nat) (r:List Tie) (a b:Int) (most:Int) (ws:List (List Step)) (o:Option (List Int)):Prop where
 ways:qK r a b ws
 le:(ws.length:Int)≤most
 all:o=none→(ws.length:Int)=most
 side:∀ S,o=some S→JL n a b S∧(cL r S).length=ws.length∧(ws.length:Int)<most
noncomputable def My (n:Nat) (r:List Tie) (a b most:Int) (c5:Cell) (h:List (Int×Int)) (o:Option (List Int)) (k:Nat) (c9:Cell):Env:=
 [.sh (.int n),.sh (ak r),.sh (.int a),.sh (.int b),.sh (.int most),c5,.ow (bI h),.sh (jA o),.sh (.int k),c9]
noncomputable def BO (n:Nat) (r:List Tie) (c:Cell):Prop:=c=.ow (b7 n (aO r))∨c=.sh (b7 n (aO r))
theorem xS (ws:List (List Step)):bV (.lst (ws.map msD))=true:=gv _ _ fun w=>vj _
theorem GO {n:Nat} {r:List Tie} {c5:Cell} (h5:BO n r c5) (A B C D E G H I J:Cell) {Q:Val→Env→Prop} (rest:List FE) {Q':List Val→Env→Prop}
  (k:∀ x,(x=.slot 5∧c5=.ow (b7 n (aO r)))∨(x=.val (b7 n (aO r))∧c5=.sh (b7 n (aO r)))→Was rest [A,B,C,D,E,c5,G,H,I,J] fun xs ρ2=>Q' (x::xs) ρ2):Was (eV 5::rest) [A,B,C,D,E,c5,G,H,I,J] Q':=by
 rcases h5 with rfl | rfl
 ·exact Was.cons (We.w rfl (k _ (.inl ⟨rfl,rfl⟩)))
 ·exact Was.cons (We.v rfl (k _ (.inr ⟨rfl,rfl⟩)))
theorem d_ (n:Nat) (hn:n≤40) (r:List Tie) (hp:Pl n r) (nd:(r.map (·.m)).Nodup) (hl:r.length≤1000) (a b:Int) (a0:0≤a) (a1:a<n) (b0:0≤b) (b1:b<n) (most:Int) (m0:0≤most) (m1:most≤90) :
  ∃ ws o,vn [.int n,ak r,.int a,.int b,.int most]=some (.val (.tup [.lst (ws.map msD),jA o]))∧Apart n r a b most ws o:=by
 suffices q:Wr (vn [.int n,ak r,.int a,.int b,.int most]) fun v=>∃ ws o,v=.val (.tup [.lst (ws.map msD),jA o])∧Apart n r a b most ws o by
  obtain ⟨v,h1,ws,o,rfl,h2⟩:=q
  exact ⟨ws,o,h1,h2⟩
 unfold vn
 (refine Dm.Wr.fn ?_ rfl rfl;dsimp only [List.map,List.replicate,List.cons_append,List.nil_append])
 refine Ws.seq (Ws.A (We.F (Was.cons (We.v rfl (Was.cons (We.v rfl (Was.nil (WF.box (sI n (by lia) r hp hl) ?_ rfl rfl rfl rfl))))))) (by decide))
 refine WA.new ?_ (by first | (dsimp only [List.set];first | done | rfl) | rfl)
 refine Ws.seq (Ws.A (We.Dn (WA.new ?_ (by first | (dsimp only [List.set];first | done | rfl) | rfl))) (by decide))
 refine Ws.seq (Ws.A (We.c (WA.val ?_ (by first | (dsimp only [List.set];first | done | rfl) | rfl))) (by decide))
 refine Ws.seq (Ws.A (We.c (WA.val ?_ (by first | (dsimp only [List.set];first | done | rfl) | rfl))) (by decide))
 have hR:∀ i:Nat,i<n→(aO r i).length≤1000:=fun i _=>Nat.le_trans (dX r i) hl
 refine Ws.seq ?_
 refine Ws.wh (fun k ρ=>∃ (c5:Cell) (h:List (Int×Int)) (o:Option (List Int)) (cnt:Nat) (c9:Cell),ρ=My n r a b most c5 h o cnt c9∧BO n r c5∧Hok r h∧Flow r (hdF h) a b cnt∧(cnt:Int)≤most∧(∀ S,o=some S→JL n a b S∧(cL r S).length=cnt∧(cnt:Int)<most) ∧
   k=(most-cnt).toNat+(if o=none then 1 else 0)) ?_ 100 (most.toNat+1) _ (by lia) ⟨_,[],none,0,_,rfl,.inl rfl,Hok.nil r,Flow.zero r a b,m0,by simp,by simp⟩
 rintro k ρ ⟨c5,h,o,cnt,c9,rfl,h5,hok,fl,hle,hs,hk⟩
 unfold My
 have fin:o≠none∨¬ (cnt:Int)<most→Ws (sR (cN [(eFd zm [(eV 5),(eV 6),(eV 2),(eV 3),(eV 8)]),(eV 7)])) [.sh (.int n),.sh (ak r),.sh (.int a),.sh (.int b),.sh (.int most),c5,.ow (bI h),.sh (jA o),.sh (.int cnt),c9]
   (fun _=>∃ ws o,RV.val .non=.val (.tup [.lst (ws.map msD),jA o])∧Apart n r a b most ws o) (fun v _=>∃ ws o,v=.val (.tup [.lst (ws.map msD),jA o])∧Apart n r a b most ws o) (fun _=>False) (fun _=>False):=fun hend=>by
  obtain ⟨ws,ep,wl,W⟩:=zu n hn r hp nd hl h hok a b a0 a1 cnt (by lia) fl
  refine Ws.R (We.T (Was.cons (We.Fd (GO (Q:=fun _ _=>True) h5 _ _ _ _ _ _ _ _ _ _ fun x hx=>?_))))
  refine Was.cons (We.w rfl (Was.cons (We.v rfl (Was.cons (We.v rfl (Was.cons (We.v rfl (Was.nil ?_))))))))
  have fin2:Apart n r a b most ws o:=⟨W,by rw [wl];exact hle,fun z=>by rw [wl];have:=hend.resolve_left (fun y=>y z);lia,fun S z=>by rw [wl];exact hs S z⟩
  rcases hx with ⟨rfl,rfl⟩ | ⟨rfl,rfl⟩
  ·refine ⟨_,_,_,rfl,ep,xS ws,?_⟩
   refine Was.cons (We.v rfl (Was.nil (WT.mk ?_ rfl rfl (by exact Nat.le_of_ble_eq_true rfl))))
   exact ⟨ws,o,rfl,fin2⟩
  ·refine ⟨_,_,_,rfl,ep,xS ws,?_⟩
   refine Was.cons (We.v rfl (Was.nil (WT.mk ?_ rfl rfl (by exact Nat.le_of_ble_eq_true rfl))))
   exact ⟨ws,o,rfl,fin2⟩
 refine Wt.And (Wt.V (We.e2 (We.v rfl (We.v rfl (Wg2.lt (Wb.mk ?_) rfl rfl)))))
 refine Wif.dec (fun hlt=>?_) fun hge=>?_
 ·refine Wt.V (We.e2 (We.v rfl (We.c (Wg2.isN (Wb.mk ?_) rfl rfl))))
  cases o with
  | some S=>
   refine Wif.no rfl ?_
   exact fin (.inl (by simp))
  | none=>
   refine Wif.yes rfl ?_
   unfold GN
   obtain ⟨s,es,F,hd⟩:=ko n hn (sJ h (aO r)) (fun i _ _ u hu=>(sM hp ((mL (h:=h)).mp hu).1).2) a a0 a1
   have Of:=F.len
   have search:∀ {N:Env→Prop} {R:RV→Env→Prop} {B C:Env→Prop},(∀ c5',BO n r c5'→N [.sh (.int n),.sh (ak r),.sh (.int a),.sh (.int b),.sh (.int most),c5',.ow (bI h),.sh (jA none),.sh (.int cnt),.ow (.dct (sk s) (sv s))]) →
     Ws (sA 9 (eF r9 [(eFd Bq [(eV 5),(eV 6)]),(eV 2)])) [.sh (.int n),.sh (ak r),.sh (.int a),.sh (.int b),.sh (.int most),c5,.ow (bI h),.sh (jA none),.sh (.int cnt),c9] N R B C:=fun {N R B C} kN=>by
    refine Ws.A (We.F (Was.cons (We.Fd (GO (Q:=fun _ _=>True) h5 _ _ _ _ _ _ _ _ _ _ fun x hx=>?_)))) (by decide)
    refine Was.cons (We.w rfl (Was.nil ?_))
    rcases hx with ⟨rfl,rfl⟩ | ⟨rfl,rfl⟩
    ·refine ⟨_,_,_,rfl,gO n (by lia) (aO r) hR h,g7 _ _,?_⟩
     refine Was.cons (We.v rfl (Was.nil (WF.box es ?_ rfl rfl rfl rfl)))
     exact WA.new (kN _ (.inr rfl)) (by first | (dsimp only [List.set];first | done | rfl) | rfl)
    ·refine ⟨_,_,_,rfl,gO n (by lia) (aO r) hR h,g7 _ _,?_⟩
     refine Was.cons (We.v rfl (Was.nil (WF.box es ?_ rfl rfl rfl rfl)))
     exact WA.new (kN _ (.inr rfl)) (by first | (dsimp only [List.set];first | done | rfl) | rfl)
   refine Ws.seq (search fun c5' h5'=>?_)
   refine Ws.If (Wt.V (We.e2 (We.v rfl (We.w rfl (Wg2.din (Wb.mk ?_) rfl rfl)))))
   rw [kj]
   refine Wif.dec (fun hb=>?_) fun hb=>?_
   ·obtain ⟨w,t1,t2⟩:∃ w,(b,w)∈s∧bO (sk s) (sv s) b=some (cQ w):=by
     rcases qI s b with h | h
     ·exact h
     ·exact absurd hb h.1
    obtain ⟨⟨w1,w2⟩,_⟩:=F.way _ t1
    dsimp only at w1 w2
    have w1':Way (mF r (hdF h)) a w b:=w1.mono fun _ _ z=>mL.mp z
    have wms:=vv (fun p s (z:mF r (hdF h) p s)=>z.1) w1'
    have el:=oK r hl h hok w wms
    refine Ws.seq (Ws.E (We.Fm (Was.cons (We.e2 (We.w rfl (We.v rfl (Wg2.dx t2 (Was.nil (WFm.any el ?_ rfl rfl rfl)) rfl rfl))))) rfl))
    refine Ws.A (We.e2 (We.v rfl (We.c (Wg2.add (WA.val ?_ (by first | (dsimp only [List.set];first | done | rfl) | rfl)) rfl rfl)))) (by decide)
    have fl2:=fl.more nd w1' w2
    rw [← pR] at fl2
    refine ⟨(most-(cnt+1:Nat)).toNat+1,by rw [hk];simp;lia,c5',cg h w,none,cnt+1,.ow (.dct (sk s) (sv s)),?_,h5',hok.BL wms,fl2,by lia,by simp,by simp⟩
    have:((cnt:Int)+1)=((cnt+1:Nat):Int):=by lia
    rw [this]
   ·refine Ws.A (We.B (Was.cons (We.B (Was.cons (We.w rfl (Was.nil (WB.Mw (ks:=sk s) (vs:=sv s) ?_ rfl (by simp only [sk,List.length_map];lia)))))))) (by decide)
    refine Was.nil (WB.tuple ?_ rfl)
    refine WA.val ?_ (by first | (dsimp only [List.set];first | done | rfl) | rfl)
    have pm:=ff ltI (sk s)
    have hS:∀ x,x∈fF ltI (sk s)↔x∈sk s:=fun x=>pm.mem_iff
    refine ⟨(most-cnt).toNat,by rw [hk];simp,c5',h,some (fF ltI (sk s)),cnt,.ow (.dct (sk s) (sv s)),rfl,h5',hok,fl,hle,fun S z=>?_,by simp⟩
    cases z
    refine ⟨⟨BN F.nd,fun x hx=>F.pl x ((hS x).mp hx),(hS a).mpr F.st,fun z=>hb ((hS b).mp z)⟩,?_,hlt⟩
    have:=fl.cut (S:=fun y=>decide (y∈fF ltI (sk s))) (decide_eq_true ((hS a).mpr F.st)) (decide_eq_false fun z=>hb ((hS b).mp z)) fun y u hy hu=>decide_eq_true ((hS _).mpr (hd y ((hS y).mp (of_decide_eq_true hy)) u (mL.mpr hu)))
    unfold cL
    rw [List.length_map]
    exact this
 ·refine Wif.no rfl ?_
  exact fin (.inr hge)
theorem dw (x n:Int) (h:1≤n):0≤x % n∧x % n<n:=⟨Int.emod_nonneg x (by lia),Int.emod_lt_of_pos x (by lia)⟩
noncomputable def at' (ns:List Int) (i:Int):Int:=ns.getD i.toNat 0
theorem JM (ns:List Int) (i:Int) (h0:0≤i) (h1:i<ns.length):gIx (.lst (ns.map Dat.int)) (.int i)=some (.val (.int (at' ns i))):=by
 show (atI (ns.map Dat.int) i).map RV.val=_
 rw [Dm.gu Dat.int ns i h0 h1]
 unfold at'
 rw [List.getD_eq_getElem?_getD,List.getElem?_eq_getElem (by lia)]
 rfl
theorem Mz {ns:List Int} {i:Int} {o p:Option Dat} {K:RV→Prop} (h0:0≤i) (h1:i<ns.length) (k:K (.val (.int (at' ns i)))) (ho:o=some (.lst (ns.map Dat.int))) (hp:p=some (.int i)):Wg2 gIx o p K:=⟨_,_,_,ho,hp,JM ns i h0 h1,k⟩
noncomputable def aA (x:Int):Dat:=.lst [.int x]
theorem EV (ns:List Int) (k:Int) (h0:0≤k):∃ x,sj [.lst (ns.map Dat.int),.int k]=some (.val (.int x)):=by
 suffices h:Wr (sj [.lst (ns.map Dat.int),.int k]) fun v=>∃ x,v=.val (.int x) by
  obtain ⟨v,h1,c,rfl⟩:=h
  exact ⟨c,h1⟩
 unfold sj
 (refine Dm.Wr.fn ?_ rfl rfl;dsimp only [List.map,List.replicate,List.cons_append,List.nil_append])
 repeat array_get_dec
 refine ⟨fun h=>?_,fun h=>?_⟩
 ·have h:=of_decide_eq_true h
  repeat array_get_dec
  refine Mz h0 (by simpa using h) ?_ rfl rfl
  exact ⟨_,rfl⟩
 ·repeat array_get_dec
  exact ⟨_,rfl⟩
theorem xT (ns:List Int) (k:Int) (h0:0≤k) (h1:k<1000):∃ x,pQ [.lst (ns.map Dat.int),.int k]=some (.new (aA x)):=by
 suffices h:Wr (pQ [.lst (ns.map Dat.int),.int k]) fun v=>∃ x,v=.new (aA x) by
  obtain ⟨v,h1,c,rfl⟩:=h
  exact ⟨c,h1⟩
 obtain ⟨c,ec⟩:=EV ns k h0
 unfold pQ
 (refine Dm.Wr.fn ?_ rfl rfl;dsimp only [List.map,List.replicate,List.cons_append,List.nil_append])
 refine Ws.seq (Ws.A (We.F (Was.cons (We.v rfl (Was.cons (We.v rfl (Was.nil (WF.val ec ?_ rfl rfl))))))) (by decide))
 refine WA.val ?_ (by first | (dsimp only [List.set];first | done | rfl) | rfl)
 refine Ws.seq (Ws.If (Wt.V (We.e2 (We.v rfl (We.e2 (We.c (We.c (Wg2.pow (z:=1000000000000000000) ?_ rfl rfl (by decide) (by decide)))))))))
 refine Wg2.ge (Wb.mk ?_) rfl rfl
 refine ⟨fun h=>?_,fun h=>?_⟩
 ·repeat array_get_dec
  exact ⟨_,rfl⟩
 ·refine Ws.nx ?_
  refine Ws.seq (Ws.A (We.c (WA.val ?_ (by first | (dsimp only [List.set];first | done | rfl) | rfl))) (by decide))
  refine Ws.seq (Ws.For (Wi.R1 (We.c (cz.mk ⟨?_,by decide,by decide⟩))))
  refine Ws.inv (fun i:Nat=>Dat.int (0+(i:Nat))) _ _ (List.range 48) _ _ _ _ _ (fun p q ρ=>∃ (x:Int) (c4 c5:Cell),ρ=[.sh (.lst (ns.map Dat.int)),.sh (.int k),.sh (.int c),.sh (.int x),c4,c5]) ⟨_,_,_,rfl⟩ ?_ ?_
  ·rintro p i q ρ e ⟨x,c4,c5,rfl⟩
   have hi:i<48:=List.mem_range.mp (by rw [e];simp)
   refine Dm.b5 rfl (by first | (dsimp only [List.set];first | done | rfl) | rfl) ?_
   unfold BA
   refine Ws.cut (fun ρ=>∃ y:Int,(0≤y∧y<2147483647)∧ρ=[.sh (.lst (ns.map Dat.int)),.sh (.int k),.sh (.int c),.sh (.int x),.sh (.int (0+(i:Nat))),.sh (.int y)]) ?_ ?_
   ·repeat array_get_dec
    ·exact ⟨_,dw _ _ (by decide),rfl⟩
    all_goals unfold B64
    all_goals lia
   rintro ρ ⟨y,hy,rfl⟩
   refine Ws.cut (fun ρ=>∃ y:Int,(0≤y∧y<2147483647)∧ρ=[.sh (.lst (ns.map Dat.int)),.sh (.int k),.sh (.int c),.sh (.int x),.sh (.int (0+(i:Nat))),.sh (.int y)]) ?_ ?_
   ·repeat array_get_dec
    ·exact ⟨_,by have:=dw (y*y) 1000000007 (by decide);lia,rfl⟩
    ·exact .inl (by unfold B64;lia)
   rintro ρ ⟨z,hz,rfl⟩
   refine Ws.cut (fun ρ=>∃ y:Int,(0≤y∧y<2147483647)∧ρ=[.sh (.lst (ns.map Dat.int)),.sh (.int k),.sh (.int c),.sh (.int x),.sh (.int (0+(i:Nat))),.sh (.int y)]) ?_ ?_
   ·repeat array_get_dec
    ·exact ⟨_,by have:=dw ((z+7919*(0+((i:Nat):Int)))*69621) 2147483587 (by decide);lia,rfl⟩
   rintro ρ ⟨u,hu,rfl⟩
   repeat array_get_dec
   exact ⟨_,_,_,rfl⟩
  ·rintro ρ ⟨x,c4,c5,rfl⟩
   repeat array_get_dec
   exact ⟨_,rfl⟩
theorem EW (x m:Int) (h0:0<m) (h1:m<dR):br [aA x,.int m]=some (.val (.int (x % m)),aA (x / m)):=by
 suffices h:WrM (br [aA x,.int m]) fun v d=>v=.val (.int (x % m))∧d=aA (x / m) by
  obtain ⟨v,d,h1,rfl,rfl⟩:=h
  exact h1
 unfold br
 refine WrM.fn ?_ rfl rfl
 dsimp only [List.map,List.replicate,List.cons_append,List.nil_append]
 unfold aA
 repeat array_get_dec
 ·refine Ws.Set ?_
  repeat array_get_dec
  ·refine ⟨_,0,_,rfl,rfl,rfl,?_⟩
   repeat array_get_dec
   exact ⟨_,rfl,rfl,rfl⟩
  ·exact ⟨h0,h1⟩
 ·exact h0
noncomputable def Wtk (j:Nat) (m:Int) (ρ1:Env) (Q:Val→Env→Prop):Prop:=∃ x ρ3,Q (.val (.int (x % m))) ρ3∧ρ1[j]?=some (.ow (aA x))∧ρ1.set j (.ow (aA (x / m)))=ρ3∧0<m∧m<dR
theorem kZ {j:Nat} {x m:Int} {ρ1 ρ3:Env} {Q:Val→Env→Prop} (q:Q (.val (.int (x % m))) ρ3) (h2:ρ1[j]?=some (.ow (aA x))) (hn:ρ1.set j (.ow (aA (x / m)))=ρ3) (h0:0<m) (h1:m<dR):Wtk j m ρ1 Q:=⟨_,_,q,h2,hn,h0,h1⟩
theorem We.take {j:Nat} {a:FE} {ρ:Env} {d0:Dat} {Q:Val→Env→Prop} (h:We a ρ fun v ρ1=>cz v fun m=>Wtk j m ρ1 Q) (h0:ρ[j]?=some (.ow d0)):We (eFm br j [a]) ρ Q:=by
 refine We.Fm (Was.cons ?_) h0
 obtain ⟨v,ρ1,e1,m,rfl,x,ρ3,q,e2,e3,m0,m1⟩:=h
 exact ⟨_,_,e1,Was.nil (WFm.any (EW x m m0 m1) q e2 rfl e3)⟩
theorem We.drw {j:Nat} {a:FE} {ρ:Env} {x m:Int} {Q:Val→Env→Prop} (ha:a ρ=some (.val (.int m),ρ)) (h0:0<m) (h1:m<dR) (hj:ρ[j]?=some (.ow (aA x))) (k:∀ t x':Int,0≤t→t<m→∀ ρ3,ρ.set j (.ow (aA x'))=ρ3→Q (.val (.int t)) ρ3):We (eFm br j [a]) ρ Q:=
 We.take ⟨_,_,ha,m,rfl,kZ (k _ _ (dw x m (by lia)).1 (dw x m (by lia)).2 _ rfl) hj rfl h0 h1⟩ hj
noncomputable def Good (n:Int):Int→List Tie→Prop
 | _,[]=>True
 | lo,t::r=>lo≤t.m∧0≤t.a∧t.a≤t.b∧t.b<n∧Good n (t.m+1) r
theorem Good.pl {n:Nat}:∀ {r:List Tie} {lo:Int},Good n lo r→Pl n r
 | [],_,_,t,ht=>by cases ht
 | u::r,lo,h,t,ht=>by
  obtain ⟨h1,h2,h3,h4,h5⟩:=h
  rcases List.mem_cons.mp ht with rfl | ht
  ·lia
  ·exact Good.pl h5 t ht
theorem Good.lo {n:Int}:∀ {r:List Tie} {lo:Int},Good n lo r→∀ t∈r,lo≤t.m
 | [],_,_,t,ht=>by cases ht
 | u::r,lo,h,t,ht=>by
  obtain ⟨h1,h2,h3,h4,h5⟩:=h
  rcases List.mem_cons.mp ht with rfl | ht
  ·exact h1
  ·have:=Good.lo h5 t ht;lia
theorem Good.nd {n:Int}:∀ {r:List Tie} {lo:Int},Good n lo r→(r.map (·.m)).Nodup
 | [],_,_=>by simp
 | u::r,lo,h=>by
  obtain ⟨h1,h2,h3,h4,h5⟩:=h
  rw [List.map_cons,List.nodup_cons]
  refine ⟨fun z=>?_,Good.nd h5⟩
  obtain ⟨t,ht,e⟩:=List.mem_map.mp z
  have:=Good.lo h5 t ht
  lia
theorem Good.weak {n:Int}:∀ {r:List Tie} {lo lo':Int},lo'≤lo→Good n lo r→Good n lo' r
 | [],_,_,_,_=>trivial
 | _::_,_,_,h,k=>⟨by have:=k.1;lia,k.2⟩
theorem Good.filter {n:Int} (p:Tie→Bool):∀ {r:List Tie} {lo:Int},Good n lo r→Good n lo (r.filter p)
 | [],_,_=>trivial
 | u::r,lo,h=>by
  obtain ⟨h1,h2,h3,h4,h5⟩:=h
  by_cases q:p u=true
  ·rw [List.filter_cons_of_pos q];exact ⟨h1,h2,h3,h4,Good.filter p h5⟩
  ·rw [List.filter_cons_of_neg q];exact Good.weak (by lia) (Good.filter p h5)
theorem Good.snoc {n:Int}:∀ {r:List Tie} {lo hi:Int} {t:Tie},Good n lo r→(∀ u∈r,u.m<hi)→lo≤hi→hi=t.m→0≤t.a→t.a≤t.b→t.b<n→Good n lo (r++[t])
 | [],_,_,_,_,_,h,e,h1,h2,h3=>⟨by lia,h1,h2,h3,trivial⟩
 | u::r,lo,hi,t,h,hu,hl,e,h1,h2,h3=>by
  obtain ⟨k1,k2,k3,k4,k5⟩:=h
  exact ⟨k1,k2,k3,k4,Good.snoc k5 (fun v hv=>hu v (List.mem_cons_of_mem _ hv)) (by have:=hu u List.mem_cons_self;lia) e h1 h2 h3⟩
theorem Good.pl' {n:Int}:∀ {r:List Tie} {lo:Int},Good n lo r→∀ t∈r,0≤t.a∧t.a<n∧0≤t.b∧t.b<n
 | [],_,_,t,ht=>by cases ht
 | u::r,lo,h,t,ht=>by
  obtain ⟨h1,h2,h3,h4,h5⟩:=h
  rcases List.mem_cons.mp ht with rfl | ht
  ·lia
  ·exact Good.pl' h5 t ht
theorem ix3 (a b c:Int) (x:Int) (h0:0≤x) (h:x<3):gIx (.lst [.int a,.int b,.int c]) (.int x)=some (.val (.int (if x=0 then a else if x=1 then b else c))):=by
 have:x=0∨x=1∨x=2:=by lia
 rcases this with rfl | rfl | rfl<;>rfl
theorem BP (r:List Tie) (i:Int) (h0:0≤i) (h1:i<r.length):gIx (ak r) (.int i)=some (.val (aK (r[i.toNat]'(by omega)))):=by
 unfold ak gIx
 dsimp only
 rw [gu aK r i h0 h1]
 rfl
noncomputable abbrev Z28:Int:=10000000000000000000000000000
noncomputable abbrev Z30:Int:=1000000000000000000000000000000
noncomputable def RE (pool:Int) (n most many wide JN:Int) (r:List Tie) (c7 c8 c9:Cell):Env:=
 [.ow (aA pool),.sh (.int n),.sh (.int most),.sh (.int many),.sh (.int wide),.sh (.int JN),.ow (ak r),c7,c8,c9]
theorem EX (a b:Int):(if b<a then b else a)≤(if b>a then b else a):=by split<;>split<;>lia
theorem zv (x n most:Int) (n1:1≤n) (n10:n≤10) (m0:0≤most) (m60:most≤60) :
  ∃ (r:List Tie) (x':Int),sq [aA x,.int n,.int most]=some (.new (ak r),aA x')∧Good n 0 r∧(r.length:Int)≤most∧∀ t∈r,t.m≤Z30:=by
 suffices hh:WrM (sq [aA x,.int n,.int most]) fun v d=>∃ (r:List Tie) (x':Int),v=.new (ak r)∧d=aA x'∧Good n 0 r∧(r.length:Int)≤most∧∀ t∈r,t.m≤Z30 by
  obtain ⟨v,d,h1,h,x',rfl,rfl,h2⟩:=hh
  exact ⟨h,x',h1,h2⟩
 unfold sq
 refine WrM.fn ?_ rfl rfl
 dsimp only [List.map,List.replicate,List.cons_append,List.nil_append]
 refine Ws.seq (Ws.A ?_ (by decide))
 refine We.drw (m:=most+1) rfl (by lia) (by unfold dR;lia) rfl fun many x1 h1 h2 ρ3 e=>?_
 subst e
 refine WA.val ?_ (by first | (dsimp only [List.set];first | done | rfl) | rfl)
 refine Ws.seq (Ws.A ?_ (by decide))
 refine We.drw (m:=3) rfl (by decide) (by decide) rfl fun wide x2 k1 k2 ρ3 e=>?_
 subst e
 refine WA.val ?_ (by first | (dsimp only [List.set];first | done | rfl) | rfl)
 refine Ws.seq (Ws.A ?_ (by decide))
 refine We.drw (m:=4) rfl (by decide) (by decide) rfl fun mo x3 w1 w2 ρ3 e=>?_
 subst e
 refine WA.val ?_ (by first | (dsimp only [List.set];first | done | rfl) | rfl)
 refine Ws.seq (Ws.A (We.L (Was.nil (WT.mk ?_ rfl rfl (by decide)))) (by decide))
 refine WA.new ?_ (by first | (dsimp only [List.set];first | done | rfl) | rfl)
 refine Ws.seq (Ws.For (Wi.R1 (We.v rfl (cz.mk ⟨?_,by unfold BIG;lia⟩))))
 refine Ws.inv (fun i:Nat=>Dat.int (0+(i:Nat))) _ _ (List.range many.toNat) _ _ _ _ _ (fun p q ρ=>∃ (x mo:Int) (r:List Tie) (c7 c8 c9:Cell),ρ=RE x n most many wide mo r c7 c8 c9∧p=List.range p.length∧Good n 0 r∧r.length=p.length∧(∀ u∈r,u.m<mo)∧0≤mo∧mo≤4+(p.length:Int)*Z28)
  ⟨_,_,[],_,_,_,rfl,rfl,trivial,rfl,(fun u hu=>by cases hu),w1,by show mo≤4+((0:Nat):Int)*Z28;lia⟩ ?_ ?_
 ·rintro p i q ρ e ⟨x,mo,r,c7,c8,c9,rfl,hpp,hg,hl,hu,hm,hb⟩
  have lp:(List.range many.toNat).length=p.length+(q.length+1):=by rw [e];simp
  rw [List.length_range] at lp
  have hi:i=p.length:=by
   have h1:(List.range many.toNat)[p.length]?=some i:=by rw [e];simp
   rw [List.getElem?_range (by lia)] at h1
   exact (Option.some.inj h1).symm
  unfold RE
  refine Dm.b5 rfl (by first | (dsimp only [List.set];first | done | rfl) | rfl) ?_
  unfold BB
  refine Ws.seq (Ws.A ?_ (by decide))
  refine We.drw (m:=n) rfl (by lia) (by unfold dR;lia) rfl fun one y1 o1 o2 ρ3 e1=>?_
  subst e1
  refine WA.val ?_ (by first | (dsimp only [List.set];first | done | rfl) | rfl)
  refine Ws.seq (Ws.A ?_ (by decide))
  refine We.drw (m:=n) rfl (by lia) (by unfold dR;lia) rfl fun oth y2 u1 u2 ρ3 e1=>?_
  subst e1
  refine WA.val ?_ (by first | (dsimp only [List.set];first | done | rfl) | rfl)
  refine Ws.cut (fun ρ=>∃ o:Int,(0≤o∧o<n)∧ρ=RE y2 n most many wide mo r (.sh (.int (0+(i:Nat)))) (.sh (.int one)) (.sh (.int o))) ?_ ?_
  ·refine Ws.If (Wt.And (Wt.V (We.e2 (We.v rfl (We.c (Wg2.gt (Wb.mk ?_) rfl rfl))))))
   refine Wif.dec (fun _=>?_) fun _=>?_
   ·refine Wt.V (We.e2 (We.v rfl (We.v rfl (Wg2.eq (Wb.mk ?_) rfl rfl))))
    refine Wif.dec (fun _=>?_) fun _=>?_
    ·refine Ws.A (We.e2 (We.e2 (We.v rfl (We.c (Wg2.add (We.v rfl (Wg2.mod ?_ rfl rfl (by lia))) rfl rfl))))) (by decide)
     exact WA.val ⟨_,dw _ n n1,rfl⟩ (by first | (dsimp only [List.set];first | done | rfl) | rfl)
    ·exact Ws.nx ⟨oth,⟨u1,u2⟩,rfl⟩
   ·exact Wif.no rfl (Ws.nx ⟨oth,⟨u1,u2⟩,rfl⟩)
  rintro ρ ⟨o,⟨q1,q2⟩,rfl⟩
  refine Ws.cut (fun ρ=>∃ y v o:Int,(0≤v∧v<n)∧(0≤o∧o<n)∧ρ=RE y n most many wide mo r (.sh (.int (0+(i:Nat)))) (.sh (.int v)) (.sh (.int o))) ?_ ?_
  ·unfold RE
   refine Ws.If (Wt.And (Wt.V (We.e2 (We.v rfl (We.c (Wg2.gt (Wb.mk ?_) rfl rfl))))))
   refine Wif.dec (fun hk=>?_) fun _=>?_
   ·refine Wt.V (We.e2 ?_)
    refine We.drw (m:=4) rfl (by decide) (by decide) rfl fun t y3 t1 t2 ρ3 e1=>?_
    subst e1
    refine We.c (Wg2.eq (Wb.mk ?_) rfl rfl)
    refine Wif.dec (fun _=>?_) fun _=>?_
    ·have hj:(0:Int)≤0+((i:Nat):Int)-1:=by lia
     have hj2:0+((i:Nat):Int)-1<r.length:=by rw [hl];lia
     have pt:=hg.pl' (r[(0+((i:Nat):Int)-1).toNat]'(by lia)) (List.getElem_mem _)
     refine Ws.seq (Ws.A (We.e2 (We.e2 (We.w rfl (We.e2 (We.v rfl (We.c (Wg2.sub ?_ rfl rfl))))))) (by decide))
     refine Wg2.ix ?_ rfl rfl (BP r _ hj hj2)
     refine We.c (Wg2.ix ?_ rfl rfl rfl)
     refine WA.val ?_ (by first | (dsimp only [List.set];first | done | rfl) | rfl)
     refine Ws.A (We.e2 (We.e2 (We.w rfl (We.e2 (We.v rfl (We.c (Wg2.sub ?_ rfl rfl))))))) (by decide)
     refine Wg2.ix ?_ rfl rfl (BP r _ hj hj2)
     refine We.c (Wg2.ix ?_ rfl rfl rfl)
     exact WA.val ⟨_,_,_,⟨pt.1,pt.2.1⟩,⟨pt.2.2.1,pt.2.2.2⟩,rfl⟩ (by first | (dsimp only [List.set];first | done | rfl) | rfl)
    ·exact Ws.nx ⟨_,_,_,⟨o1,o2⟩,⟨q1,q2⟩,rfl⟩
   ·exact Wif.no rfl (Ws.nx ⟨_,_,_,⟨o1,o2⟩,⟨q1,q2⟩,rfl⟩)
  rintro ρ ⟨y4,v,o,⟨v1,v2⟩,⟨q1,q2⟩,rfl⟩
  unfold RE
  refine Ws.seq (Ws.App (We.T (Was.cons (We.v rfl (Was.cons (We.B (Was.cons (We.v rfl (Was.cons (We.v rfl (Was.nil (WB.min2 ?_ rfl))))))))))) rfl)
  refine Was.cons (We.B (Was.cons (We.v rfl (Was.cons (We.v rfl (Was.nil (WB.max2 ?_ rfl)))))))
  refine Was.nil (WT.mk ?_ rfl rfl (by exact Nat.le_of_ble_eq_true rfl))
  refine Wk.val (mD ?_ rfl (by first | (dsimp only [List.set];first | done | rfl) | rfl) (by rw [List.length_map];unfold SZ;lia))
  refine Ws.A (We.e2 (We.e2 (We.v rfl (We.c (Wg2.add ?_ rfl rfl))))) (by decide)
  have w1':(0:Int)<(if wide=0 then 1 else if wide=1 then 3 else 1000)∧(if wide=0 then 1 else if wide=1 then 3 else 1000:Int)≤1000:=by split;decide;split<;>decide
  refine We.e2 ?_
  refine We.take (We.e2 (We.L (Was.cons (We.c (Was.cons (We.c (Was.cons (We.c (Was.nil (WT.mk ?_ rfl rfl (by exact Nat.le_of_ble_eq_true rfl))))))))))) rfl
  refine We.v rfl (Wg2.ix ?_ rfl rfl (ix3 1 3 1000 wide k1 k2))
  refine cz.mk (kZ ?_ rfl rfl w1'.1 (by unfold dR;lia))
  have hm0:=dw y4 (if wide=0 then 1 else if wide=1 then 3 else 1000) (by lia)
  refine We.e2 (We.L (Was.cons (We.c (Was.cons (We.c (Was.cons (We.e2 (We.c (We.c (Wg2.pow (z:=10000000000000000000000000) ?_ rfl rfl (by decide) (by decide)))))))))))
  refine Was.nil (WT.mk ?_ rfl rfl (by exact Nat.le_of_ble_eq_true rfl))
  refine We.v rfl (Wg2.ix ?_ rfl rfl (ix3 1 1 10000000000000000000000000 wide k1 k2))
  refine Wg2.mul ?_ rfl rfl (.inl (by unfold B64;lia))
  refine Wg2.add ?_ rfl rfl
  refine WA.val ?_ (by first | (dsimp only [List.set];first | done | rfl) | rfl)
  generalize hf:(if wide=0 then 1 else if wide=1 then 1 else 10000000000000000000000000:Int)=f
  have hf0:0≤f∧f≤10000000000000000000000000:=by rw [← hf];split;decide;split<;>decide
  generalize (y4 % if wide=0 then 1 else if wide=1 then 3 else 1000:Int)=t at hm0 ⊢
  have tn:=Int.mul_nonneg hm0.1 hf0.1
  have t9:t≤999:=by lia
  have tm:t*f≤999*10000000000000000000000000:=Int.mul_le_mul t9 hf0.2 hf0.1 (by decide)
  refine ⟨y4 / (if wide=0 then 1 else if wide=1 then 3 else 1000),mo+1+t*f,r++[⟨mo,(if o<v then o else v),(if o>v then o else v)⟩],.sh (.int (0+(i:Nat))),.sh (.int v),.sh (.int o),?_,?_,?_,by simp [hl],?_,by lia,?_⟩
  ·unfold ak
   rw [List.map_append]
   rfl
  ·rw [List.length_append,List.length_singleton,List.range_succ,← hpp,hi]
  ·refine Good.snoc (hi:=mo) hg hu hm rfl ?_ (EX v o) ?_
   ·show 0≤(if o<v then o else v);split<;>lia
   ·show (if o>v then o else v)<n;split<;>lia
  ·intro u hu'
   rcases List.mem_append.mp hu' with h | h
   ·have:=hu u h;lia
   ·rw [List.mem_singleton.mp h];show mo<_;lia
  ·rw [List.length_append,List.length_singleton]
   have:((p.length+1:Nat):Int)*Z28=(p.length:Int)*Z28+Z28:=by unfold Z28;lia
   rw [this]
   unfold Z28 at *
   lia
 ·rintro ρ ⟨x,mo,r,c7,c8,c9,rfl,hpp,hg,hl,hu,hm,hb⟩
  unfold RE
  refine Ws.R (We.w rfl (WR.slot ?_ rfl))
  rw [List.length_range] at hl hb
  refine ⟨_,rfl,r,x,rfl,rfl,hg,by lia,fun t ht=>?_⟩
  have:=hu t ht
  unfold Z28 at hb
  unfold Z30
  lia
noncomputable def bE (r:List Tie) (S:Int→Bool):Nat:=(r.filter (over S)).length
theorem xU {r:List Tie} (S:Int→Bool):∀ {w:List Step} {x y:Int},Way (fG r) x w y→S x=true→S y=false→∃ s∈w,s.1∈(r.filter (over S)).map (·.m)
 | [],x,y,h,h1,h2=>by
  cases h
  rw [h1] at h2;cases h2
 | s::w,x,y,h,h1,h2=>by
  cases hs:S s.2 with
  | true=>
   obtain ⟨u,hu,k⟩:=xU S h.2 hs h2
   exact ⟨u,List.mem_cons_of_mem _ hu,k⟩
  | false=>
   obtain ⟨t,ht,hm,_,he⟩:=h.1
   refine ⟨s,List.mem_cons_self,List.mem_map.mpr ⟨t,List.mem_filter.mpr ⟨ht,?_⟩,hm⟩⟩
   unfold over
   rcases he with ⟨e1,e2⟩ | ⟨e1,e2⟩
   ·rw [e1,e2,h1,hs];rfl
   ·rw [e1,e2,h1,hs];rfl
theorem picks {r:List Tie} {a b:Int} (S:Int→Bool) (ha:S a=true) (hb:S b=false):∀ (ws:List (List Step)),(∀ w∈ws,Way (fG r) a w b)→(ws.map mso).flatten.Nodup →
  ∃ ps:List Int,ps.length=ws.length∧ps.Nodup∧∀ m∈ps,m∈(ws.map mso).flatten∧m∈(r.filter (over S)).map (·.m)
 | [],_,_=>⟨[],rfl,by simp,by simp⟩
 | w::ws,h,nd=>by
  rw [List.map_cons,List.flatten_cons] at nd
  obtain ⟨n1,n2,n3⟩:=List.nodup_append.mp nd
  obtain ⟨ps,p1,p2,p3⟩:=picks S ha hb ws (fun v hv=>h v (List.mem_cons_of_mem _ hv)) n2
  obtain ⟨s,hs,k⟩:=xU S (h w List.mem_cons_self) ha hb
  have hsm:s.1∈mso w:=List.mem_map.mpr ⟨s,hs,rfl⟩
  refine ⟨s.1::ps,by simp [p1],List.nodup_cons.mpr ⟨fun z=>n3 _ hsm _ (p3 _ z).1 rfl,p2⟩,fun m hm=>?_⟩
  rw [List.map_cons,List.flatten_cons]
  rcases List.mem_cons.mp hm with rfl | hm
  ·exact ⟨List.mem_append_left _ hsm,k⟩
  ·exact ⟨List.mem_append_right _ (p3 m hm).1,(p3 m hm).2⟩
theorem MA {r:List Tie} {a b:Int} {ws:List (List Step)} (W:qK r a b ws) {S:Int→Bool} (ha:S a=true) (hb:S b=false):ws.length≤bE r S:=by
 obtain ⟨ps,p1,p2,p3⟩:=picks S ha hb ws (fun w hw=>(W.way w hw).way) W.nd
 have:=eU ps _ p2 fun m hm=>(p3 m hm).2
 rw [List.length_map] at this
 unfold bE
 lia
theorem zw (r:List Tie) (S:Int→Bool):bE r (fun x=>!S x)=bE r S:=by
 unfold bE
 congr 1
 apply List.filter_congr
 intro t _
 unfold over
 dsimp only
 cases S t.a<;>cases S t.b<;>rfl
theorem zx {r:List Tie} (p:Tie→Bool) (S:Int→Bool):bE (r.filter p) S≤bE r S:=by
 unfold bE
 rw [List.filter_filter]
 have:(r.filter fun t=>over S t&&p t)=(r.filter (over S)).filter p:=by
  rw [List.filter_filter]
  apply List.filter_congr
  intro t _
  cases over S t<;>cases p t<;>rfl
 rw [this]
 exact List.length_filter_le _ _
theorem qL {x y:Tie} (h:x.m=y.m∧x.a=y.a∧x.b=y.b):x=y:=by
 cases x;cases y;obtain ⟨h1,h2,h3⟩:=h;dsimp only at h1 h2 h3;rw [h1,h2,h3]
instance Og:DecidableEq Tie:=fun x y=>decidable_of_iff (x.m=y.m∧x.a=y.a∧x.b=y.b) ⟨qL,fun h=>by rw [h];exact ⟨rfl,rfl,rfl⟩⟩
noncomputable def outF (r:List Tie) (t:Tie):List Tie:=r.filter fun u=>decide (u≠t)
structure Kept (r:List Tie) (k:Nat) (p K:List Tie):Prop where
 sub:K.Sublist r
 low:∀ S:Int→Bool,min k (bE r S)≤bE K S
 cut:∀ t∈p,t∈K→∃ S:Int→Bool,S t.a=true∧S t.b=false∧bE (outF K t) S<k
theorem Kept.start (r:List Tie) (k:Nat):Kept r k [] r:=⟨List.Sublist.refl _,fun S=>Nat.min_le_right _ _,fun t ht=>by cases ht⟩
theorem mO {K:List Tie} {t:Tie} {S:Int→Bool} (h:over S t=false):bE (outF K t) S=bE K S:=by
 unfold bE outF
 rw [List.filter_filter]
 congr 1
 apply List.filter_congr
 intro u _
 by_cases e:u=t
 ·subst e;simp [h]
 ·simp [e]
theorem oM {K:List Tie} (nd:K.Nodup) (t:Tie) (S:Int→Bool):bE K S≤bE (outF K t) S+1:=by
 induction K with
 | nil=>simp [bE]
 | cons u K ih=>
  obtain ⟨n1,n2⟩:=List.nodup_cons.mp nd
  have ih:=ih n2
  by_cases e:u=t
  ·subst e
   have:outF (u::K) u=K:=by
    unfold outF
    rw [List.filter_cons_of_neg (by simp),List.filter_eq_self]
    intro v hv
    simp
    rintro rfl
    exact n1 hv
   rw [this]
   unfold bE
   rw [List.filter_cons]
   split<;>simp
  ·have:outF (u::K) t=u::outF K t:=by
    unfold outF
    rw [List.filter_cons_of_pos (by simp [e])]
   rw [this]
   unfold bE at ih ⊢
   rw [List.filter_cons,List.filter_cons]
   split<;>simp<;>lia
theorem Kept.drop {r:List Tie} {k:Nat} {p K:List Tie} (h:Kept r k p K) (t:Tie) (hh:t.a=t.b∨∀ S:Int→Bool,S t.a=true→S t.b=false→k≤bE (outF K t) S):Kept r k (p++[t]) (outF K t):=by
 refine ⟨List.Sublist.trans List.filter_sublist h.sub,fun S=>?_,fun u hu hK=>?_⟩
 ·cases ho:over S t with
  | false=>rw [mO ho];exact h.low S
  | true=>
   unfold over at ho
   rcases hh with hh | hh
   ·rw [hh] at ho;simp at ho
   ·cases ha:S t.a with
    | true=>
     have hb:S t.b=false:=by rw [ha] at ho;cases hb:S t.b<;>simp_all
     have:=hh S ha hb;lia
    | false=>
     have hb:S t.b=true:=by rw [ha] at ho;cases hb:S t.b<;>simp_all
     have:=hh (fun x=>!S x) (by simp [ha]) (by simp [hb])
     rw [zw] at this
     lia
 ·obtain ⟨k1,k2⟩:=List.mem_filter.mp hK
  have k2:=of_decide_eq_true k2
  rcases List.mem_append.mp hu with hu | hu
  ·obtain ⟨S,s1,s2,s3⟩:=h.cut u hu k1
   refine ⟨S,s1,s2,Nat.lt_of_le_of_lt ?_ s3⟩
   have:outF (outF K t) u=(outF K u).filter fun x=>decide (x≠t):=by
    unfold outF
    rw [List.filter_filter,List.filter_filter]
    apply List.filter_congr
    intro x _
    rw [Bool.and_comm]
   rw [this]
   exact zx _ S
  ·exact absurd (List.mem_singleton.mp hu) k2
theorem Kept.keep {r:List Tie} {k:Nat} {p K:List Tie} (h:Kept r k p K) (t:Tie) (hh:∃ S:Int→Bool,S t.a=true∧S t.b=false∧bE (outF K t) S<k):Kept r k (p++[t]) K:=
 ⟨h.sub,h.low,fun u hu hK=>by
  rcases List.mem_append.mp hu with hu | hu
  ·exact h.cut u hu hK
  ·rw [List.mem_singleton.mp hu];exact hh⟩
theorem vA (u t:Tie):eqD (aK u) (aK t)=decide (u=t):=by
 rw [Bool.eq_iff_iff,decide_eq_true_iff]
 unfold aK
 simp [eqD,dG]
 exact ⟨qL,fun h=>by rw [h];exact ⟨rfl,rfl,rfl⟩⟩
theorem JO (t:Tie) (K:List Tie):inD (aK t) (K.map aK)=decide (t∈K):=by
 induction K with
 | nil=>rfl
 | cons u K ih=>
  unfold inD at ih ⊢
  rw [List.map_cons,List.any_cons,ih]
  by_cases h:t=u
  ·subst h;simp [vA]
  ·have h':¬ u=t:=fun z=>h z.symm
   simp [vA,h,h']
theorem EY (K:List Tie):(K.map aK).all (okD 7)=true:=by
 rw [List.all_map]
 exact List.all_eq_true.mpr fun t _=>rfl
theorem Wg2.MB {u t:Tie} {o p:Option Dat} {Q:RV→Prop} (k:Q (.val (.bl (decide (u≠t))))) (ho:o=some (aK u)) (hp:p=some (aK t)):Wg2 gNe o p Q:=
 ⟨_,_,_,ho,hp,rfl,by rw [vA,← decide_not];exact k⟩
theorem Wg2.BQ {t:Tie} {K:List Tie} {o p:Option Dat} {Q:RV→Prop} (k:Q (.val (.bl (!decide (t∈K))))) (ho:o=some (aK t)) (hp:p=some (ak K)):Wg2 b8 o p Q:=
 ⟨_,_,_,ho,hp,by unfold ak b8;dsimp only;rw [EY,JO];rfl,k⟩
theorem mP (r:List Tie) (hl:r.length≤1000) (t:Tie):pM [ak r,aK t]=some (.new (ak (outF r t))):=by
 apply Wr.eq
 unfold pM
 (refine Dm.Wr.fn ?_ rfl rfl;dsimp only [List.map,List.replicate,List.cons_append,List.nil_append])
 refine Ws.R ?_
 refine We.oH aK r (fun u=>decide (u≠t)) id aK (d:=ak r) ?_ rfl rfl rfl (by decide) (by unfold SZ;lia) (fun u _=>?_) fun u _ _=>?_
 ·rw [List.map_id];rfl
 ·exact Wt.V (We.e2 (We.v rfl (We.v rfl (Wg2.MB (Wb.mk ⟨rfl,rfl⟩) rfl rfl))))
 ·exact We.v rfl (Wk.val ⟨rfl,rfl⟩)
structure Fit (n:Nat) (r:List Tie):Prop where
 n40:n≤40
 pl:Pl n r
 nd:(r.map (·.m)).Nodup
 len:r.length≤1000
theorem Fit.sub {n:Nat} {r K:List Tie} (h:Fit n r) (s:K.Sublist r):Fit n K:=⟨h.n40,fun t ht=>h.pl t (s.subset ht),h.nd.sublist (s.map _),Nat.le_trans s.length_le h.len⟩
theorem Fit.out {n:Nat} {r:List Tie} (h:Fit n r) (t:Tie):Fit n (outF r t):=h.sub List.filter_sublist
theorem Fit.nodup {n:Nat} {r:List Tie} (h:Fit n r):r.Nodup:=by
 have:=h.nd
 unfold List.Nodup at this ⊢
 rw [List.pairwise_map] at this
 exact this.imp fun h e=>h (by rw [e])
theorem oN {n:Nat} {r:List Tie} (h:Fit n r) {a b:Int} (a0:0≤a) (a1:a<n) (b0:0≤b) (b1:b<n) {k:Nat} (k6:k≤6) :
  ∃ c:Bool,EL [.int n,ak r,.int a,.int b,.int k]=some (.val (.bl c))∧(c=true→∀ S:Int→Bool,S a=true→S b=false→k≤bE r S)∧(c=false→∃ S:Int→Bool,S a=true∧S b=false∧bE r S<k):=by
 obtain ⟨ws,o,e,A⟩:=d_ n h.n40 r h.pl h.nd h.len a b a0 a1 b0 b1 k (by lia) (by lia)
 refine ⟨isN (jA o),?_,fun z S s1 s2=>?_,fun z=>?_⟩
 ·apply Wr.eq
  unfold EL
  (refine Dm.Wr.fn ?_ rfl rfl;dsimp only [List.map,List.replicate,List.cons_append,List.nil_append])
  refine Ws.R (We.e2 (We.e2 (We.F (Was.cons (We.v rfl (Was.cons (We.v rfl (Was.cons (We.v rfl (Was.cons (We.v rfl (Was.cons (We.v rfl (Was.nil (WF.box e ?_ rfl rfl rfl rfl)))))))))))))))
  refine We.c (Wg2.ix ?_ rfl rfl rfl)
  exact We.c (Wg2.isN rfl rfl rfl)
 ·cases o with
  | none=>
   have:=A.all rfl
   have:=MA A.ways s1 s2
   lia
  | some S=>cases z
 ·cases o with
  | none=>cases z
  | some S=>
   obtain ⟨⟨_,_,h1,h2⟩,h3,h4⟩:=A.side S rfl
   refine ⟨fun x=>decide (x∈S),decide_eq_true h1,decide_eq_false h2,?_⟩
   have:bE r (fun x=>decide (x∈S))=(cL r S).length:=by
    unfold cL
    rw [List.length_map]
    rfl
   lia
noncomputable def pS (r K:List Tie):RV:=if r=[] then .new (ak K) else .val (ak K)
theorem qM (aH aW:Nat) {n:Nat} {r:List Tie} (h:Fit n r) {k:Nat} (k6:k≤6) :
  ∃ K,se aH aW [.int n,ak r,.int k,.fn aH]=some (pS r K)∧Kept r k r K:=by
 suffices q:Wr (se aH aW [.int n,ak r,.int k,.fn aH]) fun v=>∃ K,v=pS r K∧Kept r k r K by
  obtain ⟨v,h1,K,rfl,h2⟩:=q
  exact ⟨K,h1,h2⟩
 unfold se
 (refine Dm.Wr.fn ?_ rfl rfl;dsimp only [List.map,List.replicate,List.cons_append,List.nil_append])
 refine Ws.seq (Ws.A (We.B (Was.cons (We.v rfl (Was.nil (WB.list (xs:=r.map aK) ?_ rfl))))) (by decide))
 refine WA.new ?_ (by first | (dsimp only [List.set];first | done | rfl) | rfl)
 refine Ws.seq (Ws.For (Wi.S (We.v rfl (Wk.val ⟨r.map aK,rfl,?_⟩))))
 refine Ws.inv aK _ _ r _ _ _ _ _ (fun p q ρ=>∃ (K:List Tie) (c4 c5 c6:Cell),ρ=[.sh (.int n),.sh (ak r),.sh (.int k),.sh (.fn aH),c4,c5,c6]∧Kept r k p K∧((p=[]∧c4=.ow (ak K))∨(p≠[]∧c4=.sh (ak K))))
  ⟨r,_,_,_,rfl,Kept.start r k,.inl ⟨rfl,rfl⟩⟩ ?_ ?_
 ·rintro p t q ρ e ⟨K,c4,c5,c6,rfl,hK,hc⟩
  have ht:t∈r:=by rw [e];simp
  have hp:=h.pl t ht
  have fK:=h.sub hK.sub
  refine Dm.b5 rfl (by first | (dsimp only [List.set];first | done | rfl) | rfl) ?_
  unfold By
  have ew:=mP K fK.len t
  have first:∀ {N:Env→Prop} {R:RV→Env→Prop} {B C:Env→Prop},N [.sh (.int n),.sh (ak r),.sh (.int k),.sh (.fn aH),.sh (ak K),.sh (aK t),.ow (ak (outF K t))] →
    Ws (sA 6 (eF pM [(eV 4),(eV 5)])) [.sh (.int n),.sh (ak r),.sh (.int k),.sh (.fn aH),c4,.sh (aK t),c6] N R B C:=fun kN=>by
   rcases hc with ⟨_,rfl⟩ | ⟨_,rfl⟩
   ·refine Ws.A (We.F (Was.cons (We.w rfl (Was.cons (We.v rfl (Was.nil (WF.box ew ?_ rfl rfl rfl rfl))))))) (by decide)
    exact WA.new kN (by first | (dsimp only [List.set];first | done | rfl) | rfl)
   ·refine Ws.A (We.F (Was.cons (We.v rfl (Was.cons (We.v rfl (Was.nil (WF.box ew ?_ rfl rfl rfl rfl))))))) (by decide)
    exact WA.new kN (by first | (dsimp only [List.set];first | done | rfl) | rfl)
  refine Ws.seq (first ?_)
  have gone:(t.a=t.b∨∀ S:Int→Bool,S t.a=true→S t.b=false→k≤bE (outF K t) S)→∀ {R:RV→Env→Prop} {B C:Env→Prop},
    Ws (sA 4 (eV 6)) [.sh (.int n),.sh (ak r),.sh (.int k),.sh (.fn aH),.sh (ak K),.sh (aK t),.ow (ak (outF K t))]
     (fun ρ=>∃ (K:List Tie) (c4 c5 c6:Cell),ρ=[.sh (.int n),.sh (ak r),.sh (.int k),.sh (.fn aH),c4,c5,c6]∧Kept r k (p++[t]) K∧((p++[t]=[]∧c4=.ow (ak K))∨(p++[t]≠[]∧c4=.sh (ak K)))) R B C:=fun hh=>by
   refine Ws.A (We.w rfl (WA.slot ?_ rfl (by first | (dsimp only [List.set];first | done | rfl) | rfl))) (by decide)
   exact ⟨outF K t,_,_,_,rfl,hK.drop t hh,.inr ⟨by simp,rfl⟩⟩
  refine Ws.If (Wt.Or (Wt.V (We.e2 (We.e2 (We.v rfl (We.c (Wg2.ix ?_ rfl rfl rfl)))))))
  refine We.e2 (We.v rfl (We.c (Wg2.ix ?_ rfl rfl rfl)))
  refine Wg2.eq (Wb.mk ?_) rfl rfl
  refine Wif.dec (fun hab=>?_) fun hab=>?_
  ·refine Wif.yes rfl ?_
   exact gone (.inl hab)
  ·obtain ⟨c,eh,h1,h2⟩:=oN (h.sub (List.Sublist.trans (List.filter_sublist (p:=fun u=>decide (u≠t))) hK.sub)) hp.1 hp.2.1 hp.2.2.1 hp.2.2.2 k6
   refine Wt.V (We.Fp rfl (We.F (Was.cons (We.v rfl (Was.cons (We.w rfl (Was.cons (We.e2 (We.v rfl (We.c (Wg2.ix ?_ rfl rfl rfl)))))))))))
   refine Was.cons (We.e2 (We.v rfl (We.c (Wg2.ix ?_ rfl rfl rfl))))
   refine Was.cons (We.v rfl (Was.nil (WF.val eh ?_ rfl rfl)))
   refine Wb.mk ?_
   cases c with
   | true=>exact Wif.yes rfl (gone (.inr (h1 rfl)))
   | false=>exact Wif.no rfl (Ws.nx ⟨K,_,_,_,rfl,hK.keep t (h2 rfl),.inr ⟨by simp,rfl⟩⟩)
 ·rintro ρ ⟨K,c4,c5,c6,rfl,hK,hc⟩
  rcases hc with ⟨z,rfl⟩ | ⟨z,rfl⟩
  ·refine Ws.R (We.w rfl (WR.slot ⟨K,?_,hK⟩ rfl))
   unfold pS;rw [if_pos z]
  ·refine Ws.R (We.v rfl ⟨K,?_,hK⟩)
   unfold pS;rw [if_neg z]
noncomputable def cB (t:Tie):Bool:=!decide (t.a=t.b)
noncomputable def pairD (t:Tie):Dat:=.tup [.int t.a,.int t.b]
noncomputable def Ek (p:List Tie):List Int:=(p.filter cB).map (·.m)
noncomputable def Ev (p:List Tie):List Dat:=(p.filter cB).map pairD
noncomputable def look (r:List Tie) (m:Int):Option Tie:=r.find? fun t=>decide (t.m=m)&&cB t
noncomputable def walk (r:List Tie):List Int→Int→List Int→Option Int
 | _,x,[]=>some x
 | used,x,m::w=>if m∈used then none else match look r m with
  | none=>none
  | some t=>if x=t.a∨x=t.b then walk r (used++[m]) (t.a+t.b-x) w else none
theorem JP (r:List Tie) (m:Int):bO (Ek r) (Ev r) m=(look r m).map pairD:=by
 unfold Ek Ev look
 rw [jS,List.find?_filter]
 congr 2
 funext t
 by_cases h1:cB t=true<;>by_cases h2:t.m=m<;>simp [h1,h2]
theorem vC (p:List Int) (f:Int→Dat) (m:Int):(bO p (p.map f) m).isSome=decide (m∈p):=by
 have:=jS (fun x:Int=>x) f p m
 rw [List.map_id'] at this
 rw [this,Option.isSome_map]
 rw [Bool.eq_iff_iff,List.find?_isSome]
 simp
theorem Good.fresh {n:Int}:∀ {p:List Tie} {x:Tie} {q:List Tie} {lo:Int},Good n lo (p++x::q)→∀ t∈p,t.m<x.m
 | [],_,_,_,_,t,h=>by cases h
 | y::p,x,q,lo,g,t,h=>by
  rcases List.mem_cons.mp h with rfl | h
  ·have:=Good.lo g.2.2.2.2 x (by simp);lia
  ·exact Good.fresh g.2.2.2.2 t h
theorem Good.mem {n:Int}:∀ {r:List Tie} {lo:Int},Good n lo r→∀ t∈r,0≤t.a∧t.a≤t.b∧t.b<n
 | [],_,_,t,h=>by cases h
 | x::r,lo,g,t,h=>by
  rcases List.mem_cons.mp h with rfl | h
  ·exact ⟨g.2.1,g.2.2.1,g.2.2.2.1⟩
  ·exact Good.mem g.2.2.2.2 t h
theorem EZ (p:List Tie) (x:Tie):Ek (p++[x])=Ek p++(if cB x then [x.m] else [])∧Ev (p++[x])=Ev p++(if cB x then [pairD x] else []):=by
 unfold Ek Ev
 by_cases h:cB x=true
 ·simp [h,List.filter_append]
 ·simp [h,List.filter_append]
theorem mQ {r:List Tie} {m:Int} {t:Tie} (h:look r m=some t):t∈r∧t.m=m∧t.a≠t.b:=by
 have h1:=List.mem_of_find?_eq_some h
 have h2:=List.find?_some h
 simp [cB] at h2
 exact ⟨h1,h2.1,h2.2⟩
theorem qN (n:Int) (hn:n≤10) (r:List Tie) (hr:Good n 0 r) (hl:r.length≤60) (a b:Int) (ms:List Int) (hm:ms.length≤1000) :
  xD [ak r,.int a,.int b,.lst (ms.map Dat.int)]=some (.val (.bl (decide (walk r [] a ms=some b)))):=by
 apply Wr.eq
 unfold xD
 (refine Dm.Wr.fn ?_ rfl rfl;dsimp only [List.map,List.replicate,List.cons_append,List.nil_append])
 repeat array_get_dec
 refine Ws.inv aK _ _ r _ _ _ _ _ (fun p _ ρ=>∃ c5 c6 c7,ρ=[.sh (ak r),.sh (.int a),.sh (.int b),.sh (.lst (ms.map Dat.int)),.ow (.dct (Ek p) (Ev p)),c5,c6,c7,.un,.un]) ⟨_,_,_,rfl⟩ ?_ ?_
 ·rintro p x q ρ e ⟨c5,c6,c7,rfl⟩
  refine Dm.b5 rfl (by first | (dsimp only [List.set];first | done | rfl) | rfl) ?_
  unfold Bv
  repeat array_get_dec
  have hx:=EZ p x
  have fr:=Good.fresh (e▸hr)
  have hnew:x.m∉Ek p:=fun h=>by
   obtain ⟨t,ht,e'⟩:=List.mem_map.mp h
   have:=fr t (List.mem_filter.mp ht).1
   lia
  refine ⟨fun h=>?_,fun h=>?_⟩
  ·repeat array_get_dec
   ·have h':cB x=true:=h
    rw [h'] at hx
    obtain ⟨p1,p2⟩:=kX (ks:=Ek p) (vs:=Ev p) (i:=x.m) (d:=pairD x) hnew
    have q1:=p1.trans hx.1.symm
    have q2:=p2.trans hx.2.symm
    exact ⟨_,_,_,by rw [← q1,← q2];rfl⟩
   ·have:(Ek p).length≤r.length:=by
     rw [e];unfold Ek;rw [List.length_map];have:=List.length_filter_le cB p;simp;lia
    simp [SZ];lia
  ·repeat array_get_dec
   have h':cB x=false:=h
   rw [h'] at hx
   simp at hx
   exact ⟨_,_,_,by rw [hx.1,hx.2]⟩
 ·rintro ρ ⟨c5,c6,c7,rfl⟩
  repeat array_get_dec
  refine Ws.inv Dat.int _ _ ms _ _ _ _ _ (fun p q ρ=>∃ c5 c6 c7 x,ρ=[.sh (ak r),.sh (.int a),.sh (.int b),.sh (.lst (ms.map Dat.int)),.ow (.dct (Ek r) (Ev r)),c5,c6,c7,.sh (.int x),.ow (.dct p (p.map fun _=>.bl true))]∧walk r [] a ms=walk r p x q) ⟨_,_,_,_,rfl,rfl⟩ ?_ ?_
  ·rintro p m q ρ e ⟨c5,c6,c7,x,rfl,hw⟩
   refine Dm.b5 rfl (by first | (dsimp only [List.set];first | done | rfl) | rfl) ?_
   unfold Bw
   repeat array_get_dec
   have hu:(bO p (p.map fun _=>Dat.bl true) m).isSome=decide (m∈p):=vC p _ m
   rw [walk] at hw
   refine ⟨fun h=>?_,fun h=>?_⟩
   ·rw [hu] at h
    rw [if_pos (of_decide_eq_true h)] at hw
    repeat array_get_dec
    rw [hw];rfl
   ·rw [hu] at h
    have hnp:=of_decide_eq_false h
    rw [if_neg hnp] at hw
    repeat array_get_dec
    have hE:=JP r m
    cases hk:look r m with
    | none=>
     rw [hk] at hE hw
     refine Wif.yes (by rw [hE];rfl) ?_
     repeat array_get_dec
     rw [hw];rfl
    | some t=>
     rw [hk] at hE hw
     have hE':bO (Ek r) (Ev r) m=some (.tup [.int t.a,.int t.b]):=hE
     refine Wif.no (by rw [hE'];rfl) ?_
     repeat array_get_dec
     refine Wg2.dx hE' ?_ rfl rfl
     repeat array_get_dec
     obtain ⟨tm,_,_⟩:=mQ hk
     obtain ⟨t0,t1,t2⟩:=Good.mem hr t tm
     dsimp only at hw
     refine ⟨fun h=>?_,fun h=>?_⟩
     ·have h':=ndT h
      rw [if_neg h'] at hw
      repeat array_get_dec
      rw [hw];rfl
     ·have h':=ndF h
      rw [if_pos h'] at hw
      repeat array_get_dec
      ·refine Wg2.dx hE' ?_ rfl rfl
       repeat array_get_dec
       ·obtain ⟨p1,p2⟩:=kX (ks:=p) (vs:=p.map fun _=>.bl true) (i:=m) (d:=.bl true) hnp
        exact ⟨_,_,_,_,by rw [p1,p2,List.map_append];rfl,hw⟩
       ·lia
      ·have:p.length≤ms.length:=by rw [e];simp
       simp [SZ];lia
  ·rintro ρ ⟨c5,c6,c7,x,rfl,hw⟩
   repeat array_get_dec
   rw [hw,walk]
   simp
noncomputable def dd (acc:List Int) (x:Int):List Int:=if acc.any (· == x) then acc else acc++[x]
theorem E1 (acc:List Int) (x:Int):acc.any (· == x)=decide (x∈acc):=by
 rw [Bool.eq_iff_iff]
 simp
theorem jU:∀ (ns acc:List Int),(ns.foldl dd acc).length≤acc.length+ns.length∧((ns.foldl dd acc).length=acc.length+ns.length↔(ns.Nodup∧∀ x∈ns,x∉acc))
 | [],acc=>by simp
 | x::ns,acc=>by
  rw [List.foldl_cons]
  unfold dd
  rw [E1]
  by_cases h:x∈acc
  ·rw [decide_eq_true h,if_pos rfl]
   obtain ⟨h1,h2⟩:=jU ns acc
   unfold dd at h1 h2
   rw [List.length_cons]
   refine ⟨by lia,⟨fun e=>by lia,fun ⟨_,e⟩=>absurd h (e x List.mem_cons_self)⟩⟩
  ·rw [decide_eq_false h,if_neg (by decide)]
   obtain ⟨h1,h2⟩:=jU ns (acc++[x])
   unfold dd at h1 h2
   rw [List.length_append,List.length_singleton] at h1 h2
   rw [List.length_cons]
   refine ⟨by lia,?_⟩
   rw [show acc.length+(ns.length+1)=acc.length+1+ns.length by lia,h2,List.nodup_cons]
   constructor
   ·rintro ⟨h3,h4⟩
    refine ⟨⟨fun hx=>h4 x hx (by simp),h3⟩,fun y hy=>?_⟩
    rcases List.mem_cons.mp hy with rfl | hy
    ·exact h
    ·exact fun z=>h4 y hy (by simp [z])
   ·rintro ⟨⟨h3,h4⟩,h5⟩
    refine ⟨h4,fun y hy z=>?_⟩
    rcases List.mem_append.mp z with z | z
    ·exact h5 y (List.mem_cons_of_mem _ hy) z
    ·rw [List.mem_singleton] at z;subst z;exact h3 hy
theorem zy (ms:List Int):eT (ms.map Dat.int)=some ms:=by
 induction ms with
 | nil=>rfl
 | cons m ms ih=>rw [List.map_cons,eT,ih];rfl
theorem jV (ms:List Int) (h:ms.length≤4000):∃ k:Nat,dW (.lst (ms.map Dat.int))=some (.val (.int (k:Nat)))∧(k=ms.length↔ms.Nodup):=by
 refine ⟨(dedup ms).length,?_,?_⟩
 ·unfold dW
  dsimp only
  rw [zy]
  dsimp only
  rw [if_pos h]
 ·have:=(jU ms []).2
  simp at this
  exact this
theorem Good.uniq {n:Int}:∀ {r:List Tie} {lo:Int},Good n lo r→∀ t∈r,∀ u∈r,t.m=u.m→t=u
 | [],_,_,t,h,_,_,_=>by cases h
 | x::r,lo,g,t,ht,u,hu,e=>by
  rcases List.mem_cons.mp ht with rfl | _
  ·rcases List.mem_cons.mp hu with rfl | hu
   ·rfl
   ·have:=Good.lo g.2.2.2.2 u hu;lia
  ·rename_i ht'
   rcases List.mem_cons.mp hu with rfl | hu
   ·have:=Good.lo g.2.2.2.2 t ht';lia
   ·exact Good.uniq g.2.2.2.2 t ht' u hu e
theorem BR {n:Int} {r:List Tie} (hr:Good n 0 r) (m:Int) (t:Tie):look r m=some t↔t∈r∧t.m=m∧t.a≠t.b:=by
 constructor
 ·exact mQ
 ·rintro ⟨h1,h2,h3⟩
  cases hk:look r m with
  | none=>
   have:=List.find?_eq_none.mp hk t h1
   simp [cB,h2,h3] at this
  | some u=>
   obtain ⟨u1,u2,u3⟩:=mQ hk
   rw [Good.uniq hr u u1 t h1 (by lia)]
theorem BS (i:Int):JH [.int i]=some (.val (.bl true)):=rfl
theorem sN (i lo hi:Int):Bu [.int i,.int lo,.int hi]=some (.val (.bl (decide (lo≤i∧i≤hi)))):=by
 apply Wr.eq
 unfold Bu
 (refine Dm.Wr.fn ?_ rfl rfl;dsimp only [List.map,List.replicate,List.cons_append,List.nil_append])
 refine Ws.R (We.And (We.F (Was.cons (We.v rfl (Was.nil (WF.val (BS i) (Wb.mk (Wif.t ?_)) rfl rfl))))))
 have e1:gLe (.int lo) (.int i)=some (.val (.bl (decide (lo≤i)))):=rfl
 have e2:gLe (.int i) (.int hi)=some (.val (.bl (decide (i≤hi)))):=rfl
 have e:e7 gLe gLe (eV 1) (eV 0) (eV 2) [.sh (.int i),.sh (.int lo),.sh (.int hi)]=some (.val (.bl (decide (lo≤i∧i≤hi))),[.sh (.int i),.sh (.int lo),.sh (.int hi)]):=by
  unfold e7
  simp only [eV,List.getElem?_cons_zero,List.getElem?_cons_succ,pk,e1,e2,RV.bW]
  by_cases q:lo≤i
  ·rw [decide_eq_true q]
   have:decide (lo≤i∧i≤hi)=decide (i≤hi):=by simp [q]
   rw [this]
  ·rw [decide_eq_false q,decide_eq_false (p:=lo≤i∧i≤hi) fun z=>q z.1]
 exact ⟨_,_,e,rfl⟩
theorem E2 (n i:Int):xy [.int n,.int i]=some (.val (.bl (decide (0≤i∧i<n)))):=by
 apply Wr.eq
 unfold xy
 (refine Dm.Wr.fn ?_ rfl rfl;dsimp only [List.map,List.replicate,List.cons_append,List.nil_append])
 refine Ws.R (We.F (Was.cons (We.v rfl (Was.cons (We.c (Was.cons (We.e2 (We.v rfl (We.c (Wg2.sub ?_ rfl rfl))))))))))
 refine Was.nil (WF.val (sN i 0 (n-1)) ?_ rfl rfl)
 have:decide (0≤i∧i≤n-1)=decide (0≤i∧i<n):=decide_eq_decide.mpr (by lia)
 rw [this]
 rfl
noncomputable def au (ws:List (List Int)):Dat:=.lst (ws.map fun w=>.lst (w.map Dat.int))
theorem pT (p:List (List Int)) (x:List Int):(p++[x]).flatten=p.flatten++x:=by simp
noncomputable def cC (r:List Tie) (a b:Int) (ws:List (List Int)):Bool:=decide ws.flatten.Nodup&&ws.all fun w=>decide (walk r [] a w=some b)
noncomputable def Few (ws:List (List Int)):Prop:=ws.length≤1000∧(∀ w∈ws,w.length≤1000)∧ws.flatten.length≤4000
theorem qO (n:Int) (hn:n≤10) (r:List Tie) (hr:Good n 0 r) (hl:r.length≤60) (a b:Int) (ws:List (List Int)) (hw:Few ws) :
  xE [ak r,.int a,.int b,au ws]=some (.val (.bl (cC r a b ws))):=by
 obtain ⟨h1,h2,hf⟩:=hw
 apply Wr.eq
 unfold xE au
 (refine Dm.Wr.fn ?_ rfl rfl;dsimp only [List.map,List.replicate,List.cons_append,List.nil_append])
 repeat array_get_dec
 refine Ws.inv (fun w:List Int=>Dat.lst (w.map Dat.int)) _ _ ws _ _ _ _ _ (fun p q ρ=>∃ c5,ρ=[.sh (ak r),.sh (.int a),.sh (.int b),.sh (au ws),.ow (.lst (p.flatten.map Dat.int)),c5]) ⟨_,rfl⟩ ?_ ?_
 ·rintro p x q ρ e ⟨c5,rfl⟩
  refine Dm.b5 rfl (by first | (dsimp only [List.set];first | done | rfl) | rfl) ?_
  unfold Bx
  refine Ws.Ext ?_ rfl
  repeat array_get_dec
  refine ⟨_,_,_,rfl,rfl,rfl,⟨.sh (.lst (x.map Dat.int)),?_⟩,?_⟩
  ·rw [pT,List.map_append];rfl
  ·have:ws.flatten.length=p.flatten.length+x.length+q.flatten.length:=by rw [e];simp;lia
   rw [List.length_map,List.length_map];unfold SZ;lia
 ·rintro ρ ⟨c5,rfl⟩
  obtain ⟨k,hk,hk2⟩:=jV ws.flatten hf
  unfold cC
  repeat array_get_dec
  refine Wg1.mk ?_ rfl hk
  repeat array_get_dec
  by_cases hnd:ws.flatten.Nodup
  ·have hk3:=hk2.mpr hnd
   refine Wif.yes (by rw [hk3];simp) ?_
   rw [decide_eq_true hnd,Bool.true_and]
   repeat array_get_dec
   refine We.f9 (fun w:List Int=>Dat.lst (w.map Dat.int)) ws (fun w=>decide (walk r [] a w=some b)) Dat.bl ?_ rfl rfl rfl (by decide) (by simp [SZ];lia) (fun x hx=>?_)
   ·repeat array_get_dec
    refine WB.all (fun w=>decide (walk r [] a w=some b)) ?_ (by rw [List.map_map];rfl)
    repeat array_get_dec
    rfl
   ·repeat array_get_dec
    refine WF.val (qN n hn r hr hl a b x (h2 x hx)) ?_ rfl rfl
    repeat array_get_dec
    exact ⟨rfl,rfl⟩
  ·have hk3:¬ k=ws.flatten.length:=fun z=>hnd (hk2.mp z)
   refine Wif.no (by rw [decide_eq_false];lia) ?_
   rw [decide_eq_false hnd]
   repeat array_get_dec
   rfl
noncomputable def steps (S:List Int):Bool:=(List.range (S.length-1)).all fun i=>decide (S.getD i 0<S.getD (i+1) 0)
theorem eW:∀ S:List Int,steps S=true↔S.Pairwise (· < ·)
 | []=>by simp [steps]
 | [x]=>by simp [steps]
 | x::y::S=>by
  have ih:=eW (y::S)
  have e:steps (x::y::S)=(decide (x<y)&&steps (y::S)):=by
   unfold steps
   simp only [List.length_cons,Nat.add_sub_cancel]
   rw [List.range_succ_eq_map,List.all_cons,List.all_map]
   rfl
  rw [e,Bool.and_eq_true,ih,List.pairwise_cons (a:=x)]
  constructor
  ·rintro ⟨h1,h2⟩
   have h1:=of_decide_eq_true h1
   refine ⟨fun z hz=>?_,h2⟩
   rcases List.mem_cons.mp hz with rfl | hz
   ·exact h1
   ·exact Int.lt_trans h1 ((List.pairwise_cons.mp h2).1 z hz)
  ·rintro ⟨h1,h2⟩
   exact ⟨decide_eq_true (h1 y List.mem_cons_self),h2⟩
noncomputable def jB (n:Int) (S:List Int):Bool:=(S.all fun x=>decide (0≤x∧x<n))&&steps S
theorem BU {α:Type} {enc:α→Dat} {xs:List α} {i:Int} {o p:Option Dat} {K:RV→Prop} (h0:0≤i) (h1:i<xs.length) (k:K (.val (enc (xs[i.toNat]'(by lia))))) (ho:o=some (.tup (xs.map enc))) (hp:p=some (.int i)):Wg2 gIx o p K:=
 ⟨_,_,_,ho,hp,by unfold gIx;dsimp only;rw [gu enc xs i h0 h1];rfl,k⟩
theorem sO (d:Dat) (S:List Int) (hl:S.length≤1000) (hd:d=.tup (S.map Dat.int)∨d=.lst (S.map Dat.int)):r_ [d]=some (.val (.bl (steps S))):=by
 have len:bX [d]=some (.val (.int (S.length:Nat))):=by
  rcases hd with rfl | rfl
  ·show some (RV.val (.int ((S.map Dat.int).length:Nat)))=_
   rw [List.length_map]
  ·show some (RV.val (.int ((S.map Dat.int).length:Nat)))=_
   rw [List.length_map]
 have ix:∀ (i:Int) (h0:0≤i) (h1:i<S.length) {o p:Option Dat} {K:RV→Prop},K (.val (.int (S[i.toNat]'(by lia))))→o=some d→p=some (.int i)→Wg2 gIx o p K:=fun i h0 h1 {o p K} k ho hp=>by
  rcases hd with rfl | rfl
  ·exact BU (xs:=S) (enc:=Dat.int) h0 h1 k ho hp
  ·exact Wg2.ixL (xs:=S) (enc:=Dat.int) h0 h1 k ho hp
 apply Wr.eq
 unfold r_
 (refine Dm.Wr.fn ?_ rfl rfl;dsimp only [List.map,List.replicate,List.cons_append,List.nil_append])
 refine Ws.R (We.B (Was.cons ?_))
 refine We.Comp (fun i:Nat=>Dat.int (1+(i:Nat))) (List.range (S.length-1)) (fun _=>true) (fun i=>Dat.bl (decide (S.getD i 0<S.getD (i+1) 0))) ?_ (ρ1:=[.sh d]) ?_ rfl (by decide) (by simp [SZ];lia) (fun i _=>?_) (fun i hi _=>?_)
 ·refine Was.nil (WB.all (fun i=>decide (S.getD i 0<S.getD (i+1) 0)) ?_ (by rw [List.filter_eq_self.mpr (fun _ _=>rfl)];rfl))
  rfl
 ·apply Wi.get
  refine Wi.R2 (We.c (cz.mk (We.B (Was.cons (We.v rfl (Was.nil ⟨_,_,rfl,len,?_⟩))))))
  refine cz.mk ⟨⟨?_,rfl⟩,by unfold BIG;lia,by unfold BIG;lia,by unfold BIG;lia,by unfold BIG;lia⟩
  have e2:(((S.length:Nat):Int)-1).toNat=S.length-1:=by lia
  rw [e2]
  rfl
 ·exact Wt.T ⟨rfl,rfl⟩
 ·have hi':i<S.length-1:=List.mem_range.mp hi
  refine We.e2 (We.e2 (We.v rfl (We.e2 (We.v rfl (We.c (Wg2.sub (ix _ (by lia) (by lia) ?_ rfl rfl) rfl rfl))))))
  refine We.e2 (We.v rfl (We.v rfl (ix _ (by lia) (by lia) ?_ rfl rfl)))
  refine Wg2.lt (Wk.val ⟨?_,rfl⟩) rfl rfl
  have e1:S.getD i 0=S[(1+(i:Int)-1).toNat]'(by omega):=by
   rw [List.getD_eq_getElem?_getD,List.getElem?_eq_getElem (by lia)]
   simp only [Option.getD_some]
   congr 1;lia
  have e2:S.getD (i+1) 0=S[(1+(i:Int)).toNat]'(by lia):=by
   rw [List.getD_eq_getElem?_getD,List.getElem?_eq_getElem (by lia)]
   simp only [Option.getD_some]
   congr 1;lia
  rw [e1,e2]
theorem zz (n:Int) (S:List Int) (hl:S.length≤1000):xB [.int n,tupI S]=some (.val (.bl (jB n S))):=by
 apply Wr.eq
 unfold xB tupI jB
 (refine Dm.Wr.fn ?_ rfl rfl;dsimp only [List.map,List.replicate,List.cons_append,List.nil_append])
 refine Ws.R (We.And (We.e1 (We.v rfl (Wg1.mk (v:=.val (.bl true)) (Wb.mk (Wif.t ?_)) rfl rfl))))
 refine We.And (We.B (Was.cons (We.f9 Dat.int S (fun x=>decide (0≤x∧x<n)) Dat.bl ?_ rfl rfl rfl (by decide) (by simp [SZ];lia) (fun x hx=>?_))))
 ·refine Was.nil (WB.all (fun x=>decide (0≤x∧x<n)) (Wb.mk ⟨fun h=>?_,fun h=>?_⟩) (by rw [List.map_map];rfl))
  ·refine We.F (Was.cons (We.v rfl (Was.nil (WF.val (sO _ S hl (.inl rfl)) ?_ rfl rfl))))
   rw [h]
   rfl
  ·rw [h]
   rfl
 ·exact We.F (Was.cons (We.v rfl (Was.cons (We.v rfl (Was.nil (WF.val (E2 n x) (Wk.val ⟨rfl,rfl⟩) rfl rfl))))))
theorem xV (r:List Tie) (hl:r.length≤1000) (S:List Int):xC [ak r,tupI S]=some (.new (.lst ((cL r S).map Dat.int))):=by
 apply Wr.eq
 unfold xC tupI
 (refine Dm.Wr.fn ?_ rfl rfl;dsimp only [List.map,List.replicate,List.cons_append,List.nil_append])
 refine Ws.R ?_
 refine We.Mv aK r (ovr S) (·.m) Dat.int (fun t=>.int t.m) (fun t=>.int t.a) (fun t=>.int t.b) (fun _=>rfl) ?_ rfl rfl rfl (by decide) (by simp [SZ];lia) (fun t _=>?_) (fun t _ _=>?_)
 ·exact WR.new rfl
 ·refine Wt.V (We.e2 (We.e2 (We.v rfl (We.v rfl (Wg2.inT (xs:=S) ?_ rfl rfl)))))
  refine We.e2 (We.v rfl (We.v rfl (Wg2.inT (xs:=S) ?_ rfl rfl)))
  exact Wg2.neb (Wb.mk ⟨rfl,rfl⟩) rfl rfl
 ·exact We.v rfl (Wk.val ⟨rfl,rfl⟩)
theorem vD (r:List Tie) (hl:r.length≤1000) (S:List Int):BF [ak r,tupI S]=some (.new (.lst ((cL r S).map Dat.int))):=xV r hl S
theorem gh (k:Int) (h0:1≤k) (h1:k≤6):sd [.int k]=some (.val .non):=by
 have e:xA [.int k]=some (.val (.bl true)):=by
  apply Wr.eq
  unfold xA
  (refine Dm.Wr.fn ?_ rfl rfl;dsimp only [List.map,List.replicate,List.cons_append,List.nil_append])
  refine Ws.R (We.F (Was.cons (We.v rfl (Was.cons (We.c (Was.cons (We.c (Was.nil (WF.val (sN k 1 6) ?_ rfl rfl)))))))))
  rw [decide_eq_true ⟨h0,h1⟩]
  rfl
 apply Wr.eq
 unfold sd
 (refine Dm.Wr.fn ?_ rfl rfl;dsimp only [List.map,List.replicate,List.cons_append,List.nil_append])
 refine Ws.If (Wt.Not (Wt.V (We.F (Was.cons (We.v rfl (Was.nil (WF.val e ?_ rfl rfl)))))))
 exact Wb.mk (Wif.f (Ws.nx rfl))
theorem gy:∀ N M:List Int,dG (N.map Dat.int) (M.map Dat.int)=decide (N=M)
 | [],[]=>rfl
 | [],_::_=>rfl
 | _::_,[]=>rfl
 | x::N,y::M=>by
  rw [List.map_cons,List.map_cons,dG,gy N M,eqD]
  by_cases h:x=y<;>by_cases h2:N=M<;>simp [h,h2]
theorem gA:∀ N M:List (List Int),dG (N.map fun w=>.lst (w.map Dat.int)) (M.map fun w=>.lst (w.map Dat.int))=decide (N=M)
 | [],[]=>rfl
 | [],_::_=>rfl
 | _::_,[]=>rfl
 | x::N,y::M=>by
  rw [List.map_cons,List.map_cons,dG,gA N M,eqD,gy]
  by_cases h:x=y<;>by_cases h2:N=M<;>simp [h,h2]
theorem xW (k:Nat) (w:List Int):okD (k+1) (.lst (w.map Dat.int))=true:=by
 unfold okD
 rw [List.all_eq_true]
 intro d hd
 obtain ⟨x,_,rfl⟩:=List.mem_map.mp hd
 unfold okD
 rfl
theorem gB (k:Nat) (ws:List (List Int)):okD (k+2) (au ws)=true:=by
 unfold au okD
 rw [List.all_eq_true]
 intro d hd
 obtain ⟨x,_,rfl⟩:=List.mem_map.mp hd
 exact xW k x
theorem Wg2.JQ {N M:List (List Int)} {o p:Option Dat} {K:RV→Prop} (k:K (.val (.bl (decide (N=M))))) (ho:o=some (au N)) (hp:p=some (au M)):Wg2 gEq o p K:=
 ⟨_,_,_,ho,hp,by unfold gEq;rw [gB 6,gB 6];unfold au;rw [eqD,gA];rfl,k⟩
theorem Wg2.JR {N M:List (List Int)} {o p:Option Dat} {K:RV→Prop} (k:K (.val (.bl (!decide (N=M))))) (ho:o=some (au N)) (hp:p=some (au M)):Wg2 gNe o p K:=
 ⟨_,_,_,ho,hp,by unfold gNe;rw [gB 6,gB 6];unfold au;rw [eqD,gA];rfl,k⟩
noncomputable def dO (k:Nat):List (List Int):=List.replicate k []
theorem sP (k:Nat):(List.range k).map (fun _=>Dat.lst [])=(dO k).map fun w=>Dat.lst (w.map Dat.int):=by
 unfold dO
 rw [List.map_replicate,List.map_const',List.length_range]
 rfl
theorem fu (k:Nat) (k6:k≤6):pN [.int k]=some (.new (au (dO k))):=by
 apply Wr.eq
 unfold pN
 (refine Dm.Wr.fn ?_ rfl rfl;dsimp only [List.map,List.replicate,List.cons_append,List.nil_append])
 refine Ws.R ?_
 refine We.Map (fun i:Nat=>Dat.int (0+(i:Nat))) (List.range k) (fun _=>Dat.lst []) id (ρ1:=[.sh (.int k)]) ?_ ?_ rfl (by decide) (by rw [List.length_range];unfold SZ;lia) fun i _=>?_
 ·refine WR.new ?_
  rw [List.map_id,sP]
  rfl
 ·apply Wi.get
  refine Wi.R1 (We.v rfl (cz.mk ⟨⟨?_,rfl⟩,by unfold BIG;lia,by unfold BIG;lia⟩))
  rw [Int.toNat_natCast]
  rfl
 ·exact We.L (Was.nil (WT.mk (Wk.new ⟨rfl,rfl⟩) rfl rfl (by decide)))
noncomputable def fN (K:List Tie) (k:Nat) (t:Tie) (ws:List (List Int)):Bool:=if t.a=t.b then decide (ws=dO k) else decide (ws.length=k)&&cC K t.a t.b ws
theorem sQ (n:Int) (hn:n≤10) (K:List Tie) (hr:Good n 0 K) (hl:K.length≤60) (k:Nat) (k6:k≤6) (t:Tie) (ws:List (List Int)) (hw:Few ws):xG [ak K,aK t,.int (k:Nat),au ws]=some (.val (.bl (fN K k t ws))):=by
 apply Wr.eq
 unfold xG fN
 (refine Dm.Wr.fn ?_ rfl rfl;dsimp only [List.map,List.replicate,List.cons_append,List.nil_append])
 refine Ws.seq (Ws.If (Wt.V (We.e2 (We.e2 (We.v rfl (We.c (Wg2.ix (v:=.int t.a) ?_ rfl rfl rfl)))))))
 refine We.e2 (We.v rfl (We.c (Wg2.ix (v:=.int t.b) ?_ rfl rfl rfl)))
 refine Wg2.eq (Wb.mk ?_) rfl rfl
 refine Wif.dec (fun hab=>?_) fun hab=>?_
 ·refine Ws.R (We.e2 (We.v rfl (We.F (Was.cons (We.v rfl (Was.nil (WF.box (fu k k6) ?_ rfl rfl rfl rfl)))))))
  refine Wg2.JQ (N:=ws) (M:=dO k) ?_ rfl rfl
  rw [if_pos hab]
  rfl
 ·refine Ws.nx ?_
  rw [if_neg hab]
  refine Ws.R (We.And (We.e2 (We.B (Was.cons (We.v rfl (Was.nil (WB.fq (enc:=fun w:List Int=>Dat.lst (w.map Dat.int)) (xs:=ws) ?_ rfl)))))))
  refine We.v rfl (Wg2.eq (Wb.mk ?_) rfl rfl)
  by_cases h:ws.length=k
  ·refine Wif.yes (decide_eq_true (by rw [h])) ?_
   refine We.F (Was.cons (We.v rfl (Was.cons (We.e2 (We.v rfl (We.c (Wg2.ix (v:=.int t.a) ?_ rfl rfl rfl)))))))
   refine Was.cons (We.e2 (We.v rfl (We.c (Wg2.ix (v:=.int t.b) ?_ rfl rfl rfl))))
   refine Was.cons (We.v rfl (Was.nil (WF.val (qO n hn K hr hl t.a t.b ws hw) ?_ rfl rfl)))
   rw [decide_eq_true h]
   rfl
  ·refine Wif.no (decide_eq_false (by lia)) ?_
   rw [decide_eq_false h]
   rfl
noncomputable def dY (n:Int) (K:List Tie) (k:Nat) (t:Tie) (S:List Int):Bool:=jB n S&&(decide (t.m∈cL K S)&&decide ((cL K S).length≤k))
theorem qP (n:Int) (K:List Tie) (hl:K.length≤60) (k:Nat) (t:Tie) (S:List Int) (hS:S.length≤1000):xH [.int n,ak K,aK t,.int (k:Nat),tupI S]=some (.val (.bl (dY n K k t S))):=by
 apply Wr.eq
 unfold xH dY
 (refine Dm.Wr.fn ?_ rfl rfl;dsimp only [List.map,List.replicate,List.cons_append,List.nil_append])
 refine Ws.seq (Ws.If (Wt.Not (Wt.V (We.F (Was.cons (We.v rfl (Was.cons (We.v rfl (Was.nil (WF.val (zz n S hS) (Wb.mk ?_) rfl rfl))))))))))
 cases hs:jB n S with
 | false=>exact Wif.t (Ws.R (We.c rfl))
 | true=>
  refine Wif.f (Ws.nx ?_)
  refine Ws.seq (Ws.A (We.F (Was.cons (We.v rfl (Was.cons (We.v rfl (Was.nil (WF.box (xV K (by lia) S) ?_ rfl rfl rfl rfl))))))) (by decide))
  refine WA.new ?_ (by first | (dsimp only [List.set];first | done | rfl) | rfl)
  refine Ws.R (We.And (We.e2 (We.e2 (We.v rfl (We.c (Wg2.ix (v:=.int t.m) ?_ rfl rfl rfl))))))
  refine We.w rfl (Wg2.inL (xs:=cL K S) (Wb.mk ?_) rfl rfl)
  by_cases h:t.m∈cL K S
  ·rw [decide_eq_true h]
   refine Wif.t (We.e2 (We.B (Was.cons (We.w rfl (Was.nil (WB.fq (enc:=Dat.int) (xs:=cL K S) ?_ rfl))))))
   refine We.v rfl (Wg2.le ?_ rfl rfl)
   have:decide (((cL K S).length:Int)≤(k:Int))=decide ((cL K S).length≤k):=by
    by_cases z:(cL K S).length≤k
    ·rw [decide_eq_true z,decide_eq_true (by lia)]
    ·rw [decide_eq_false z,decide_eq_false (by lia)]
   rw [this]
   rfl
  ·rw [decide_eq_false h]
   exact Wif.f rfl
noncomputable def aE (r:List Tie) (M:List Int):List Tie:=r.filter fun t=>decide (t.m∈M)
noncomputable def aU (r:List Tie) (M:List Int):List Tie:=r.filter fun t=>!decide (t.m∈M)
noncomputable def aR (M:List Int) (W:List (List (List Int))) (S:List (List Int)):Dat:=.tup [.lst (M.map Dat.int),.lst (W.map au),.lst (S.map tupI)]
structure Shape (M:List Int) (W:List (List (List Int))) (S:List (List Int)):Prop where
 m:M.length≤1000
 w:W.length≤1000
 few:∀ ws∈W,ws.length≤20∧∀ w∈ws,w.length≤200
 s:S.length≤1000
 kK:∀ x∈S,x.length≤30
theorem sS:∀ (ws:List (List Int)) (k:Nat),(∀ w∈ws,w.length≤k)→ws.flatten.length≤ws.length*k
 | [],k,_=>by simp
 | w::ws,k,h=>by
  have:=sS ws k fun x hx=>h x (List.mem_cons_of_mem _ hx)
  have:=h w List.mem_cons_self
  rw [List.flatten_cons,List.length_append,List.length_cons,Nat.succ_mul]
  lia
theorem Shape.fw {M:List Int} {W:List (List (List Int))} {S:List (List Int)} (h:Shape M W S):∀ ws∈W,Few ws:=fun ws hw=>by
 obtain ⟨h1,h2⟩:=h.few ws hw
 refine ⟨by lia,fun w hw=>by have:=h2 w hw;lia,?_⟩
 have:=sS ws 200 h2
 have:ws.length*200≤20*200:=Nat.mul_le_mul_right 200 h1
 lia
theorem mR {α β:Type} (f:α→Dat) (g:β→Dat):∀ (xs:List α) (ys:List β),kI (xs.map f) (ys.map g)=(xs.zip ys).map fun p=>.tup [f p.1,g p.2]
 | [],ys=>by cases ys<;>rfl
 | x::xs,[]=>rfl
 | x::xs,y::ys=>by
  rw [List.map_cons,List.map_cons,List.zip_cons_cons,List.map_cons,← mR f g xs ys]
  rfl
noncomputable def dP (n:Int) (r:List Tie) (k:Nat) (M:List Int) (W:List (List (List Int))) (S:List (List Int)):Bool:=
 decide (((aE r M).map (·.m))=M)&&(decide (W.length=(aU r M).length∧S.length=(aE r M).length)&&((((aU r M).zip W).all fun p=>fN (aE r M) k p.1 p.2)&&(((aE r M).zip S).all fun p=>dY n (aE r M) k p.1 p.2)))
theorem We.vE {α β:Type} (f:α→Dat) (g:β→Dat) (xs:List α) (ys:List β) (q:α×β→Bool) {it:FI} {k:Nat} {el:FE} {ρ ρ1:Env} {Q:Val→Env→Prop} (kQ:Q (.val (.bl ((xs.zip ys).all q))) ρ1) (hit:it ρ=some (kI (xs.map f) (ys.map g),ρ1)) (hk:ρ1.length=k) (hk0:k≠0) (hl:xs.length≤SZ)
  (he:∀ x∈xs.zip ys,We el (ρ1++[.sh (f x.1),.sh (g x.2)]) fun w ρ'=>Wk ρ' w fun d ρ''=>d=.bl (q x)∧ρ''=ρ1++[.sh (f x.1),.sh (g x.2)]):We (eB gC [bU it 2 (bT [k,k+1]) bq el]) ρ Q:=by
 have b:∀ (x:α×β) (c1 c2:Cell),bT [k,k+1] (Dat.tup [f x.1,g x.2]) (ρ1++[c1,c2])=some (ρ1++[.sh (f x.1),.sh (g x.2)]):=fun x c1 c2=>by
  show sets [k,k+1] [f x.1,g x.2] _=_
  rw [sets,if_neg hk0,sets,if_neg (by lia),sets]
  rw [List.set_append_right _ _ (by lia),List.set_append_right _ _ (by lia)]
  subst hk
  rw [Nat.sub_self,show ρ1.length+1-ρ1.length=1 by lia]
  rfl
 refine We.B (Was.cons (We.Bk (fun x:α×β=>Dat.tup [f x.1,g x.2]) (xs.zip ys) (fun _=>true) q Dat.bl (fun x=>(ρ1++[Cell.sh (f x.1),Cell.sh (g x.2)]:Env)) (own:=2) (bd:=bT [k,k+1]) ?_ (by rw [hit,mR]) (fun x=>b x .un .un) (fun x y=>b x (.sh (f y.1)) (.sh (g y.2))) (fun x=>List.take_left) (by rw [List.length_zip];lia) (fun x _=>Wt.T ⟨rfl,rfl⟩) (fun x hx _=>he x hx)))
 rw [List.filter_eq_self.mpr fun _ _=>rfl]
 exact Was.nil (WB.all q kQ (by rw [List.map_map];rfl))
theorem up_eq:∀ L M:List Int,L.Pairwise (· < ·)→M.Pairwise (· < ·)→(∀ x,x∈L↔x∈M)→L=M
 | [],[],_,_,_=>rfl
 | [],y::M,_,_,h=>by have:=(h y).mpr List.mem_cons_self;cases this
 | x::L,[],_,_,h=>by have:=(h x).mp List.mem_cons_self;cases this
 | x::L,y::M,hL,hM,h=>by
  obtain ⟨l1,l2⟩:=List.pairwise_cons.mp hL
  obtain ⟨m1,m2⟩:=List.pairwise_cons.mp hM
  have e:x=y:=by
   rcases List.mem_cons.mp ((h x).mp List.mem_cons_self) with z | z
   ·exact z
   ·rcases List.mem_cons.mp ((h y).mpr List.mem_cons_self) with w | w
    ·exact w.symm
    ·have:=m1 x z;have:=l1 y w;lia
  subst e
  rw [up_eq L M l2 m2 fun z=>⟨fun hz=>?_,fun hz=>?_⟩]
  ·rcases List.mem_cons.mp ((h z).mp (List.mem_cons_of_mem _ hz)) with w | w
   ·subst w;exact absurd (l1 z hz) (Int.lt_irrefl z)
   ·exact w
  ·rcases List.mem_cons.mp ((h z).mpr (List.mem_cons_of_mem _ hz)) with w | w
   ·subst w;exact absurd (m1 z hz) (Int.lt_irrefl z)
   ·exact w
theorem Good.up {n:Int}:∀ {r:List Tie} {lo:Int},Good n lo r→(r.map (·.m)).Pairwise (· < ·)
 | [],_,_=>List.Pairwise.nil
 | t::r,lo,h=>by
  obtain ⟨_,_,_,_,h5⟩:=h
  rw [List.map_cons,List.pairwise_cons]
  refine ⟨fun x hx=>?_,Good.up h5⟩
  obtain ⟨u,hu,rfl⟩:=List.mem_map.mp hx
  have:=h5.lo u hu
  lia
theorem BV {L:List Int} (h:L.Pairwise (· < ·)):L.Nodup:=h.imp fun z=>Int.ne_of_lt z
theorem BW {n:Int} {r:List Tie} (hr:Good n 0 r) (M:List Int):(steps M&&decide ((aE r M).length=M.length))=decide ((aE r M).map (·.m)=M):=by
 have hg:Good n 0 (aE r M):=hr.filter _
 by_cases e:(aE r M).map (·.m)=M
 ·rw [decide_eq_true e]
  have h1:steps M=true:=(eW M).mpr (by have:=hg.up;rw [e] at this;exact this)
  have h2:(aE r M).length=M.length:=by have:=congrArg List.length e;rw [List.length_map] at this;exact this
  rw [h1,decide_eq_true h2]
  rfl
 ·rw [decide_eq_false e]
  by_cases h1:steps M=true
  ·rw [h1,Bool.true_and,decide_eq_false]
   intro hl
   have up:=(eW M).mp h1
   have sub:∀ x∈(aE r M).map (·.m),x∈M:=fun x hx=>by
    obtain ⟨t,ht,rfl⟩:=List.mem_map.mp hx
    exact of_decide_eq_true (List.mem_filter.mp ht).2
   refine e (up_eq _ _ hg.up up fun x=>⟨sub x,fun hx=>?_⟩)
   by_cases hc:x∈(aE r M).map (·.m)
   ·exact hc
   ·have nd:(x::(aE r M).map (·.m)).Nodup:=List.nodup_cons.mpr ⟨hc,BV hg.up⟩
    have:=nd.length_le_of_subset (l₂:=M) fun y hy=>by
     rcases List.mem_cons.mp hy with rfl | hy
     ·exact hx
     ·exact sub y hy
    rw [List.length_cons,List.length_map] at this
    lia
  ·rw [Bool.not_eq_true] at h1
   rw [h1]
   rfl
theorem xX {n:Int} {r:List Tie} (hr:Good n 0 r) (M:List Int):(r.filter fun t=>!decide (t∈aE r M))=aU r M:=by
 unfold aU
 apply List.filter_congr
 intro t ht
 have:(t∈aE r M)↔t.m∈M:=⟨fun h=>of_decide_eq_true (List.mem_filter.mp h).2,fun h=>List.mem_filter.mpr ⟨ht,decide_eq_true h⟩⟩
 simp only [this]
theorem dZ (a b:Nat):decide ((a:Int)=(b:Int))=decide (a=b):=by
 by_cases h:a=b
 ·rw [decide_eq_true h,decide_eq_true (by rw [h])]
 ·rw [decide_eq_false h,decide_eq_false (by lia)]
theorem ee {n:Nat} (hn:n≤10) {r:List Tie} (hr:Good n 0 r) (hl:r.length≤60) {k:Nat} (k1:1≤k) (k6:k≤6) {M:List Int} {W:List (List (List Int))} {S:List (List Int)} (sh:Shape M W S) :
  pP [.int (n:Nat),ak r,.int (k:Nat),aR M W S]=some (.val (.bl (dP n r k M W S))):=by
 have hK:Good n 0 (aE r M):=hr.filter _
 have lK:(aE r M).length≤60:=Nat.le_trans (List.length_filter_le _ _) hl
 have lG:(aU r M).length≤60:=Nat.le_trans (List.length_filter_le _ _) hl
 apply Wr.eq
 unfold pP
 (refine Dm.Wr.fn ?_ rfl rfl;dsimp only [List.map,List.replicate,List.cons_append,List.nil_append])
 refine Ws.seq (Ws.E (We.F (Was.cons (We.v rfl (Was.nil (WF.val (gh k (by lia) (by lia)) ?_ rfl rfl))))))
 refine Ws.seq (Ws.A (We.oH aK r (fun t=>decide (t.m∈M)) id aK (d:=ak r) ?_ rfl rfl rfl (by decide) (by unfold SZ;lia) (fun u _=>?_) fun u _ _=>We.v rfl (Wk.val ⟨rfl,rfl⟩)) (by decide))
 rotate_left
 ·refine Wt.V (We.e2 (We.e2 (We.v rfl (We.c (Wg2.ix (v:=.int u.m) ?_ rfl rfl rfl)))))
  refine We.e2 (We.v rfl (We.c (Wg2.ix (v:=.lst (M.map Dat.int)) ?_ rfl rfl rfl)))
  exact Wg2.inL (xs:=M) (Wb.mk ⟨rfl,rfl⟩) rfl rfl
 refine WA.new ?_ (by first | (dsimp only [List.set];first | done | rfl) | rfl)
 rw [List.map_id]
 show Ws _ [.sh (.int (n:Nat)),.sh (ak r),.sh (.int (k:Nat)),.sh (aR M W S),.ow (ak (aE r M)),.un] _ _ _ _
 unfold dP
 rw [← BW hr M]
 refine Ws.seq (Ws.If (Wt.Or (Wt.Not (Wt.V (We.F (Was.cons (We.e2 (We.v rfl (We.c (Wg2.ix (v:=.lst (M.map Dat.int)) ?_ rfl rfl rfl))))))))))
 refine Was.nil (WF.val (sO _ M (by have:=sh.m;lia) (.inr rfl)) (Wb.mk ?_) rfl rfl)
 cases h1:steps M with
 | false=>exact Wif.t (Wif.t (Ws.R (We.c rfl)))
 | true=>
  refine Wif.f ?_
  refine Wt.V (We.e2 (We.B (Was.cons (We.w rfl (Was.nil (WB.fq (enc:=aK) (xs:=aE r M) ?_ rfl))))))
  refine We.B (Was.cons (We.e2 (We.v rfl (We.c (Wg2.ix (v:=.lst (M.map Dat.int)) ?_ rfl rfl rfl)))))
  refine Was.nil (WB.fq (enc:=Dat.int) (xs:=M) ?_ rfl)
  refine Wg2.ne (Wb.mk ?_) rfl rfl
  rw [dZ]
  by_cases h2:(aE r M).length=M.length
  rotate_left
  ·rw [decide_eq_false h2]
   exact Wif.t (Ws.R (We.c rfl))
  rw [decide_eq_true h2]
  refine Wif.f (Ws.nx ?_)
  refine Ws.seq (Ws.A (We.oH aK r (fun t=>!decide (t∈aE r M)) id aK (d:=ak r) ?_ rfl rfl rfl (by decide) (by unfold SZ;lia) (fun u _=>Wt.V (We.e2 (We.v rfl (We.w rfl (Wg2.BQ (K:=aE r M) (Wb.mk ⟨rfl,rfl⟩) rfl rfl))))) fun u _ _=>We.v rfl (Wk.val ⟨rfl,rfl⟩)) (by decide))
  refine WA.new ?_ (by first | (dsimp only [List.set];first | done | rfl) | rfl)
  rw [List.map_id,xX hr]
  show Ws _ [.sh (.int (n:Nat)),.sh (ak r),.sh (.int (k:Nat)),.sh (aR M W S),.ow (ak (aE r M)),.ow (ak (aU r M))] _ _ _ _
  refine Ws.seq (Ws.If (Wt.Or (Wt.V (We.e2 (We.B (Was.cons (We.e2 (We.v rfl (We.c (Wg2.ix (v:=.lst (W.map au)) ?_ rfl rfl rfl))))))))))
  refine Was.nil (WB.fq (enc:=au) (xs:=W) ?_ rfl)
  refine We.B (Was.cons (We.w rfl (Was.nil (WB.fq (enc:=aK) (xs:=aU r M) ?_ rfl))))
  refine Wg2.ne (Wb.mk ?_) rfl rfl
  rw [dZ]
  by_cases h3:W.length=(aU r M).length
  rotate_left
  ·rw [decide_eq_false h3,decide_eq_false (p:=W.length=(aU r M).length∧S.length=(aE r M).length) fun z=>h3 z.1]
   exact Wif.t (Wif.t (Ws.R (We.c rfl)))
  rw [decide_eq_true h3]
  refine Wif.f ?_
  refine Wt.V (We.e2 (We.B (Was.cons (We.e2 (We.v rfl (We.c (Wg2.ix (v:=.lst (S.map tupI)) ?_ rfl rfl rfl)))))))
  refine Was.nil (WB.fq (enc:=tupI) (xs:=S) ?_ rfl)
  refine We.B (Was.cons (We.w rfl (Was.nil (WB.fq (enc:=aK) (xs:=aE r M) ?_ rfl))))
  refine Wg2.ne (Wb.mk ?_) rfl rfl
  rw [dZ]
  by_cases h4:S.length=(aE r M).length
  rotate_left
  ·rw [decide_eq_false h4,decide_eq_false (p:=W.length=(aU r M).length∧S.length=(aE r M).length) fun z=>h4 z.2]
   exact Wif.t (Ws.R (We.c rfl))
  rw [decide_eq_true h4,decide_eq_true (p:=W.length=(aU r M).length∧S.length=(aE r M).length) ⟨h3,h4⟩]
  refine Wif.f (Ws.nx ?_)
  refine Ws.seq (Ws.If (Wt.Not (Wt.V (We.vE aK au (aU r M) W (fun p=>fN (aE r M) k p.1 p.2) (ρ1:=[.sh (.int (n:Nat)),.sh (ak r),.sh (.int (k:Nat)),.sh (aR M W S),.ow (ak (aE r M)),.sh (ak (aU r M))]) ?_ rfl rfl (by decide) (by unfold SZ;lia) fun x hx=>?_))))
  rotate_left
  ·have hw:x.2∈W:=(List.of_mem_zip hx).2
   exact We.F (Was.cons (We.w rfl (Was.cons (We.v rfl (Was.cons (We.v rfl (Was.cons (We.v rfl (Was.nil (WF.val (sQ n (by lia) (aE r M) hK lK k k6 x.1 x.2 (sh.fw _ hw)) (Wk.val ⟨rfl,rfl⟩) rfl rfl))))))))))
  refine Wb.mk ?_
  cases h5:(((aU r M).zip W).all fun p=>fN (aE r M) k p.1 p.2) with
  | false=>exact Wif.t (Ws.R (We.c rfl))
  | true=>
   refine Wif.f (Ws.nx ?_)
   refine Ws.R (We.vE aK tupI (aE r M) S (fun p=>dY n (aE r M) k p.1 p.2) (ρ1:=[.sh (.int (n:Nat)),.sh (ak r),.sh (.int (k:Nat)),.sh (aR M W S),.sh (ak (aE r M)),.sh (ak (aU r M))]) ?_ rfl rfl (by decide) (by unfold SZ;lia) fun x hx=>?_)
   ·rfl
   ·have hs:x.2∈S:=(List.of_mem_zip hx).2
    exact We.F (Was.cons (We.v rfl (Was.cons (We.v rfl (Was.cons (We.v rfl (Was.cons (We.v rfl (Was.cons (We.v rfl (Was.nil (WF.val (qP n (aE r M) lK k x.1 x.2 (by have:=sh.kK _ hs;lia)) (Wk.val ⟨rfl,rfl⟩) rfl rfl))))))))))))
theorem jC (i:Int):xJ [.int i]=some (.val (.bl true)):=rfl
theorem E3 {α:Type} (xs:List α):xs.all (fun _=>true)=true:=by induction xs<;>simp
theorem oO (ms:List Int) (h:ms.length≤1000):xK [.lst (ms.map Dat.int)]=some (.val (.bl true)):=by
 apply Wr.eq
 unfold xK
 (refine Dm.Wr.fn ?_ rfl rfl;dsimp only [List.map,List.replicate,List.cons_append,List.nil_append])
 refine Ws.R (We.And (We.e1 (We.v rfl (Wg1.mk (v:=.val (.bl true)) (Wb.mk (Wif.t ?_)) rfl rfl))))
 refine We.B (Was.cons (We.f9 Dat.int ms (fun _=>true) Dat.bl (d:=.lst (ms.map Dat.int)) ?_ rfl rfl rfl (by decide) (by unfold SZ;lia) fun x hx=>?_))
 ·refine Was.nil (WB.all (fun _=>true) ?_ (by rw [List.map_map];rfl))
  rw [E3]
  rfl
 ·exact We.F (Was.cons (We.v rfl (Was.nil (WF.val (jC x) (Wk.val ⟨rfl,rfl⟩) rfl rfl))))
noncomputable def cK (r:List Tie):Int→List Int→Option Int
 | x,[]=>some x
 | x,m::w=>match r.filter (fun t=>decide (t.m=m)) with
  | []=>none
  | t::_=>if t.a=t.b∨¬ (x=t.a∨x=t.b) then none else cK r (t.a+t.b-x) w
theorem cT {n:Int} {r:List Tie} (hr:Good n 0 r) (b:Int):∀ (w used:List Int) (x:Int),walk r used x w=some b↔((w.Nodup∧∀ m∈w,m∉used)∧cK r x w=some b)
 | [],used,x=>by simp [walk,cK]
 | m::w,used,x=>by
  unfold walk cK
  have key:(∀ t,look r m=some t↔t∈r∧t.m=m∧t.a≠t.b):=fun t=>BR hr m t
  by_cases hu:m∈used
  ·rw [if_pos hu]
   constructor
   ·intro h;cases h
   ·rintro ⟨⟨_,h⟩,_⟩
    exact absurd hu (h m List.mem_cons_self)
  rw [if_neg hu]
  cases hf:r.filter (fun t=>decide (t.m=m)) with
  | nil=>
   have:look r m=none:=by
    cases hl:look r m with
    | none=>rfl
    | some t=>
     obtain ⟨h1,h2,_⟩:=(key t).mp hl
     have:t∈r.filter (fun t=>decide (t.m=m)):=List.mem_filter.mpr ⟨h1,decide_eq_true h2⟩
     rw [hf] at this;cases this
   rw [this]
   simp
  | cons t l=>
   have ht:t∈r.filter (fun t=>decide (t.m=m)):=by rw [hf];exact List.mem_cons_self
   obtain ⟨t1,t2⟩:=List.mem_filter.mp ht
   have t2:t.m=m:=of_decide_eq_true t2
   by_cases hab:t.a=t.b
   ·have:look r m=none:=by
     cases hl:look r m with
     | none=>rfl
     | some u=>
      obtain ⟨h1,h2,h3⟩:=(key u).mp hl
      have:=Good.uniq hr t t1 u h1 (by rw [t2,h2])
      subst this
      exact absurd hab h3
    rw [this]
    dsimp only
    rw [if_pos (.inl hab)]
    simp
   ·rw [(key t).mpr ⟨t1,t2,hab⟩]
    dsimp only
    by_cases hx:x=t.a∨x=t.b
    ·rw [if_pos hx,if_neg (by rintro (z | z);exact hab z;exact z hx),cT hr b w (used++[m]) (t.a+t.b-x)]
     constructor
     ·rintro ⟨⟨h1,h2⟩,h3⟩
      refine ⟨⟨List.nodup_cons.mpr ⟨fun z=>h2 m z (by simp),h1⟩,fun y hy=>?_⟩,h3⟩
      rcases List.mem_cons.mp hy with rfl | hy
      ·exact hu
      ·exact fun z=>h2 y hy (by simp [z])
     ·rintro ⟨⟨h1,h2⟩,h3⟩
      obtain ⟨n1,n2⟩:=List.nodup_cons.mp h1
      refine ⟨⟨n2,fun y hy z=>?_⟩,h3⟩
      rcases List.mem_append.mp z with z | z
      ·exact h2 y (List.mem_cons_of_mem _ hy) z
      ·rw [List.mem_singleton] at z
       exact n1 (z▸hy)
    ·rw [if_neg hx,if_pos (.inr hx)]
     simp
theorem E4 (t:Tie):cut [.int t.m,.int t.a,.int t.b] (some 1) none=[.int t.a,.int t.b]:=rfl
theorem E5 {n:Int} {r:List Tie} (hr:Good n 0 r) (hl:r.length≤60) (a b:Int) (w:List Int) (hw:w.length≤1000) :
  xM [ak r,.int a,.int b,.lst (w.map Dat.int)]=some (.val (.bl (decide (walk r [] a w=some b)))):=by
 have e0:decide (walk r [] a w=some b)=(decide w.Nodup&&decide (cK r a w=some b)):=by
  by_cases h:walk r [] a w=some b
  ·obtain ⟨⟨h1,_⟩,h2⟩:=(cT hr b w [] a).mp h
   rw [decide_eq_true h,decide_eq_true h1,decide_eq_true h2];rfl
  ·rw [decide_eq_false h]
   by_cases h1:w.Nodup
   ·rw [decide_eq_true h1,decide_eq_false fun h2=>h ((cT hr b w [] a).mpr ⟨⟨h1,by simp⟩,h2⟩)];rfl
   ·rw [decide_eq_false h1];rfl
 rw [e0]
 apply Wr.eq
 unfold xM
 (refine Dm.Wr.fn ?_ rfl rfl;dsimp only [List.map,List.replicate,List.cons_append,List.nil_append])
 obtain ⟨c,hc,hc2⟩:=jV w (by lia)
 refine Ws.seq (Ws.If (Wt.Or (Wt.Not (Wt.V (We.F (Was.cons (We.v rfl (Was.nil (WF.val (oO w hw) (Wb.mk (Wif.f ?_)) rfl rfl)))))))))
 refine Wt.V (We.e2 (We.e1 (We.v rfl (Wg1.mk (v:=.val (.int (c:Nat))) ?_ rfl hc))))
 refine We.B (Was.cons (We.v rfl (Was.nil (WB.fq (enc:=Dat.int) (xs:=w) ?_ rfl))))
 refine Wg2.ne (Wb.mk ?_) rfl rfl
 rw [dZ]
 by_cases hnd:w.Nodup
 ·rw [decide_eq_true (hc2.mpr hnd),decide_eq_true hnd,Bool.true_and]
  refine Wif.f (Ws.nx ?_)
  refine Ws.seq (Ws.A (We.v rfl (WA.val ?_ (by first | (dsimp only [List.set];first | done | rfl) | rfl))) (by decide))
  refine Ws.seq (Ws.For (Wi.S (We.v rfl (Wk.val ⟨w.map Dat.int,rfl,?_⟩))))
  refine Ws.inv Dat.int _ _ w _ _ _ _ _ (fun p q ρ=>∃ (x:Int) (c5 c6:Cell),ρ=[.sh (ak r),.sh (.int a),.sh (.int b),.sh (.lst (w.map Dat.int)),.sh (.int x),c5,c6]∧cK r a w=cK r x q) ⟨a,_,_,rfl,rfl⟩ ?_ ?_
  ·rintro p m q ρ e ⟨x,c5,c6,rfl,hx⟩
   refine Dm.b5 rfl (by first | (dsimp only [List.set];first | done | rfl) | rfl) ?_
   unfold BC
   refine Ws.seq (Ws.A (We.oH aK r (fun t=>decide (t.m=m)) id aK (d:=ak r) ?_ rfl rfl rfl (by decide) (by unfold SZ;lia) (fun u _=>?_) fun u _ _=>We.v rfl (Wk.val ⟨rfl,rfl⟩)) (by decide))
   rotate_left
   ·refine Wt.V (We.e2 (We.e2 (We.v rfl (We.c (Wg2.ix (v:=.int u.m) ?_ rfl rfl rfl)))))
    exact We.v rfl (Wg2.eq (Wb.mk ⟨rfl,rfl⟩) rfl rfl)
   refine WA.new ?_ (by first | (dsimp only [List.set];first | done | rfl) | rfl)
   rw [List.map_id]
   have hq:cK r x (m::q)=(match r.filter (fun t=>decide (t.m=m)) with
     | []=>none
     | t::_=>if t.a=t.b∨¬ (x=t.a∨x=t.b) then none else cK r (t.a+t.b-x) q):=by rw [cK]
   rw [hq] at hx
   cases hf:r.filter (fun t=>decide (t.m=m)) with
   | nil=>
    rw [hf] at hx
    refine Ws.seq (Ws.If (Wt.Or (Wt.V (We.e2 (We.w rfl (We.L (Was.nil (WT.mk (Wg2.mE (xs:=[]) (Wb.mk (Wif.t (Wif.t (Ws.R (We.c ?_))))) rfl rfl rfl) rfl rfl (by decide)))))))))
    dsimp only at hx
    rw [hx]
    rfl
   | cons t l=>
    rw [hf] at hx
    dsimp only at hx
    have okl:okD 8 (.lst ((t::l).map aK))=true:=pK aK _ fun t=>rfl
    refine Ws.seq (Ws.If (Wt.Or (Wt.V (We.e2 (We.w rfl (We.L (Was.nil (WT.mk (Wg2.mE (xs:=(t::l).map aK) (Wb.mk (Wif.f ?_)) rfl rfl okl) rfl rfl (by decide)))))))))
    have ix0:gIx (.lst ((t::l).map aK)) (.int 0)=some (.val (aK t)):=by
     show (atI ((t::l).map aK) 0).map RV.val=_
     unfold atI ixN
     rw [if_pos (by lia),if_pos (by rw [List.map_cons,List.length_cons];lia)]
     rfl
    refine Wt.Or (Wt.V (We.e2 (We.e2 (We.e2 (We.w rfl (We.c (Wg2.ix (v:=aK t) ?_ rfl rfl ix0)))))))
    refine We.c (Wg2.ix (v:=.int t.a) ?_ rfl rfl rfl)
    refine We.e2 (We.e2 (We.w rfl (We.c (Wg2.ix (v:=aK t) ?_ rfl rfl ix0))))
    refine We.c (Wg2.ix (v:=.int t.b) ?_ rfl rfl rfl)
    refine Wg2.eq (Wb.mk ?_) rfl rfl
    by_cases hab:t.a=t.b
    ·rw [if_pos (.inl hab)] at hx
     rw [decide_eq_true hab]
     refine Wif.t (Wif.t (Ws.R (We.c ?_)))
     rw [hx]
     rfl
    rw [decide_eq_false hab]
    refine Wif.f ?_
    refine Wt.V (We.e2 (We.v rfl (We.SlT (We.e2 (We.w rfl (We.c (Wg2.ix (v:=aK t) ?_ rfl rfl ix0)))))))
    refine Wp.some (We.c (cz.mk (Wp.none ⟨_,rfl,(by show ¬ (sIx 3 0 (some 1)=0∧sIx 3 3 none=3);decide),?_⟩)))
    rw [E4]
    refine Wg2.Mt (a:=t.a) (b:=t.b) (Wb.mk ?_) rfl rfl
    by_cases hm:x=t.a∨x=t.b
    ·rw [decide_eq_true hm]
     refine Wif.f (Ws.nx ?_)
     rw [if_neg (by rintro (z | z);exact hab z;exact z hm)] at hx
     refine Ws.A (We.e2 (We.e2 (We.e2 (We.e2 (We.w rfl (We.c (Wg2.ix (v:=aK t) ?_ rfl rfl ix0))))))) (by decide)
     refine We.c (Wg2.ix (v:=.int t.a) ?_ rfl rfl rfl)
     refine We.e2 (We.e2 (We.w rfl (We.c (Wg2.ix (v:=aK t) ?_ rfl rfl ix0))))
     refine We.c (Wg2.ix (v:=.int t.b) ?_ rfl rfl rfl)
     refine Wg2.add ?_ rfl rfl
     refine We.v rfl (Wg2.sub (WA.val ?_ (by first | (dsimp only [List.set];first | done | rfl) | rfl)) rfl rfl)
     exact ⟨_,_,_,rfl,hx⟩
    ·rw [decide_eq_false hm]
     rw [if_pos (.inr hm)] at hx
     refine Wif.t (Ws.R (We.c ?_))
     rw [hx]
     rfl
  ·rintro ρ ⟨x,c5,c6,rfl,hx⟩
   refine Ws.R (We.e2 (We.v rfl (We.v rfl (Wg2.eq ?_ rfl rfl))))
   rw [hx]
   unfold cK
   have:decide (some x=some b)=decide (x=b):=by by_cases h:x=b<;>simp [h]
   rw [this]
   rfl
 ·rw [decide_eq_false fun z=>hnd (hc2.mp z),decide_eq_false hnd]
  exact Wif.t (Ws.R (We.c rfl))
theorem E6 {n:Int} {r:List Tie} (hr:Good n 0 r) (hl:r.length≤60) (a b:Int) (ws:List (List Int)) (hw:Few ws) :
  xN [ak r,.int a,.int b,au ws]=some (.val (.bl (cC r a b ws))):=by
 obtain ⟨h1,h2,hf⟩:=hw
 apply Wr.eq
 unfold xN cC
 (refine Dm.Wr.fn ?_ rfl rfl;dsimp only [List.map,List.replicate,List.cons_append,List.nil_append])
 refine Ws.seq (Ws.If (Wt.Or (Wt.Not (Wt.V (We.e1 (We.v rfl (Wg1.mk (v:=.val (.bl true)) (Wb.mk (Wif.f ?_)) rfl rfl)))))))
 refine Wt.Not (Wt.V (We.B (Was.cons (We.f9 (fun w:List Int=>Dat.lst (w.map Dat.int)) ws (fun w=>decide (walk r [] a w=some b)) Dat.bl (d:=au ws) ?_ rfl rfl rfl (by decide) (by unfold SZ;lia) fun x hx=>?_))))
 rotate_left
 ·exact We.F (Was.cons (We.v rfl (Was.cons (We.v rfl (Was.cons (We.v rfl (Was.cons (We.v rfl (Was.nil (WF.val (E5 hr hl a b x (h2 x hx)) (Wk.val ⟨rfl,rfl⟩) rfl rfl))))))))))
 refine Was.nil (WB.all (fun w=>decide (walk r [] a w=some b)) (Wb.mk ?_) (by rw [List.map_map];rfl))
 cases ha:ws.all fun w=>decide (walk r [] a w=some b) with
 | false=>
  refine Wif.t (Ws.R (We.c ?_))
  rw [Bool.and_false]
  rfl
 | true=>
  rw [Bool.and_true]
  refine Wif.f (Ws.nx ?_)
  refine Ws.seq (Ws.A (We.L (Was.nil (WT.mk ?_ rfl rfl (by decide)))) (by decide))
  refine WA.new ?_ (by first | (dsimp only [List.set];first | done | rfl) | rfl)
  refine Ws.seq (Ws.For (Wi.S (We.v rfl (Wk.val ⟨ws.map fun w:List Int=>Dat.lst (w.map Dat.int),rfl,?_⟩))))
  refine Ws.inv (fun w:List Int=>Dat.lst (w.map Dat.int)) _ _ ws _ _ _ _ _ (fun p q ρ=>∃ c5,ρ=[.sh (ak r),.sh (.int a),.sh (.int b),.sh (au ws),.ow (.lst (p.flatten.map Dat.int)),c5]) ⟨_,rfl⟩ ?_ ?_
  ·rintro p x q ρ e ⟨c5,rfl⟩
   refine Dm.b5 rfl (by first | (dsimp only [List.set];first | done | rfl) | rfl) ?_
   unfold BE
   have hl:ws.flatten.length=p.flatten.length+x.length+q.flatten.length:=by rw [e];simp;lia
   refine Ws.A (We.e2 (We.w rfl (We.v rfl (Wg2.JG (xs:=p.flatten) (ys:=x) ?_ rfl rfl (by unfold SZ;lia))))) (by decide)
   refine WA.new ⟨.sh (.lst (x.map Dat.int)),?_⟩ (by first | (dsimp only [List.set];first | done | rfl) | rfl)
   rw [pT]
  ·rintro ρ ⟨c5,rfl⟩
   obtain ⟨c,hc,hc2⟩:=jV ws.flatten hf
   refine Ws.R (We.e2 (We.e1 (We.w rfl (Wg1.mk (v:=.val (.int (c:Nat))) ?_ rfl hc))))
   refine We.B (Was.cons (We.w rfl (Was.nil (WB.fq (enc:=Dat.int) (xs:=ws.flatten) ?_ rfl))))
   refine Wg2.eq ?_ rfl rfl
   rw [dZ]
   have:decide (c=ws.flatten.length)=decide ws.flatten.Nodup:=by
    by_cases h:ws.flatten.Nodup
    ·rw [decide_eq_true h,decide_eq_true (hc2.mpr h)]
    ·rw [decide_eq_false h,decide_eq_false fun z=>h (hc2.mp z)]
   rw [this]
   rfl
theorem E7 (i:Nat) (ρ:Env) (a n:Int) (h0:ρ[0]?=some (.sh (.int n))) (hi:ρ[i]?=some (.sh (.int a))):e7 gLe gLt (eC (.int 0)) (eV i) (eV 0) ρ=some (.val (.bl (decide (0≤a∧a<n))),ρ):=by
 have e1:gLe (.int 0) (.int a)=some (.val (.bl (decide (0≤a)))):=rfl
 have e2:gLt (.int a) (.int n)=some (.val (.bl (decide (a<n)))):=rfl
 unfold e7
 simp only [eC,eV,h0,hi,pk,e1,e2,RV.bW]
 by_cases q:0≤a
 ·rw [decide_eq_true q]
  have:decide (0≤a∧a<n)=decide (a<n):=by simp [q]
  rw [this]
 ·rw [decide_eq_false q,decide_eq_false (p:=0≤a∧a<n) fun z=>q z.1]
theorem vF (n:Int) (S:List Int) (hl:S.length≤1000):xO [.int n,tupI S]=some (.val (.bl (jB n S))):=by
 apply Wr.eq
 unfold xO tupI jB
 (refine Dm.Wr.fn ?_ rfl rfl;dsimp only [List.map,List.replicate,List.cons_append,List.nil_append])
 refine Ws.seq (Ws.If (Wt.Or (Wt.Not (Wt.V (We.e1 (We.v rfl (Wg1.mk (v:=.val (.bl true)) (Wb.mk (Wif.f ?_)) rfl rfl)))))))
 refine Wt.Not (Wt.V (We.B (Was.cons (We.f9 Dat.int S (fun x=>decide (0≤x∧x<n)) Dat.bl ?_ rfl rfl rfl (by decide) (by unfold SZ;lia) (fun x hx=>?_)))))
 rotate_left
 ·refine We.And (We.F (Was.cons (We.v rfl (Was.nil (WF.val (jC x) (Wb.mk (Wif.t ?_)) rfl rfl)))))
  exact ⟨_,_,E7 2 _ x n rfl rfl,Wk.val ⟨rfl,rfl⟩⟩
 refine Was.nil (WB.all (fun x=>decide (0≤x∧x<n)) (Wb.mk ?_) (by rw [List.map_map];rfl))
 cases ha:S.all fun x=>decide (0≤x∧x<n) with
 | false=>exact Wif.t (Ws.R (We.c rfl))
 | true=>
  refine Wif.f (Ws.nx ?_)
  rw [Bool.true_and]
  have ix:∀ (i:Int) (h0:0≤i) (h1:i<S.length) {o p:Option Dat} {K:RV→Prop},K (.val (.int (S[i.toNat]'(by lia))))→o=some (.tup (S.map Dat.int))→p=some (.int i)→Wg2 gIx o p K:=fun i h0 h1 {o p K} k ho hp=>BU (xs:=S) (enc:=Dat.int) h0 h1 k ho hp
  have len:bX [.tup (S.map Dat.int)]=some (.val (.int (S.length:Nat))):=by
   show some (RV.val (.int ((S.map Dat.int).length:Nat)))=_
   rw [List.length_map]
  refine Ws.R (We.B (Was.cons ?_))
  refine We.Comp (fun i:Nat=>Dat.int (1+(i:Nat))) (List.range (S.length-1)) (fun _=>true) (fun i=>Dat.bl (decide (S.getD i 0<S.getD (i+1) 0))) ?_ (ρ1:=[.sh (.int n),.sh (.tup (S.map Dat.int))]) ?_ rfl (by decide) (by simp [SZ];lia) (fun i _=>?_) (fun i hi _=>?_)
  ·refine Was.nil (WB.all (fun i=>decide (S.getD i 0<S.getD (i+1) 0)) ?_ (by rw [List.filter_eq_self.mpr (fun _ _=>rfl)];rfl))
   rfl
  ·apply Wi.get
   refine Wi.R2 (We.c (cz.mk (We.B (Was.cons (We.v rfl (Was.nil ⟨_,_,rfl,len,?_⟩))))))
   refine cz.mk ⟨⟨?_,rfl⟩,by unfold BIG;lia,by unfold BIG;lia,by unfold BIG;lia,by unfold BIG;lia⟩
   have e2:(((S.length:Nat):Int)-1).toNat=S.length-1:=by lia
   rw [e2]
   rfl
  ·exact Wt.T ⟨rfl,rfl⟩
  ·have hi':i<S.length-1:=List.mem_range.mp hi
   refine We.e2 (We.e2 (We.v rfl (We.e2 (We.v rfl (We.c (Wg2.sub (ix _ (by lia) (by lia) ?_ rfl rfl) rfl rfl))))))
   refine We.e2 (We.v rfl (We.v rfl (ix _ (by lia) (by lia) ?_ rfl rfl)))
   refine Wg2.lt (Wk.val ⟨?_,rfl⟩) rfl rfl
   have e1:S.getD i 0=S[(1+(i:Int)-1).toNat]'(by omega):=by
    rw [List.getD_eq_getElem?_getD,List.getElem?_eq_getElem (by lia)]
    simp only [Option.getD_some]
    congr 1;lia
   have e2:S.getD (i+1) 0=S[(1+(i:Int)).toNat]'(by lia):=by
    rw [List.getD_eq_getElem?_getD,List.getElem?_eq_getElem (by lia)]
    simp only [Option.getD_some]
    congr 1;lia
   rw [e1,e2]
theorem BX (n:Int) (K:List Tie) (hl:K.length≤60) (k:Nat) (t:Tie) (S:List Int) (hS:S.length≤1000):xP [.int n,ak K,aK t,.int (k:Nat),tupI S]=some (.val (.bl (dY n K k t S))):=by
 apply Wr.eq
 unfold xP dY
 (refine Dm.Wr.fn ?_ rfl rfl;dsimp only [List.map,List.replicate,List.cons_append,List.nil_append])
 refine Ws.seq (Ws.If (Wt.Not (Wt.V (We.F (Was.cons (We.v rfl (Was.cons (We.v rfl (Was.nil (WF.val (vF n S hS) (Wb.mk ?_) rfl rfl))))))))))
 cases hs:jB n S with
 | false=>exact Wif.t (Ws.R (We.c rfl))
 | true=>
  refine Wif.f (Ws.nx ?_)
  refine Ws.seq (Ws.A (We.F (Was.cons (We.v rfl (Was.cons (We.v rfl (Was.nil (WF.box (vD K (by lia) S) ?_ rfl rfl rfl rfl))))))) (by decide))
  refine WA.new ?_ (by first | (dsimp only [List.set];first | done | rfl) | rfl)
  refine Ws.R (We.And (We.e2 (We.e2 (We.v rfl (We.c (Wg2.ix (v:=.int t.m) ?_ rfl rfl rfl))))))
  refine We.w rfl (Wg2.inL (xs:=cL K S) (Wb.mk ?_) rfl rfl)
  by_cases h:t.m∈cL K S
  ·rw [decide_eq_true h]
   refine Wif.t (We.e2 (We.B (Was.cons (We.w rfl (Was.nil (WB.fq (enc:=Dat.int) (xs:=cL K S) ?_ rfl))))))
   refine We.v rfl (Wg2.le ?_ rfl rfl)
   have:decide (((cL K S).length:Int)≤(k:Int))=decide ((cL K S).length≤k):=by
    by_cases z:(cL K S).length≤k
    ·rw [decide_eq_true z,decide_eq_true (by lia)]
    ·rw [decide_eq_false z,decide_eq_false (by lia)]
   rw [this]
   rfl
  ·rw [decide_eq_false h]
   exact Wif.f rfl
theorem vG (K:List Tie) (a:Int) (k:Nat):cC K a a (dO k)=true:=by
 unfold cC dO
 have h1:(List.replicate k ([]:List Int)).flatten=[]:=by induction k<;>simp_all [List.replicate_succ]
 rw [h1,Bool.and_eq_true]
 refine ⟨decide_eq_true List.nodup_nil,?_⟩
 rw [List.all_eq_true]
 intro w hw
 rw [(List.mem_replicate.mp hw).2]
 exact decide_eq_true rfl
theorem k7 (K:List Tie) (k:Nat) (t:Tie) (ws:List (List Int)):fN K k t ws=(decide (ws.length=k)&&(cC K t.a t.b ws&&(!decide (t.a=t.b)||decide (ws=dO k)))):=by
 unfold fN
 by_cases h:t.a=t.b
 ·rw [if_pos h,decide_eq_true h]
  by_cases e:ws=dO k
  ·subst e
   have:(dO k).length=k:=List.length_replicate
   rw [h,vG,decide_eq_true this]
   simp
  ·simp [e]
 ·rw [if_neg h,decide_eq_false h]
  simp
theorem xY {n:Nat} (hn:n≤10) {r:List Tie} (hr:Good n 0 r) (hl:r.length≤60) {k:Nat} (k6:k≤6) {M:List Int} {W:List (List (List Int))} {S:List (List Int)} (sh:Shape M W S) :
  sr [.int (n:Nat),ak r,.int (k:Nat),aR M W S]=some (.val (.bl (dP n r k M W S))):=by
 have hK:Good n 0 (aE r M):=hr.filter _
 have lK:(aE r M).length≤60:=Nat.le_trans (List.length_filter_le _ _) hl
 have lG:(aU r M).length≤60:=Nat.le_trans (List.length_filter_le _ _) hl
 apply Wr.eq
 unfold sr
 (refine Dm.Wr.fn ?_ rfl rfl;dsimp only [List.map,List.replicate,List.cons_append,List.nil_append])
 refine Ws.seq (Ws.U (We.v rfl (Wk.val ⟨_,_,rfl,rfl,?_⟩)))
 refine Ws.seq (Ws.A (We.oH aK r (fun t=>decide (t.m∈M)) id aK (d:=ak r) ?_ rfl rfl rfl (by decide) (by unfold SZ;lia) (fun u _=>?_) fun u _ _=>We.v rfl (Wk.val ⟨rfl,rfl⟩)) (by decide))
 rotate_left
 ·refine Wt.V (We.e2 (We.e2 (We.v rfl (We.c (Wg2.ix (v:=.int u.m) ?_ rfl rfl rfl)))))
  exact We.v rfl (Wg2.inL (xs:=M) (Wb.mk ⟨rfl,rfl⟩) rfl rfl)
 refine WA.new ?_ (by first | (dsimp only [List.set];first | done | rfl) | rfl)
 refine Ws.seq (Ws.A (We.oH aK r (fun t=>!decide (t.m∈M)) id aK (d:=ak r) ?_ rfl rfl rfl (by decide) (by unfold SZ;lia) (fun u _=>?_) fun u _ _=>We.v rfl (Wk.val ⟨rfl,rfl⟩)) (by decide))
 rotate_left
 ·refine Wt.V (We.e2 (We.e2 (We.v rfl (We.c (Wg2.ix (v:=.int u.m) ?_ rfl rfl rfl)))))
  exact We.v rfl (Wg2.Mr (xs:=M) (Wb.mk ⟨rfl,rfl⟩) rfl rfl)
 refine WA.new ?_ (by first | (dsimp only [List.set];first | done | rfl) | rfl)
 rw [List.map_id,List.map_id]
 show Ws _ [.sh (.int (n:Nat)),.sh (ak r),.sh (.int (k:Nat)),.sh (aR M W S),.sh (.lst (M.map Dat.int)),.sh (.lst (W.map au)),.sh (.lst (S.map tupI)),.ow (ak (aE r M)),.ow (ak (aU r M)),.un,.un] _ _ _ _
 unfold dP
 refine Ws.seq (Ws.If (Wt.Or (Wt.V (We.e2 (We.EI aK (aE r M) (·.m) Dat.int ?_ rfl (by first | (dsimp only [List.set];first | done | rfl) | rfl) rfl (by decide) (by unfold SZ;lia) fun t ht=>?_)))))
 rotate_left
 ·exact We.e2 (We.v rfl (We.c (Wg2.ix (v:=.int t.m) (Wk.val ⟨rfl,rfl⟩) rfl rfl rfl)))
 refine We.v rfl (Wg2.neI (N:=(aE r M).map (·.m)) (M:=M) (Wb.mk ?_) rfl rfl)
 by_cases h1:(aE r M).map (·.m)=M
 rotate_left
 ·rw [decide_eq_false h1]
  exact Wif.t (Wif.t (Ws.R (We.c rfl)))
 rw [decide_eq_true h1]
 refine Wif.f ?_
 refine Wt.Or (Wt.V (We.e2 (We.B (Was.cons (We.v rfl (Was.nil (WB.fq (enc:=au) (xs:=W) ?_ rfl)))))))
 refine We.B (Was.cons (We.w rfl (Was.nil (WB.fq (enc:=aK) (xs:=aU r M) ?_ rfl))))
 refine Wg2.ne (Wb.mk ?_) rfl rfl
 rw [dZ]
 by_cases h3:W.length=(aU r M).length
 rotate_left
 ·rw [decide_eq_false h3,decide_eq_false (p:=W.length=(aU r M).length∧S.length=(aE r M).length) fun z=>h3 z.1]
  exact Wif.t (Wif.t (Ws.R (We.c rfl)))
 rw [decide_eq_true h3]
 refine Wif.f ?_
 refine Wt.V (We.e2 (We.B (Was.cons (We.v rfl (Was.nil (WB.fq (enc:=tupI) (xs:=S) ?_ rfl))))))
 refine We.B (Was.cons (We.w rfl (Was.nil (WB.fq (enc:=aK) (xs:=aE r M) ?_ rfl))))
 refine Wg2.ne (Wb.mk ?_) rfl rfl
 rw [dZ]
 by_cases h4:S.length=(aE r M).length
 rotate_left
 ·rw [decide_eq_false h4,decide_eq_false (p:=W.length=(aU r M).length∧S.length=(aE r M).length) fun z=>h4 z.2]
  exact Wif.t (Ws.R (We.c rfl))
 rw [decide_eq_true h4,decide_eq_true (p:=W.length=(aU r M).length∧S.length=(aE r M).length) ⟨h3,h4⟩]
 refine Wif.f (Ws.nx ?_)
 refine Ws.seq (Ws.For ⟨((aU r M).zip W).map fun p=>.tup [aK p.1,au p.2],[.sh (.int (n:Nat)),.sh (ak r),.sh (.int (k:Nat)),.sh (aR M W S),.sh (.lst (M.map Dat.int)),.sh (.lst (W.map au)),.sh (.lst (S.map tupI)),.ow (ak (aE r M)),.sh (ak (aU r M)),.un,.un],(by rw [← mR];rfl),?_⟩)
 refine Ws.inv (fun p:Tie×List (List Int)=>Dat.tup [aK p.1,au p.2]) _ _ ((aU r M).zip W) _ _ _ _ _ (fun p q ρ=>∃ (c9 c10:Cell),ρ=[.sh (.int (n:Nat)),.sh (ak r),.sh (.int (k:Nat)),.sh (aR M W S),.sh (.lst (M.map Dat.int)),.sh (.lst (W.map au)),.sh (.lst (S.map tupI)),.ow (ak (aE r M)),.sh (ak (aU r M)),c9,c10]∧(p.all fun p=>fN (aE r M) k p.1 p.2)=true) ⟨_,_,rfl,rfl⟩ ?_ ?_
 ·rintro p x q ρ e ⟨c9,c10,rfl,hp⟩
  have hx:x∈(aU r M).zip W:=by rw [e];simp
  have hw:=sh.fw _ (List.of_mem_zip hx).2
  obtain ⟨t,ws⟩:=x
  refine Dm.b5 rfl (by first | (dsimp only [List.set];first | done | rfl) | rfl) ?_
  unfold BG
  have bad:fN (aE r M) k t ws=false→(((aU r M).zip W).all fun p=>fN (aE r M) k p.1 p.2)=false:=fun z=>by
   rw [List.all_eq_false]
   exact ⟨(t,ws),hx,by rw [z];decide⟩
  refine Ws.seq (Ws.If (Wt.Or (Wt.V (We.e2 (We.B (Was.cons (We.v rfl (Was.nil (WB.fq (enc:=fun w:List Int=>Dat.lst (w.map Dat.int)) (xs:=ws) ?_ rfl)))))))))
  refine We.v rfl (Wg2.ne (Wb.mk ?_) rfl rfl)
  rw [dZ]
  by_cases g1:ws.length=k
  rotate_left
  ·rw [decide_eq_false g1]
   refine Wif.t (Wif.t (Ws.R (We.c ?_)))
   rw [bad (by rw [k7,decide_eq_false g1];rfl)]
   rfl
  rw [decide_eq_true g1]
  refine Wif.f ?_
  refine Wt.Not (Wt.V (We.F (Was.cons (We.w rfl (Was.cons (We.e2 (We.v rfl (We.c (Wg2.ix (v:=.int t.a) ?_ rfl rfl rfl)))))))))
  refine Was.cons (We.e2 (We.v rfl (We.c (Wg2.ix (v:=.int t.b) ?_ rfl rfl rfl))))
  refine Was.cons (We.v rfl (Was.nil (WF.val (E6 hK lK t.a t.b ws hw) (Wb.mk ?_) rfl rfl)))
  cases g2:cC (aE r M) t.a t.b ws with
  | false=>
   refine Wif.t (Ws.R (We.c ?_))
   rw [bad (by rw [k7,g2];simp)]
   rfl
  | true=>
   refine Wif.f (Ws.nx ?_)
   have next:(!decide (t.a=t.b)||decide (ws=dO k))=true→∃ (c9 c10:Cell),[.sh (.int (n:Nat)),.sh (ak r),.sh (.int (k:Nat)),.sh (aR M W S),.sh (.lst (M.map Dat.int)),.sh (.lst (W.map au)),.sh (.lst (S.map tupI)),.ow (ak (aE r M)),.sh (ak (aU r M)),.sh (aK t),.sh (au ws)]=[.sh (.int (n:Nat)),.sh (ak r),.sh (.int (k:Nat)),.sh (aR M W S),.sh (.lst (M.map Dat.int)),.sh (.lst (W.map au)),.sh (.lst (S.map tupI)),.ow (ak (aE r M)),.sh (ak (aU r M)),c9,c10]∧((p++[(t,ws)]).all fun p=>fN (aE r M) k p.1 p.2)=true:=fun z=>⟨_,_,rfl,by
    rw [List.all_append,hp,List.all_cons,k7,decide_eq_true g1,g2,z];rfl⟩
   refine Ws.If (Wt.And (Wt.V (We.e2 (We.e2 (We.v rfl (We.c (Wg2.ix (v:=.int t.a) ?_ rfl rfl rfl)))))))
   refine We.e2 (We.v rfl (We.c (Wg2.ix (v:=.int t.b) ?_ rfl rfl rfl)))
   refine Wg2.eq (Wb.mk ?_) rfl rfl
   by_cases g3:t.a=t.b
   rotate_left
   ·rw [decide_eq_false g3]
    exact Wif.f (Wif.f (Ws.nx (next (by rw [decide_eq_false g3];rfl))))
   rw [decide_eq_true g3]
   refine Wif.t (Wt.V (We.e2 (We.v rfl ?_)))
   refine We.Map (fun i:Nat=>Dat.int (0+(i:Nat))) (List.range k) (fun _=>Dat.lst []) id (ρ1:=[.sh (.int (n:Nat)),.sh (ak r),.sh (.int (k:Nat)),.sh (aR M W S),.sh (.lst (M.map Dat.int)),.sh (.lst (W.map au)),.sh (.lst (S.map tupI)),.ow (ak (aE r M)),.sh (ak (aU r M)),.sh (aK t),.sh (au ws)]) ?_ ?_ rfl (by decide) (by rw [List.length_range];unfold SZ;lia) fun i _=>?_
   ·rw [List.map_id,sP]
    refine Wg2.JR (N:=ws) (M:=dO k) (Wb.mk ?_) rfl rfl
    by_cases g4:ws=dO k
    ·rw [decide_eq_true g4]
     exact Wif.f (Ws.nx (next (by rw [decide_eq_true g4,Bool.or_true])))
    ·rw [decide_eq_false g4]
     refine Wif.t (Ws.R (We.c ?_))
     rw [bad (by rw [k7,decide_eq_true g3,decide_eq_false g4];simp)]
     rfl
   ·apply Wi.get
    refine Wi.R1 (We.v rfl (cz.mk ⟨⟨?_,rfl⟩,by unfold BIG;lia,by unfold BIG;lia⟩))
    rw [Int.toNat_natCast]
    rfl
   ·exact We.L (Was.nil (WT.mk (Wk.new ⟨rfl,rfl⟩) rfl rfl (by decide)))
 ·rintro ρ ⟨c9,c10,rfl,hp⟩
  rw [hp]
  refine Ws.R (We.vE aK tupI (aE r M) S (fun p=>dY n (aE r M) k p.1 p.2) (ρ1:=[.sh (.int (n:Nat)),.sh (ak r),.sh (.int (k:Nat)),.sh (aR M W S),.sh (.lst (M.map Dat.int)),.sh (.lst (W.map au)),.sh (.lst (S.map tupI)),.sh (ak (aE r M)),.sh (ak (aU r M)),c9,c10]) ?_ rfl rfl (by decide) (by unfold SZ;lia) fun x hx=>?_)
  ·rfl
  ·have hs:x.2∈S:=(List.of_mem_zip hx).2
   exact We.F (Was.cons (We.v rfl (Was.cons (We.v rfl (Was.cons (We.v rfl (Was.cons (We.v rfl (Was.cons (We.v rfl (Was.nil (WF.val (BX n (aE r M) lK k x.1 x.2 (by have:=sh.kK _ hs;lia)) (Wk.val ⟨rfl,rfl⟩) rfl rfl))))))))))))
theorem jW {n:Int} {r:List Tie} (hr:Good n 0 r):∀ {w:List Step} {x y:Int},Way (fG r) x w y→cK r x (mso w)=some y
 | [],x,y,h=>by cases h;rfl
 | s::w,x,y,h=>by
  obtain ⟨⟨t,ht,tm,te⟩,hw⟩:=h
  show cK r x (s.1::mso w)=some y
  unfold cK
  have hm:t∈r.filter (fun t=>decide (t.m=s.1)):=List.mem_filter.mpr ⟨ht,decide_eq_true tm⟩
  cases hf:r.filter (fun t=>decide (t.m=s.1)) with
  | nil=>rw [hf] at hm;cases hm
  | cons u l=>
   have hu:u∈r.filter (fun t=>decide (t.m=s.1)):=by rw [hf];exact List.mem_cons_self
   obtain ⟨u1,u2⟩:=List.mem_filter.mp hu
   have:u=t:=Good.uniq hr u u1 t ht (by rw [of_decide_eq_true u2,tm])
   subst this
   dsimp only
   obtain ⟨ne,e | e⟩:=te
   ·rw [if_neg (by rintro (z | z);exact ne z;exact z (.inl e.1.symm)),show u.a+u.b-x=s.2 by lia]
    exact jW hr hw
   ·rw [if_neg (by rintro (z | z);exact ne z;exact z (.inr e.1.symm)),show u.a+u.b-x=s.2 by lia]
    exact jW hr hw
theorem qK.right {n:Int} {r:List Tie} (hr:Good n 0 r) {a b:Int} {ws:List (List Step)} (W:qK r a b ws):cC r a b (ws.map mso)=true:=by
 unfold cC
 rw [Bool.and_eq_true]
 refine ⟨decide_eq_true W.nd,?_⟩
 rw [List.all_eq_true]
 intro m hm
 obtain ⟨w,hw,rfl⟩:=List.mem_map.mp hm
 refine decide_eq_true ((cT hr b (mso w) [] a).mpr ⟨⟨?_,by simp⟩,jW hr (W.way w hw).way⟩)
 obtain ⟨p,q,e⟩:=List.append_of_mem hm
 have:=W.nd
 rw [e,List.flatten_append,List.flatten_cons] at this
 exact (List.nodup_append.mp (List.nodup_append.mp this).2.1).1
theorem jX (r:List Tie) (L:List Int):(cL r L).length=bE r fun q=>decide (q∈L):=by
 unfold cL
 rw [List.length_map]
 rfl
theorem Kept.gone {r:List Tie} {k:Nat} {K:List Tie} (h:Kept r k r K) {t:Tie} (ht:t∈r) (hK:t∉K) (S:Int→Bool) (h1:S t.a=true) (h2:S t.b=false):k≤bE K S:=by
 have hlow:=h.low S
 by_cases hc:k≤bE K S
 ·exact hc
 ·exfalso
  have le:bE r S≤bE K S:=by lia
  have sub:(K.filter (over S)).Sublist (r.filter (over S)):=h.sub.filter _
  have e:=sub.eq_of_length_le le
  have ho:over S t=true:=by unfold over;rw [h1,h2];rfl
  have:t∈r.filter (over S):=List.mem_filter.mpr ⟨ht,ho⟩
  rw [← e] at this
  exact hK (List.mem_filter.mp this).1
theorem BY (ws:List (List Step)):Dat.lst (ws.map msD)=au (ws.map mso):=by
 unfold au
 rw [List.map_map]
 rfl
theorem E8 {ws:List (List Int)} {w:List Int} (h:w∈ws):w.length≤ws.flatten.length:=by
 obtain ⟨p,q,rfl⟩:=List.append_of_mem h
 rw [List.flatten_append,List.flatten_cons,List.length_append,List.length_append]
 lia
theorem qK.Oh {r:List Tie} {a b:Int} {ws:List (List Step)} (W:qK r a b ws):(ws.map mso).flatten.length≤r.length:=by
 have sub:∀ m∈(ws.map mso).flatten,m∈r.map (·.m):=fun m hm=>by
  obtain ⟨l,hl,hm⟩:=List.mem_flatten.mp hm
  obtain ⟨w,hw,rfl⟩:=List.mem_map.mp hl
  obtain ⟨s,hs,rfl⟩:=List.mem_map.mp hm
  exact vv (fun p s z=>z) (W.way w hw).way s hs
 have:=W.nd.length_le_of_subset (fun m hm=>sub m hm)
 rw [List.length_map] at this
 exact this
theorem kL {n:Nat} {K:List Tie} (h:Fit n K) (g:Good n 0 K) (lK:K.length≤60) {a b:Int} (a0:0≤a) (a1:a<n) (b0:0≤b) (b1:b<n) {k:Nat} (k6:k≤6) (hk:∀ S:Int→Bool,S a=true→S b=false→k≤bE K S) :
  ∃ ws:List (List Int),pO [.int n,ak K,.int a,.int b,.int k]=some (.val (au ws))∧ws.length=k∧cC K a b ws=true∧∀ w∈ws,w.length≤60:=by
 obtain ⟨ws,o,e,A⟩:=d_ n h.n40 K h.pl h.nd h.len a b a0 a1 b0 b1 k (by lia) (by lia)
 refine ⟨ws.map mso,?_,?_,A.ways.right g,fun w hw=>?_⟩
 ·rw [← BY]
  apply Wr.eq
  unfold pO
  (refine Dm.Wr.fn ?_ rfl rfl;dsimp only [List.map,List.replicate,List.cons_append,List.nil_append])
  refine Ws.R (We.e2 (We.F (Was.cons (We.v rfl (Was.cons (We.v rfl (Was.cons (We.v rfl (Was.cons (We.v rfl (Was.cons (We.v rfl (Was.nil (WF.box e ?_ rfl rfl rfl rfl))))))))))))))
  exact We.c (Wg2.ix rfl rfl rfl rfl)
 ·rw [List.length_map]
  cases o with
  | none=>have:=A.all rfl;lia
  | some S=>
   obtain ⟨⟨_,_,s1,s2⟩,s3,s4⟩:=A.side S rfl
   have:=hk (fun x=>decide (x∈S)) (decide_eq_true s1) (decide_eq_false s2)
   rw [← jX] at this
   lia
 ·exact Nat.le_trans (E8 hw) (Nat.le_trans A.ways.Oh lK)
theorem BZ {n:Nat} {a b:Int} {S:List Int} (s:JL n a b S):S.length≤n:=by
 have h1:S.length≤((List.range n).map fun i:Nat=>(i:Int)).length:=(BV s.1).length_le_of_subset fun x hx=>by
  obtain ⟨z1,z2⟩:=s.2.1 x hx
  exact List.mem_map.mpr ⟨x.toNat,List.mem_range.mpr (by lia),by lia⟩
 rw [List.length_map,List.length_range] at h1
 exact h1
theorem sV {n:Nat} (n10:n≤10) {K:List Tie} (h:Fit n K) {t:Tie} (ht:t∈K) {k:Nat} (k6:k≤6) (hc:∃ S:Int→Bool,S t.a=true∧S t.b=false∧bE (outF K t) S<k) :
  ∃ S:List Int,ki [.int n,ak K,aK t,.int k]=some (.val (tupI S))∧dY n K k t S=true∧S.length≤20:=by
 have hp:=h.pl t ht
 have h':=h.out t
 obtain ⟨ws,o,e,A⟩:=d_ n h'.n40 _ h'.pl h'.nd h'.len t.a t.b hp.1 hp.2.1 hp.2.2.1 hp.2.2.2 k (by lia) (by lia)
 cases o with
 | none=>
  obtain ⟨S,s1,s2,s3⟩:=hc
  have:=A.all rfl
  have:=MA A.ways s1 s2
  lia
 | some S=>
  obtain ⟨q1,q2,q3⟩:=A.side S rfl
  refine ⟨S,?_,?_,Nat.le_trans (BZ q1) (by lia)⟩
  ·apply Wr.eq
   unfold ki
   (refine Dm.Wr.fn ?_ rfl rfl;dsimp only [List.map,List.replicate,List.cons_append,List.nil_append])
   refine Ws.R (We.e2 (We.F (Was.cons (We.v rfl (Was.cons (We.F (Was.cons (We.v rfl (Was.cons (We.v rfl (Was.nil (WF.box (mP K h.len t) ?_ rfl rfl rfl rfl))))))))))))
   refine Was.cons (We.e2 (We.v rfl (We.c (Wg2.ix ?_ rfl rfl rfl))))
   refine Was.cons (We.e2 (We.v rfl (We.c (Wg2.ix ?_ rfl rfl rfl))))
   refine Was.cons (We.v rfl (Was.nil (WF.box e ?_ rfl rfl rfl rfl)))
   exact We.c (Wg2.ix rfl rfl rfl rfl)
  ·unfold dY jB
   have c1:(S.all fun x=>decide (0≤x∧x<(n:Int)))=true:=by
    rw [List.all_eq_true]
    exact fun x hx=>decide_eq_true (q1.2.1 x hx)
   have c2:t.m∈cL K S:=List.mem_map.mpr ⟨t,List.mem_filter.mpr ⟨ht,by unfold ovr;rw [decide_eq_true q1.2.2.1,decide_eq_false q1.2.2.2];rfl⟩,rfl⟩
   have c3:(cL K S).length≤k:=by
    have:=oM h.nodup t (fun x=>decide (x∈S))
    rw [← jX,← jX] at this
    lia
   rw [c1,(eW S).mpr q1.1,decide_eq_true c2,decide_eq_true c3]
   rfl
theorem pick {α β:Type} {P:α→β→Prop}:∀ l:List α,(∀ x∈l,∃ y,P x y)→∃ ys:List β,ys.length=l.length∧∀ p∈l.zip ys,P p.1 p.2
 | [],_=>⟨[],rfl,fun p hp=>by cases hp⟩
 | x::l,h=>by
  obtain ⟨y,hy⟩:=h x List.mem_cons_self
  obtain ⟨ys,e,k⟩:=pick l fun z hz=>h z (List.mem_cons_of_mem _ hz)
  refine ⟨y::ys,by rw [List.length_cons,List.length_cons,e],fun p hp=>?_⟩
  rw [List.zip_cons_cons] at hp
  rcases List.mem_cons.mp hp with rfl | hp
  ·exact hy
  ·exact k p hp
theorem mS {α β:Type} {f:α→Dat} {g:β→Dat}:∀ (l:List α) (ys:List β),ys.length=l.length→(∀ p∈l.zip ys,f p.1=g p.2)→l.map f=ys.map g
 | [],[],_,_=>rfl
 | [],_::_,e,_=>by cases e
 | _::_,[],e,_=>by cases e
 | x::l,y::ys,e,h=>by
  rw [List.map_cons,List.map_cons,h (x,y) (by rw [List.zip_cons_cons];exact List.mem_cons_self),mS l ys (by simpa using e) fun p hp=>h p (by rw [List.zip_cons_cons];exact List.mem_cons_of_mem _ hp)]
theorem k8 {α β:Type}:∀ (l:List α) (ys:List β),ys.length=l.length→∀ y∈ys,∃ x∈l,(x,y)∈l.zip ys
 | [],[],_,y,hy=>by cases hy
 | [],_::_,e,_,_=>by cases e
 | _::_,[],e,_,_=>by cases e
 | x::l,z::ys,e,y,hy=>by
  rw [List.zip_cons_cons]
  rcases List.mem_cons.mp hy with rfl | hy
  ·exact ⟨x,List.mem_cons_self,List.mem_cons_self⟩
  ·obtain ⟨w,h1,h2⟩:=k8 l ys (by simpa using e) y hy
   exact ⟨w,List.mem_cons_of_mem _ h1,List.mem_cons_of_mem _ h2⟩
noncomputable def got (o:Option RV):Dat:=(o.map RV.dat).getD .non
theorem mT {r K:List Tie} (s:K.Sublist r):(r.map (·.m)).Nodup→r.filter (fun t=>decide (t.m∈K.map (·.m)))=K:=by
 induction s with
 | slnil=>intro _;rfl
 | cons a s ih=>
  rename_i K' r'
  intro nd
  rw [List.map_cons,List.nodup_cons] at nd
  rw [List.filter_cons_of_neg,ih nd.2]
  simp only [decide_eq_true_iff]
  exact fun z=>nd.1 ((s.map (·.m)).subset z)
 | cons_cons a s ih=>
  rename_i K' r'
  intro nd
  rw [List.map_cons,List.nodup_cons] at nd
  rw [List.filter_cons_of_pos (by simp)]
  congr 1
  conv=>rhs;rw [← ih nd.2]
  apply List.filter_congr
  intro t ht
  apply decide_eq_decide.mpr
  rw [List.map_cons,List.mem_cons]
  constructor
  ·rintro (e | e)
   ·exact absurd (List.mem_map.mpr ⟨t,ht,e⟩) nd.1
   ·exact e
  ·exact .inr
noncomputable def gF (n k:Nat) (K:List Tie) (t:Tie):Dat:=if t.a=t.b then got (pN [.int k]) else got (pO [.int n,ak K,.int t.a,.int t.b,.int k])
theorem sW (aH aW:Nat) {n:Nat} {r K:List Tie} (h:Fit n r) (hr:Good n 0 r) (hl:r.length≤60) {k:Nat} (k6:k≤6) (hK:Kept r k r K) :
  ∃ W:List (List (List Int)),xF aH aW [.int n,ak r,ak K,.int k,.fn aW]=some (.new (.lst (W.map au)))∧W.length=(r.filter fun t=>!decide (t∈K)).length∧∀ p∈(r.filter fun t=>!decide (t∈K)).zip W,fN K k p.1 p.2=true∧p.2.length=k∧∀ w∈p.2,w.length≤60:=by
 have fK:=h.sub hK.sub
 have gK:Good n 0 K:=by
  have:=hr.filter (fun t=>decide (t.m∈K.map (·.m)))
  rw [mT hK.sub h.nd] at this
  exact this
 have lK:K.length≤60:=Nat.le_trans hK.sub.length_le hl
 have each:∀ t∈(r.filter fun t=>!decide (t∈K)),∃ ws:List (List Int),gF n k K t=au ws∧(t.a≠t.b→pO [.int n,ak K,.int t.a,.int t.b,.int k]=some (.val (au ws)))∧fN K k t ws=true∧ws.length=k∧∀ w∈ws,w.length≤60:=fun t ht=>by
  obtain ⟨t1,t2⟩:=List.mem_filter.mp ht
  have t2:t∉K:=by simpa using t2
  have hp:=h.pl t t1
  unfold gF
  by_cases hab:t.a=t.b
  ·refine ⟨dO k,?_,fun z=>absurd hab z,?_,List.length_replicate,fun w hw=>by rw [(List.mem_replicate.mp hw).2];exact Nat.zero_le _⟩
   ·rw [if_pos hab,fu k k6];rfl
   ·unfold fN;rw [if_pos hab];exact decide_eq_true rfl
  ·obtain ⟨ws,e,l,rt,sl⟩:=kL fK gK lK hp.1 hp.2.1 hp.2.2.1 hp.2.2.2 k6 (hK.gone t1 t2)
   refine ⟨ws,?_,fun _=>e,?_,l,sl⟩
   ·rw [if_neg hab,e];rfl
   ·unfold fN;rw [if_neg hab,rt,decide_eq_true l];rfl
 obtain ⟨W,lW,hW⟩:=pick _ each
 refine ⟨W,?_,lW,fun p hp=>(hW p hp).2.2⟩
 rw [← mS (f:=gF n k K) _ W lW fun p hp=>(hW p hp).1]
 apply Wr.eq
 unfold xF
 (refine Dm.Wr.fn ?_ rfl rfl;dsimp only [List.map,List.replicate,List.cons_append,List.nil_append])
 refine Ws.seq (Ws.A (We.oH aK r (fun t=>!decide (t∈K)) id aK (d:=ak r) ?_ rfl rfl rfl (by decide) (by unfold SZ;lia) (fun u _=>?_) fun u _ _=>We.v rfl (Wk.val ⟨rfl,rfl⟩)) (by decide))
 ·refine WA.new ?_ (by first | (dsimp only [List.set];first | done | rfl) | rfl)
  rw [List.map_id]
  refine Ws.R ?_
  refine We.EI aK (r.filter fun t=>!decide (t∈K)) (gF n k K) id ?_ rfl (by first | (dsimp only [List.set];first | done | rfl) | rfl) rfl (by decide) (Nat.le_trans (List.length_filter_le _ _) (by unfold SZ;lia)) fun t ht=>?_
  ·refine WR.new ?_
   rw [List.map_id]
  ·obtain ⟨ws,e1,e2,_⟩:=each t ht
   refine We.If (Wt.V (We.e2 (We.e2 (We.v rfl (We.c (Wg2.ix ?_ rfl rfl rfl))))))
   refine We.e2 (We.v rfl (We.c (Wg2.ix ?_ rfl rfl rfl)))
   refine Wg2.eq (Wb.mk ?_) rfl rfl
   refine Wif.dec (fun hab=>?_) fun hab=>?_
   ·refine We.F (Was.cons (We.v rfl (Was.nil (WF.box (fu k k6) ?_ rfl rfl rfl rfl))))
    refine Wk.new ⟨?_,rfl⟩
    unfold gF
    rw [if_pos hab,fu k k6];rfl
   ·refine We.Fp rfl (We.F (Was.cons (We.v rfl (Was.cons (We.v rfl (Was.cons (We.e2 (We.v rfl (We.c (Wg2.ix ?_ rfl rfl rfl))))))))))
    refine Was.cons (We.e2 (We.v rfl (We.c (Wg2.ix ?_ rfl rfl rfl))))
    refine Was.cons (We.v rfl (Was.nil (WF.box (e2 hab) ?_ rfl rfl rfl rfl)))
    refine Wk.val ⟨?_,rfl⟩
    rw [e1];rfl
 ·exact Wt.V (We.e2 (We.v rfl (We.v rfl (Wg2.BQ (Wb.mk ⟨rfl,rfl⟩) rfl rfl))))
theorem B0 (aH aW:Nat) {n:Nat} (n10:n≤10) {r:List Tie} (hr:Good n 0 r) (hl:r.length≤60) {k:Nat} (k1:1≤k) (k6:k≤6) :
  ∃ M W S,mG aH aW [.int n,ak r,.int k]=some (.val (aR M W S))∧dP n r k M W S=true∧(∀ ws∈W,ws.length=k)∧Shape M W S∧W.length≤60∧M.length≤60∧S.length≤60∧(∀ ws∈W,∀ w∈ws,w.length≤60)∧∀ x∈S,x.length≤10:=by
 have h:Fit n r:=⟨by lia,hr.pl,hr.nd,by lia⟩
 obtain ⟨K,eK,hK⟩:=qM aH aW h k6
 have fK:=h.sub hK.sub
 have lK:K.length≤60:=Nat.le_trans hK.sub.length_le hl
 obtain ⟨W,ew,lW,hW⟩:=sW aH aW h hr hl k6 hK
 have each:∀ t∈K,∃ S:List Int,ki [.int n,ak K,aK t,.int k]=some (.val (tupI S))∧dY n K k t S=true∧S.length≤20:=fun t ht=>sV n10 fK ht k6 (hK.cut t (hK.sub.subset ht) ht)
 obtain ⟨S,lS,hS⟩:=pick _ each
 have sD:K.map (fun t=>got (ki [.int n,ak K,aK t,.int k]))=S.map tupI:=mS _ S lS fun p hp=>by rw [(hS p hp).1];rfl
 have hk:aE r (K.map (·.m))=K:=mT hK.sub h.nd
 have hg:aU r (K.map (·.m))=r.filter fun t=>!decide (t∈K):=by rw [← xX hr,hk]
 have lG:(r.filter fun t=>!decide (t∈K)).length≤60:=Nat.le_trans (List.length_filter_le _ _) hl
 have w1:∀ ws∈W,ws.length=k∧∀ w∈ws,w.length≤60:=fun ws hw=>by
  obtain ⟨t,_,hz⟩:=k8 _ W lW ws hw
  exact (hW _ hz).2
 have s1:∀ x∈S,x.length≤20:=fun x hx=>by
  obtain ⟨t,_,hz⟩:=k8 _ S lS x hx
  exact (hS _ hz).2.2
 have s2:∀ x∈S,x.length≤10:=fun x hx=>by
  obtain ⟨t,_,hz⟩:=k8 _ S lS x hx
  have hb:=(hS _ hz).2.1
  unfold dY jB at hb
  rw [Bool.and_eq_true,Bool.and_eq_true] at hb
  have up:=(eW x).mp hb.1.2
  have al:=hb.1.1
  rw [List.all_eq_true] at al
  have h1:x.length≤((List.range n).map fun i:Nat=>(i:Int)).length:=(BV up).length_le_of_subset fun y hy=>by
   obtain ⟨z1,z2⟩:=of_decide_eq_true (al y hy)
   exact List.mem_map.mpr ⟨y.toNat,List.mem_range.mpr (by lia),by lia⟩
  rw [List.length_map,List.length_range] at h1
  lia
 refine ⟨K.map (·.m),W,S,?_,?_,fun ws hw=>(w1 ws hw).1,⟨by rw [List.length_map];lia,by lia,fun ws hw=>⟨by rw [(w1 ws hw).1];lia,fun w h=>by have:=(w1 ws hw).2 w h;lia⟩,by lia,fun x hx=>by have:=s1 x hx;lia⟩,by lia,by rw [List.length_map];lia,by lia,fun ws hw=>(w1 ws hw).2,s2⟩
 rotate_left
 ·unfold dP
  rw [hk,hg,decide_eq_true rfl,decide_eq_true ⟨lW,lS⟩,Bool.true_and,Bool.true_and,Bool.and_eq_true]
  refine ⟨List.all_eq_true.mpr fun p hp=>(hW p hp).1,List.all_eq_true.mpr fun p hp=>(hS p hp).2.1⟩
 unfold aR
 rw [← sD]
 have hl':K.length≤SZ:=by unfold SZ;lia
 apply Wr.eq
 unfold mG
 (refine Dm.Wr.fn ?_ rfl rfl;dsimp only [List.map,List.replicate,List.cons_append,List.nil_append])
 refine Ws.seq (Ws.E (We.F (Was.cons (We.v rfl (Was.nil (WF.val (gh k (by lia) (by lia)) ?_ rfl rfl))))))
 by_cases hr0:r=[]
 ·have hK0:K=[]:=by
   have:=hK.sub.length_le
   rw [hr0] at this
   exact List.eq_nil_of_length_eq_zero (by simpa using this)
  unfold pS at eK
  rw [if_pos hr0] at eK
  refine Ws.seq (Ws.A (We.F (Was.cons (We.v rfl (Was.cons (We.v rfl (Was.cons (We.v rfl (Was.cons (We.c (Was.nil (WF.box eK ?_ rfl rfl rfl rfl))))))))))) (by decide))
  refine WA.new ?_ (by first | (dsimp only [List.set];first | done | rfl) | rfl)
  refine Ws.seq (Ws.A (We.EI aK K (fun t=>got (ki [.int n,ak K,aK t,.int k])) id ?_ rfl (by first | (dsimp only [List.set];first | done | rfl) | rfl) rfl (by decide) hl' fun t ht=>?_) (by decide))
  ·refine WA.new ?_ (by first | (dsimp only [List.set];first | done | rfl) | rfl)
   refine Ws.R (We.T (Was.cons (We.EI aK K (·.m) Dat.int ?_ rfl (by first | (dsimp only [List.set];first | done | rfl) | rfl) rfl (by decide) hl' fun t ht=>?_)))
   ·refine Was.cons (We.F (Was.cons (We.v rfl (Was.cons (We.v rfl (Was.cons (We.w rfl (Was.cons (We.v rfl (Was.cons (We.c (Was.nil (WF.box ew ?_ rfl rfl rfl rfl)))))))))))))
    refine Was.cons (We.w rfl (Was.nil (WT.mk ?_ rfl rfl (by exact Nat.le_of_ble_eq_true rfl))))
    rw [List.map_id]
    rfl
   ·exact We.e2 (We.v rfl (We.c (Wg2.ix (Wk.val ⟨rfl,rfl⟩) rfl rfl rfl)))
  ·rw [hK0] at ht;cases ht
 ·unfold pS at eK
  rw [if_neg hr0] at eK
  refine Ws.seq (Ws.A (We.F (Was.cons (We.v rfl (Was.cons (We.v rfl (Was.cons (We.v rfl (Was.cons (We.c (Was.nil (WF.box eK ?_ rfl rfl rfl rfl))))))))))) (by decide))
  refine WA.val ?_ (by first | (dsimp only [List.set];first | done | rfl) | rfl)
  refine Ws.seq (Ws.A (We.f9 aK K (fun t=>got (ki [.int n,ak K,aK t,.int k])) id (d:=ak K) ?_ rfl rfl rfl (by decide) hl' fun t ht=>?_) (by decide))
  ·refine WA.new ?_ (by first | (dsimp only [List.set];first | done | rfl) | rfl)
   refine Ws.R (We.T (Was.cons (We.f9 aK K (·.m) Dat.int (d:=ak K) ?_ rfl rfl rfl (by decide) hl' fun t ht=>?_)))
   ·refine Was.cons (We.F (Was.cons (We.v rfl (Was.cons (We.v rfl (Was.cons (We.v rfl (Was.cons (We.v rfl (Was.cons (We.c (Was.nil (WF.box ew ?_ rfl rfl rfl rfl)))))))))))))
    refine Was.cons (We.w rfl (Was.nil (WT.mk ?_ rfl rfl (by exact Nat.le_of_ble_eq_true rfl))))
    rw [List.map_id]
    rfl
   ·exact We.e2 (We.v rfl (We.c (Wg2.ix (Wk.val ⟨rfl,rfl⟩) rfl rfl rfl)))
  ·obtain ⟨S0,e,_⟩:=each t ht
   refine We.F (Was.cons (We.v rfl (Was.cons (We.v rfl (Was.cons (We.v rfl (Was.cons (We.v rfl (Was.nil (WF.box e ?_ rfl rfl rfl rfl))))))))))
   refine Wk.val ⟨?_,rfl⟩
   rw [e];rfl
noncomputable def tn (c:Int) (t:Tie):Tie:=⟨c-t.m,t.a,t.b⟩
theorem MC (c:Int) (t:Tie):tn c (tn c t)=t:=qL ⟨by show c-(c-t.m)=t.m;lia,rfl,rfl⟩
noncomputable def tw (c:Int) (ws:List (List Int)):List (List Int):=ws.map fun w=>w.map fun m=>c-m
noncomputable def aS (c:Int) (r:List Tie):List Tie:=r.reverse.map (tn c)
theorem pU (c:Int) (r:List Tie):aS c (aS c r)=r:=by
 unfold aS
 rw [← List.map_reverse,List.reverse_reverse,List.map_map]
 have:(tn c∘tn c)=id:=funext fun t=>MC c t
 rw [this,List.map_id]
theorem gi (c:Int) (r:List Tie) (p q:Tie→Bool) (h:∀ t,p (tn c t)=q t):(aS c r).filter p=aS c (r.filter q):=by
 unfold aS
 rw [List.filter_map,← List.filter_reverse]
 have:(p∘tn c)=q:=funext h
 rw [this]
theorem sX {c:Int} {r:List Tie} {t:Tie} (h:t∈r):tn c t∈aS c r:=List.mem_map.mpr ⟨t,List.mem_reverse.mpr h,rfl⟩
theorem xZ {n:Int}:∀ {r:List Tie} {lo:Int},(∀ t∈r,lo≤t.m∧0≤t.a∧t.a≤t.b∧t.b<n)→(r.map (·.m)).Pairwise (· < ·)→Good n lo r
 | [],_,_,_=>trivial
 | t::r,lo,h,k=>by
  rw [List.map_cons,List.pairwise_cons] at k
  obtain ⟨h1,h2,h3,h4⟩:=h t List.mem_cons_self
  refine ⟨h1,h2,h3,h4,xZ (fun u hu=>?_) k.2⟩
  obtain ⟨_,q⟩:=h u (List.mem_cons_of_mem _ hu)
  have:=k.1 u.m (List.mem_map.mpr ⟨u,hu,rfl⟩)
  exact ⟨by lia,q⟩
theorem pV {n:Int} {r:List Tie} (hr:Good n 0 r) {c:Int} (hc:∀ t∈r,t.m≤c):Good n 0 (aS c r):=by
 refine xZ (fun t ht=>?_) ?_
 ·obtain ⟨u,hu,rfl⟩:=List.mem_map.mp ht
  have hu:=List.mem_reverse.mp hu
  have h1:=hc u hu
  obtain ⟨h2,h3,h4⟩:=hr.mem u hu
  exact ⟨by show 0≤c-u.m;lia,h2,h3,h4⟩
 ·unfold aS
  rw [List.map_map,List.pairwise_map,List.pairwise_reverse]
  have:=hr.up
  rw [List.pairwise_map] at this
  exact this.imp fun {x y} h=>by show c-y.m<c-x.m;lia
theorem mU {n:Int} {K:List Tie} (hK:Good n 0 K) {c:Int} (hT:Good n 0 (aS c K)):∀ (w:List Int) (x y:Int),cK K x w=some y→cK (aS c K) x (w.map fun m=>c-m)=some y
 | [],x,y,h=>h
 | m::w,x,y,h=>by
  show cK (aS c K) x ((c-m)::w.map fun m=>c-m)=some y
  unfold cK at h ⊢
  cases hf:K.filter (fun t=>decide (t.m=m)) with
  | nil=>rw [hf] at h;cases h
  | cons t l=>
   rw [hf] at h
   dsimp only at h
   have ht:t∈K.filter (fun t=>decide (t.m=m)):=by rw [hf];exact List.mem_cons_self
   obtain ⟨t1,t2⟩:=List.mem_filter.mp ht
   have t2:t.m=m:=of_decide_eq_true t2
   have hm:tn c t∈(aS c K).filter (fun t=>decide (t.m=c-m)):=List.mem_filter.mpr ⟨sX t1,decide_eq_true (by show c-t.m=c-m;rw [t2])⟩
   cases hg:(aS c K).filter (fun t=>decide (t.m=c-m)) with
   | nil=>rw [hg] at hm;cases hm
   | cons u l'=>
    have hu:u∈(aS c K).filter (fun t=>decide (t.m=c-m)):=by rw [hg];exact List.mem_cons_self
    obtain ⟨u1,u2⟩:=List.mem_filter.mp hu
    have:u=tn c t:=Good.uniq hT u u1 _ (sX t1) (by rw [of_decide_eq_true u2];show c-m=c-t.m;rw [t2])
    subst this
    dsimp only
    show (if t.a=t.b∨¬ (x=t.a∨x=t.b) then none else cK (aS c K) (t.a+t.b-x) (w.map fun m=>c-m))=some y
    by_cases z:t.a=t.b∨¬ (x=t.a∨x=t.b)
    ·rw [if_pos z] at h;cases h
    ·rw [if_neg z] at h ⊢
     exact mU hK hT w _ y h
theorem B3 {l:List Int} (c:Int) (h:l.Nodup):(l.map fun m=>c-m).Nodup:=by
 unfold List.Nodup at h ⊢
 rw [List.pairwise_map]
 exact h.imp fun {a b} ne e=>ne (by lia)
theorem tw_flat (c:Int) (ws:List (List Int)):(tw c ws).flatten=ws.flatten.map fun m=>c-m:=by
 unfold tw
 rw [List.map_flatten]
theorem vH {n:Int} {K:List Tie} (hK:Good n 0 K) {c:Int} (hT:Good n 0 (aS c K)) {a b:Int} {ws:List (List Int)} (h:cC K a b ws=true):cC (aS c K) a b (tw c ws)=true:=by
 unfold cC at h ⊢
 rw [Bool.and_eq_true] at h ⊢
 obtain ⟨h1,h2⟩:=h
 refine ⟨decide_eq_true (by rw [tw_flat];exact B3 c (of_decide_eq_true h1)),?_⟩
 rw [List.all_eq_true] at h2 ⊢
 intro w hw
 obtain ⟨v,hv,rfl⟩:=List.mem_map.mp hw
 obtain ⟨⟨k1,_⟩,k2⟩:=(cT hK b v [] a).mp (of_decide_eq_true (h2 v hv))
 exact decide_eq_true ((cT hT b _ [] a).mpr ⟨⟨B3 c k1,by simp⟩,mU hK hT v a b k2⟩)
theorem B4 {n:Int} {K:List Tie} (hK:Good n 0 K) {c:Int} (hT:Good n 0 (aS c K)) {k:Nat} {t:Tie} {ws:List (List Int)} (h:fN K k t ws=true):fN (aS c K) k (tn c t) (tw c ws)=true:=by
 unfold fN at h ⊢
 show (if t.a=t.b then _ else _)=true
 by_cases e:t.a=t.b
 ·rw [if_pos e] at h ⊢
  have:=of_decide_eq_true h
  refine decide_eq_true ?_
  rw [this]
  unfold tw dO
  rw [List.map_replicate]
  rfl
 ·rw [if_neg e] at h ⊢
  rw [Bool.and_eq_true] at h ⊢
  refine ⟨decide_eq_true ?_,vH hK hT h.2⟩
  unfold tw
  rw [List.length_map]
  exact of_decide_eq_true h.1
theorem sY (c:Int) (K:List Tie) (S:List Int):cL (aS c K) S=((cL K S).map fun m=>c-m).reverse:=by
 unfold cL
 rw [gi c K (ovr S) (ovr S) fun _=>rfl]
 unfold aS
 rw [List.map_map,List.map_map,List.map_reverse]
 rfl
theorem zA {n:Int} {c:Int} {K:List Tie} {k:Nat} {t:Tie} {S:List Int} (h:dY n K k t S=true):dY n (aS c K) k (tn c t) S=true:=by
 unfold dY at h ⊢
 rw [Bool.and_eq_true,Bool.and_eq_true] at h ⊢
 obtain ⟨h1,h2,h3⟩:=h
 refine ⟨h1,decide_eq_true ?_,decide_eq_true ?_⟩
 ·rw [sY]
  exact List.mem_reverse.mpr (List.mem_map.mpr ⟨t.m,of_decide_eq_true h2,rfl⟩)
 ·rw [sY,List.length_reverse,List.length_map]
  exact of_decide_eq_true h3
theorem x6 {α β:Type} (l:List α) (m:List β) (h:l.length=m.length) (q:α×β→Bool):(l.reverse.zip m.reverse).all q=(l.zip m).all q:=by
 have:l.reverse.zip m.reverse=(l.zip m).reverse:=(List.reverse_zipWith h).symm
 rw [this,List.all_reverse]
theorem vJ {n:Int} {r:List Tie} (hr:Good n 0 r) {c:Int} (hc:∀ t∈r,t.m≤c) {k:Nat} {M:List Int} {W:List (List (List Int))} {S:List (List Int)} (h:dP n (aS c r) k M W S=true) :
  dP n r k (M.reverse.map fun m=>c-m) (W.map (tw c)).reverse S.reverse=true:=by
 have hT:=pV hr hc
 have mem:∀ t:Tie,decide ((tn c t).m∈M)=decide (t.m∈M.reverse.map fun m=>c-m):=fun t=>by
  apply decide_eq_decide.mpr
  constructor
  ·intro z
   exact List.mem_map.mpr ⟨c-t.m,List.mem_reverse.mpr z,by lia⟩
  ·intro z
   obtain ⟨m,hm,e⟩:=List.mem_map.mp z
   show c-t.m∈M
   rw [← e,show c-(c-m)=m by lia]
   exact List.mem_reverse.mp hm
 have eK:aE (aS c r) M=aS c (aE r (M.reverse.map fun m=>c-m)):=gi c r _ _ mem
 have eG:aU (aS c r) M=aS c (aU r (M.reverse.map fun m=>c-m)):=gi c r _ _ fun t=>by rw [mem t]
 have eK':aE r (M.reverse.map fun m=>c-m)=aS c (aE (aS c r) M):=by rw [eK,pU]
 have eG':aU r (M.reverse.map fun m=>c-m)=aS c (aU (aS c r) M):=by rw [eG,pU]
 have gK:Good n 0 (aE (aS c r) M):=hT.filter _
 have gK':Good n 0 (aS c (aE (aS c r) M)):=by rw [← eK'];exact hr.filter _
 unfold dP at h ⊢
 rw [Bool.and_eq_true,Bool.and_eq_true,Bool.and_eq_true] at h ⊢
 obtain ⟨h1,h2,h3,h4⟩:=h
 obtain ⟨l1,l2⟩:=of_decide_eq_true h2
 have h1:=of_decide_eq_true h1
 rw [eK',eG']
 generalize aE (aS c r) M=K' at *
 generalize aU (aS c r) M=G' at *
 have tr:∀ l:List Tie,aS c l=(l.map (tn c)).reverse:=fun l=>by unfold aS;rw [List.map_reverse]
 have lt:∀ l:List Tie,(aS c l).length=l.length:=fun l=>by unfold aS;rw [List.length_map,List.length_reverse]
 refine ⟨decide_eq_true ?_,decide_eq_true ⟨?_,?_⟩,?_,?_⟩
 ·unfold aS
  rw [List.map_map,← h1,← List.map_reverse,List.map_map]
  rfl
 ·rw [List.length_reverse,List.length_map,lt];exact l1
 ·rw [List.length_reverse,lt];exact l2
 ·rw [tr G',x6 _ _ (by rw [List.length_map,List.length_map];exact l1.symm),List.zip_map,List.all_map,List.all_eq_true]
  rw [List.all_eq_true] at h3
  exact fun p hp=>B4 gK gK' (h3 p hp)
 ·have e:((aS c K').zip S.reverse)=((K'.map (tn c)).reverse.zip S.reverse):=by rw [tr]
  rw [e,x6 _ _ (by rw [List.length_map];exact l2.symm),show S=S.map id from (List.map_id S).symm,List.zip_map,List.all_map,List.all_eq_true]
  rw [List.all_eq_true] at h4
  exact fun p hp=>zA (h4 p hp)
theorem x8:∀ (l:List Int) (a:Int),a≤kJ a l∧∀ x∈l,x≤kJ a l
 | [],a=>⟨Int.le_refl _,fun x hx=>by cases hx⟩
 | y::l,a=>by
  obtain ⟨h1,h2⟩:=x8 l (if y>a then y else a)
  have hy:y≤(if y>a then y else a)∧a≤(if y>a then y else a):=by split<;>lia
  unfold kJ
  refine ⟨Int.le_trans hy.2 h1,fun x hx=>?_⟩
  rcases List.mem_cons.mp hx with rfl | hx
  ·exact Int.le_trans hy.1 h1
  ·exact h2 x hx
theorem B5 (l:List Int):∀ x∈l,x≤jt l 0:=by
 cases l with
 | nil=>intro x hx;cases hx
 | cons y l=>
  intro x hx
  obtain ⟨h1,h2⟩:=x8 l y
  rcases List.mem_cons.mp hx with rfl | hx
  ·exact h1
  ·exact h2 x hx
structure Tame (k:Nat) (M:List Int) (W:List (List (List Int))) (S:List (List Int)):Prop where
 m:M.length≤60
 w:W.length≤60
 s:S.length≤60
 few:∀ ws∈W,(1≤ws.length∧ws.length≤6)∧∀ w∈ws,w.length≤60
 kK:∀ x∈S,x.length≤10
theorem Tame.shape {k:Nat} {M:List Int} {W:List (List (List Int))} {S:List (List Int)} (h:Tame k M W S):Shape M W S:=
 ⟨by have:=h.m;lia,by have:=h.w;lia,fun ws hw=>⟨by have:=(h.few ws hw).1;lia,fun w hv=>by have:=(h.few ws hw).2 w hv;lia⟩,by have:=h.s;lia,fun x hx=>by have:=h.kK x hx;lia⟩
theorem g8 (aH aW:Nat) {n:Nat} (n10:n≤10) {r:List Tie} (hr:Good n 0 r) (hl:r.length≤60) {k:Nat} (k1:1≤k) (k6:k≤6) :
  ∃ M W S,mG aH aW [.int n,ak r,.int k]=some (.val (aR M W S))∧dP n r k M W S=true∧Tame k M W S:=by
 obtain ⟨M,W,S,e,h,h1,_,h3,h4,h5,h6,h7⟩:=B0 aH aW n10 hr hl k1 k6
 exact ⟨M,W,S,e,h,⟨h4,h3,h5,fun ws hw=>⟨by rw [h1 ws hw];lia,h6 ws hw⟩,h7⟩⟩
theorem pW (aH aW:Nat) {n:Nat} (n10:n≤10) {r:List Tie} (hr:Good n 0 r) (hl:r.length≤60) {k:Nat} (k1:1≤k) (k6:k≤6) :
  ∃ M W S,sG aH aW [.int n,ak r,.int k]=some (.val (aR M W S))∧dP n r k M W S=true∧Tame k M W S:=by
 have hc:∀ t∈r,t.m≤jt (r.map (·.m)) 0:=fun t ht=>B5 _ _ (List.mem_map.mpr ⟨t,ht,rfl⟩)
 generalize hcc:jt (r.map (·.m)) 0=c at hc
 have lt:(aS c r).length=r.length:=by unfold aS;rw [List.length_map,List.length_reverse]
 obtain ⟨M,W,S,e,h,T⟩:=g8 aH aW n10 (pV hr hc) (by lia) k1 k6
 refine ⟨M.reverse.map fun m=>c-m,(W.map (tw c)).reverse,S.reverse,?_,vJ hr hc h,?_⟩
 rotate_left
 ·refine ⟨by rw [List.length_map,List.length_reverse];exact T.m,by rw [List.length_reverse,List.length_map];exact T.w,by rw [List.length_reverse];exact T.s,fun ws hw=>?_,fun x hx=>T.kK x (List.mem_reverse.mp hx)⟩
  obtain ⟨vs,hv,rfl⟩:=List.mem_map.mp (List.mem_reverse.mp hw)
  obtain ⟨q1,q2⟩:=T.few vs hv
  unfold tw
  refine ⟨by rw [List.length_map];exact q1,fun w hw=>?_⟩
  obtain ⟨v,hv',rfl⟩:=List.mem_map.mp hw
  rw [List.length_map]
  exact q2 v hv'
 apply Wr.eq
 unfold sG
 (refine Dm.Wr.fn ?_ rfl rfl;dsimp only [List.map,List.replicate,List.cons_append,List.nil_append])
 refine Ws.seq (Ws.A (We.B (Was.cons (We.f9 aK r (·.m) Dat.int (d:=ak r) ?_ rfl rfl rfl (by decide) (by unfold SZ;lia) fun t ht=>We.e2 (We.v rfl (We.c (Wg2.ix (v:=.int t.m) (Wk.val ⟨rfl,rfl⟩) rfl rfl rfl)))))) (by decide))
 refine Was.cons (We.c (Was.nil (WB.maxD (ns:=r.map (·.m)) (d:=0) ?_ rfl)))
 rw [hcc]
 refine WA.val ?_ (by first | (dsimp only [List.set];first | done | rfl) | rfl)
 refine Ws.seq (Ws.U (We.F (Was.cons (We.v rfl (Was.cons ?_)))))
 refine We.Bk aK r.reverse (fun _=>true) (tn c) aK (fun t=>([.sh (.int n),.sh (ak r),.sh (.int k),.sh (.int c),.un,.un,.un,.un,.sh (.int t.m),.sh (.int t.a),.sh (.int t.b)]:Env)) (ρ1:=[.sh (.int n),.sh (ak r),.sh (.int k),.sh (.int c),.un,.un,.un,.un]) ?_ ?_ (fun _=>rfl) (fun _ _=>rfl) (fun _=>rfl) (by rw [List.length_reverse];unfold SZ;lia) (fun _ _=>Wt.T ⟨rfl,rfl⟩) fun t _ _=>?_
 rotate_left
 ·apply Wi.get
  refine Wi.S (We.e1 (We.v rfl (Wg1.mk (v:=.new (.lst (r.map aK).reverse)) (Wk.new ⟨_,rfl,?_,rfl⟩) rfl rfl)))
  rw [List.map_reverse]
 ·refine We.T (Was.cons (We.e2 (We.v rfl (We.v rfl (Wg2.sub ?_ rfl rfl)))))
  refine Was.cons (We.v rfl (Was.cons (We.v rfl (Was.nil (WT.mk (Wk.val ⟨rfl,rfl⟩) rfl rfl (by exact Nat.le_of_ble_eq_true rfl))))))
 rw [List.filter_eq_self.mpr fun _ _=>rfl]
 refine Was.cons (We.v rfl (Was.nil (WF.box e ?_ rfl rfl rfl rfl)))
 refine Wk.val ⟨_,_,rfl,rfl,?_⟩
 refine Ws.seq (Ws.A (We.f9 au W (tw c) au (d:=.lst (W.map au)) ?_ rfl rfl rfl (by decide) (by have:=T.w;unfold SZ;lia) fun ws hws=>?_) (by decide))
 rotate_left
 ·obtain ⟨q1,q2⟩:=T.few ws hws
  refine We.f9 (fun w:List Int=>Dat.lst (w.map Dat.int)) ws (fun w:List Int=>w.map fun m=>c-m) (fun w:List Int=>Dat.lst (w.map Dat.int)) (d:=au ws) ?_ rfl rfl rfl (by decide) (by unfold SZ;lia) fun w hw=>?_
  ·refine Wk.new ⟨?_,rfl⟩
   unfold au tw
   rfl
  ·have:=q2 w hw
   refine We.f9 Dat.int w (fun m=>c-m) Dat.int (d:=.lst (w.map Dat.int)) (Wk.new ⟨rfl,rfl⟩) rfl rfl rfl (by decide) (by unfold SZ;lia) fun m hm=>?_
   exact We.e2 (We.v rfl (We.v rfl (Wg2.sub (Wk.val ⟨rfl,rfl⟩) rfl rfl)))
 refine WA.new ?_ (by first | (dsimp only [List.set];first | done | rfl) | rfl)
 have lM:=T.m
 refine Ws.R (We.T (Was.cons ?_))
 refine We.Map Dat.int M.reverse (fun m=>c-m) Dat.int (ρ1:=[.sh (.int n),.sh (ak r),.sh (.int k),.sh (.int c),.sh (.lst (M.map Dat.int)),.sh (.lst (W.map au)),.sh (.lst (S.map tupI)),.ow (.lst ((W.map (tw c)).map au))]) ?_ ?_ rfl (by decide) (by rw [List.length_reverse];unfold SZ;lia) fun m hm=>?_
 rotate_left
 ·apply Wi.get
  refine Wi.S (We.e1 (We.v rfl (Wg1.mk (v:=.new (.lst (M.map Dat.int).reverse)) (Wk.new ⟨_,rfl,?_,rfl⟩) rfl rfl)))
  rw [List.map_reverse]
 ·exact We.e2 (We.v rfl (We.v rfl (Wg2.sub (Wk.val ⟨rfl,rfl⟩) rfl rfl)))
 refine Was.cons (We.e1 (We.w rfl (Wg1.mk (v:=.new (.lst ((W.map (tw c)).map au).reverse)) ?_ rfl rfl)))
 refine Was.cons (We.e1 (We.v rfl (Wg1.mk (v:=.new (.lst (S.map tupI).reverse)) ?_ rfl rfl)))
 refine Was.nil (WT.mk ?_ rfl rfl (by exact Nat.le_of_ble_eq_true rfl))
 refine WR.val ?_
 unfold aR
 simp only [List.map_reverse]
theorem RV.two {v:RV} {d:Dat} (h:v.dat=d):v=.val d∨v=.new d:=by
 cases v with
 | val x=>left;exact congrArg RV.val h
 | new x=>right;exact congrArg RV.new h
theorem gj {α:Type} {enc:α→Dat} {xs:List α} {a:FE} {lo hi:Option FE} {l h:Option Int} {ρ:Env} {Q:Val→Env→Prop} (ha:We a ρ fun x ρ1=>ρ1=ρ∧pk ρ x=some (.lst (xs.map enc))) (hl:part lo ρ=some (l,ρ)) (hh:part hi ρ=some (h,ρ)) (q:Q (.new (.lst ((cA xs l h).map enc))) ρ):We (eSl a lo hi) ρ Q:=by
 obtain ⟨x,ρ1,e,rfl,hx⟩:=ha
 exact We.Sl ⟨x,_,e,l,_,hl,h,_,hh,Wsl.A (enc:=enc) (xs:=xs) q hx⟩
theorem B6 {α:Type} (enc:α→Dat) (ok:∀ x,okD 7 (enc x)=true) (xs:List α) (hx:xs.length≤1000) (x w:Int) :
  ∃ v x' ,∃ ys:List α,jy [aA x,.lst (xs.map enc),.int w]=some (v,aA x')∧v.dat=.lst (ys.map enc)∧ys.length≤2*xs.length+1∧∀ y∈ys,y∈xs:=by
 suffices hh:WrM (jy [aA x,.lst (xs.map enc),.int w]) fun v d=>∃ x',∃ ys:List α,d=aA x'∧v.dat=.lst (ys.map enc)∧ys.length≤2*xs.length+1∧∀ y∈ys,y∈xs by
  obtain ⟨v,d,h1,x',ys,rfl,h2,h3,h4⟩:=hh
  exact ⟨v,x',ys,h1,h2,h3,h4⟩
 unfold jy
 refine WrM.fn ?_ rfl rfl
 dsimp only [List.map,List.replicate,List.cons_append,List.nil_append]
 refine Ws.seq (Ws.If (Wt.V (We.e2 (We.v rfl (We.L (Was.nil (WT.mk (Wg2.mE (xs:=xs.map enc) (Wb.mk ?_) rfl rfl (pK enc xs ok)) rfl rfl (by decide))))))))
 cases xs with
 | nil=>exact Wif.t (Ws.R (We.v rfl (WR.val ⟨_,rfl,_,[],rfl,rfl,by simp,by simp⟩)))
 | cons y0 ys0=>
  refine Wif.f (Ws.nx ?_)
  generalize hxs:y0::ys0=xs at *
  have pos:0<xs.length:=by rw [← hxs];simp
  have lm:(xs.map enc).length=xs.length:=List.length_map ..
  refine Ws.seq (Ws.A ?_ (by decide))
  refine We.drw (m:=((xs.map enc).length:Nat)) rfl (by lia) (by unfold dR;lia) rfl fun at_ x1 a0 a1 ρ3 e=>?_
  subst e
  refine WA.val ?_ (by first | (dsimp only [List.set];first | done | rfl) | rfl)
  refine Ws.seq (Ws.A ?_ (by decide))
  refine We.drw (m:=((xs.map enc).length:Nat)) rfl (by lia) (by unfold dR;lia) rfl fun to x2 b0 b1 ρ3 e=>?_
  subst e
  refine WA.val ?_ (by first | (dsimp only [List.set];first | done | rfl) | rfl)
  have sl:∀ (l h:Option Int) {lo hi:Option FE} {Q:Val→Env→Prop},part lo [.ow (aA x2),.sh (.lst (xs.map enc)),.sh (.int w),.sh (.int at_),.sh (.int to)]=some (l,[.ow (aA x2),.sh (.lst (xs.map enc)),.sh (.int w),.sh (.int at_),.sh (.int to)])→part hi [.ow (aA x2),.sh (.lst (xs.map enc)),.sh (.int w),.sh (.int at_),.sh (.int to)]=some (h,[.ow (aA x2),.sh (.lst (xs.map enc)),.sh (.int w),.sh (.int at_),.sh (.int to)])→Q (.new (.lst ((cA xs l h).map enc))) [.ow (aA x2),.sh (.lst (xs.map enc)),.sh (.int w),.sh (.int at_),.sh (.int to)]→We (eSl (eV 1) lo hi) [.ow (aA x2),.sh (.lst (xs.map enc)),.sh (.int w),.sh (.int at_),.sh (.int to)] Q:=fun l h {lo hi Q} h1 h2 q=>gj (We.v rfl ⟨rfl,rfl⟩) h1 h2 q
  have one:∀ {Q:Val→Env→Prop},(∀ y∈xs,Q (.new (.lst [enc y])) [.ow (aA x2),.sh (.lst (xs.map enc)),.sh (.int w),.sh (.int at_),.sh (.int to)])→We (bS [(e2 gIx (eV 1) (eV 4))]) [.ow (aA x2),.sh (.lst (xs.map enc)),.sh (.int w),.sh (.int at_),.sh (.int to)] Q:=fun {Q} k=>by
   refine We.L (Was.cons (We.e2 (We.v rfl (We.v rfl (Wg2.ixL (xs:=xs) (enc:=enc) b0 (by lia) ?_ rfl rfl)))))
   exact Was.nil (WT.mk (k _ (List.getElem_mem _)) rfl rfl (by exact Nat.le_of_ble_eq_true rfl))
  have fin:∀ (A B:List α) (y:α),(∀ z∈A,z∈xs)→(∀ z∈B,z∈xs)→y∈xs→A.length≤xs.length→B.length≤xs.length→∃ d',([.ow (aA x2),.sh (.lst (xs.map enc)),.sh (.int w),.sh (.int at_),.sh (.int to)]:Env)[0]?=some (.ow d')∧∃ x',∃ ys:List α,d'=aA x'∧(RV.new (.lst (A.map enc++[enc y]++B.map enc))).dat=.lst (ys.map enc)∧ys.length≤2*xs.length+1∧∀ y∈ys,y∈xs:=fun A B y hA hB hy lA lB=>⟨_,rfl,x2,A++[y]++B,rfl,by simp [RV.dat],by simp;lia,fun z hz=>by
   rcases List.mem_append.mp hz with hz | hz
   ·rcases List.mem_append.mp hz with hz | hz
    ·exact hA z hz
    ·rw [List.mem_singleton.mp hz];exact hy
   ·exact hB z hz⟩
  have cl:∀ l h,(cA xs l h).length≤xs.length:=dM xs
  refine Ws.seq (Ws.If (Wt.V (We.e2 (We.v rfl (We.c (Wg2.eq (Wb.mk ?_) rfl rfl))))))
  refine Wif.dec (fun _=>?_) fun _=>Ws.nx ?_
  ·refine Ws.R (We.e2 (sl none (some at_) rfl rfl ?_))
   refine sl (some (at_+1)) none rfl rfl ?_
   refine Wg2.gG ?_ rfl rfl (by have:=cl none (some at_);have:=cl (some (at_+1)) none;rw [List.length_map,List.length_map];unfold SZ;lia)
   refine WR.new ⟨_,rfl,x2,cA xs none (some at_)++cA xs (some (at_+1)) none,rfl,by rw [List.map_append];rfl,by have:=cl none (some at_);have:=cl (some (at_+1)) none;rw [List.length_append];lia,fun z hz=>?_⟩
   rcases List.mem_append.mp hz with hz | hz<;>exact b4 hz
  refine Ws.seq (Ws.If (Wt.V (We.e2 (We.v rfl (We.c (Wg2.eq (Wb.mk ?_) rfl rfl))))))
  refine Wif.dec (fun _=>?_) fun _=>Ws.nx ?_
  ·refine Ws.R (We.e2 (We.e2 (sl none (some at_) rfl rfl (one fun y hy=>?_))))
   refine Wg2.gG ?_ rfl rfl (by have:=cl none (some at_);rw [List.length_map];show _+1≤_;unfold SZ;lia)
   refine sl (some at_) none rfl rfl ?_
   refine Wg2.gG ?_ rfl rfl (by have:=cl none (some at_);have:=cl (some at_) none;rw [List.length_append,List.length_map,List.length_map];show _+1+_≤_;unfold SZ;lia)
   exact WR.new (fin _ _ y (fun z=>b4) (fun z=>b4) hy (cl _ _) (cl _ _))
  refine Ws.seq (Ws.If (Wt.V (We.e2 (We.v rfl (We.c (Wg2.eq (Wb.mk ?_) rfl rfl))))))
  refine Wif.dec (fun _=>?_) fun _=>Ws.nx ?_
  ·refine Ws.R (We.e2 (We.e2 (sl none (some at_) rfl rfl (one fun y hy=>?_))))
   refine Wg2.gG ?_ rfl rfl (by have:=cl none (some at_);rw [List.length_map];show _+1≤_;unfold SZ;lia)
   refine sl (some (at_+1)) none rfl rfl ?_
   refine Wg2.gG ?_ rfl rfl (by have:=cl none (some at_);have:=cl (some (at_+1)) none;rw [List.length_append,List.length_map,List.length_map];show _+1+_≤_;unfold SZ;lia)
   exact WR.new (fin _ _ y (fun z=>b4) (fun z=>b4) hy (cl _ _) (cl _ _))
  ·refine Ws.R (We.e1 (We.v rfl (Wg1.mk (v:=.new (.lst (xs.map enc).reverse)) ?_ rfl rfl)))
   refine WR.new ⟨_,rfl,x2,xs.reverse,rfl,by rw [List.map_reverse];rfl,by rw [List.length_reverse];lia,fun z hz=>List.mem_reverse.mp hz⟩
theorem okw (ws:List (List Int)):okD 7 (au ws)=true:=gB 5 ws
theorem oks (x:List Int):okD 7 (tupI x)=true:=by
 unfold tupI okD
 rw [List.all_eq_true]
 intro d hd
 obtain ⟨x,_,rfl⟩:=List.mem_map.mp hd
 unfold okD
 rfl
theorem okl (w:List Int):okD 7 (.lst (w.map Dat.int))=true:=xW 6 w
noncomputable def zB (ws:List (List Int)):Prop:=ws.length≤20∧∀ w∈ws,w.length≤200
theorem mV {r:List Tie} (hl:r.length≤60) {W:List (List (List Int))} (lW:W.length≤60) (hW:∀ ws∈W,(1≤ws.length∧ws.length≤6)∧∀ w∈ws,w.length≤60) (x w:Int) :
  ∃ v x',∃ W':List (List (List Int)),su [aA x,ak r,.lst (W.map au),.int w]=some (v,aA x')∧v.dat=.lst (W'.map au)∧W'.length≤1000∧∀ ws∈W',zB ws:=by
 suffices hh:WrM (su [aA x,ak r,.lst (W.map au),.int w]) fun v d=>∃ x',∃ W':List (List (List Int)),d=aA x'∧v.dat=.lst (W'.map au)∧W'.length≤1000∧∀ ws∈W',zB ws by
  obtain ⟨v,d,h1,x',ys,rfl,h2,h3,h4⟩:=hh
  exact ⟨v,x',ys,h1,h2,h3,h4⟩
 have MD:∀ ws∈W,zB ws:=fun ws h=>⟨by have:=(hW ws h).1;lia,fun v hv=>by have:=(hW ws h).2 v hv;lia⟩
 unfold su
 refine WrM.fn ?_ rfl rfl
 dsimp only [List.map,List.replicate,List.cons_append,List.nil_append]
 refine Ws.seq (Ws.If (Wt.V (We.e2 (We.v rfl (We.L (Was.nil (WT.mk (Wg2.mE (xs:=W.map au) (Wb.mk ?_) rfl rfl (pK au W okw)) rfl rfl (by decide))))))))
 by_cases hW0:W=[]
 ·subst hW0
  exact Wif.t (Ws.R (We.v rfl (WR.val ⟨_,rfl,_,[],rfl,rfl,by simp,by simp⟩)))
 have pos:0<W.length:=List.length_pos_iff.mpr hW0
 rw [show (W.map au).isEmpty=false by cases W with | nil=>exact absurd rfl hW0 | cons a b=>rfl]
 refine Wif.f (Ws.nx ?_)
 have lm:(W.map au).length=W.length:=List.length_map ..
 refine Ws.seq (Ws.A ?_ (by decide))
 refine We.drw (m:=((W.map au).length:Nat)) rfl (by lia) (by unfold dR;lia) rfl fun at_ x1 a0 a1 ρ3 e=>?_
 subst e
 refine WA.val ?_ (by first | (dsimp only [List.set];first | done | rfl) | rfl)
 have hat:at_.toNat<W.length:=by lia
 generalize hws:W[at_.toNat]=ws
 have mws:ws∈W:=by rw [← hws];exact List.getElem_mem _
 obtain ⟨⟨w1,w6⟩,wl⟩:=hW ws mws
 have ixW:gIx (.lst (W.map au)) (.int at_)=some (.val (au ws)):=by
  unfold gIx;dsimp only;rw [gu au W at_ a0 (by lia),hws];rfl
 refine Ws.seq (Ws.A (We.Map (fun v:List Int=>Dat.lst (v.map Dat.int)) ws id (fun v:List Int=>Dat.lst (v.map Dat.int)) (ρ1:=[.ow (aA x1),.sh (ak r),.sh (.lst (W.map au)),.sh (.int w),.sh (.int at_),.un,.un,.un]) ?_ ?_ rfl (by decide) (by unfold SZ;lia) fun v hv=>?_) (by decide))
 rotate_left
 ·apply Wi.get
  exact Wi.S (We.e2 (We.v rfl (We.v rfl (Wg2.ix (v:=au ws) (Wk.val ⟨_,rfl,rfl,rfl⟩) rfl rfl ixW))))
 ·exact We.B (Was.cons (We.v rfl (Was.nil (WB.list (xs:=v.map Dat.int) (Wk.new ⟨rfl,rfl⟩) rfl))))
 refine WA.new ?_ (by first | (dsimp only [List.set];first | done | rfl) | rfl)
 rw [List.map_id]
 show Ws _ [.ow (aA x1),.sh (ak r),.sh (.lst (W.map au)),.sh (.int w),.sh (.int at_),.ow (au ws),.un,.un] _ _ _ _
 refine Ws.seq (Ws.A (We.e2 (We.f9 aK r (·.m) Dat.int (d:=ak r) ?_ rfl rfl rfl (by decide) (by unfold SZ;lia) fun t ht=>We.e2 (We.v rfl (We.c (Wg2.ix (v:=.int t.m) (Wk.val ⟨rfl,rfl⟩) rfl rfl rfl))))) (by decide))
 refine We.L (Was.cons (We.c (Was.nil (WT.mk ?_ rfl rfl (by decide)))))
 refine Wg2.Bh (xs:=r.map (·.m)) (y:=7) ?_ rfl rfl (by rw [List.length_map];unfold SZ;lia)
 refine WA.new ?_ (by first | (dsimp only [List.set];first | done | rfl) | rfl)
 generalize hms:r.map (·.m)++[7]=ms
 have lms:ms.length=r.length+1:=by rw [← hms,List.length_append,List.length_map];rfl
 have lws:(ws.map fun v:List Int=>Dat.lst (v.map Dat.int)).length=ws.length:=List.length_map ..
 refine Ws.seq (Ws.A ?_ (by decide))
 refine We.drw (m:=((ws.map fun v:List Int=>Dat.lst (v.map Dat.int)).length:Nat)) rfl (by lia) (by unfold dR;lia) rfl fun to x2 b0 b1 ρ3 e=>?_
 subst e
 refine WA.val ?_ (by first | (dsimp only [List.set];first | done | rfl) | rfl)
 have hto:to.toNat<ws.length:=by lia
 have put:∀ v:List Int,v.length≤200→zB (ws.set to.toNat v):=fun v hv=>⟨by rw [List.length_set];lia,fun u hu=>by
  rcases List.mem_or_eq_of_mem_set hu with hu | rfl
  ·have:=wl u hu;lia
  ·exact hv⟩
 have putD:∀ v:List Int,(ws.map fun v:List Int=>Dat.lst (v.map Dat.int)).set to.toNat (.lst (v.map Dat.int))=(ws.set to.toNat v).map fun v:List Int=>Dat.lst (v.map Dat.int):=fun v=>by rw [List.map_set]
 have JS:∀ l:List Dat,l.length=ws.length→ixN l.length to=some to.toNat:=fun l hl=>by
  unfold ixN;rw [if_pos b0,if_pos (by lia)]
 refine Ws.cut (fun ρ=>∃ x3 c5 c6 c7,∃ ws':List (List Int),ρ=[.ow (aA x3),.sh (ak r),.sh (.lst (W.map au)),.sh (.int w),.sh (.int at_),c5,c6,c7]∧(c5=.ow (au ws')∨c5=.sh (au ws'))∧zB ws') ?_ ?_
 ·have GP:∀ {Q:Val→Env→Prop},(∀ (m:Int) (x3:Int),Q (.val (.int m)) [.ow (aA x3),.sh (ak r),.sh (.lst (W.map au)),.sh (.int w),.sh (.int at_),.ow (au ws),.ow (.lst (ms.map Dat.int)),.sh (.int to)])→We (e2 gIx (eV 6) (eFm br 0 [(eB bX [(eV 6)])])) [.ow (aA x2),.sh (ak r),.sh (.lst (W.map au)),.sh (.int w),.sh (.int at_),.ow (au ws),.ow (.lst (ms.map Dat.int)),.sh (.int to)] Q:=fun {Q} k=>by
   have lmm:(ms.map Dat.int).length=ms.length:=List.length_map ..
   refine We.e2 (We.w rfl ?_)
   refine We.drw (m:=((ms.map Dat.int).length:Nat)) rfl (by lia) (by unfold dR;lia) rfl fun i x3 i0 i1 ρ3 e=>?_
   subst e
   exact Wg2.ixL (xs:=ms) (enc:=Dat.int) i0 (by lia) (k _ x3) rfl rfl
  refine Ws.If (Wt.V (We.e2 (We.v rfl (We.c (Wg2.eq (Wb.mk ?_) rfl rfl)))))
  refine Wif.dec (fun _=>?_) fun _=>?_
  ·refine Ws.Set (We.e2 (We.e2 (We.w rfl (We.v rfl (Wg2.ixL (xs:=ws) (enc:=fun v:List Int=>Dat.lst (v.map Dat.int)) b0 (by lia) ?_ rfl rfl)))))
   refine We.L (Was.cons (GP fun m x3=>?_))
   refine Was.nil (WT.mk ?_ rfl rfl (by exact Nat.le_of_ble_eq_true rfl))
   have l1:=wl ws[to.toNat] (List.getElem_mem _)
   refine Wg2.Bh (xs:=ws[to.toNat]) (y:=m) ?_ rfl rfl (by unfold SZ;lia)
   refine Wk.new ⟨⟨_,rfl⟩,We.v rfl (cz.mk ⟨_,_,_,rfl,JS _ lws,rfl,?_⟩)⟩
   refine ⟨x3,_,_,_,ws.set to.toNat (ws[to.toNat]++[m]),rfl,.inl ?_,put _ (by rw [List.length_append];show _+1≤_;lia)⟩
   rw [putD];rfl
  refine Ws.If (Wt.V (We.e2 (We.v rfl (We.c (Wg2.eq (Wb.mk ?_) rfl rfl)))))
  refine Wif.dec (fun _=>?_) fun _=>?_
  ·refine Ws.Set (We.L (Was.cons (GP fun m x3=>?_)))
   refine Was.nil (WT.mk ?_ rfl rfl (by exact Nat.le_of_ble_eq_true rfl))
   refine Wk.new ⟨⟨_,rfl⟩,We.v rfl (cz.mk ⟨_,_,_,rfl,JS _ lws,rfl,?_⟩)⟩
   refine ⟨x3,_,_,_,ws.set to.toNat [m],rfl,.inl ?_,put _ (by show 1≤200;decide)⟩
   have:=putD [m]
   rw [List.map_cons,List.map_nil] at this
   rw [this];rfl
  refine Ws.If (Wt.V (We.e2 (We.v rfl (We.c (Wg2.eq (Wb.mk ?_) rfl rfl)))))
  refine Wif.dec (fun _=>?_) fun _=>?_
  ·refine Ws.Set (We.e1 (We.e2 (We.w rfl (We.c (Wg2.ixL (xs:=ws) (enc:=fun v:List Int=>Dat.lst (v.map Dat.int)) (by decide) (by lia) ?_ rfl rfl)))))
   have l1:=wl (ws[(0:Int).toNat]'(by show 0<_;lia)) (List.getElem_mem _)
   generalize (ws[(0:Int).toNat]'(by show 0<_;lia))=u at l1
   refine Wg1.mk (v:=.new (.lst (u.map Dat.int).reverse)) ?_ rfl rfl
   rw [← List.map_reverse]
   refine Wk.new ⟨⟨_,rfl⟩,We.v rfl (cz.mk ⟨_,_,_,rfl,JS _ lws,rfl,?_⟩)⟩
   refine ⟨x2,_,_,_,ws.set to.toNat u.reverse,rfl,.inl ?_,put _ (by rw [List.length_reverse];lia)⟩
   rw [putD];rfl
  ·refine Ws.A (We.Fm (Was.cons (We.w rfl (Was.cons ?_))) rfl) (by decide)
   refine We.drw (m:=4) rfl (by decide) (by decide) rfl fun i x3 i0 i1 ρ3 e=>?_
   subst e
   obtain ⟨v,x4,ys,e,hv,ly,hy⟩:=B6 (fun v:List Int=>Dat.lst (v.map Dat.int)) okl ws (by lia) x3 i
   have fy:zB ys:=⟨by lia,fun u hu=>by have:=wl u (hy u hu);lia⟩
   refine Was.nil ⟨_,_,_,_,_,_,rfl,rfl,rfl,e,?_⟩
   rcases RV.two hv with rfl | rfl
   ·split
    ·exact WA.val ⟨x4,_,_,_,ys,rfl,.inr rfl,fy⟩ (by first | (dsimp only [List.set];first | done | rfl) | rfl)
    ·exact WA.val ⟨x4,_,_,_,ys,rfl,.inr rfl,fy⟩ (by first | (dsimp only [List.set];first | done | rfl) | rfl)
   ·split
    ·exact WA.new ⟨x4,_,_,_,ys,rfl,.inl rfl,fy⟩ (by first | (dsimp only [List.set];first | done | rfl) | rfl)
    ·exact WA.new ⟨x4,_,_,_,ys,rfl,.inl rfl,fy⟩ (by first | (dsimp only [List.set];first | done | rfl) | rfl)
 ·rintro ρ ⟨x3,c5,c6,c7,ws',rfl,h5,fw⟩
  have cl:∀ l h,(cA W l h).length≤W.length:=fun l h=>dM W l h
  have tail:∀ c5:Cell,∀ {Q:Val→Env→Prop},Q (.new (.lst ((cA W (some (at_+1)) none).map au))) [.ow (aA x3),.sh (ak r),.sh (.lst (W.map au)),.sh (.int w),.sh (.int at_),c5,c6,c7]→We (eSl (eV 2) (some (e2 bC (eV 4) (eC (.int 1)))) none) [.ow (aA x3),.sh (ak r),.sh (.lst (W.map au)),.sh (.int w),.sh (.int at_),c5,c6,c7] Q:=fun c5 {Q} q=>gj (l:=some (at_+1)) (We.v rfl ⟨rfl,rfl⟩) rfl rfl q
  have mid:∀ {Q:Val→Env→Prop},Q (.new (.lst [au ws'])) [.ow (aA x3),.sh (ak r),.sh (.lst (W.map au)),.sh (.int w),.sh (.int at_),.sh (au ws'),c6,c7]→We (bS [(eV 5)]) [.ow (aA x3),.sh (ak r),.sh (.lst (W.map au)),.sh (.int w),.sh (.int at_),c5,c6,c7] Q:=fun {Q} q=>by
   rcases h5 with rfl | rfl
   ·exact We.L (Was.cons (We.w rfl (Was.nil (WT.mk q rfl rfl (by exact Nat.le_of_ble_eq_true rfl)))))
   ·exact We.L (Was.cons (We.v rfl (Was.nil (WT.mk q rfl rfl (by exact Nat.le_of_ble_eq_true rfl)))))
  refine Ws.R (We.e2 (We.e2 (gj (enc:=au) (xs:=W) (l:=none) (h:=some at_) (We.v rfl ⟨rfl,rfl⟩) rfl rfl (mid ?_))))
  refine Wg2.gG ?_ rfl rfl (by have:=cl none (some at_);rw [List.length_map];show _+1≤_;unfold SZ;lia)
  refine tail _ ?_
  refine Wg2.gG ?_ rfl rfl (by have:=cl none (some at_);have:=cl (some (at_+1)) none;rw [List.length_append,List.length_map,List.length_map];show _+1+_≤_;unfold SZ;lia)
  refine WR.new ⟨_,rfl,x3,cA W none (some at_)++[ws']++cA W (some (at_+1)) none,rfl,by simp [RV.dat],?_,fun v hv=>?_⟩
  ·have:=cl none (some at_);have:=cl (some (at_+1)) none
   rw [List.length_append,List.length_append];show _+1+_≤_;lia
  ·rcases List.mem_append.mp hv with hv | hv
   ·rcases List.mem_append.mp hv with hv | hv
    ·exact MD v (b4 hv)
    ·rw [List.mem_singleton.mp hv];exact fw
   ·exact MD v (b4 hv)
theorem mW {n:Nat} (n10:n≤10) {S:List (List Int)} (lS:S.length≤60) (hS:∀ x∈S,x.length≤10) (x:Int) :
  ∃ v x',∃ S':List (List Int),sy [aA x,.int n,.lst (S.map tupI)]=some (v,aA x')∧v.dat=.lst (S'.map tupI)∧S'.length≤1000∧∀ y∈S',y.length≤30:=by
 suffices hh:WrM (sy [aA x,.int n,.lst (S.map tupI)]) fun v d=>∃ x',∃ S':List (List Int),d=aA x'∧v.dat=.lst (S'.map tupI)∧S'.length≤1000∧∀ y∈S',y.length≤30 by
  obtain ⟨v,d,h1,x',ys,rfl,h2,h3,h4⟩:=hh
  exact ⟨v,x',ys,h1,h2,h3,h4⟩
 unfold sy
 refine WrM.fn ?_ rfl rfl
 dsimp only [List.map,List.replicate,List.cons_append,List.nil_append]
 refine Ws.seq (Ws.If (Wt.V (We.e2 (We.v rfl (We.L (Was.nil (WT.mk (Wg2.mE (xs:=S.map tupI) (Wb.mk ?_) rfl rfl (pK tupI S oks)) rfl rfl (by decide))))))))
 by_cases hS0:S=[]
 ·subst hS0
  exact Wif.t (Ws.R (We.v rfl (WR.val ⟨_,rfl,_,[],rfl,rfl,by simp,by simp⟩)))
 have pos:0<S.length:=List.length_pos_iff.mpr hS0
 rw [show (S.map tupI).isEmpty=false by cases S with | nil=>exact absurd rfl hS0 | cons a b=>rfl]
 refine Wif.f (Ws.nx ?_)
 have lm:(S.map tupI).length=S.length:=List.length_map ..
 refine Ws.seq (Ws.A ?_ (by decide))
 refine We.drw (m:=((S.map tupI).length:Nat)) rfl (by lia) (by unfold dR;lia) rfl fun at_ x1 a0 a1 ρ3 e=>?_
 subst e
 refine WA.val ?_ (by first | (dsimp only [List.set];first | done | rfl) | rfl)
 have hat:at_.toNat<S.length:=by lia
 refine Ws.seq (Ws.A (We.e2 (We.v rfl (We.v rfl (Wg2.ixL (xs:=S) (enc:=tupI) a0 (by lia) ?_ rfl rfl)))) (by decide))
 have ls:=hS (S[at_.toNat]) (List.getElem_mem _)
 generalize S[at_.toNat]=s at ls
 refine WA.val ?_ (by first | (dsimp only [List.set];first | done | rfl) | rfl)
 refine Ws.seq (Ws.A (We.e2 ?_) (by decide))
 refine We.drw (m:=(n:Int)+2) rfl (by lia) (by unfold dR;lia) rfl fun p x2 b0 b1 ρ3 e=>?_
 subst e
 refine We.c (Wg2.sub (WA.val ?_ (by first | (dsimp only [List.set];first | done | rfl) | rfl)) rfl rfl)
 generalize p-1=q
 have c1:pH (tupI s) (.tup [.int q])=some (.val (tupI (s++[q]))):=by
  unfold tupI pH
  dsimp only
  rw [if_pos (by rw [List.length_map];show _+1≤_;unfold SZ;lia),List.map_append]
  rfl
 have c2:pJ (.tup [.int q]) (tupI s)=some (.val (tupI (q::s))):=by
  unfold tupI pJ
  dsimp only
  rw [if_pos (by rw [List.length_map];show 1+_≤_;unfold SZ;lia)]
  rfl
 have c3:cut (s.map Dat.int) (some 1) none=(cA s (some 1) none).map Dat.int:=GF ..
 refine Ws.seq (Ws.A (We.L (Was.cons (We.e2 (We.v rfl (We.T (Was.cons (We.v rfl (Was.nil (WT.mk ?_ rfl rfl (by exact Nat.le_of_ble_eq_true rfl)))))))))) (by decide))
 refine ⟨_,_,_,rfl,rfl,c1,?_⟩
 refine Was.cons (We.e2 (We.T (Was.cons (We.v rfl (Was.nil (WT.mk ?_ rfl rfl (by exact Nat.le_of_ble_eq_true rfl)))))))
 refine We.v rfl ⟨_,_,_,rfl,rfl,c2,?_⟩
 refine Was.cons ⟨.val (tupI (cA s (some 1) none)),_,(by
  show some (Val.val (.tup (cut (s.map Dat.int) (some 1) none)),_)=_
  rw [c3];rfl),?_⟩
 refine Was.cons (We.e1 (We.v rfl (Wg1.mk (v:=.val (.tup (s.map Dat.int).reverse)) ?_ rfl rfl)))
 rw [← List.map_reverse]
 refine Was.cons (We.T (Was.cons (We.v rfl (Was.nil (WT.mk ?_ rfl rfl (by exact Nat.le_of_ble_eq_true rfl))))))
 refine Was.nil (WT.mk ?_ rfl rfl (by exact Nat.le_of_ble_eq_true rfl))
 refine WA.new ?_ (by first | (dsimp only [List.set];first | done | rfl) | rfl)
 generalize hco:((List.range n).filter fun i:Nat=>!decide ((0+(i:Nat):Int)∈s)).map (fun i:Nat=>(0+(i:Nat):Int))=co
 have lco:co.length≤10:=by
  rw [← hco,List.length_map]
  exact Nat.le_trans (List.length_filter_le _ _) (by rw [List.length_range];exact n10)
 refine Ws.seq (Ws.App (We.B (Was.cons (We.Comp (fun i:Nat=>Dat.int (0+(i:Nat))) (List.range n) (fun i:Nat=>!decide ((0+(i:Nat):Int)∈s)) (fun i:Nat=>Dat.int (0+(i:Nat))) (ρ1:=[.ow (aA x2),.sh (.int n),.sh (.lst (S.map tupI)),.sh (.int at_),.sh (tupI s),.sh (.int q),.ow (.lst [tupI (s++[q]),tupI (q::s),tupI (cA s (some 1) none),.tup (s.reverse.map Dat.int),.tup [.int q]])]) ?_ ?_ rfl (by decide) (by rw [List.length_range];unfold SZ;lia) (fun i _=>?_) fun i _ _=>We.v rfl (Wk.val ⟨rfl,rfl⟩)))) rfl)
 rotate_left
 ·apply Wi.get
  refine Wi.R1 (We.v rfl (cz.mk ⟨⟨?_,rfl⟩,by unfold BIG;lia,by unfold BIG;lia⟩))
  rw [Int.toNat_natCast]
  rfl
 ·exact Wt.V (We.e2 (We.v rfl (We.v rfl (Wg2.Ms (xs:=s) (Wb.mk ⟨rfl,rfl⟩) rfl rfl))))
 have eco:((List.range n).filter fun i:Nat=>!decide ((0+(i:Nat):Int)∈s)).map (fun i:Nat=>Dat.int (0+(i:Nat)))=co.map Dat.int:=by
  rw [← hco,List.map_map]
  rfl
 rw [eco]
 refine Was.nil (WB.tuple (xs:=co.map Dat.int) (Wk.val (mD ?_ rfl rfl (by exact Nat.le_of_ble_eq_true rfl))) rfl)
 generalize hcs:([s++[q],q::s,cA s (some 1) none,s.reverse,[q],co]:List (List Int))=cs
 have ecs:([tupI (s++[q]),tupI (q::s),tupI (cA s (some 1) none),.tup (s.reverse.map Dat.int),.tup [.int q]]++[.tup (co.map Dat.int)]:List Dat)=cs.map tupI:=by rw [← hcs];rfl
 have lcs:cs.length=6:=by rw [← hcs];rfl
 have mcs:∀ y∈cs,y.length≤30:=fun y hy=>by
  rw [← hcs] at hy
  have lc:=dM s (some 1) none
  simp only [List.mem_cons,List.not_mem_nil,or_false] at hy
  rcases hy with rfl | rfl | rfl | rfl | rfl | rfl
  ·rw [List.length_append];show _+1≤_;lia
  ·rw [List.length_cons];lia
  ·lia
  ·rw [List.length_reverse];lia
  ·show 1≤30;decide
  ·lia
 rw [ecs]
 have cl:∀ l h,(cA S l h).length≤S.length:=fun l h=>dM S l h
 show Ws _ [.ow (aA x2),.sh (.int n),.sh (.lst (S.map tupI)),.sh (.int at_),.sh (tupI s),.sh (.int q),.ow (.lst (cs.map tupI))] _ _ _ _
 refine Ws.R (We.e2 (We.e2 (gj (enc:=tupI) (xs:=S) (l:=none) (h:=some at_) (We.v rfl ⟨rfl,rfl⟩) rfl rfl ?_)))
 refine We.L (Was.cons (We.e2 (We.w rfl ?_)))
 refine We.drw (m:=6) rfl (by decide) (by decide) rfl fun i x3 i0 i1 ρ3 e=>?_
 subst e
 refine Wg2.ixL (xs:=cs) (enc:=tupI) i0 (by lia) ?_ rfl rfl
 have ly:=mcs (cs[i.toNat]'(by lia)) (List.getElem_mem _)
 generalize (cs[i.toNat]'(by lia))=y at ly
 refine Was.nil (WT.mk ?_ rfl rfl (by exact Nat.le_of_ble_eq_true rfl))
 refine Wg2.gG ?_ rfl rfl (by have:=cl none (some at_);rw [List.length_map];show _+1≤_;unfold SZ;lia)
 refine gj (ρ:=[.ow (aA x3),.sh (.int n),.sh (.lst (S.map tupI)),.sh (.int at_),.sh (tupI s),.sh (.int q),.ow (.lst (cs.map tupI))]) (enc:=tupI) (xs:=S) (l:=some (at_+1)) (h:=none) (We.v rfl ⟨rfl,rfl⟩) rfl rfl ?_
 refine Wg2.gG ?_ rfl rfl (by have:=cl none (some at_);have:=cl (some (at_+1)) none;rw [List.length_append,List.length_map,List.length_map];show _+1+_≤_;unfold SZ;lia)
 refine WR.new ⟨_,rfl,x3,cA S none (some at_)++[y]++cA S (some (at_+1)) none,rfl,by simp [RV.dat],?_,fun v hv=>?_⟩
 ·have:=cl none (some at_);have:=cl (some (at_+1)) none
  rw [List.length_append,List.length_append];show _+1+_≤_;lia
 ·rcases List.mem_append.mp hv with hv | hv
  ·rcases List.mem_append.mp hv with hv | hv
   ·have:=hS v (b4 hv);lia
   ·rw [List.mem_singleton.mp hv];exact ly
  ·have:=hS v (b4 hv);lia
noncomputable def Told (d:Dat):Prop:=∃ M W S,d=aR M W S∧Shape M W S
theorem sZ {n:Nat} {r:List Tie} (hr:Good n 0 r) (hl:r.length≤60) {k:Nat} {M:List Int} {W:List (List (List Int))} {S:List (List Int)} (T:Tame k M W S) (x:Int) :
  ∃ d x',sC [aA x,ak r,aR M W S]=some (.val d,aA x')∧Told d:=by
 suffices hh:WrM (sC [aA x,ak r,aR M W S]) fun v d=>∃ x' y,d=aA x'∧v=.val y∧Told y by
  obtain ⟨v,d,h1,x',y,rfl,rfl,h2⟩:=hh
  exact ⟨y,x',h1,h2⟩
 have sh:=T.shape
 unfold sC
 refine WrM.fn ?_ rfl rfl
 dsimp only [List.map,List.replicate,List.cons_append,List.nil_append]
 refine Ws.seq (Ws.U (We.v rfl (Wk.val ⟨_,_,rfl,rfl,?_⟩)))
 refine Ws.seq (Ws.A (We.oH aK r (fun t=>!decide (t.m∈M)) id aK (d:=ak r) ?_ rfl rfl rfl (by decide) (by unfold SZ;lia) (fun u _=>?_) fun u _ _=>We.v rfl (Wk.val ⟨rfl,rfl⟩)) (by decide))
 rotate_left
 ·refine Wt.V (We.e2 (We.e2 (We.v rfl (We.c (Wg2.ix (v:=.int u.m) ?_ rfl rfl rfl)))))
  exact We.v rfl (Wg2.Mr (xs:=M) (Wb.mk ⟨rfl,rfl⟩) rfl rfl)
 refine WA.new ?_ (by first | (dsimp only [List.set];first | done | rfl) | rfl)
 rw [List.map_id]
 show Ws _ [.ow (aA x),.sh (ak r),.sh (aR M W S),.sh (.lst (M.map Dat.int)),.sh (.lst (W.map au)),.sh (.lst (S.map tupI)),.ow (ak (aU r M)),.un,.un,.un,.un] _ _ _ _
 have lG:(aU r M).length≤60:=Nat.le_trans (List.length_filter_le _ _) hl
 refine Ws.seq (Ws.If (Wt.V (We.e2 (We.w rfl (We.L (Was.nil (WT.mk (Wg2.mE (xs:=(aU r M).map aK) (Wb.mk ?_) rfl rfl (pK aK _ fun t=>rfl)) rfl rfl (by decide))))))))
 generalize aU r M=G at lG
 by_cases hG:G=[]
 ·subst hG
  exact Wif.t (Ws.R (We.v rfl (WR.val ⟨_,rfl,_,_,rfl,rfl,M,W,S,rfl,sh⟩)))
 have pos:0<G.length:=List.length_pos_iff.mpr hG
 rw [show (G.map aK).isEmpty=false by cases G with | nil=>exact absurd rfl hG | cons a b=>rfl]
 refine Wif.f (Ws.nx ?_)
 have lm:(G.map aK).length=G.length:=List.length_map ..
 refine Ws.seq (Ws.A ?_ (by decide))
 refine We.drw (m:=((G.map aK).length:Nat)) rfl (by lia) (by unfold dR;lia) rfl fun at_ x1 a0 a1 ρ3 e=>?_
 subst e
 refine WA.val ?_ (by first | (dsimp only [List.set];first | done | rfl) | rfl)
 refine Ws.seq (Ws.A (We.e2 (We.w rfl (We.v rfl (Wg2.ixL (xs:=G) (enc:=aK) a0 (by lia) ?_ rfl rfl)))) (by decide))
 generalize (G[at_.toNat]'(by lia))=t
 refine WA.val ?_ (by first | (dsimp only [List.set];first | done | rfl) | rfl)
 have lM:=T.m
 refine Ws.seq (Ws.A (We.B (Was.cons (We.oH Dat.int M (fun m=>decide (m<t.m)) id Dat.int (d:=.lst (M.map Dat.int)) ?_ rfl rfl rfl (by decide) (by unfold SZ;lia) (fun u _=>?_) fun u _ _=>We.v rfl (Wk.val ⟨rfl,rfl⟩)))) (by decide))
 rotate_left
 ·refine Wt.V (We.e2 (We.v rfl (We.e2 (We.v rfl (We.c (Wg2.ix (v:=.int t.m) ?_ rfl rfl rfl))))))
  exact Wg2.lt (Wb.mk ⟨rfl,rfl⟩) rfl rfl
 rw [List.map_id]
 refine Was.nil (WB.fq (enc:=Dat.int) (xs:=M.filter fun m=>decide (m<t.m)) (WA.val ?_ (by first | (dsimp only [List.set];first | done | rfl) | rfl)) rfl)
 generalize (((M.filter fun m=>decide (m<t.m)).length:Nat):Int)=to
 refine Ws.seq (Ws.A (We.T (Was.cons (We.e2 (We.v rfl (We.e2 (We.c ?_)))))) (by decide))
 refine We.drw (m:=2) rfl (by decide) (by decide) rfl fun i x2 i0 i1 ρ3 e=>?_
 subst e
 have hi:i=0∨i=1:=by lia
 refine Wg2.add ?_ rfl rfl
 obtain ⟨pl,hpl⟩:∃ pl:Int,gIx (aK t) (.int (1+i))=some (.val (.int pl)):=by
  rcases hi with rfl | rfl
  ·exact ⟨t.a,rfl⟩
  ·exact ⟨t.b,rfl⟩
 refine Wg2.ix (v:=.int pl) ?_ rfl rfl hpl
 refine Was.nil (WT.mk ?_ rfl rfl (by exact Nat.le_of_ble_eq_true rfl))
 refine WA.val ?_ (by first | (dsimp only [List.set];first | done | rfl) | rfl)
 have cM:∀ l h,(cA M l h).length≤M.length:=fun l h=>dM M l h
 have cW:∀ l h,(cA W l h).length≤W.length:=fun l h=>dM W l h
 have cS:∀ l h,(cA S l h).length≤S.length:=fun l h=>dM S l h
 have lW:=T.w
 have lS:=T.s
 refine Ws.R (We.T (Was.cons (We.e2 (We.e2 (gj (enc:=Dat.int) (xs:=M) (l:=none) (h:=some to) (We.v rfl ⟨rfl,rfl⟩) rfl rfl ?_)))))
 refine We.L (Was.cons (We.e2 (We.v rfl (We.c (Wg2.ix (v:=.int t.m) ?_ rfl rfl rfl)))))
 refine Was.nil (WT.mk ?_ rfl rfl (by exact Nat.le_of_ble_eq_true rfl))
 refine Wg2.gG ?_ rfl rfl (by have:=cM none (some to);rw [List.length_map];show _+1≤_;unfold SZ;lia)
 refine gj (enc:=Dat.int) (xs:=M) (l:=some to) (h:=none) (We.v rfl ⟨rfl,rfl⟩) rfl rfl ?_
 refine Wg2.gG ?_ rfl rfl (by have:=cM none (some to);have:=cM (some to) none;rw [List.length_append,List.length_map,List.length_map];show _+1+_≤_;unfold SZ;lia)
 refine Was.cons (We.e2 (gj (enc:=au) (xs:=W) (l:=none) (h:=some at_) (We.v rfl ⟨rfl,rfl⟩) rfl rfl ?_))
 refine gj (enc:=au) (xs:=W) (l:=some (at_+1)) (h:=none) (We.v rfl ⟨rfl,rfl⟩) rfl rfl ?_
 refine Wg2.gG ?_ rfl rfl (by have:=cW none (some at_);have:=cW (some (at_+1)) none;rw [List.length_map,List.length_map];unfold SZ;lia)
 refine Was.cons (We.e2 (We.e2 (gj (enc:=tupI) (xs:=S) (l:=none) (h:=some to) (We.v rfl ⟨rfl,rfl⟩) rfl rfl ?_)))
 refine We.L (Was.cons (We.v rfl (Was.nil (WT.mk ?_ rfl rfl (by exact Nat.le_of_ble_eq_true rfl)))))
 refine Wg2.gG ?_ rfl rfl (by have:=cS none (some to);rw [List.length_map];show _+1≤_;unfold SZ;lia)
 refine gj (enc:=tupI) (xs:=S) (l:=some to) (h:=none) (We.v rfl ⟨rfl,rfl⟩) rfl rfl ?_
 refine Wg2.gG ?_ rfl rfl (by have:=cS none (some to);have:=cS (some to) none;rw [List.length_append,List.length_map,List.length_map];show _+1+_≤_;unfold SZ;lia)
 refine Was.nil (WT.mk ?_ rfl rfl (by exact Nat.le_of_ble_eq_true rfl))
 refine WR.val ⟨_,rfl,x2,_,rfl,rfl,cA M none (some to)++[t.m]++cA M (some to) none,cA W none (some at_)++cA W (some (at_+1)) none,cA S none (some to)++[[pl]]++cA S (some to) none,?_,?_⟩
 ·unfold aR
  simp only [List.map_append]
  rfl
 ·refine ⟨?_,?_,fun ws hw=>?_,?_,fun y hy=>?_⟩
  ·have:=cM none (some to);have:=cM (some to) none
   rw [List.length_append,List.length_append];show _+1+_≤_;lia
  ·have:=cW none (some at_);have:=cW (some (at_+1)) none
   rw [List.length_append];lia
  ·rcases List.mem_append.mp hw with hw | hw<;>exact sh.few ws (b4 hw)
  ·have:=cS none (some to);have:=cS (some to) none
   rw [List.length_append,List.length_append];show _+1+_≤_;lia
  ·rcases List.mem_append.mp hy with hy | hy
   ·rcases List.mem_append.mp hy with hy | hy
    ·exact sh.kK y (b4 hy)
    ·rw [List.mem_singleton.mp hy];show 1≤30;decide
   ·exact sh.kK y (b4 hy)
theorem B7 (aH aW:Nat) {n:Nat} (n10:n≤10) {r:List Tie} (hr:Good n 0 r) (hl:r.length≤60) {k:Nat} (k1:1≤k) (k6:k≤6) (x:Int) :
  ∃ x' M W S,sH aH aW [aA x,.int n,ak r,.int k]=some (.val (aR M W S),aA x')∧Tame k M W S:=by
 suffices hh:WrM (sH aH aW [aA x,.int n,ak r,.int k]) fun v d=>∃ x' M W S,d=aA x'∧v=.val (aR M W S)∧Tame k M W S by
  obtain ⟨v,d,h1,x',M,W,S,rfl,rfl,h2⟩:=hh
  exact ⟨x',M,W,S,h1,h2⟩
 unfold sH
 refine WrM.fn ?_ rfl rfl
 dsimp only [List.map,List.replicate,List.cons_append,List.nil_append]
 refine Ws.seq (Ws.A ?_ (by decide))
 refine We.drw (m:=4) rfl (by decide) (by decide) rfl fun way x1 a0 a1 ρ3 e=>?_
 subst e
 refine WA.val ?_ (by first | (dsimp only [List.set];first | done | rfl) | rfl)
 refine Ws.seq (Ws.If (Wt.V (We.e2 (We.v rfl (We.c (Wg2.eq (Wb.mk ?_) rfl rfl))))))
 refine Wif.dec (fun _=>?_) fun _=>Ws.nx ?_
 ·obtain ⟨M,W,S,e,_,T⟩:=pW aH aW n10 hr hl k1 k6
  refine Ws.R (We.F (Was.cons (We.v rfl (Was.cons (We.v rfl (Was.cons (We.v rfl (Was.nil (WF.box e ?_ rfl rfl rfl rfl)))))))))
  exact WR.val ⟨_,rfl,x1,M,W,S,rfl,rfl,T⟩
 refine Ws.seq (Ws.If (Wt.V (We.e2 (We.v rfl (We.c (Wg2.eq (Wb.mk ?_) rfl rfl))))))
 refine Wif.dec (fun _=>?_) fun _=>Ws.nx ?_
 ·refine Ws.R (We.T (Was.cons (We.f9 aK r (·.m) Dat.int (d:=ak r) ?_ rfl rfl rfl (by decide) (by unfold SZ;lia) fun t ht=>We.e2 (We.v rfl (We.c (Wg2.ix (v:=.int t.m) (Wk.val ⟨rfl,rfl⟩) rfl rfl rfl))))))
  refine Was.cons (We.L (Was.nil (WT.mk ?_ rfl rfl (by decide))))
  refine Was.cons (We.f9 aK r (fun t=>[t.a]) tupI (d:=ak r) ?_ rfl rfl rfl (by decide) (by unfold SZ;lia) fun t ht=>?_)
  rotate_left
  ·refine We.T (Was.cons (We.e2 (We.v rfl (We.c (Wg2.ix (v:=.int t.a) ?_ rfl rfl rfl)))))
   exact Was.nil (WT.mk (Wk.val ⟨rfl,rfl⟩) rfl rfl (by exact Nat.le_of_ble_eq_true rfl))
  refine Was.nil (WT.mk ?_ rfl rfl (by exact Nat.le_of_ble_eq_true rfl))
  refine WR.val ⟨_,rfl,x1,r.map (·.m),[],r.map (fun t=>[t.a]),rfl,rfl,?_⟩
  refine ⟨by rw [List.length_map];exact hl,by simp,by rw [List.length_map];exact hl,fun ws hw=>(by cases hw),fun y hy=>?_⟩
  obtain ⟨t,_,rfl⟩:=List.mem_map.mp hy
  show 1≤10;decide
 ·obtain ⟨M,W,S,e,_,T⟩:=g8 aH aW n10 hr hl k1 k6
  refine Ws.R (We.F (Was.cons (We.v rfl (Was.cons (We.B (Was.cons (We.v rfl (Was.nil (WB.list (xs:=r.map aK) ?_ rfl))))) ))))
  refine Was.cons (We.v rfl (Was.nil (WF.box e ?_ rfl rfl rfl rfl)))
  exact WR.val ⟨_,rfl,x1,M,W,S,rfl,rfl,T⟩
theorem mX {α:Type} (enc:α→Dat) (ok:∀ x,okD 7 (enc x)=true) (xs:List α) (hx:xs.length≤1000) {ρ:Env} {x i x2:Int} {a b:FE} {v:Val} (ha:a ρ=some (.val (.lst (xs.map enc)),ρ)) (hb:b ρ=some (.val (.int i),ρ.set 0 (.ow (aA x2)))) (h0:ρ[0]?=some (.ow (aA x))) {Q:Val→Env→Prop}
  (k:∀ (x':Int) (ys:List α),ys.length≤2*xs.length+1→(∀ y∈ys,y∈xs)→∀ v:Val,v=.val (.lst (ys.map enc))∨v=.new (.lst (ys.map enc))→Q v (ρ.set 0 (.ow (aA x')))):We (eFm jy 0 [a,b]) ρ Q:=by
 obtain ⟨v,x',ys,e,hv,ly,hy⟩:=B6 enc ok xs hx x2 i
 have hp:0<ρ.length:=by
  cases ρ with
  | nil=>cases h0
  | cons c ρ=>simp
 have g:(ρ.set 0 (Cell.ow (aA x2)))[0]?=some (.ow (aA x2)):=List.getElem?_set_self hp
 refine We.Fm (Was.cons ⟨_,_,ha,Was.cons ⟨_,_,hb,Was.nil ⟨_,_,_,_,_,_,g,rfl,g,e,?_⟩⟩⟩) h0
 rw [List.set_set]
 rcases RV.two hv with rfl | rfl
 ·split<;>exact k x' ys ly hy _ (.inl rfl)
 ·split<;>exact k x' ys ly hy _ (.inr rfl)
theorem zC (aH aW:Nat) {n:Nat} (n10:n≤10) {r:List Tie} (hr:Good n 0 r) (hl:r.length≤60) {k:Nat} {M:List Int} {W:List (List (List Int))} {S:List (List Int)} (T:Tame k M W S) (x:Int) :
  ∃ d x',sF aH aW [aA x,.int n,ak r,.int k,aR M W S]=some (.val d,aA x')∧Told d:=by
 suffices hh:WrM (sF aH aW [aA x,.int n,ak r,.int k,aR M W S]) fun v d=>∃ x' y,d=aA x'∧v=.val y∧Told y by
  obtain ⟨v,d,h1,x',y,rfl,rfl,h2⟩:=hh
  exact ⟨y,x',h1,h2⟩
 have sh:=T.shape
 have lM:=T.m
 have lW:=T.w
 have lS:=T.s
 unfold sF
 refine WrM.fn ?_ rfl rfl
 dsimp only [List.map,List.replicate,List.cons_append,List.nil_append]
 refine Ws.seq (Ws.A ?_ (by decide))
 refine We.drw (m:=18) rfl (by decide) (by decide) rfl fun way x1 a0 a1 ρ3 e=>?_
 subst e
 refine WA.val ?_ (by first | (dsimp only [List.set];first | done | rfl) | rfl)
 refine Ws.seq (Ws.U (We.v rfl (Wk.val ⟨_,_,rfl,rfl,?_⟩)))
 show Ws _ [.ow (aA x1),.sh (.int n),.sh (ak r),.sh (.int k),.sh (aR M W S),.sh (.int way),.sh (.lst (M.map Dat.int)),.sh (.lst (W.map au)),.sh (.lst (S.map tupI))] _ _ _ _
 refine Ws.seq (Ws.If (Wt.V (We.e2 (We.v rfl (We.c (Wg2.gt (Wb.mk ?_) rfl rfl))))))
 refine Wif.dec (fun _=>?_) fun _=>Ws.nx ?_
 ·obtain ⟨d,x',e,h⟩:=sZ hr hl T x1
  refine Ws.R (We.Fm (Was.cons (We.v rfl (Was.cons (We.v rfl (Was.nil (WFm.any e ?_ rfl rfl rfl)))))) rfl)
  exact WR.val ⟨_,rfl,x',d,rfl,rfl,h⟩
 refine Ws.seq (Ws.If (Wt.V (We.e2 (We.v rfl (We.c (Wg2.lt (Wb.mk ?_) rfl rfl))))))
 refine Wif.dec (fun _=>?_) fun _=>Ws.nx ?_
 ·refine Ws.R (We.T (Was.cons (mX Dat.int (fun _=>rfl) M (by lia) (x:=x1) (x2:=x1) (i:=way) (v:=.val .non) rfl rfl rfl fun x' ys ly hy v hv=>?_)))
  have:∃ d,Told d∧d=aR ys W S:=⟨_,⟨ys,W,S,rfl,⟨by lia,sh.w,sh.few,sh.s,sh.kK⟩⟩,rfl⟩
  obtain ⟨d,hd,ed⟩:=this
  refine Was.cons (We.v rfl (Was.cons (We.v rfl ?_)))
  rcases hv with rfl | rfl
  ·exact Was.nil (WT.mk (WR.val ⟨_,rfl,x',_,rfl,rfl,by rw [ed] at hd;exact hd⟩) rfl rfl (by exact Nat.le_of_ble_eq_true rfl))
  ·exact Was.nil (WT.mk (WR.val ⟨_,rfl,x',_,rfl,rfl,by rw [ed] at hd;exact hd⟩) rfl rfl (by exact Nat.le_of_ble_eq_true rfl))
 refine Ws.seq (Ws.If (Wt.V (We.e2 (We.v rfl (We.c (Wg2.lt (Wb.mk ?_) rfl rfl))))))
 refine Wif.dec (fun _=>?_) fun _=>Ws.nx ?_
 ·refine Ws.R (We.T (Was.cons (We.v rfl (Was.cons (mX au okw W (by lia) (x:=x1) (x2:=x1) (i:=way-4) (v:=.val .non) rfl rfl rfl fun x' ys ly hy v hv=>?_)))))
  have hd:Told (aR M ys S):=⟨M,ys,S,rfl,⟨sh.m,by lia,fun ws hw=>sh.few ws (hy ws hw),sh.s,sh.kK⟩⟩
  refine Was.cons (We.v rfl ?_)
  rcases hv with rfl | rfl
  ·exact Was.nil (WT.mk (WR.val ⟨_,rfl,x',_,rfl,rfl,hd⟩) rfl rfl (by exact Nat.le_of_ble_eq_true rfl))
  ·exact Was.nil (WT.mk (WR.val ⟨_,rfl,x',_,rfl,rfl,hd⟩) rfl rfl (by exact Nat.le_of_ble_eq_true rfl))
 refine Ws.seq (Ws.If (Wt.V (We.e2 (We.v rfl (We.c (Wg2.lt (Wb.mk ?_) rfl rfl))))))
 refine Wif.dec (fun _=>?_) fun _=>Ws.nx ?_
 ·obtain ⟨v,x',W',e,hv,lW',hW'⟩:=mV hl lW T.few x1 (way-7)
  have hd:Told (aR M W' S):=⟨M,W',S,rfl,⟨sh.m,lW',hW',sh.s,sh.kK⟩⟩
  refine Ws.R (We.T (Was.cons (We.v rfl (Was.cons (We.Fm (Was.cons (We.v rfl (Was.cons (We.v rfl (Was.cons (We.e2 (We.v rfl (We.c (Wg2.sub (Was.nil (WFm.any e ?_ rfl rfl rfl)) rfl rfl))))))))) rfl)))))
  refine Was.cons (We.v rfl ?_)
  rcases RV.two hv with rfl | rfl
  ·exact Was.nil (WT.mk (WR.val ⟨_,rfl,x',_,rfl,rfl,hd⟩) rfl rfl (by exact Nat.le_of_ble_eq_true rfl))
  ·exact Was.nil (WT.mk (WR.val ⟨_,rfl,x',_,rfl,rfl,hd⟩) rfl rfl (by exact Nat.le_of_ble_eq_true rfl))
 refine Ws.seq (Ws.If (Wt.V (We.e2 (We.v rfl (We.c (Wg2.eq (Wb.mk ?_) rfl rfl))))))
 refine Wif.dec (fun _=>?_) fun _=>Ws.nx ?_
 ·refine Ws.R (We.T (Was.cons (We.v rfl (Was.cons (We.v rfl (Was.cons ?_))))))
  obtain ⟨i,x2,hb⟩:∃ i x2:Int,eFm br 0 [(eC (.int 4))] [.ow (aA x1),.sh (.int n),.sh (ak r),.sh (.int k),.sh (aR M W S),.sh (.int way),.sh (.lst (M.map Dat.int)),.sh (.lst (W.map au)),.sh (.lst (S.map tupI))]=some (.val (.int i),([.ow (aA x1),.sh (.int n),.sh (ak r),.sh (.int k),.sh (aR M W S),.sh (.int way),.sh (.lst (M.map Dat.int)),.sh (.lst (W.map au)),.sh (.lst (S.map tupI))]:Env).set 0 (.ow (aA x2))):=by
   have:We (eFm br 0 [(eC (.int 4))]) [.ow (aA x1),.sh (.int n),.sh (ak r),.sh (.int k),.sh (aR M W S),.sh (.int way),.sh (.lst (M.map Dat.int)),.sh (.lst (W.map au)),.sh (.lst (S.map tupI))] fun v ρ=>∃ i x2:Int,v=.val (.int i)∧ρ=([.ow (aA x1),.sh (.int n),.sh (ak r),.sh (.int k),.sh (aR M W S),.sh (.int way),.sh (.lst (M.map Dat.int)),.sh (.lst (W.map au)),.sh (.lst (S.map tupI))]:Env).set 0 (.ow (aA x2)):=
    We.drw (m:=4) rfl (by decide) (by decide) rfl fun i x2 _ _ ρ3 e=>⟨i,x2,rfl,e.symm⟩
   obtain ⟨v,ρ,h1,i,x2,rfl,rfl⟩:=this
   exact ⟨i,x2,h1⟩
  refine mX tupI oks S (by lia) (x:=x1) (x2:=x2) (i:=i) (v:=.val .non) rfl hb rfl fun x' ys ly hy v hv=>?_
  have hd:Told (aR M W ys):=⟨M,W,ys,rfl,⟨sh.m,sh.w,sh.few,by lia,fun y h=>sh.kK y (hy y h)⟩⟩
  rcases hv with rfl | rfl
  ·exact Was.nil (WT.mk (WR.val ⟨_,rfl,x',_,rfl,rfl,hd⟩) rfl rfl (by exact Nat.le_of_ble_eq_true rfl))
  ·exact Was.nil (WT.mk (WR.val ⟨_,rfl,x',_,rfl,rfl,hd⟩) rfl rfl (by exact Nat.le_of_ble_eq_true rfl))
 refine Ws.seq (Ws.If (Wt.V (We.e2 (We.v rfl (We.c (Wg2.lt (Wb.mk ?_) rfl rfl))))))
 refine Wif.dec (fun _=>?_) fun _=>Ws.nx ?_
 ·obtain ⟨v,x',S',e,hv,lS',hS'⟩:=mW n10 lS T.kK x1
  have hd:Told (aR M W S'):=⟨M,W,S',rfl,⟨sh.m,sh.w,sh.few,lS',hS'⟩⟩
  refine Ws.R (We.T (Was.cons (We.v rfl (Was.cons (We.v rfl (Was.cons (We.Fm (Was.cons (We.v rfl (Was.cons (We.v rfl (Was.nil (WFm.any e ?_ rfl rfl rfl)))))) rfl)))))))
  rcases RV.two hv with rfl | rfl
  ·exact Was.nil (WT.mk (WR.val ⟨_,rfl,x',_,rfl,rfl,hd⟩) rfl rfl (by exact Nat.le_of_ble_eq_true rfl))
  ·exact Was.nil (WT.mk (WR.val ⟨_,rfl,x',_,rfl,rfl,hd⟩) rfl rfl (by exact Nat.le_of_ble_eq_true rfl))
 refine Ws.seq (Ws.If (Wt.V (We.e2 (We.v rfl (We.c (Wg2.eq (Wb.mk ?_) rfl rfl))))))
 refine Wif.dec (fun _=>?_) fun _=>Ws.nx ?_
 ·refine Ws.R (We.F (Was.cons (We.v rfl (Was.cons (We.B (Was.cons (We.v rfl (Was.nil (WB.list (xs:=r.map aK) ?_ rfl))))) ))))
  refine Was.cons (We.e2 (We.c ?_))
  refine We.drw (m:=6) rfl (by decide) (by decide) rfl fun i x2 i0 i1 ρ3 e=>?_
  subst e
  obtain ⟨M',W',S',e,_,T'⟩:=g8 aH aW n10 hr hl (k:=(1+i).toNat) (by lia) (by lia)
  rw [Int.toNat_of_nonneg (by lia)] at e
  refine Wg2.add (Was.nil (WF.box e ?_ rfl rfl rfl rfl)) rfl rfl
  exact WR.val ⟨_,rfl,x2,_,rfl,rfl,M',W',S',rfl,T'.shape⟩
 ·exact Ws.R (We.v rfl (WR.val ⟨_,rfl,x1,_,rfl,rfl,M,W,S,rfl,sh⟩))
theorem ix2 (i:Int) (h0:0≤i) (h:i<2):∃ v:Int,gIx (.lst [.int 3,.int 6]) (.int i)=some (.val (.int v))∧1≤v∧v≤6:=by
 have:i=0∨i=1:=by lia
 rcases this with rfl | rfl<;>exact ⟨_,rfl,by decide,by decide⟩
theorem ix4 (a b c d:Int) (i:Int) (h0:0≤i) (h:i<4) (P:Int→Prop) (ha:P a) (hb:P b) (hc:P c) (hd:P d):∃ v:Int,gIx (.lst [.int a,.int b,.int c,.int d]) (.int i)=some (.val (.int v))∧P v:=by
 have:i=0∨i=1∨i=2∨i=3:=by lia
 rcases this with rfl | rfl | rfl | rfl
 ·exact ⟨a,rfl,ha⟩
 ·exact ⟨b,rfl,hb⟩
 ·exact ⟨c,rfl,hc⟩
 ·exact ⟨d,rfl,hd⟩
theorem pX:∀ W:List (List (List Int)),dG (W.map au) (W.map au)=true
 | []=>rfl
 | ws::W=>by
  rw [List.map_cons,dG,pX W]
  unfold au
  rw [eqD,gA,decide_eq_true rfl]
  rfl
theorem mY:∀ S:List (List Int),dG (S.map tupI) (S.map tupI)=true
 | []=>rfl
 | s::S=>by
  rw [List.map_cons,dG,mY S]
  unfold tupI
  rw [eqD,gy,decide_eq_true rfl]
  rfl
theorem zD (M:List Int) (W:List (List (List Int))) (S:List (List Int)) {o p:Option Dat} {K:RV→Prop} (k:K (.val (.bl false))) (ho:o=some (aR M W S)) (hp:p=some (aR M W S)):Wg2 gNe o p K:=by
 refine ⟨_,_,_,ho,hp,?_,k⟩
 have e:eqD (aR M W S) (aR M W S)=true:=by
  unfold aR
  rw [eqD,dG,dG,dG,dG,eqD,eqD,eqD,gy,pX,mY,decide_eq_true rfl]
  rfl
 have w:okD 7 (.lst (W.map au))=true:=by
  unfold okD
  rw [List.all_eq_true]
  intro d hd
  obtain ⟨x,_,rfl⟩:=List.mem_map.mp hd
  exact gB 4 x
 have s:okD 7 (.lst (S.map tupI))=true:=by
  unfold okD
  rw [List.all_eq_true]
  intro d hd
  obtain ⟨x,_,rfl⟩:=List.mem_map.mp hd
  unfold tupI okD
  rw [List.all_eq_true]
  intro d hd
  obtain ⟨y,_,rfl⟩:=List.mem_map.mp hd
  unfold okD
  rfl
 have ok:okD 8 (aR M W S)=true:=by
  unfold aR okD
  rw [List.all_cons,List.all_cons,List.all_cons,okl,w,s]
  rfl
 unfold gNe
 rw [ok,e]
 rfl
theorem B8 (aH aW:Nat) {ns:List Int} {at_:Int} {n:Nat} (n1:1≤n) (n10:n≤10) (a0:0≤at_) (a1:at_<1000) (c1 c4 c5 c6 c7 c8:Cell) {R:RV→Env→Prop} {B C:Env→Prop} {N:Env→Prop}
  (k':∀ c1 c4 c5 c6 c7 c8:Cell,N [.sh (.lst (ns.map Dat.int)),c1,.sh (.int n),.sh (.int at_),c4,c5,c6,c7,c8]) :
  Ws (vo aH aW) [.sh (.lst (ns.map Dat.int)),c1,.sh (.int n),.sh (.int at_),c4,c5,c6,c7,c8] N R B C:=by
 unfold vo
 obtain ⟨x0,ep⟩:=xT ns at_ a0 a1
 refine Ws.seq (Ws.A (We.F (Was.cons (We.v rfl (Was.cons (We.v rfl (Was.nil (WF.box ep ?_ rfl rfl rfl rfl))))))) (by decide))
 refine WA.new ?_ (by first | (dsimp only [List.set];first | done | rfl) | rfl)
 refine Ws.cut (fun ρ=>∃ (k:Nat) (x:Int),1≤k∧k≤6∧ρ=[.sh (.lst (ns.map Dat.int)),.ow (aA x),.sh (.int n),.sh (.int at_),.sh (.int k),c5,c6,c7,c8]) ?_ ?_
 ·refine Ws.A (We.e2 (We.c ?_)) (by decide)
  refine We.take (We.e2 (We.L (Was.cons (We.c (Was.cons (We.c (Was.nil (WT.mk ?_ rfl rfl (by exact Nat.le_of_ble_eq_true rfl))))))))) rfl
  refine We.drw (m:=2) rfl (by decide) (by decide) rfl fun i x1 i0 i1 ρ3 e=>?_
  subst e
  obtain ⟨v,hv,v1,v2⟩:=ix2 i i0 i1
  refine Wg2.ix (cz.mk (kZ ?_ rfl rfl (by lia) (by unfold dR;lia))) rfl rfl hv
  refine Wg2.add (WA.val ?_ (by first | (dsimp only [List.set];first | done | rfl) | rfl)) rfl rfl
  have hm:=dw x1 v v1
  refine ⟨(1+x1 % v).toNat,x1 / v,by lia,by lia,?_⟩
  have:(((1+x1 % v).toNat:Nat):Int)=1+x1 % v:=by lia
  rw [this]
 rintro ρ ⟨k,x1,k1,k6,rfl⟩
 refine Ws.cut (fun ρ=>∃ (r:List Tie) (x:Int),Good n 0 r∧r.length≤60∧ρ=[.sh (.lst (ns.map Dat.int)),.ow (aA x),.sh (.int n),.sh (.int at_),.sh (.int k),.ow (ak r),c6,c7,c8]) ?_ ?_
 ·refine Ws.A (We.Fm ?_ rfl) (by decide)
  refine Was.cons (We.v rfl (Was.cons (We.e2 (We.L ?_))))
  refine Was.cons (We.c (Was.cons (We.c (Was.cons (We.c (Was.cons (We.e2 (We.L ?_))))))))
  refine Was.cons (We.c (Was.cons (We.c (Was.nil (WT.mk ?_ rfl rfl (by exact Nat.le_of_ble_eq_true rfl))))))
  refine We.B (Was.cons (We.e2 (We.v rfl (We.c (Wg2.gt (Was.nil (WB.int ?_ rfl)) rfl rfl)))))
  obtain ⟨z,hz,z1,z2⟩:∃ z:Int,gIx (.lst [.int 60,.int 12]) (.int (b2i (decide (1<at_))))=some (.val (.int z))∧1≤z∧z≤60:=by
   by_cases q:1<at_
   ·rw [decide_eq_true q];exact ⟨12,rfl,by decide,by decide⟩
   ·rw [decide_eq_false q];exact ⟨60,rfl,by decide,by decide⟩
  refine Wg2.ix (v:=.int z) ?_ rfl rfl hz
  refine Was.nil (WT.mk ?_ rfl rfl (by exact Nat.le_of_ble_eq_true rfl))
  refine We.drw (m:=4) rfl (by decide) (by decide) rfl fun i x2 i0 i1 ρ3 e=>?_
  subst e
  obtain ⟨v,hv,v1,v2⟩:=ix4 9 9 9 z i i0 i1 (fun v=>1≤v∧v≤60) (by decide) (by decide) (by decide) ⟨z1,z2⟩
  obtain ⟨r,x3,er,hg,hl,_⟩:=zv x2 n v (by lia) (by lia) (by lia) v2
  refine Wg2.ix (v:=.int v) (Was.nil (WFm.any er ?_ rfl rfl rfl)) rfl rfl hv
  exact WA.new ⟨r,x3,hg,by lia,rfl⟩ (by first | (dsimp only [List.set];first | done | rfl) | rfl)
 rintro ρ ⟨r,x2,hg,hl,rfl⟩
 obtain ⟨x3,M,W,S,e1,T⟩:=B7 aH aW n10 hg hl k1 k6 x2
 refine Ws.seq (Ws.A (We.Fm ?_ rfl) (by decide))
 refine Was.cons (We.v rfl (Was.cons (We.w rfl (Was.cons (We.v rfl (Was.nil ⟨_,_,_,_,_,_,rfl,rfl,rfl,e1,?_⟩))))))
 rw [if_neg (show ¬ ((Dm.flat (RV.val (aR M W S)).dat&&qz (aA x3))=true) from by intro z;cases z)]
 refine WA.val ?_ (by first | (dsimp only [List.set];first | done | rfl) | rfl)
 have sh:=T.shape
 have ep1:=ee n10 hg hl k1 k6 sh
 have eh1:=xY n10 hg hl k6 sh
 refine Ws.seq (Ws.If (Wt.V (We.e2 (We.F (Was.cons (We.v rfl (Was.cons (We.B (Was.cons (We.v rfl (Was.nil (WB.list (xs:=r.map aK) ?_ rfl))))))))))))
 refine Was.cons (We.v rfl (Was.cons (We.v rfl (Was.nil (WF.val ep1 ?_ rfl rfl)))))
 refine We.F (Was.cons (We.v rfl (Was.cons (We.v rfl (Was.cons (We.v rfl (Was.cons (We.v rfl (Was.nil (WF.val eh1 ?_ rfl rfl))))))))))
 refine Wg2.neb (Wb.mk ?_) rfl rfl
 rw [beq_self_eq_true]
 refine Wif.f (Ws.nx ?_)
 obtain ⟨M2,W2,S2,e2,hr2,T2⟩:=pW aH aW n10 hg hl k1 k6
 have ep2:=ee n10 hg hl k1 k6 T2.shape
 rw [hr2] at ep2
 refine Ws.seq (Ws.If (Wt.V (We.e2 (We.F (Was.cons (We.v rfl (Was.cons (We.B (Was.cons (We.v rfl (Was.nil (WB.list (xs:=r.map aK) ?_ rfl))))))))))))
 refine Was.cons (We.v rfl (Was.cons (We.F (Was.cons (We.v rfl (Was.cons (We.v rfl (Was.cons (We.v rfl (Was.nil (WF.box e2 ?_ rfl rfl rfl rfl)))))))))))
 refine Was.nil (WF.val ep2 ?_ rfl rfl)
 refine We.c (Wg2.Bg (i:=true) (j:=true) (Wb.mk (Wif.f (Ws.nx ?_))) rfl rfl)
 obtain ⟨d,x4,e3,M3,W3,S3,rfl,sh3⟩:=zC aH aW n10 hg hl T x3
 refine Ws.seq (Ws.A (We.Fm ?_ rfl) (by decide))
 refine Was.cons (We.v rfl (Was.cons (We.v rfl (Was.cons (We.v rfl (Was.cons (We.v rfl (Was.nil (WFm.any e3 ?_ rfl rfl rfl)))))))))
 refine WA.val ?_ (by first | (dsimp only [List.set];first | done | rfl) | rfl)
 refine Ws.seq (Ws.A (We.T (Was.cons (We.B (Was.cons (We.e2 (We.v rfl (We.c (Wg2.ix (v:=.lst (M3.map Dat.int)) ?_ rfl rfl rfl)))))))) (by decide))
 refine Was.nil (WB.list (xs:=M3.map Dat.int) ?_ rfl)
 have w3:=sh3.w
 refine Was.cons (We.Map au W3 id au (ρ1:=[.sh (.lst (ns.map Dat.int)),.ow (aA x4),.sh (.int n),.sh (.int at_),.sh (.int k),.sh (ak r),.sh (aR M3 W3 S3),c7,c8]) ?_ ?_ rfl (by decide) (by unfold SZ;lia) fun ws hws=>?_)
 rotate_left
 ·apply Wi.get
  exact Wi.S (We.e2 (We.v rfl (We.c (Wg2.ix (v:=.lst (W3.map au)) (Wk.val ⟨_,rfl,rfl,rfl⟩) rfl rfl rfl))))
 ·obtain ⟨f1,f2⟩:=sh3.few ws hws
  refine We.f9 (fun w:List Int=>Dat.lst (w.map Dat.int)) ws id (fun w:List Int=>Dat.lst (w.map Dat.int)) (d:=au ws) ?_ rfl rfl rfl (by decide) (by unfold SZ;lia) fun w hw=>?_
  ·refine Wk.new ⟨?_,rfl⟩
   rw [List.map_id]
   rfl
  ·exact We.B (Was.cons (We.v rfl (Was.nil (WB.list (xs:=w.map Dat.int) (Wk.new ⟨rfl,rfl⟩) rfl))))
 rw [List.map_id]
 refine Was.cons (We.B (Was.cons (We.e2 (We.v rfl (We.c (Wg2.ix (v:=.lst (S3.map tupI)) ?_ rfl rfl rfl))))))
 refine Was.nil (WB.list (xs:=S3.map tupI) ?_ rfl)
 refine Was.nil (WT.mk ?_ rfl rfl (by exact Nat.le_of_ble_eq_true rfl))
 refine WA.val ?_ (by first | (dsimp only [List.set];first | done | rfl) | rfl)
 have ep3:=ee n10 hg hl k1 k6 sh3
 have eh3:=xY n10 hg hl k6 sh3
 refine Ws.seq (Ws.A (We.F (Was.cons (We.v rfl (Was.cons (We.B (Was.cons (We.v rfl (Was.nil (WB.list (xs:=r.map aK) ?_ rfl))))))))) (by decide))
 refine Was.cons (We.v rfl (Was.cons (We.v rfl (Was.nil (WF.val ep3 ?_ rfl rfl)))))
 refine WA.val ?_ (by first | (dsimp only [List.set];first | done | rfl) | rfl)
 refine Ws.If (Wt.Or (Wt.Not (Wt.V (We.e1 (We.v rfl (Wg1.mk (v:=.val (.bl true)) (Wb.mk (Wif.f ?_)) rfl rfl))))))
 refine Wt.Or (Wt.V (We.e2 (We.v rfl (We.F (Was.cons (We.v rfl (Was.cons (We.v rfl (Was.cons (We.v rfl (Was.cons (We.v rfl (Was.nil (WF.val eh3 ?_ rfl rfl))))))))))))))
 refine Wg2.neb (Wb.mk ?_) rfl rfl
 rw [beq_self_eq_true]
 refine Wif.f ?_
 refine Wt.V (We.e2 (We.v rfl (We.v rfl (zD M3 W3 S3 (Wb.mk (Wif.f (Ws.nx ?_))) rfl rfl))))
 exact k' _ _ _ _ _ _
theorem math (aH aW:Nat) (ns:List Int) (h:ns.length≤63):mH aH aW [.lst (ns.map Dat.int)]=some (.val (.bl true)):=by
 apply Wr.eq
 unfold mH
 (refine Dm.Wr.fn ?_ rfl rfl;dsimp only [List.map,List.replicate,List.cons_append,List.nil_append])
 obtain ⟨x0,ep⟩:=xT ns 0 (by decide) (by decide)
 refine Ws.seq (Ws.A (We.F (Was.cons (We.v rfl (Was.cons (We.c (Was.nil (WF.box ep ?_ rfl rfl rfl rfl))))))) (by decide))
 refine WA.new ?_ (by first | (dsimp only [List.set];first | done | rfl) | rfl)
 refine Ws.cut (fun ρ=>∃ (n:Nat) (c1:Cell),1≤n∧n≤10∧ρ=[.sh (.lst (ns.map Dat.int)),c1,.sh (.int n),.un,.un,.un,.un,.un,.un]) ?_ ?_
 ·refine Ws.A (We.e2 (We.c ?_)) (by decide)
  refine We.take (We.e2 (We.L (Was.cons (We.c (Was.cons (We.c (Was.cons (We.c (Was.cons (We.c (Was.nil (WT.mk ?_ rfl rfl (by exact Nat.le_of_ble_eq_true rfl))))))))))))) rfl
  refine We.drw (m:=4) rfl (by decide) (by decide) rfl fun i x1 i0 i1 ρ3 e=>?_
  subst e
  obtain ⟨v,hv,v1,v2⟩:=ix4 6 6 6 10 i i0 i1 (fun v=>1≤v∧v≤10) (by decide) (by decide) (by decide) (by decide)
  refine Wg2.ix (cz.mk (kZ ?_ rfl rfl (by lia) (by unfold dR;lia))) rfl rfl hv
  refine Wg2.add (WA.val ?_ (by first | (dsimp only [List.set];first | done | rfl) | rfl)) rfl rfl
  have hm:=dw x1 v v1
  refine ⟨(1+x1 % v).toNat,.ow (aA (x1 / v)),by lia,by lia,?_⟩
  have:(((1+x1 % v).toNat:Nat):Int)=1+x1 % v:=by lia
  rw [this]
 rintro ρ ⟨n,c1,n1,n10,rfl⟩
 refine Ws.seq (Ws.For (Wi.R2 (We.c (cz.mk (We.B (Was.cons (We.c (Was.cons (We.B (Was.cons (We.c (Was.cons (We.B (Was.cons (We.v rfl (Was.nil (WB.fq (enc:=Dat.int) (xs:=ns) ?_ rfl)))))))))))))))))
 refine Was.nil (WB.min2 ?_ rfl)
 refine Was.nil (WB.max2 ?_ rfl)
 have hb:∀ z:Int,z=(if (ns.length:Int)<5 then (ns.length:Int) else 5)→(if z>2 then z else 2)≤5∧2≤(if z>2 then z else 2):=fun z hz=>by
  rw [hz]
  constructor
  ·split<;>split<;>lia
  ·split<;>lia
 have hb:=hb _ rfl
 generalize (if (if (ns.length:Int)<5 then (ns.length:Int) else 5)>2 then (if (ns.length:Int)<5 then (ns.length:Int) else 5) else 2)=top at hb ⊢
 refine cz.mk ⟨?_,by unfold BIG;lia⟩
 refine Ws.inv (fun i:Nat=>Dat.int (1+(i:Nat))) _ _ (List.range (top-1).toNat) _ _ _ _ _ (fun p q ρ=>∃ c1 c3 c4 c5 c6 c7 c8:Cell,ρ=[.sh (.lst (ns.map Dat.int)),c1,.sh (.int n),c3,c4,c5,c6,c7,c8]) ⟨_,_,_,_,_,_,_,rfl⟩ ?_ ?_
 ·rintro p i q ρ e ⟨c1,c3,c4,c5,c6,c7,c8,rfl⟩
  have hi:i<(top-1).toNat:=by
   have:i∈List.range (top-1).toNat:=by rw [e];simp
   exact List.mem_range.mp this
  refine Dm.b5 rfl (by first | (dsimp only [List.set];first | done | rfl) | rfl) ?_
  exact B8 aH aW n1 n10 (by lia) (by lia) _ _ _ _ _ _ fun c1 c4 c5 c6 c7 c8=>⟨_,_,_,_,_,_,_,rfl⟩
 ·rintro ρ ⟨c1,c3,c4,c5,c6,c7,c8,rfl⟩
  exact Ws.R (We.c rfl)
end P
namespace Q
open PySem L2 Br Dm P
noncomputable def top (i:Nat):Stmt:=PySem.Challenge.pw_sinceply_k41_pared_judged.main.body.getD i (.Pass ⟨0,0,0,0⟩)
structure Txt (mg:Str→Option Value) (K:PySem.W.Frag) (base:Heap) (vK vL vM vN vO vP vQ bR vR vS mZ m5 m6 m7 m8 m9 nc ng nh ni nj aZ nk nq nt nu nv ny nA nB nC nD nE nF nG nH nI nJ nK nM nN nP nQ nR nS nT nU nV:Addr) (nW nX nY nZ n5 n6 n8 n9 n_ oh g9 g_ h_ ia ic ie ig ir iu iw iy iz iA iB iC iD iE iF iG iH iI iJ iK iM iN iO iP iQ iR iU iV iW iX iY iZ i6 i7 jY:FuncData):Prop where
 gP:mg "all" = none
 vU:mg "bool" = none
 JT:mg "dict" = none
 B9:mg "int" = none
 bD:mg "isinstance" = none
 bA:mg "len" = none
 dh:mg "list" = none
 B_:mg "max" = none
 GQ:mg "min" = none
 cX:mg "range" = none
 Ca:mg "set" = none
 Cb:mg "sorted" = none
 ME:mg "sum" = none
 k9:mg "tuple" = none
 x9:mg "zip" = none
 Oi:mg "steps_of" = some (.ref vK)
 Oj:mg "free_steps" = some (.ref vL)
 Ol:mg "led_steps" = some (.ref vM)
 MF:mg "shortest_ways" = some (.ref vN)
 Om:mg "lead_along" = some (.ref vO)
 Oo:mg "parted" = some (.ref vP)
 JU:mg "ways_apart" = some (.ref vQ)
 Oq:mg "hang_often" = some (.ref bR)
 Ot:mg "is_whole" = some (.ref vR)
 MG:mg "is_within" = some (.ref vS)
 MH:mg "is_place" = some (.ref mZ)
 MI:mg "is_layers" = some (.ref m5)
 GR:mg "is_rising" = some (.ref m6)
 MJ:mg "is_side" = some (.ref m7)
 GS:mg "look_at_layers" = some (.ref m8)
 MK:mg "rim" = some (.ref m9)
 ML:mg "way_right" = some (.ref nc)
 MM:mg "ways_right" = some (.ref ng)
 GU:mg "without" = some (.ref nh)
 MN:mg "kept_ties" = some (.ref ni)
 GV:mg "no_ways" = some (.ref nj)
 MO:mg "ways_by_ties" = some (.ref aZ)
 MP:mg "ways_out" = some (.ref nk)
 MQ:mg "side_for" = some (.ref nq)
 Cc:mg "pared" = some (.ref nt)
 MR:mg "out_right" = some (.ref nu)
 MS:mg "kept_right" = some (.ref nv)
 Cd:mg "pared_right" = some (.ref ny)
 MT:mg "_law_cell_at" = some (.ref nA)
 GW:mg "_law_pool" = some (.ref nB)
 bP:mg "_law_take" = some (.ref nC)
 MU:mg "_law_record" = some (.ref nD)
 GX:mg "_law_whole" = some (.ref nE)
 MV:mg "_law_are_wholes" = some (.ref nF)
 MW:mg "_law_leads" = some (.ref nG)
 MX:mg "_law_apart" = some (.ref nH)
 MY:mg "_law_rim" = some (.ref nI)
 MZ:mg "_law_is_side" = some (.ref nJ)
 M0:mg "_law_side_holds" = some (.ref nK)
 GY:mg "_law_holds" = some (.ref nM)
 x_:mg "_law_row_spoilt" = some (.ref nN)
 M4:mg "_law_ways_spoilt" = some (.ref nP)
 M5:mg "_law_side_spoilt" = some (.ref nQ)
 M6:mg "_law_moved_in" = some (.ref nR)
 M7:mg "_law_spoilt" = some (.ref nS)
 GZ:mg "_law_turned" = some (.ref nT)
 M8:mg "_law_first" = some (.ref nU)
 Ov:mg "law" = some (.ref nV)
 M9:Fun K "steps_of" "steps_of" (top 3) vK nW
 M_:Fun K "free_steps" "free_steps" (top 4) vL nX
 Na:Fun K "led_steps" "led_steps" (top 5) vM nY
 JV:Fun K "shortest_ways" "shortest_ways" (top 6) vN nZ
 Nb:Fun K "lead_along" "lead_along" (top 7) vO n5
 JX:Binds K nY ["steps","heads"] []
 E9:Binds K nZ ["steps","a"] []
 Nc:Fun K "parted" "parted" (top 8) vP n6
 JY:Binds K nW ["n","ties"] []
 JZ:Binds K nX ["steps","heads"] []
 J0:Binds K n5 ["heads","way"] []
 J1:Binds K n6 ["steps","heads","a","b","count"] []
 E_:Fun K "ways_apart" "ways_apart" (top 1) vQ n8
 Ce:Binds K n8 ["n","ties","a","b","most"] []
 Nd:Fun K "hang_often" "hang_often" (top 2) bR n9
 Nf:Fun K "is_whole" "is_whole" (top 13) vR n_
 J2:Binds K n_ ["thing"] []
 J3:Fun K "is_within" "is_within" (top 14) vS oh
 Fb:Binds K oh ["thing","low","high"] []
 G0:Fun K "is_place" "is_place" (top 15) mZ g9
 G1:Fun K "is_layers" "is_layers" (top 16) m5 g_
 Cf:Fun K "is_rising" "is_rising" (top 17) m6 h_
 Cg:Binds K g9 ["n","thing"] []
 ya:Binds K h_ ["things"] []
 G3:Fun K "is_side" "is_side" (top 18) m7 ia
 Ci:Binds K g_ ["thing"] []
 Cj:Fun K "look_at_layers" "look_at_layers" (top 19) m8 ic
 G4:Fun K "rim" "rim" (top 21) m9 ie
 G5:Fun K "way_right" "way_right" (top 22) nc ig
 Ck:Binds K ig ["record","a","b","way"] []
 G6:Fun K "ways_right" "ways_right" (top 23) ng ir
 Cm:Fun K "without" "without" (top 27) nh iu
 J4:Binds K n9 ["n","ties","a","b","times"] []
 yb:Binds K iu ["ties","tie"] []
 G7:Fun K "kept_ties" "kept_ties" (top 26) ni iw
 Cn:Fun K "no_ways" "no_ways" (top 29) nj iy
 G8:Fun K "ways_by_ties" "ways_by_ties" (top 30) aZ iz
 yc:Binds K iy ["k"] []
 Co:Binds K iz ["n","kept","a","b","k"] []
 G9:Fun K "ways_out" "ways_out" (top 28) nk iA
 G_:Fun K "side_for" "side_for" (top 31) nq iB
 yd:Binds K ic ["k"] []
 Cp:Binds K iw ["n","record","k","often"] []
 Cq:Binds K iA ["n","record","kept","k","ways_of"] []
 Cr:Binds K iB ["n","kept","tie","k"] []
 ye:Fun K "pared" "pared" (top 25) nt iC
 Cs:Binds K ir ["record","a","b","ways"] []
 Hg:Fun K "out_right" "out_right" (top 33) nu iD
 Ct:Binds K ia ["n","thing"] []
 Cu:Binds K ie ["record","side"] []
 Hh:Fun K "kept_right" "kept_right" (top 34) nv iE
 Cv:Binds K iD ["kept","tie","k","ways"] []
 Cw:Binds K iE ["n","kept","tie","k","side"] []
 yf:Fun K "pared_right" "pared_right" (top 32) ny iF
 Hi:Fun K "_law_cell_at" "_law_cell_at" (top 36) nA iG
 Cy:Binds K iG ["script","k"] []
 Cz:Fun K "_law_pool" "_law_pool" (top 37) nB iH
 bM:Fun K "_law_take" "_law_take" (top 38) nC iI
 bH:Binds K iI ["pool","many"] []
 Hj:Fun K "_law_record" "_law_record" (top 39) nD iJ
 CA:Fun K "_law_whole" "_law_whole" (top 40) nE iK
 yg:Binds K iK ["found"] []
 Hl:Fun K "_law_are_wholes" "_law_are_wholes" (top 41) nF iM
 CB:Binds K iM ["row"] []
 Ho:Fun K "_law_leads" "_law_leads" (top 42) nG iN
 CC:Binds K iN ["record","a","b","way"] []
 Hq:Fun K "_law_apart" "_law_apart" (top 43) nH iO
 Hr:Fun K "_law_rim" "_law_rim" (top 44) nI iP
 Ht:Fun K "_law_is_side" "_law_is_side" (top 45) nJ iQ
 CD:Binds K iP ["record","side"] []
 CF:Binds K iQ ["n","side"] []
 Hu:Fun K "_law_side_holds" "_law_side_holds" (top 46) nK iR
 CG:Binds K iO ["record","a","b","ways"] []
 CH:Binds K iR ["n","kept","tie","k","side"] []
 CI:Fun K "_law_holds" "_law_holds" (top 47) nM iU
 s_:Fun K "_law_row_spoilt" "_law_row_spoilt" (top 48) nN iV
 pY:Binds K iV ["pool","row","way"] []
 Hv:Fun K "_law_ways_spoilt" "_law_ways_spoilt" (top 49) nP iW
 Hw:Fun K "_law_side_spoilt" "_law_side_spoilt" (top 50) nQ iX
 Hx:Fun K "_law_moved_in" "_law_moved_in" (top 51) nR iY
 tu:Binds K iC ["n","record","k"] []
 CJ:Binds K iW ["pool","record","ways","way"] []
 CK:Binds K iX ["pool","n","sides"] []
 CL:Binds K iY ["pool","record","told"] []
 Hy:Fun K "_law_spoilt" "_law_spoilt" (top 52) nS iZ
 CM:Fun K "_law_turned" "_law_turned" (top 53) nT i6
 yh:Binds K i6 ["n","record","k"] []
 Hz:Fun K "_law_first" "_law_first" (top 54) nU i7
 tE:Binds K iF ["n","record","k","told"] []
 yi:Binds K iH ["script","at"] []
 CN:Binds K iJ ["pool","n","most"] []
 yj:Binds K iU ["n","record","k","told"] []
 CO:Binds K iZ ["pool","n","record","k","told"] []
 CP:Binds K i7 ["pool","n","record","k"] []
 Ng:Fun K "law" "law" (top 55) nV jY
section
variable {P':Program} {w:World} {K:PySem.W.Frag} {mg:Str→Option Value} {base:Heap} {vK vL vM vN vO vP vQ bR vR vS mZ m5 m6 m7 m8 m9 nc ng nh ni nj aZ nk nq nt nu nv ny nA nB nC nD nE nF nG nH nI nJ nK nM nN nP nQ nR nS nT nU nV:Addr}
variable {nW nX nY nZ n5 n6 n8 n9 n_ oh g9 g_ h_ ia ic ie ig ir iu iw iy iz iA iB iC iD iE iF iG iH iI iJ iK iM iN iO iP iQ iR iU iV iW iX iY iZ i6 i7 jY:FuncData}
theorem tF:av ["n","ties","steps","moment","a","b"] ["n","ties"] (ai (top 3)):=fsc rfl rfl rfl rfl (by decide +kernel)
theorem J5:(["n","ties","steps","moment","a","b","place"]:List Str).Nodup:=by decide +kernel
theorem Nh:av ["steps","heads"] ["steps","heads"] (ai (top 4)):=fsc rfl rfl rfl rfl (by decide +kernel)
theorem J6:(["steps","heads","row"]:List Str).Nodup:=by decide +kernel
theorem J7:(["steps","heads","row","step"]:List Str).Nodup:=by decide +kernel
theorem Ni:av ["steps","heads"] ["steps","heads"] (ai (top 5)):=fsc rfl rfl rfl rfl (by decide +kernel)
theorem J8:(["steps","heads","row"]:List Str).Nodup:=by decide +kernel
theorem J9:(["steps","heads","row","step"]:List Str).Nodup:=by decide +kernel
theorem tG:av ["steps","a","ways","pending","place","step"] ["steps","a"] (ai (top 6)):=fsc rfl rfl rfl rfl (by decide +kernel)
theorem CQ:av ["heads","way","moment","place"] ["heads","way"] (ai (top 7)):=fsc rfl rfl rfl rfl (by decide +kernel)
theorem pZ:av ["steps","heads","a","b","count","left","ways","time","way","moment"] ["steps","heads","a","b","count"] (ai (top 8)):=fsc rfl rfl rfl rfl (by decide +kernel)
theorem J_:(["steps","heads","a","b","count","left","ways","time","way","moment","step"]:List Str).Nodup:=by decide +kernel
theorem kC:av ["n","ties","a","b","most","steps","heads","side","count","found"] ["n","ties","a","b","most"] (ai (top 1)):=fsc rfl rfl rfl rfl (by decide +kernel)
theorem Nj:av ["n","ties","a","b","times"] ["n","ties","a","b","times"] (ai (top 2)):=fsc rfl rfl rfl rfl (by decide +kernel)
theorem Nk:av ["thing"] ["thing"] (ai (top 13)):=fsc rfl rfl rfl rfl (by decide +kernel)
theorem Nl:av ["thing","low","high"] ["thing","low","high"] (ai (top 14)):=fsc rfl rfl rfl rfl (by decide +kernel)
theorem Ka:av ["n","thing"] ["n","thing"] (ai (top 15)):=fsc rfl rfl rfl rfl (by decide +kernel)
theorem Kc:av ["thing"] ["thing"] (ai (top 16)):=fsc rfl rfl rfl rfl (by decide +kernel)
theorem Kd:av ["things"] ["things"] (ai (top 17)):=fsc rfl rfl rfl rfl (by decide +kernel)
theorem Fc:(["things","at"]:List Str).Nodup:=by decide +kernel
theorem Ke:av ["n","thing"] ["n","thing"] (ai (top 18)):=fsc rfl rfl rfl rfl (by decide +kernel)
theorem Fe:(["n","thing","place"]:List Str).Nodup:=by decide +kernel
theorem Kf:av ["k"] ["k"] (ai (top 19)):=fsc rfl rfl rfl rfl (by decide +kernel)
theorem Kg:av ["record","side"] ["record","side"] (ai (top 21)):=fsc rfl rfl rfl rfl (by decide +kernel)
theorem qQ:(["record","side","moment","a","b"]:List Str).Nodup:=by decide +kernel
theorem fB:av ["record","a","b","way","ends","moment","first","second","place","used"] ["record","a","b","way"] (ai (top 22)):=fsc rfl rfl rfl rfl (by decide +kernel)
theorem vV:av ["record","a","b","ways","used","way"] ["record","a","b","ways"] (ai (top 23)):=fsc rfl rfl rfl rfl (by decide +kernel)
theorem Ff:(["record","a","b","ways","used","%5","way"]:List Str).Nodup:=by decide +kernel
theorem Kh:av ["ties","tie"] ["ties","tie"] (ai (top 27)):=fsc rfl rfl rfl rfl (by decide +kernel)
theorem Fg:(["ties","tie","other"]:List Str).Nodup:=by decide +kernel
theorem oi:av ["n","record","k","often","kept","tie","others"] ["n","record","k","often"] (ai (top 26)):=fsc rfl rfl rfl rfl (by decide +kernel)
theorem Kl:av ["k"] ["k"] (ai (top 29)):=fsc rfl rfl rfl rfl (by decide +kernel)
theorem Fi:(["k","time"]:List Str).Nodup:=by decide +kernel
theorem Km:av ["n","kept","a","b","k"] ["n","kept","a","b","k"] (ai (top 30)):=fsc rfl rfl rfl rfl (by decide +kernel)
theorem CS:av ["n","record","kept","k","ways_of","gone"] ["n","record","kept","k","ways_of"] (ai (top 28)):=fsc rfl rfl rfl rfl (by decide +kernel)
theorem Fj:(["n","record","kept","k","ways_of","gone","tie"]:List Str).Nodup:=by decide +kernel
theorem Fo:(["n","record","kept","k","ways_of","gone","tie"]:List Str).Nodup:=by decide +kernel
theorem Kn:av ["n","kept","tie","k"] ["n","kept","tie","k"] (ai (top 31)):=fsc rfl rfl rfl rfl (by decide +kernel)
theorem vW:av ["n","record","k","kept","sides"] ["n","record","k"] (ai (top 25)):=fsc rfl rfl rfl rfl (by decide +kernel)
theorem Fq:(["n","record","k","kept","sides","tie"]:List Str).Nodup:=by decide +kernel
theorem Ft:(["n","record","k","kept","sides","tie"]:List Str).Nodup:=by decide +kernel
theorem Ko:av ["kept","tie","k","ways"] ["kept","tie","k","ways"] (ai (top 33)):=fsc rfl rfl rfl rfl (by decide +kernel)
theorem CT:av ["n","kept","tie","k","side","over"] ["n","kept","tie","k","side"] (ai (top 34)):=fsc rfl rfl rfl rfl (by decide +kernel)
theorem vX:av ["n","record","k","told","kept","gone"] ["n","record","k","told"] (ai (top 32)):=fsc rfl rfl rfl rfl (by decide +kernel)
theorem Fv:(["n","record","k","told","kept","gone","tie"]:List Str).Nodup:=by decide +kernel
theorem Fw:(["n","record","k","told","kept","gone","tie"]:List Str).Nodup:=by decide +kernel
theorem yk:(["n","record","k","told","kept","gone","tie","ways"]:List Str).Nodup:=by decide +kernel
theorem yl:(["n","record","k","told","kept","gone","tie","side"]:List Str).Nodup:=by decide +kernel
theorem Kp:av ["script","k"] ["script","k"] (ai (top 36)):=fsc rfl rfl rfl rfl (by decide +kernel)
theorem gk:av ["script","at","cell","big","turn","one"] ["script","at"] (ai (top 37)):=fsc rfl rfl rfl rfl (by decide +kernel)
theorem CU:av ["pool","many","number"] ["pool","many"] (ai (top 38)):=fsc rfl rfl rfl rfl (by decide +kernel)
theorem di:av ["pool","n","most","many","wide","moment","record","k","a","b"] ["pool","n","most"] (ai (top 39)):=fsc rfl rfl rfl rfl (by decide +kernel)
theorem Kq:av ["found"] ["found"] (ai (top 40)):=fsc rfl rfl rfl rfl (by decide +kernel)
theorem Kr:av ["row"] ["row"] (ai (top 41)):=fsc rfl rfl rfl rfl (by decide +kernel)
theorem Fx:(["row","number"]:List Str).Nodup:=by decide +kernel
theorem oj:av ["record","a","b","way","here","moment","found"] ["record","a","b","way"] (ai (top 42)):=fsc rfl rfl rfl rfl (by decide +kernel)
theorem Fy:(["record","a","b","way","here","moment","found","tie"]:List Str).Nodup:=by decide +kernel
theorem qR:av ["record","a","b","ways","used","way"] ["record","a","b","ways"] (ai (top 43)):=fsc rfl rfl rfl rfl (by decide +kernel)
theorem Fz:(["record","a","b","ways","used","%5","way"]:List Str).Nodup:=by decide +kernel
theorem Ks:av ["record","side"] ["record","side"] (ai (top 44)):=fsc rfl rfl rfl rfl (by decide +kernel)
theorem qS:(["record","side","moment","a","b"]:List Str).Nodup:=by decide +kernel
theorem Ku:av ["n","side"] ["n","side"] (ai (top 45)):=fsc rfl rfl rfl rfl (by decide +kernel)
theorem FA:(["n","side","place"]:List Str).Nodup:=by decide +kernel
theorem FD:(["n","side","k"]:List Str).Nodup:=by decide +kernel
theorem CV:av ["n","kept","tie","k","side","moments"] ["n","kept","tie","k","side"] (ai (top 46)):=fsc rfl rfl rfl rfl (by decide +kernel)
theorem gm:av ["n","record","k","told","moments","ways","sides","kept","gone","tie","some"] ["n","record","k","told"] (ai (top 47)):=fsc rfl rfl rfl rfl (by decide +kernel)
theorem FF:(["n","record","k","told","moments","ways","sides","kept","gone","%9","some","tie"]:List Str).Nodup:=by decide +kernel
theorem FG:(["n","record","k","told","moments","ways","sides","kept","gone","%9","some","tie"]:List Str).Nodup:=by decide +kernel
theorem FH:(["n","record","k","told","moments","ways","sides","kept","gone","%9","some","tie"]:List Str).Nodup:=by decide +kernel
theorem FJ:(["n","record","k","told","moments","ways","sides","kept","gone","tie","some","turn"]:List Str).Nodup:=by decide +kernel
theorem ym:(["n","record","k","told","moments","ways","sides","kept","gone","%9","some","tie","side"]:List Str).Nodup:=by decide +kernel
theorem vY:av ["pool","row","way","at","to"] ["pool","row","way"] (ai (top 48)):=fsc rfl rfl rfl rfl (by decide +kernel)
theorem jZ:av ["pool","record","ways","way","at","some","moments","to"] ["pool","record","ways","way"] (ai (top 49)):=fsc rfl rfl rfl rfl (by decide +kernel)
theorem FL:(["pool","record","ways","way","at","some","moments","to","one"]:List Str).Nodup:=by decide +kernel
theorem FO:(["pool","record","ways","way","at","some","moments","to","tie"]:List Str).Nodup:=by decide +kernel
theorem ou:av ["pool","n","sides","at","side","place","some"] ["pool","n","sides"] (ai (top 50)):=fsc rfl rfl rfl rfl (by decide +kernel)
theorem FP:(["pool","n","sides","at","side","place","some","one"]:List Str).Nodup:=by decide +kernel
theorem fC:av ["pool","record","told","kept","ways","sides","gone","at","tie","to","side"] ["pool","record","told"] (ai (top 51)):=fsc rfl rfl rfl rfl (by decide +kernel)
theorem FQ:(["pool","record","told","kept","ways","sides","gone","at","%8","to","side","tie"]:List Str).Nodup:=by decide +kernel
theorem FU:(["pool","record","told","kept","ways","sides","gone","at","tie","to","side","moment"]:List Str).Nodup:=by decide +kernel
theorem oz:av ["pool","n","record","k","told","way","kept","ways","sides"] ["pool","n","record","k","told"] (ai (top 52)):=fsc rfl rfl rfl rfl (by decide +kernel)
theorem j0:av ["n","record","k","last","kept","ways","sides","back"] ["n","record","k"] (ai (top 53)):=fsc rfl rfl rfl rfl (by decide +kernel)
theorem FW:(["n","record","k","last","kept","ways","sides","back","tie"]:List Str).Nodup:=by decide +kernel
theorem qT:(["n","record","k","last","kept","ways","sides","back","moment","a","b"]:List Str).Nodup:=by decide +kernel
theorem FY:(["n","record","k","last","kept","ways","sides","back","some"]:List Str).Nodup:=by decide +kernel
theorem FZ:(["n","record","k","last","kept","ways","sides","back","some","way"]:List Str).Nodup:=by decide +kernel
theorem F0:(["n","record","k","last","kept","ways","sides","back","some","way","moment"]:List Str).Nodup:=by decide +kernel
theorem F1:(["n","record","k","last","kept","ways","sides","back","moment"]:List Str).Nodup:=by decide +kernel
theorem CW:av ["pool","n","record","k","way"] ["pool","n","record","k"] (ai (top 54)):=fsc rfl rfl rfl rfl (by decide +kernel)
theorem F2:(["pool","n","record","k","way","tie"]:List Str).Nodup:=by decide +kernel
theorem F3:(["pool","n","record","k","way","tie"]:List Str).Nodup:=by decide +kernel
theorem dQ:av ["script","pool","n","at","k","record","told","handed","found"] ["script"] (ai (top 55)):=fsc rfl rfl rfl rfl (by decide +kernel)
theorem F4:(["script","pool","n","at","k","record","told","handed","found","some"]:List Str).Nodup:=by decide +kernel
theorem F5:(["script","pool","n","at","k","record","told","handed","found","some","way"]:List Str).Nodup:=by decide +kernel
variable (T:Txt mg K base vK vL vM vN vO vP vQ bR vR vS mZ m5 m6 m7 m8 m9 nc ng nh ni nj aZ nk nq nt nu nv ny nA nB nC nD nE nF nG nH nI nJ nK nM nN nP nQ nR nS nT nU nV nW nX nY nZ n5 n6 n8 n9 n_ oh g9 g_ h_ ia ic ie ig ir iu iw iy iz iA iB iC iD iE iF iG iH iI iJ iK iM iN iO iP iQ iR iU iV iW iX iY iZ i6 i7 jY)
include T
theorem Nm :
  aX P' w K mg base CX0 1 vK nW ["n","ties"] (spD EK):=
 okQ T.M9 tF fun _ _ _ _ _ _ hr=>(Jt 2 ["n","ties","steps","moment","a","b"] ["place"] tF.nd (c_n 6 J5 rfl rfl) (uX rfl T.cX (aa (d_v 0) af)) (Mh PassesOwn.never rfl (i_S (d_v 1)) (g_t rfl (aL 3 tF.nd (aL 4 tF.nd (aL 5 tF.nd cG))))
  (Gy (N8 (fM hr (d_v 4) (d_v 5)) (Js (Gz (d_v 4) (cy (aa (d_v 3) (aa (d_v 5) af))))
  (Gy (Gz (d_v 5) (cy (aa (d_v 3) (aa (d_v 4) af)))))) Mg)))
  (aj (s_r (d_v 2))))
theorem Nn :
  aX P' w K mg base CX0 1 vL nX ["steps","heads"] (spD Bq):=
 okQ T.M_ Nh fun _ _ _ _ _ _ hr=>(aj (s_r (bZ 0 ["steps","heads"] ["row"] (c_n 2 J6 rfl rfl) (d_v 0) (fun _ _ _ _ _=>aV) (fun _ _ _ _ _=>(bZ 2 ["steps","heads","row"] ["step"] (c_n 3 J7 rfl rfl) (d_v 2) (fun _ _ _ _ _=>cH (fM hr (AY hr (d_v 1) (aN (d_v 3) d_i)) (aN (d_v 3) d_i))) (fun _ _ _ _ _=>(d_v 3)))))))
theorem Np :
  aX P' w K mg base CX0 1 vM nY ["steps","heads"] (spD Bs):=
 okQ T.Na Ni fun _ _ _ _ _ _ hr=>(aj (s_r (bZ 0 ["steps","heads"] ["row"] (c_n 2 J8 rfl rfl) (d_v 0) (fun _ _ _ _ _=>aV) (fun _ _ _ _ _=>(bZ 2 ["steps","heads","row"] ["step"] (c_n 3 J9 rfl rfl) (d_v 2) (fun _ _ _ _ _=>cH (dj hr (AY hr (d_v 1) (aN (d_v 3) d_i)) (aN (d_v 3) d_i))) (fun _ _ _ _ _=>(d_v 3)))))))
theorem HA :
  aX P' w K mg base CX0 1 vN nZ ["steps","a"] (spD r9):=
 okQ T.JV tG fun _ _ _ _ _ _ hr=>(ah (s_a 2 tG.nd (N4 (d_v 1) (bz af)))
  (ah (s_a 3 tG.nd (bz (aa (d_v 1) af)))
  (ah (LR 100 PassesOwn.never (N6 (d_v 3))
  (ah (s_a 4 tG.nd (Eu 3 d_i))
  (aj (dU PassesOwn.never rfl (i_S (aN (d_v 0) (d_v 4))) (g_n 5 tG.nd)
  (aj (bF (AX hr (aN (d_v 5) d_i) (d_v 2)) (ah (qB 2 hr (aN (d_v 5) d_i) (bf (AV hr (d_v 2) (d_v 4)) (bz (aa (d_v 5) af))))
  (aj (wR 3 (aN (d_v 5) d_i)))) aY))))))
  (aj (s_r (d_v 2))))))
theorem Nq :
  aX P' w K mg base CX0 1 vO n5 ["heads","way"] (spM Bt):=by
 refine T.Nb.ok CQ (fun vs H Q E h=>cV h) (fun cdv A outer s H vs Q E hr h=>?_)
 exact ⟨_,(aj (dU PassesOwn.never rfl (i_S (d_v 1)) (g_t rfl (aL 2 CQ.nd (aL 3 CQ.nd cG)))
  (aj (bF (AW hr (d_v 2) (d_v 0)) (aj (s_e (A_ 0 (d_v 2)))) (aj (qB 0 hr (d_v 2) (d_v 3))))))),jq (n:=2) (m:=2) rfl h⟩
theorem Nr :
  aX P' w K mg base CX0 2 vP n6 ["steps","heads","a","b","count"] (spD zm):=
 okQ T.Nc pZ fun _ _ _ _ _ _ hr=>(ah (s_a 5 pZ.nd (Jx rfl T.JT (aa (d_v 1) af)))
  (ah (s_a 6 pZ.nd (bz af))
  (ah (dU PassesOwn.never rfl (uX rfl T.cX (aa (d_v 4) af)) (g_n 7 pZ.nd)
  (ah (L0 8 ["steps","heads","a","b","count","left","ways","time","way","moment"] ["step"] pZ.nd (c_n 10 J_ rfl rfl) (i_S (AV hr (aG (HA T) (Br.hm hr) rfl T.MF T.JV.kp T.E9 (aa (mC (Np T) (Br.hm hr) rfl T.Ol T.Na.kp T.JX (aa (d_v 0) (aa (d_v 5) af))) (aa (d_v 2) af))) (d_v 3))) (fun _ _ _ _ _=>aV) (fun _ _ _ _ _=>(aN (d_v 10) d_i)))
  (ah (dU PassesOwn.never rfl (i_S (d_v 8)) (g_n 9 pZ.nd)
  (aj (s_e (A_ 5 (d_v 9)))))
  (aj (wR 6 (d_v 8))))))
  (aj (s_r (d_v 6))))))
theorem CY :
  aX P' w K mg base CX0 3 vQ n8 ["n","ties","a","b","most"] (spD vn):=
 okQ T.E_ kC fun _ _ _ _ _ _ hr=>(ah (s_a 5 kC.nd (aG (Nm T) (Br.hm hr) rfl T.Oi T.M9.kp T.JY (aa (d_v 0) (aa (d_v 1) af))))
  (ah (s_a 6 kC.nd Jl)
  (ah (s_a 7 kC.nd d_n)
  (ah (s_a 8 kC.nd d_i)
  (ah (LR 100 PassesOwn.never (t_w (w_and (uW (d_v 8) (d_v 4)) (qw (L8 (d_v 7) d_n))))
  (ah (s_a 9 kC.nd (aG (HA T) (Br.hm hr) rfl T.MF T.JV.kp T.E9 (aa (mC (Nn T) (Br.hm hr) rfl T.Oj T.M_.kp T.JZ (aa (d_v 5) (aa (d_v 6) af))) (aa (d_v 2) af))))
  (aj (bF (AW hr (d_v 3) (d_v 9)) (ah (s_e (aI (Nq T) (Br.hm hr) rfl T.Om T.Nb.kp T.J0 (aa (d_v 6) (aa (AV hr (d_v 9) (d_v 3)) af))))
  (aj (s_a 8 kC.nd (bf (d_v 8) d_i)))) (aj (s_a 7 kC.nd (wQ rfl T.k9 (aa (Ey rfl rfl T.Cb (aa (d_v 9) af)) af))))))))
  (aj (s_r (cy (aa (mC (Nr T) (Br.hm hr) rfl T.Oo T.Nc.kp T.J1 (@aa _ _ _ _ _ (d_v 5) (@aa _ _ _ _ _ (d_v 6) (@aa _ _ _ _ _ (d_v 2) (@aa _ _ _ _ _ (d_v 3) (@aa _ _ _ _ _ (d_v 8) af rfl) rfl) rfl) rfl) rfl)) (aa (d_v 7) af))))))))))
theorem Nt :
  aX P' w K mg base CX0 4 bR n9 ["n","ties","a","b","times"] (spD EL):=
 okQ T.Nd Nj fun _ _ _ _ _ _ hr=>(aj (s_r (L7 (aN (aG (CY T) (Br.hm hr) rfl T.JU T.E_.kp T.Ce (@aa _ _ _ _ _ (d_v 0) (@aa _ _ _ _ _ (d_v 1) (@aa _ _ _ _ _ (d_v 2) (@aa _ _ _ _ _ (d_v 3) (@aa _ _ _ _ _ (d_v 4) af rfl) rfl) rfl) rfl) rfl)) d_i) d_n)))
theorem Nu :
  aX P' w K mg base CX0 1 vR n_ ["thing"] (spD JH):=
 okQ T.Nf Nk fun _ _ _ _ _ _ hr=>(aj (s_r (fV (jo wV (by rfl) rfl T.B9 rfl T.bD (d_v 0)) (gJ (Gu (jo lX (by rfl) rfl T.vU rfl T.bD (d_v 0)))))))
theorem HB :
  aX P' w K mg base CX0 2 vS oh ["thing","low","high"] (spD Bu):=
 okQ T.J3 Nl fun _ _ _ _ _ _ hr=>(aj (s_r (fV (aG (Nu T) (Br.hm hr) rfl T.Ot T.Nf.kp T.J2 (aa (d_v 0) af)) (gJ (wW wo wN wo wN (d_v 1) (d_v 0) (d_v 2))))))
theorem Kv :
  aX P' w K mg base CX0 3 mZ g9 ["n","thing"] (spD xy):=
 okQ T.G0 Ka fun _ _ _ _ _ _ hr=>(aj (s_r (aG (HB T) (Br.hm hr) rfl T.MG T.J3.kp T.Fb (aa (d_v 1) (aa d_i (aa (eO (d_v 0) d_i) af))))))
theorem Kw :
  aX P' w K mg base CX0 3 m5 g_ ["thing"] (spD xA):=
 okQ T.G1 Kc fun _ _ _ _ _ _ hr=>(aj (s_r (aG (HB T) (Br.hm hr) rfl T.MG T.J3.kp T.Fb (aa (d_v 0) (aa d_i (aa d_i af))))))
theorem CZ :
  aX P' w K mg base CX0 1 m6 h_ ["things"] (spD r_):=
 okQ T.Cf Kd fun _ _ _ _ _ _ hr=>(aj (s_r (gM rfl rfl T.gP (aa (l0 ["things"] ["at"] (c_n 1 Fc rfl rfl) (IY rfl T.cX (aa d_i (aa (bG rfl T.bA (aa (d_v 0) af)) af))) (fun _ _ _ _ _=>aV) (fun _ _ _ _ _=>(LO (aN (d_v 0) (eO (d_v 1) d_i)) (aN (d_v 0) (d_v 1))))) af))))
theorem Ky :
  aX P' w K mg base CX0 4 m7 ia ["n","thing"] (spD xB):=
 okQ T.G3 Ke fun _ _ _ _ _ _ hr=>(aj (s_r (fV (jo kit_tuple (by rfl) rfl T.k9 rfl T.bD (d_v 1)) (fV (gM rfl rfl T.gP (aa (bZ 1 ["n","thing"] ["place"] (c_n 2 Fe rfl rfl) (d_v 1) (fun _ _ _ _ _=>aV) (fun _ _ _ _ _=>(aG (Kv T) (Br.hm hr) rfl T.MH T.G0.kp T.Cg (aa (d_v 0) (aa (d_v 2) af))))) af)) (gJ (aG (CZ T) (Br.hm hr) rfl T.GR T.Cf.kp T.ya (aa (d_v 1) af)))))))
theorem C0 :
  aX P' w K mg base CX0 4 m8 ic ["k"] (spD sd):=
 okQ T.Cj Kf fun _ _ _ _ _ _ hr=>(aj (bF (fE (eS (aG (Kw T) (Br.hm hr) rfl T.MI T.G1.kp T.Ci (aa (d_v 0) af)))) (aj El) aY))
theorem Kz :
  aX P' w K mg base CX0 1 m9 ie ["record","side"] (spD xC):=
 okQ T.G4 Kg fun _ _ _ _ _ _ hr=>(aj (s_r (bZ 0 ["record","side"] ["moment","a","b"] (c_t rfl (fun _ _ _ _ _=>(aL 2 qQ (aL 3 qQ (aL 4 qQ cG))))) (d_v 0) (fun _ _ _ _ _=>cH (fM hr (rF hr (d_v 3) (d_v 1)) (rF hr (d_v 4) (d_v 1)))) (fun _ _ _ _ _=>(d_v 2)))))
theorem KA :
  aX P' w K mg base CX0 1 nc ig ["record","a","b","way"] (spD xD):=
 okQ T.G5 fB fun _ _ _ _ _ _ hr=>(ah (s_a 4 fB.nd Jl)
  (ah (dU PassesOwn.never rfl (i_S (d_v 0)) (g_t rfl (aL 5 fB.nd (aL 6 fB.nd (aL 7 fB.nd cG))))
  (aj (bF (fM hr (d_v 6) (d_v 7)) (aj (qB 4 hr (d_v 5) (cy (aa (d_v 6) (aa (d_v 7) af))))) aY)))
  (ah (s_a 8 fB.nd (d_v 1))
  (ah (s_a 9 fB.nd Jl)
  (ah (dU PassesOwn.never rfl (i_S (d_v 3)) (g_n 5 fB.nd)
  (ah (bF (t_w (w_or (AW hr (d_v 5) (d_v 9)) (w_or (AX hr (d_v 5) (d_v 4)) (fW (lV hr (d_v 8) (AV hr (d_v 4) (d_v 5))))))) (aj (s_r d_b)) aY)
  (ah (qB 9 hr (d_v 5) d_b)
  (aj (s_a 8 fB.nd (eO (Jm rfl rfl T.ME (aa (AV hr (d_v 4) (d_v 5)) af)) (d_v 8)))))))
  (aj (s_r (yR hr (d_v 8) (d_v 2)))))))))
theorem KC :
  aX P' w K mg base CX0 2 ng ir ["record","a","b","ways"] (spD xE):=
 okQ T.G6 vV fun _ _ _ _ _ _ hr=>(ah (s_a 4 vV.nd (bz af))
  (ah (dU PassesOwn.never rfl (i_S (d_v 3)) (g_n 5 vV.nd)
  (aj (Ma 4 (d_v 5))))
  (aj (s_r (fV (yR hr (l8 rfl rfl T.bA rfl T.Ca (d_v 4)) (bG rfl T.bA (aa (d_v 4) af))) (gJ (gM rfl rfl T.gP (aa (bZ 3 ["record","a","b","ways","used","%5"] ["way"] (c_n 6 Ff rfl rfl) (d_v 3) (fun _ _ _ _ _=>aV) (fun _ _ _ _ _=>(aG (KA T) (Br.hm hr) rfl T.ML T.G5.kp T.Ck (aa (d_v 0) (aa (d_v 1) (aa (d_v 2) (aa (d_v 6) af))))))) af))))))))
theorem C1 :
  aX P' w K mg base CX0 1 nh iu ["ties","tie"] (spD pM):=
 okQ T.Cm Kh fun _ _ _ _ _ _ hr=>(aj (s_r (bZ 0 ["ties","tie"] ["other"] (c_n 2 Fg rfl rfl) (d_v 0) (fun _ _ _ _ _=>cH (fM hr (d_v 2) (d_v 1))) (fun _ _ _ _ _=>(d_v 2)))))
theorem KD :
  aX P' w K mg base CX0 5 ni iw ["n","record","k","often"] (spD (se bR aZ)):=
 okQ T.G7 oi fun _ _ _ _ _ _ hr=>(ah (s_a 4 oi.nd (d9 rfl T.dh (aa (d_v 1) af)))
  (ah (dU PassesOwn.never rfl (i_S (d_v 1)) (g_n 5 oi.nd)
  (ah (s_a 6 oi.nd (aG (C1 T) (Br.hm hr) rfl T.GU T.Cm.kp T.yb (aa (d_v 4) (aa (d_v 5) af))))
  (aj (bF (t_w (w_or (dj hr (aN (d_v 5) d_i) (aN (d_v 5) d_i)) (fW (eS (xq 3 (Nt T) (Br.hm hr) T.Nd.kp T.J4 (@aa _ _ _ _ _ (d_v 0) (@aa _ _ _ _ _ (d_v 6) (@aa _ _ _ _ _ (aN (d_v 5) d_i) (@aa _ _ _ _ _ (aN (d_v 5) d_i) (@aa _ _ _ _ _ (d_v 2) af rfl) rfl) rfl) rfl) rfl)))))) (aj (s_a 4 oi.nd (d_v 6))) aY))))
  (aj (s_r (d_v 4)))))
theorem C2 :
  aX P' w K mg base CX0 1 nj iy ["k"] (spD pN):=
 okQ T.Cn Kl fun _ _ _ _ _ _ hr=>(aj (s_r (l0 ["k"] ["time"] (c_n 1 Fi rfl rfl) (uX rfl T.cX (aa (d_v 0) af)) (fun _ _ _ _ _=>aV) (fun _ _ _ _ _=>(bz af)))))
theorem KG :
  aX P' w K mg base CX0 4 aZ iz ["n","kept","a","b","k"] (spD pO):=
 okQ T.G8 Km fun _ _ _ _ _ _ hr=>(aj (s_r (aN (aG (CY T) (Br.hm hr) rfl T.JU T.E_.kp T.Ce (@aa _ _ _ _ _ (d_v 0) (@aa _ _ _ _ _ (d_v 1) (@aa _ _ _ _ _ (d_v 2) (@aa _ _ _ _ _ (d_v 3) (@aa _ _ _ _ _ (d_v 4) af rfl) rfl) rfl) rfl) rfl)) d_i)))
theorem KH :
  aX P' w K mg base CX0 5 nk iA ["n","record","kept","k","ways_of"] (spD (xF bR aZ)):=
 okQ T.G9 CS fun _ _ _ _ _ _ hr=>(ah (l6 5 1 ["n","record","kept","k","ways_of","gone"] ["tie"] CS.nd (c_n 6 Fj rfl rfl) (d_v 1) (fun _ _ _ _ _=>cH (lV hr (d_v 6) (d_v 2))) (fun _ _ _ _ _=>(d_v 6)))
  (aj (s_r (bZ 5 ["n","record","kept","k","ways_of","gone"] ["tie"] (c_n 6 Fo rfl rfl) (d_v 5) (fun _ _ _ _ _=>aV) (fun _ _ _ _ _=>(NZ (dj hr (aN (d_v 6) d_i) (aN (d_v 6) d_i)) (aG (C2 T) (Br.hm hr) rfl T.GV T.Cn.kp T.yc (aa (d_v 3) af)) (xq 4 (KG T) (Br.hm hr) T.G8.kp T.Co (@aa _ _ _ _ _ (d_v 0) (@aa _ _ _ _ _ (d_v 2) (@aa _ _ _ _ _ (aN (d_v 6) d_i) (@aa _ _ _ _ _ (aN (d_v 6) d_i) (@aa _ _ _ _ _ (d_v 3) af rfl) rfl) rfl) rfl) rfl))))))))
theorem KI :
  aX P' w K mg base CX0 4 nq iB ["n","kept","tie","k"] (spD ki):=
 okQ T.G_ Kn fun _ _ _ _ _ _ hr=>(aj (s_r (aN (aG (CY T) (Br.hm hr) rfl T.JU T.E_.kp T.Ce (@aa _ _ _ _ _ (d_v 0) (@aa _ _ _ _ _ (aG (C1 T) (Br.hm hr) rfl T.GU T.Cm.kp T.yb (aa (d_v 1) (aa (d_v 2) af))) (@aa _ _ _ _ _ (aN (d_v 2) d_i) (@aa _ _ _ _ _ (aN (d_v 2) d_i) (@aa _ _ _ _ _ (d_v 3) af rfl) rfl) rfl) rfl) rfl)) d_i)))
theorem vZ :
  aX P' w K mg base CX0 6 nt iC ["n","record","k"] (spD (mG bR aZ)):=
 okQ T.ye vW fun _ _ _ _ _ _ hr=>(ah (s_e (aG (C0 T) (Br.hm hr) rfl T.GS T.Cj.kp T.yd (aa (d_v 2) af)))
  (ah (s_a 3 vW.nd (aG (KD T) (Br.hm hr) rfl T.MN T.G7.kp T.Cp (aa (d_v 0) (aa (d_v 1) (aa (d_v 2) (aa (Ml rfl T.Oq) af))))))
  (ah (l6 4 3 ["n","record","k","kept","sides"] ["tie"] vW.nd (c_n 5 Fq rfl rfl) (d_v 3) (fun _ _ _ _ _=>aV) (fun _ _ _ _ _=>(aG (KI T) (Br.hm hr) rfl T.MQ T.G_.kp T.Cr (aa (d_v 0) (aa (d_v 3) (aa (d_v 5) (aa (d_v 2) af)))))))
  (aj (s_r (cy (aa (bZ 3 ["n","record","k","kept","sides"] ["tie"] (c_n 5 Ft rfl rfl) (d_v 3) (fun _ _ _ _ _=>aV) (fun _ _ _ _ _=>(aN (d_v 5) d_i))) (aa (aG (KH T) (Br.hm hr) rfl T.MP T.G9.kp T.Cq (@aa _ _ _ _ _ (d_v 0) (@aa _ _ _ _ _ (d_v 1) (@aa _ _ _ _ _ (d_v 3) (@aa _ _ _ _ _ (d_v 2) (@aa _ _ _ _ _ (Ml rfl T.MO) af rfl) rfl) rfl) rfl) rfl)) (aa (d_v 4) af)))))))))
theorem KJ :
  aX P' w K mg base CX0 3 nu iD ["kept","tie","k","ways"] (spD xG):=
 okQ T.Hg Ko fun _ _ _ _ _ _ hr=>(ah (bF (dj hr (aN (d_v 1) d_i) (aN (d_v 1) d_i)) (aj (s_r (yR hr (d_v 3) (aG (C2 T) (Br.hm hr) rfl T.GV T.Cn.kp T.yc (aa (d_v 2) af))))) aY)
  (aj (s_r (fV (yR hr (bG rfl T.bA (aa (d_v 3) af)) (d_v 2)) (gJ (aG (KC T) (Br.hm hr) rfl T.MM T.G6.kp T.Cs (aa (d_v 0) (aa (aN (d_v 1) d_i) (aa (aN (d_v 1) d_i) (aa (d_v 3) af))))))))))
theorem KL :
  aX P' w K mg base CX0 5 nv iE ["n","kept","tie","k","side"] (spD xH):=
 okQ T.Hh CT fun _ _ _ _ _ _ hr=>(ah (bF (fE (eS (aG (Ky T) (Br.hm hr) rfl T.MJ T.G3.kp T.Ct (aa (d_v 0) (aa (d_v 4) af))))) (aj (s_r d_b)) aY)
  (ah (s_a 5 CT.nd (aG (Kz T) (Br.hm hr) rfl T.MK T.G4.kp T.Cu (aa (d_v 1) (aa (d_v 4) af))))
  (aj (s_r (fV (rF hr (aN (d_v 2) d_i) (d_v 5)) (gJ (LP (bG rfl T.bA (aa (d_v 5) af)) (d_v 3))))))))
theorem v5 :
  aX P' w K mg base CX0 6 ny iF ["n","record","k","told"] (spD pP):=
 okQ T.yf vX fun _ _ _ _ _ _ hr=>(ah (s_e (aG (C0 T) (Br.hm hr) rfl T.GS T.Cj.kp T.yd (aa (d_v 2) af)))
  (ah (s_a 4 vX.nd (bZ 1 ["n","record","k","told","kept","gone"] ["tie"] (c_n 6 Fv rfl rfl) (d_v 1) (fun _ _ _ _ _=>cH (LQ hr (aN (d_v 6) d_i) (aN (d_v 3) d_i))) (fun _ _ _ _ _=>(d_v 6))))
  (ah (bF (t_w (w_or (fE (eS (aG (CZ T) (Br.hm hr) rfl T.GR T.Cf.kp T.ya (aa (aN (d_v 3) d_i) af)))) (fW (fM hr (bG rfl T.bA (aa (d_v 4) af)) (bG rfl T.bA (aa (aN (d_v 3) d_i) af)))))) (aj (s_r d_b)) aY)
  (ah (l6 5 1 ["n","record","k","told","kept","gone"] ["tie"] vX.nd (c_n 6 Fw rfl rfl) (d_v 1) (fun _ _ _ _ _=>cH (lV hr (d_v 6) (d_v 4))) (fun _ _ _ _ _=>(d_v 6)))
  (ah (bF (t_w (w_or (fM hr (bG rfl T.bA (aa (aN (d_v 3) d_i) af)) (bG rfl T.bA (aa (d_v 5) af))) (fW (fM hr (bG rfl T.bA (aa (aN (d_v 3) d_i) af)) (bG rfl T.bA (aa (d_v 4) af)))))) (aj (s_r d_b)) aY)
  (ah (bF (fE (eS (gM rfl rfl T.gP (aa (l0 ["n","record","k","told","kept","gone"] ["tie","ways"] (c_t rfl (fun _ _ _ _ _=>(aL 6 yk (aL 7 yk cG)))) (wZ rfl T.x9 (aa (d_v 5) (aa (aN (d_v 3) d_i) af))) (fun _ _ _ _ _=>aV) (fun _ _ _ _ _=>(aG (KJ T) (Br.hm hr) rfl T.MR T.Hg.kp T.Cv (aa (d_v 4) (aa (d_v 6) (aa (d_v 2) (aa (d_v 7) af))))))) af)))) (aj (s_r d_b)) aY)
  (aj (s_r (gM rfl rfl T.gP (aa (l0 ["n","record","k","told","kept","gone"] ["tie","side"] (c_t rfl (fun _ _ _ _ _=>(aL 6 yl (aL 7 yl cG)))) (wZ rfl T.x9 (aa (d_v 4) (aa (aN (d_v 3) d_i) af))) (fun _ _ _ _ _=>aV) (fun _ _ _ _ _=>(aG (KL T) (Br.hm hr) rfl T.MS T.Hh.kp T.Cw (@aa _ _ _ _ _ (d_v 0) (@aa _ _ _ _ _ (d_v 4) (@aa _ _ _ _ _ (d_v 6) (@aa _ _ _ _ _ (d_v 2) (@aa _ _ _ _ _ (d_v 7) af rfl) rfl) rfl) rfl) rfl)))) af))))))))))
theorem KN :
  aX P' w K mg base CX0 1 nA iG ["script","k"] (spD sj):=
 okQ T.Hi Kp fun _ _ _ _ _ _ hr=>(ah (bF (uW (d_v 1) (bG rfl T.bA (aa (d_v 0) af))) (aj (s_r (aN (d_v 0) (d_v 1)))) aY)
  (aj (s_r d_i)))
theorem C3 :
  aX P' w K mg base CX0 2 nB iH ["script","at"] (spD pQ):=
 okQ T.Cz gk fun _ _ _ _ _ _ hr=>(ah (s_a 2 gk.nd (aG (KN T) (Br.hm hr) rfl T.MT T.Hi.kp T.Cy (aa (d_v 0) (aa (d_v 1) af))))
  (ah (bF (NY (d_v 2) (Gs d_i d_i)) (aj (s_r (bz (aa (d_v 2) af)))) aY)
  (ah (s_a 3 gk.nd d_i)
  (ah (dU PassesOwn.never rfl (uX rfl T.cX (aa d_i af)) (g_n 4 gk.nd)
  (ah (s_a 5 gk.nd (lU (jm (bf (bf (bf (lU (d_v 2) d_i) (jm (jm d_i (d_v 4)) (d_v 4))) (jm d_i (d_v 1))) d_i) d_i) d_i))
  (ah (s_a 5 gk.nd (lU (jm (d_v 5) (d_v 5)) d_i))
  (ah (s_a 5 gk.nd (lU (jm (bf (d_v 5) (jm d_i (d_v 4))) d_i) d_i))
  (aj (s_a 3 gk.nd (bf (jm (d_v 3) d_i) (lU (Gr (d_v 5) d_i) d_i))))))))
  (aj (s_r (bz (aa (d_v 3) af))))))))
theorem bh :
  aX P' w K mg base CX0 1 nC iI ["pool","many"] (spM br):=by
 refine T.bM.ok CU (fun vs H Q E h=>cV h) (fun cdv A outer s H vs Q E hr h=>?_)
 exact ⟨_,(ah (s_a 2 CU.nd (lU (aN (d_v 0) d_i) (d_v 1)))
  (ah (wU 0 d_i (Gr (aN (d_v 0) d_i) (d_v 1)))
  (aj (s_r (d_v 2))))),jq (n:=2) (m:=1) rfl h⟩
theorem KP :
  aX P' w K mg base CX0 2 nD iJ ["pool","n","most"] (spM sq):=by
 refine T.Hj.ok di (fun vs H Q E h=>cV h) (fun cdv A outer s H vs Q E hr h=>?_)
 exact ⟨_,(ah (s_a 3 di.nd (aI (bh T) (Br.hm hr) rfl T.bP T.bM.kp T.bH (aa (d_v 0) (aa (bf (d_v 2) d_i) af))))
  (ah (s_a 4 di.nd (aI (bh T) (Br.hm hr) rfl T.bP T.bM.kp T.bH (aa (d_v 0) (aa d_i af))))
  (ah (s_a 5 di.nd (aI (bh T) (Br.hm hr) rfl T.bP T.bM.kp T.bH (aa (d_v 0) (aa d_i af))))
  (ah (s_a 6 di.nd (bz af))
  (ah (dU PassesOwn.never rfl (uX rfl T.cX (aa (d_v 3) af)) (g_n 7 di.nd)
  (ah (s_a 8 di.nd (aI (bh T) (Br.hm hr) rfl T.bP T.bM.kp T.bH (aa (d_v 0) (aa (d_v 1) af))))
  (ah (s_a 9 di.nd (aI (bh T) (Br.hm hr) rfl T.bP T.bM.kp T.bH (aa (d_v 0) (aa (d_v 1) af))))
  (ah (bF (t_w (w_and (IX (d_v 4) d_i) (qw (dj hr (d_v 8) (d_v 9))))) (aj (s_a 9 di.nd (lU (bf (d_v 8) d_i) (d_v 1)))) aY)
  (ah (bF (t_w (w_and (IX (d_v 7) d_i) (qw (dj hr (aI (bh T) (Br.hm hr) rfl T.bP T.bM.kp T.bH (aa (d_v 0) (aa d_i af))) d_i)))) (ah (s_a 8 di.nd (aN (aN (d_v 6) (eO (d_v 7) d_i)) d_i))
  (aj (s_a 9 di.nd (aN (aN (d_v 6) (eO (d_v 7) d_i)) d_i)))) aY)
  (ah (wR 6 (cy (aa (d_v 5) (aa (AI rfl rfl T.GQ (aa (d_v 8) (aa (d_v 9) af))) (aa (AJ rfl rfl T.B_ (aa (d_v 8) (aa (d_v 9) af))) af)))))
  (aj (s_a 5 di.nd (bf (bf (d_v 5) d_i) (jm (aI (bh T) (Br.hm hr) rfl T.bP T.bM.kp T.bH (aa (d_v 0) (aa (aN (bz (aa d_i (aa d_i (aa d_i af)))) (d_v 4)) af))) (aN (bz (aa d_i (aa d_i (aa (Gs d_i d_i) af)))) (d_v 4))))))))))))
  (aj (s_r (d_v 6)))))))),jq (n:=3) (m:=7) rfl h⟩
theorem C4 :
  aX P' w K mg base CX0 1 nE iK ["found"] (spD xJ):=
 okQ T.CA Kq fun _ _ _ _ _ _ hr=>(aj (s_r (fV (jo wV (by rfl) rfl T.B9 rfl T.bD (d_v 0)) (gJ (Gu (jo lX (by rfl) rfl T.vU rfl T.bD (d_v 0)))))))
theorem KQ :
  aX P' w K mg base CX0 2 nF iM ["row"] (spD xK):=
 okQ T.Hl Kr fun _ _ _ _ _ _ hr=>(aj (s_r (fV (jo rO (by rfl) rfl T.dh rfl T.bD (d_v 0)) (gJ (gM rfl rfl T.gP (aa (bZ 0 ["row"] ["number"] (c_n 1 Fx rfl rfl) (d_v 0) (fun _ _ _ _ _=>aV) (fun _ _ _ _ _=>(aG (C4 T) (Br.hm hr) rfl T.GX T.CA.kp T.yg (aa (d_v 1) af)))) af))))))
theorem KR :
  aX P' w K mg base CX0 3 nG iN ["record","a","b","way"] (spD xM):=
 okQ T.Ho oj fun _ _ _ _ _ _ hr=>(ah (bF (t_w (w_or (fE (eS (aG (KQ T) (Br.hm hr) rfl T.MV T.Hl.kp T.CB (aa (d_v 3) af)))) (fW (fM hr (l8 rfl rfl T.bA rfl T.Ca (d_v 3)) (bG rfl T.bA (aa (d_v 3) af)))))) (aj (s_r d_b)) aY)
  (ah (s_a 4 oj.nd (d_v 1))
  (ah (dU PassesOwn.never rfl (i_S (d_v 3)) (g_n 5 oj.nd)
  (ah (l6 6 0 ["record","a","b","way","here","moment","found"] ["tie"] oj.nd (c_n 7 Fy rfl rfl) (d_v 0) (fun _ _ _ _ _=>cH (dj hr (aN (d_v 7) d_i) (d_v 5))) (fun _ _ _ _ _=>(d_v 7)))
  (ah (bF (t_w (w_or (dj hr (d_v 6) (bz af)) (w_or (dj hr (aN (aN (d_v 6) d_i) d_i) (aN (aN (d_v 6) d_i) d_i)) (fW (lV hr (d_v 4) (L5 (aN (d_v 6) d_i) (o_s d_i) o_n)))))) (aj (s_r d_b)) aY)
  (aj (s_a 4 oj.nd (eO (bf (aN (aN (d_v 6) d_i) d_i) (aN (aN (d_v 6) d_i) d_i)) (d_v 4)))))))
  (aj (s_r (yR hr (d_v 4) (d_v 2)))))))
theorem KS :
  aX P' w K mg base CX0 4 nH iO ["record","a","b","ways"] (spD xN):=
 okQ T.Hq qR fun _ _ _ _ _ _ hr=>(ah (bF (t_w (w_or (fE (eS (jo rO (by rfl) rfl T.dh rfl T.bD (d_v 3)))) (fW (fE (eS (gM rfl rfl T.gP (aa (bZ 3 ["record","a","b","ways","used","%5"] ["way"] (c_n 6 Fz rfl rfl) (d_v 3) (fun _ _ _ _ _=>aV) (fun _ _ _ _ _=>(aG (KR T) (Br.hm hr) rfl T.MW T.Ho.kp T.CC (aa (d_v 0) (aa (d_v 1) (aa (d_v 2) (aa (d_v 6) af))))))) af))))))) (aj (s_r d_b)) aY)
  (ah (s_a 4 qR.nd (bz af))
  (ah (dU PassesOwn.never rfl (i_S (d_v 3)) (g_n 5 qR.nd)
  (aj (s_a 4 qR.nd (bf (d_v 4) (d_v 5)))))
  (aj (s_r (yR hr (l8 rfl rfl T.bA rfl T.Ca (d_v 4)) (bG rfl T.bA (aa (d_v 4) af))))))))
theorem KU :
  aX P' w K mg base CX0 1 nI iP ["record","side"] (spD BF):=
 okQ T.Hr Ks fun _ _ _ _ _ _ hr=>(aj (s_r (bZ 0 ["record","side"] ["moment","a","b"] (c_t rfl (fun _ _ _ _ _=>(aL 2 qS (aL 3 qS (aL 4 qS cG))))) (d_v 0) (fun _ _ _ _ _=>cH (fM hr (rF hr (d_v 3) (d_v 1)) (rF hr (d_v 4) (d_v 1)))) (fun _ _ _ _ _=>(d_v 2)))))
theorem KW :
  aX P' w K mg base CX0 2 nJ iQ ["n","side"] (spD xO):=
 okQ T.Ht Ku fun _ _ _ _ _ _ hr=>(ah (bF (t_w (w_or (fE (eS (jo kit_tuple (by rfl) rfl T.k9 rfl T.bD (d_v 1)))) (fW (fE (eS (gM rfl rfl T.gP (aa (bZ 1 ["n","side"] ["place"] (c_n 2 FA rfl rfl) (d_v 1) (fun _ _ _ _ _=>aV) (fun _ _ _ _ _=>(fV (aG (C4 T) (Br.hm hr) rfl T.GX T.CA.kp T.yg (aa (d_v 2) af)) (gJ (wW wo wN zU AB d_i (d_v 2) (d_v 0)))))) af))))))) (aj (s_r d_b)) aY)
  (aj (s_r (gM rfl rfl T.gP (aa (l0 ["n","side"] ["k"] (c_n 2 FD rfl rfl) (IY rfl T.cX (aa d_i (aa (bG rfl T.bA (aa (d_v 1) af)) af))) (fun _ _ _ _ _=>aV) (fun _ _ _ _ _=>(LO (aN (d_v 1) (eO (d_v 2) d_i)) (aN (d_v 1) (d_v 2))))) af)))))
theorem KY :
  aX P' w K mg base CX0 3 nK iR ["n","kept","tie","k","side"] (spD xP):=
 okQ T.Hu CV fun _ _ _ _ _ _ hr=>(ah (bF (fE (eS (aG (KW T) (Br.hm hr) rfl T.MZ T.Ht.kp T.CF (aa (d_v 0) (aa (d_v 4) af))))) (aj (s_r d_b)) aY)
  (ah (s_a 5 CV.nd (aG (KU T) (Br.hm hr) rfl T.MY T.Hr.kp T.CD (aa (d_v 1) (aa (d_v 4) af))))
  (aj (s_r (fV (rF hr (aN (d_v 2) d_i) (d_v 5)) (gJ (LP (bG rfl T.bA (aa (d_v 5) af)) (d_v 3))))))))
theorem C5 :
  aX P' w K mg base CX0 5 nM iU ["n","record","k","told"] (spD sr):=
 okQ T.CI gm fun _ _ _ _ _ _ hr=>(ah (s_u rfl (aL 4 gm.nd (aL 5 gm.nd (aL 6 gm.nd cG))) (d_v 3))
  (ah (s_a 7 gm.nd (bZ 1 ["n","record","k","told","moments","ways","sides","kept","gone","%9","some"] ["tie"] (c_n 11 FF rfl rfl) (d_v 1) (fun _ _ _ _ _=>cH (LQ hr (aN (d_v 11) d_i) (d_v 4))) (fun _ _ _ _ _=>(d_v 11))))
  (ah (l6 8 1 ["n","record","k","told","moments","ways","sides","kept","gone","%9","some"] ["tie"] gm.nd (c_n 11 FG rfl rfl) (d_v 1) (fun _ _ _ _ _=>cH (lV hr (aN (d_v 11) d_i) (d_v 4))) (fun _ _ _ _ _=>(d_v 11)))
  (ah (bF (t_w (w_or (fM hr (bZ 7 ["n","record","k","told","moments","ways","sides","kept","gone","%9","some"] ["tie"] (c_n 11 FH rfl rfl) (d_v 7) (fun _ _ _ _ _=>aV) (fun _ _ _ _ _=>(aN (d_v 11) d_i))) (d_v 4)) (w_or (fM hr (bG rfl T.bA (aa (d_v 5) af)) (bG rfl T.bA (aa (d_v 8) af))) (fW (fM hr (bG rfl T.bA (aa (d_v 6) af)) (bG rfl T.bA (aa (d_v 7) af))))))) (aj (s_r d_b)) aY)
  (ah (dU PassesOwn.never rfl (wZ rfl T.x9 (aa (d_v 8) (aa (d_v 5) af))) (g_t rfl (aL 9 gm.nd (aL 10 gm.nd cG)))
  (ah (bF (t_w (w_or (fM hr (bG rfl T.bA (aa (d_v 10) af)) (d_v 2)) (fW (fE (eS (aG (KS T) (Br.hm hr) rfl T.MX T.Hq.kp T.CG (aa (d_v 7) (aa (aN (d_v 9) d_i) (aa (aN (d_v 9) d_i) (aa (d_v 10) af)))))))))) (aj (s_r d_b)) aY)
  (aj (bF (t_w (w_and (dj hr (aN (d_v 9) d_i) (aN (d_v 9) d_i)) (qw (fM hr (d_v 10) (l0 ["n","record","k","told","moments","ways","sides","kept","gone","tie","some"] ["turn"] (c_n 11 FJ rfl rfl) (uX rfl T.cX (aa (d_v 2) af)) (fun _ _ _ _ _=>aV) (fun _ _ _ _ _=>(bz af))))))) (aj (s_r d_b)) aY))))
  (aj (s_r (gM rfl rfl T.gP (aa (l0 ["n","record","k","told","moments","ways","sides","kept","gone","%9","some"] ["tie","side"] (c_t rfl (fun _ _ _ _ _=>(aL 11 ym (aL 12 ym cG)))) (wZ rfl T.x9 (aa (d_v 7) (aa (d_v 6) af))) (fun _ _ _ _ _=>aV) (fun _ _ _ _ _=>(aG (KY T) (Br.hm hr) rfl T.M0 T.Hu.kp T.CH (@aa _ _ _ _ _ (d_v 0) (@aa _ _ _ _ _ (d_v 7) (@aa _ _ _ _ _ (d_v 11) (@aa _ _ _ _ _ (d_v 2) (@aa _ _ _ _ _ (d_v 12) af rfl) rfl) rfl) rfl) rfl)))) af)))))))))
theorem qU :
  aX P' w K mg base CX0 2 nN iV ["pool","row","way"] (spM jy):=by
 refine T.s_.ok vY (fun vs H Q E h=>cV h) (fun cdv A outer s H vs Q E hr h=>?_)
 exact ⟨_,(ah (bF (dj hr (d_v 1) (bz af)) (aj (s_r (d_v 1))) aY)
  (ah (s_a 3 vY.nd (aI (bh T) (Br.hm hr) rfl T.bP T.bM.kp T.bH (aa (d_v 0) (aa (bG rfl T.bA (aa (d_v 1) af)) af))))
  (ah (s_a 4 vY.nd (aI (bh T) (Br.hm hr) rfl T.bP T.bM.kp T.bH (aa (d_v 0) (aa (bG rfl T.bA (aa (d_v 1) af)) af))))
  (ah (bF (dj hr (d_v 2) d_i) (aj (s_r (bf (gD (d_v 1) o_n (o_s (d_v 3))) (gD (d_v 1) (o_s (bf (d_v 3) d_i)) o_n)))) aY)
  (ah (bF (dj hr (d_v 2) d_i) (aj (s_r (bf (bf (gD (d_v 1) o_n (o_s (d_v 3))) (bz (aa (aN (d_v 1) (d_v 4)) af))) (gD (d_v 1) (o_s (d_v 3)) o_n)))) aY)
  (ah (bF (dj hr (d_v 2) d_i) (aj (s_r (bf (bf (gD (d_v 1) o_n (o_s (d_v 3))) (bz (aa (aN (d_v 1) (d_v 4)) af))) (gD (d_v 1) (o_s (bf (d_v 3) d_i)) o_n)))) aY)
  (aj (s_r (pA (d_v 1)))))))))),jq (n:=3) (m:=2) rfl h⟩
theorem KZ :
  aX P' w K mg base CX0 3 nP iW ["pool","record","ways","way"] (spM su):=by
 refine T.Hv.ok jZ (fun vs H Q E h=>cV h) (fun cdv A outer s H vs Q E hr h=>?_)
 exact ⟨_,(ah (bF (dj hr (d_v 2) (bz af)) (aj (s_r (d_v 2))) aY)
  (ah (s_a 4 jZ.nd (aI (bh T) (Br.hm hr) rfl T.bP T.bM.kp T.bH (aa (d_v 0) (aa (bG rfl T.bA (aa (d_v 2) af)) af))))
  (ah (L0 5 ["pool","record","ways","way","at","some","moments","to"] ["one"] jZ.nd (c_n 8 FL rfl rfl) (i_S (aN (d_v 2) (d_v 4))) (fun _ _ _ _ _=>aV) (fun _ _ _ _ _=>(d9 rfl T.dh (aa (d_v 8) af))))
  (ah (s_a 6 jZ.nd (bf (bZ 1 ["pool","record","ways","way","at","some","moments","to"] ["tie"] (c_n 8 FO rfl rfl) (d_v 1) (fun _ _ _ _ _=>aV) (fun _ _ _ _ _=>(aN (d_v 8) d_i))) (bz (aa d_i af))))
  (ah (s_a 7 jZ.nd (aI (bh T) (Br.hm hr) rfl T.bP T.bM.kp T.bH (aa (d_v 0) (aa (bG rfl T.bA (aa (d_v 5) af)) af))))
  (ah (bF (dj hr (d_v 3) d_i) (aj (wU 5 (d_v 7) (bf (aN (d_v 5) (d_v 7)) (bz (aa (aN (d_v 6) (aI (bh T) (Br.hm hr) rfl T.bP T.bM.kp T.bH (aa (d_v 0) (aa (bG rfl T.bA (aa (d_v 6) af)) af)))) af))))) (aj (bF (dj hr (d_v 3) d_i) (aj (wU 5 (d_v 7) (bz (aa (aN (d_v 6) (aI (bh T) (Br.hm hr) rfl T.bP T.bM.kp T.bH (aa (d_v 0) (aa (bG rfl T.bA (aa (d_v 6) af)) af)))) af)))) (aj (bF (dj hr (d_v 3) d_i) (aj (wU 5 (d_v 7) (pA (aN (d_v 5) d_i)))) (aj (s_a 5 jZ.nd (aI (qU T) (Br.hm hr) rfl T.x_ T.s_.kp T.pY (aa (d_v 0) (aa (d_v 5) (aa (aI (bh T) (Br.hm hr) rfl T.bP T.bM.kp T.bH (aa (d_v 0) (aa d_i af))) af)))))))))))
  (aj (s_r (bf (bf (gD (d_v 2) o_n (o_s (d_v 4))) (bz (aa (d_v 5) af))) (gD (d_v 2) (o_s (bf (d_v 4) d_i)) o_n)))))))))),jq (n:=4) (m:=4) rfl h⟩
theorem K0 :
  aX P' w K mg base CX0 2 nQ iX ["pool","n","sides"] (spM sy):=by
 refine T.Hw.ok ou (fun vs H Q E h=>cV h) (fun cdv A outer s H vs Q E hr h=>?_)
 exact ⟨_,(ah (bF (dj hr (d_v 2) (bz af)) (aj (s_r (d_v 2))) aY)
  (ah (s_a 3 ou.nd (aI (bh T) (Br.hm hr) rfl T.bP T.bM.kp T.bH (aa (d_v 0) (aa (bG rfl T.bA (aa (d_v 2) af)) af))))
  (ah (s_a 4 ou.nd (aN (d_v 2) (d_v 3)))
  (ah (s_a 5 ou.nd (eO (aI (bh T) (Br.hm hr) rfl T.bP T.bM.kp T.bH (aa (d_v 0) (aa (bf (d_v 1) d_i) af))) d_i))
  (@ah _ _ _ _ _ (@s_a _ _ _ _ 6 _ _ ou.nd (@bz _ _ _ _ (@aa _ _ _ _ _ (Jy (d_v 4) (cy (aa (d_v 5) af))) (@aa _ _ _ _ _ (JC (cy (aa (d_v 5) af)) (d_v 4)) (@aa _ _ _ _ _ (Mp (d_v 4) (o_s d_i) o_n) (@aa _ _ _ _ _ (JE (d_v 4)) (@aa _ _ _ _ _ (cy (aa (d_v 5) af)) af rfl) rfl) rfl) rfl) rfl)) rfl (by first | exact Or.inl rfl | exact Or.inr rfl) rfl (by first | exact Or.inl rfl | exact Or.inr rfl))
  (ah (wR 6 (wQ rfl T.k9 (aa (l0 ["pool","n","sides","at","side","place","some"] ["one"] (c_n 7 FP rfl rfl) (uX rfl T.cX (aa (d_v 1) af)) (fun _ _ _ _ _=>cH (lV hr (d_v 7) (d_v 4))) (fun _ _ _ _ _=>(d_v 7))) af)))
  (aj (s_r (bf (bf (gD (d_v 2) o_n (o_s (d_v 3))) (bz (aa (aN (d_v 6) (aI (bh T) (Br.hm hr) rfl T.bP T.bM.kp T.bH (aa (d_v 0) (aa d_i af)))) af))) (gD (d_v 2) (o_s (bf (d_v 3) d_i)) o_n)))))))))),jq (n:=3) (m:=4) rfl h⟩
theorem K1 :
  aX P' w K mg base CX0 2 nR iY ["pool","record","told"] (spM sC):=by
 refine T.Hx.ok fC (fun vs H Q E h=>cV h) (fun cdv A outer s H vs Q E hr h=>?_)
 exact ⟨_,(ah (s_u rfl (aL 3 fC.nd (aL 4 fC.nd (aL 5 fC.nd cG))) (d_v 2))
  (ah (l6 6 1 ["pool","record","told","kept","ways","sides","gone","at","%8","to","side"] ["tie"] fC.nd (c_n 11 FQ rfl rfl) (d_v 1) (fun _ _ _ _ _=>cH (lV hr (aN (d_v 11) d_i) (d_v 3))) (fun _ _ _ _ _=>(d_v 11)))
  (ah (bF (dj hr (d_v 6) (bz af)) (aj (s_r (d_v 2))) aY)
  (ah (s_a 7 fC.nd (aI (bh T) (Br.hm hr) rfl T.bP T.bM.kp T.bH (aa (d_v 0) (aa (bG rfl T.bA (aa (d_v 6) af)) af))))
  (ah (s_a 8 fC.nd (aN (d_v 6) (d_v 7)))
  (ah (s_a 9 fC.nd (bG rfl T.bA (aa (bZ 3 ["pool","record","told","kept","ways","sides","gone","at","tie","to","side"] ["moment"] (c_n 11 FU rfl rfl) (d_v 3) (fun _ _ _ _ _=>cH (uW (d_v 11) (aN (d_v 8) d_i))) (fun _ _ _ _ _=>(d_v 11))) af)))
  (ah (s_a 10 fC.nd (cy (aa (aN (d_v 8) (bf d_i (aI (bh T) (Br.hm hr) rfl T.bP T.bM.kp T.bH (aa (d_v 0) (aa d_i af))))) af)))
  (aj (s_r (cy (aa (bf (bf (gD (d_v 3) o_n (o_s (d_v 9))) (bz (aa (aN (d_v 8) d_i) af))) (gD (d_v 3) (o_s (d_v 9)) o_n)) (aa (bf (gD (d_v 4) o_n (o_s (d_v 7))) (gD (d_v 4) (o_s (bf (d_v 7) d_i)) o_n)) (aa (bf (bf (gD (d_v 5) o_n (o_s (d_v 9))) (bz (aa (d_v 10) af))) (gD (d_v 5) (o_s (d_v 9)) o_n)) af))))))))))))),jq (n:=3) (m:=8) rfl h⟩
theorem K2 :
  aX P' w K mg base CX0 7 nS iZ ["pool","n","record","k","told"] (spM (sF bR aZ)):=by
 refine T.Hy.ok oz (fun vs H Q E h=>cV h) (fun cdv A outer s H vs Q E hr h=>?_)
 exact ⟨_,(ah (s_a 5 oz.nd (aI (bh T) (Br.hm hr) rfl T.bP T.bM.kp T.bH (aa (d_v 0) (aa d_i af))))
  (ah (s_u rfl (aL 6 oz.nd (aL 7 oz.nd (aL 8 oz.nd cG))) (d_v 4))
  (ah (bF (IX (d_v 5) d_i) (aj (s_r (aI (K1 T) (Br.hm hr) rfl T.M6 T.Hx.kp T.CL (aa (d_v 0) (aa (d_v 2) (aa (d_v 4) af)))))) aY)
  (ah (bF (uW (d_v 5) d_i) (aj (s_r (cy (aa (aI (qU T) (Br.hm hr) rfl T.x_ T.s_.kp T.pY (aa (d_v 0) (aa (d_v 6) (aa (d_v 5) af)))) (aa (d_v 7) (aa (d_v 8) af)))))) aY)
  (ah (bF (uW (d_v 5) d_i) (aj (s_r (cy (aa (d_v 6) (aa (aI (qU T) (Br.hm hr) rfl T.x_ T.s_.kp T.pY (aa (d_v 0) (aa (d_v 7) (aa (eO (d_v 5) d_i) af)))) (aa (d_v 8) af)))))) aY)
  (ah (bF (uW (d_v 5) d_i) (aj (s_r (cy (aa (d_v 6) (aa (aI (KZ T) (Br.hm hr) rfl T.M4 T.Hv.kp T.CJ (aa (d_v 0) (aa (d_v 2) (aa (d_v 7) (aa (eO (d_v 5) d_i) af))))) (aa (d_v 8) af)))))) aY)
  (ah (bF (dj hr (d_v 5) d_i) (aj (s_r (cy (aa (d_v 6) (aa (d_v 7) (aa (aI (qU T) (Br.hm hr) rfl T.x_ T.s_.kp T.pY (aa (d_v 0) (aa (d_v 8) (aa (aI (bh T) (Br.hm hr) rfl T.bP T.bM.kp T.bH (aa (d_v 0) (aa d_i af))) af)))) af)))))) aY)
  (ah (bF (uW (d_v 5) d_i) (aj (s_r (cy (aa (d_v 6) (aa (d_v 7) (aa (aI (K0 T) (Br.hm hr) rfl T.M5 T.Hw.kp T.CK (aa (d_v 0) (aa (d_v 1) (aa (d_v 8) af)))) af)))))) aY)
  (ah (bF (dj hr (d_v 5) d_i) (aj (s_r (aG (vZ T) (Br.hm hr) rfl T.Cc T.ye.kp T.tu (aa (d_v 1) (aa (d9 rfl T.dh (aa (d_v 2) af)) (aa (bf d_i (aI (bh T) (Br.hm hr) rfl T.bP T.bM.kp T.bH (aa (d_v 0) (aa d_i af)))) af)))))) aY)
  (aj (s_r (d_v 4)))))))))))),jq (n:=5) (m:=4) rfl h⟩
theorem C6 :
  aX P' w K mg base CX0 7 nT i6 ["n","record","k"] (spD (sG bR aZ)):=
 okQ T.CM j0 fun _ _ _ _ _ _ hr=>(ah (s_a 3 j0.nd (JB rfl rfl T.B_ (aa (bZ 1 ["n","record","k","last","kept","ways","sides","back"] ["tie"] (c_n 8 FW rfl rfl) (d_v 1) (fun _ _ _ _ _=>aV) (fun _ _ _ _ _=>(aN (d_v 8) d_i))) af) d_i))
  (ah (s_u rfl (aL 4 j0.nd (aL 5 j0.nd (aL 6 j0.nd cG))) (aG (vZ T) (Br.hm hr) rfl T.Cc T.ye.kp T.tu (aa (d_v 0) (aa (l0 ["n","record","k","last","kept","ways","sides","back"] ["moment","a","b"] (c_t rfl (fun _ _ _ _ _=>(aL 8 qT (aL 9 qT (aL 10 qT cG))))) (i_S (pA (d_v 1))) (fun _ _ _ _ _=>aV) (fun _ _ _ _ _=>(cy (aa (eO (d_v 3) (d_v 8)) (aa (d_v 9) (aa (d_v 10) af)))))) (aa (d_v 2) af)))))
  (ah (l6 7 5 ["n","record","k","last","kept","ways","sides","back"] ["some"] j0.nd (c_n 8 FY rfl rfl) (d_v 5) (fun _ _ _ _ _=>aV) (fun _ _ _ _ _=>(bZ 8 ["n","record","k","last","kept","ways","sides","back","some"] ["way"] (c_n 9 FZ rfl rfl) (d_v 8) (fun _ _ _ _ _=>aV) (fun _ _ _ _ _=>(bZ 9 ["n","record","k","last","kept","ways","sides","back","some","way"] ["moment"] (c_n 10 F0 rfl rfl) (d_v 9) (fun _ _ _ _ _=>aV) (fun _ _ _ _ _=>(eO (d_v 3) (d_v 10))))))))
  (aj (s_r (cy (aa (l0 ["n","record","k","last","kept","ways","sides","back"] ["moment"] (c_n 8 F1 rfl rfl) (i_S (pA (d_v 4))) (fun _ _ _ _ _=>aV) (fun _ _ _ _ _=>(eO (d_v 3) (d_v 8)))) (aa (pA (d_v 7)) (aa (pA (d_v 6)) af)))))))))
theorem K3 :
  aX P' w K mg base CX0 8 nU i7 ["pool","n","record","k"] (spM (sH bR aZ)):=by
 refine T.Hz.ok CW (fun vs H Q E h=>cV h) (fun cdv A outer s H vs Q E hr h=>?_)
 exact ⟨_,(ah (s_a 4 CW.nd (aI (bh T) (Br.hm hr) rfl T.bP T.bM.kp T.bH (aa (d_v 0) (aa d_i af))))
  (ah (bF (dj hr (d_v 4) d_i) (aj (s_r (aG (C6 T) (Br.hm hr) rfl T.GZ T.CM.kp T.yh (aa (d_v 1) (aa (d_v 2) (aa (d_v 3) af)))))) aY)
  (ah (bF (dj hr (d_v 4) d_i) (aj (s_r (cy (aa (bZ 2 ["pool","n","record","k","way"] ["tie"] (c_n 5 F2 rfl rfl) (d_v 2) (fun _ _ _ _ _=>aV) (fun _ _ _ _ _=>(aN (d_v 5) d_i))) (aa (bz af) (aa (bZ 2 ["pool","n","record","k","way"] ["tie"] (c_n 5 F3 rfl rfl) (d_v 2) (fun _ _ _ _ _=>aV) (fun _ _ _ _ _=>(cy (aa (aN (d_v 5) d_i) af)))) af)))))) aY)
  (aj (s_r (aG (vZ T) (Br.hm hr) rfl T.Cc T.ye.kp T.tu (aa (d_v 1) (aa (d9 rfl T.dh (aa (d_v 2) af)) (aa (d_v 3) af))))))))),jq (n:=4) (m:=1) rfl h⟩
theorem K4 :
  aX P' w K mg base CX0 9 nV jY ["script"] (spD (mH bR aZ)):=
 okQ T.Ng dQ fun _ _ _ _ _ _ hr=>(ah (s_a 1 dQ.nd (aG (C3 T) (Br.hm hr) rfl T.GW T.Cz.kp T.yi (aa (d_v 0) (aa d_i af))))
  (ah (s_a 2 dQ.nd (bf d_i (aI (bh T) (Br.hm hr) rfl T.bP T.bM.kp T.bH (aa (d_v 1) (aa (aN (bz (aa d_i (aa d_i (aa d_i (aa d_i af))))) (aI (bh T) (Br.hm hr) rfl T.bP T.bM.kp T.bH (aa (d_v 1) (aa d_i af)))) af)))))
  (ah (dU PassesOwn.never rfl (IY rfl T.cX (aa d_i (aa (AJ rfl rfl T.B_ (aa d_i (aa (AI rfl rfl T.GQ (aa d_i (aa (bG rfl T.bA (aa (d_v 0) af)) af))) af))) af))) (g_n 3 dQ.nd)
  (ah (s_a 1 dQ.nd (aG (C3 T) (Br.hm hr) rfl T.GW T.Cz.kp T.yi (aa (d_v 0) (aa (d_v 3) af))))
  (ah (s_a 4 dQ.nd (bf d_i (aI (bh T) (Br.hm hr) rfl T.bP T.bM.kp T.bH (aa (d_v 1) (aa (aN (bz (aa d_i (aa d_i af))) (aI (bh T) (Br.hm hr) rfl T.bP T.bM.kp T.bH (aa (d_v 1) (aa d_i af)))) af)))))
  (ah (s_a 5 dQ.nd (aI (KP T) (Br.hm hr) rfl T.MU T.Hj.kp T.CN (aa (d_v 1) (aa (d_v 2) (aa (aN (bz (aa d_i (aa d_i (aa d_i (aa (aN (bz (aa d_i (aa d_i af))) (LX rfl T.B9 (aa (NX (d_v 3) d_i) af))) af))))) (aI (bh T) (Br.hm hr) rfl T.bP T.bM.kp T.bH (aa (d_v 1) (aa d_i af)))) af)))))
  (ah (s_a 6 dQ.nd (aI (K3 T) (Br.hm hr) rfl T.M8 T.Hz.kp T.CP (aa (d_v 1) (aa (d_v 2) (aa (d_v 5) (aa (d_v 4) af))))))
  (ah (bF (fM hr (aG (v5 T) (Br.hm hr) rfl T.Cd T.yf.kp T.tE (aa (d_v 2) (aa (d9 rfl T.dh (aa (d_v 5) af)) (aa (d_v 4) (aa (d_v 6) af))))) (aG (C5 T) (Br.hm hr) rfl T.GY T.CI.kp T.yj (aa (d_v 2) (aa (d_v 5) (aa (d_v 4) (aa (d_v 6) af)))))) (aj (s_r d_b)) aY)
  (ah (bF (LW (aG (v5 T) (Br.hm hr) rfl T.Cd T.yf.kp T.tE (aa (d_v 2) (aa (d9 rfl T.dh (aa (d_v 5) af)) (aa (d_v 4) (aa (aG (C6 T) (Br.hm hr) rfl T.GZ T.CM.kp T.yh (aa (d_v 2) (aa (d_v 5) (aa (d_v 4) af)))) af))))) d_b) (aj (s_r d_b)) aY)
  (ah (s_a 6 dQ.nd (aI (K2 T) (Br.hm hr) rfl T.M7 T.Hy.kp T.CO (@aa _ _ _ _ _ (d_v 1) (@aa _ _ _ _ _ (d_v 2) (@aa _ _ _ _ _ (d_v 5) (@aa _ _ _ _ _ (d_v 4) (@aa _ _ _ _ _ (d_v 6) af rfl) rfl) rfl) rfl) rfl)))
  (ah (s_a 7 dQ.nd (cy (aa (d9 rfl T.dh (aa (aN (d_v 6) d_i) af)) (aa (l0 ["script","pool","n","at","k","record","told","handed","found"] ["some"] (c_n 9 F4 rfl rfl) (i_S (aN (d_v 6) d_i)) (fun _ _ _ _ _=>aV) (fun _ _ _ _ _=>(bZ 9 ["script","pool","n","at","k","record","told","handed","found","some"] ["way"] (c_n 10 F5 rfl rfl) (d_v 9) (fun _ _ _ _ _=>aV) (fun _ _ _ _ _=>(d9 rfl T.dh (aa (d_v 10) af)))))) (aa (d9 rfl T.dh (aa (aN (d_v 6) d_i) af)) af)))))
  (ah (s_a 8 dQ.nd (aG (v5 T) (Br.hm hr) rfl T.Cd T.yf.kp T.tE (aa (d_v 2) (aa (d9 rfl T.dh (aa (d_v 5) af)) (aa (d_v 4) (aa (d_v 7) af))))))
  (aj (bF (t_w (w_or (fE (eS (jo lX (by rfl) rfl T.vU rfl T.bD (d_v 8)))) (w_or (fM hr (d_v 8) (aG (C5 T) (Br.hm hr) rfl T.GY T.CI.kp T.yj (aa (d_v 2) (aa (d_v 5) (aa (d_v 4) (aa (d_v 6) af)))))) (fW (fM hr (d_v 7) (d_v 6)))))) (aj (s_r d_b)) aY))))))))))))
  (aj (s_r d_b)))))
end
theorem all_mk {l:PySem.W.OpenLaw} {w:World} {K:PySem.W.Frag} {h:Heap} {mg:Str→Option Value} {fa vK vL vM vN vO vP vQ bR vR vS mZ m5 m6 m7 m8 m9 nc ng nh ni nj aZ nk nq nt nu nv ny nA nB nC nD nE nF nG nH nI nJ nK nM nN nP nQ nR nS nT nU nV:Addr} {nW nX nY nZ n5 n6 n8 n9 n_ oh g9 g_ h_ ia ic ie ig ir iu iw iy iz iA iB iC iD iE iF iG iH iI iJ iK iM iN iO iP iQ iR iU iV iW iX iY iZ i6 i7 jY:FuncData} (X:K.In h) (G:h.Ns mainGlobals mg) (hfa:mg "law" = some (.ref fa))
  (C7:bu K "steps_of" (top 3) vK nW)
  (C8:bu K "free_steps" (top 4) vL nX)
  (C9:bu K "led_steps" (top 5) vM nY)
  (C_:bu K "shortest_ways" (top 6) vN nZ)
  (Dc:bu K "lead_along" (top 7) vO n5)
  (Dd:bu K "parted" (top 8) vP n6)
  (De:bu K "ways_apart" (top 1) vQ n8)
  (Df:bu K "hang_often" (top 2) bR n9)
  (Dg:bu K "is_whole" (top 13) vR n_)
  (Dh:bu K "is_within" (top 14) vS oh)
  (tH:bu K "is_place" (top 15) mZ g9)
  (tK:bu K "is_layers" (top 16) m5 g_)
  (tL:bu K "is_rising" (top 17) m6 h_)
  (tM:bu K "is_side" (top 18) m7 ia)
  (tN:bu K "look_at_layers" (top 19) m8 ic)
  (tO:bu K "rim" (top 21) m9 ie)
  (tP:bu K "way_right" (top 22) nc ig)
  (tQ:bu K "ways_right" (top 23) ng ir)
  (tR:bu K "without" (top 27) nh iu)
  (tS:bu K "kept_ties" (top 26) ni iw)
  (tT:bu K "no_ways" (top 29) nj iy)
  (tU:bu K "ways_by_ties" (top 30) aZ iz)
  (tW:bu K "ways_out" (top 28) nk iA)
  (tX:bu K "side_for" (top 31) nq iB)
  (tY:bu K "pared" (top 25) nt iC)
  (tZ:bu K "out_right" (top 33) nu iD)
  (t7:bu K "kept_right" (top 34) nv iE)
  (t8:bu K "pared_right" (top 32) ny iF)
  (t_:bu K "_law_cell_at" (top 36) nA iG)
  (ua:bu K "_law_pool" (top 37) nB iH)
  (uc:bu K "_law_take" (top 38) nC iI)
  (ud:bu K "_law_record" (top 39) nD iJ)
  (ue:bu K "_law_whole" (top 40) nE iK)
  (uf:bu K "_law_are_wholes" (top 41) nF iM)
  (ug:bu K "_law_leads" (top 42) nG iN)
  (uh:bu K "_law_apart" (top 43) nH iO)
  (um:bu K "_law_rim" (top 44) nI iP)
  (uo:bu K "_law_is_side" (top 45) nJ iQ)
  (uq:bu K "_law_side_holds" (top 46) nK iR)
  (ur:bu K "_law_holds" (top 47) nM iU)
  (uu:bu K "_law_row_spoilt" (top 48) nN iV)
  (uv:bu K "_law_ways_spoilt" (top 49) nP iW)
  (uw:bu K "_law_side_spoilt" (top 50) nQ iX)
  (ux:bu K "_law_moved_in" (top 51) nR iY)
  (uy:bu K "_law_spoilt" (top 52) nS iZ)
  (uz:bu K "_law_turned" (top 53) nT i6)
  (uA:bu K "_law_first" (top 54) nU i7)
  (p5:bu K "law" (top 55) nV jY)
  (Di:PySem.W.nsIn K mainGlobals "all" = some none)
  (v7:PySem.W.nsIn K mainGlobals "bool" = some none)
  (v8:PySem.W.nsIn K mainGlobals "dict" = some none)
  (Dj:PySem.W.nsIn K mainGlobals "int" = some none)
  (fD:PySem.W.nsIn K mainGlobals "isinstance" = some none)
  (Dl:PySem.W.nsIn K mainGlobals "len" = some none)
  (v9:PySem.W.nsIn K mainGlobals "list" = some none)
  (Dq:PySem.W.nsIn K mainGlobals "max" = some none)
  (Dr:PySem.W.nsIn K mainGlobals "min" = some none)
  (qV:PySem.W.nsIn K mainGlobals "range" = some none)
  (Dt:PySem.W.nsIn K mainGlobals "set" = some none)
  (oA:PySem.W.nsIn K mainGlobals "sorted" = some none)
  (Du:PySem.W.nsIn K mainGlobals "sum" = some none)
  (qW:PySem.W.nsIn K mainGlobals "tuple" = some none)
  (Dv:PySem.W.nsIn K mainGlobals "zip" = some none) :
  ∃ fd:FuncData,(∀ (s:Shared) (v:Value),BindsTo s fd ⟨[v],[]⟩ [("script",v)])∧∀ base:Heap,K.In base→base.Ns mainGlobals mg→aX l.prog w K mg base CX0 9 fa fd ["script"] (spD (mH bR aZ)):=by
 have e:=hfa.symm.trans (p5.m X G)
 cases e
 have JY:=C7.F.cI (ps:=["n","ties"]) rfl fun _ _ _ _ _ _ _ _=>rfl
 have JZ:=C8.F.cI (ps:=["steps","heads"]) rfl fun _ _ _ _ _ _ _ _=>rfl
 have JX:=C9.F.cI (ps:=["steps","heads"]) rfl fun _ _ _ _ _ _ _ _=>rfl
 have E9:=C_.F.cI (ps:=["steps","a"]) rfl fun _ _ _ _ _ _ _ _=>rfl
 have J0:=Dc.F.cI (ps:=["heads","way"]) rfl fun _ _ _ _ _ _ _ _=>rfl
 have J1:=Dd.F.f7 (ps:=["steps","heads","a","b","count"]) rfl fun _ _ _ _ _ _ _ _ _ _ _=>rfl
 have Ce:=De.F.f7 (ps:=["n","ties","a","b","most"]) rfl fun _ _ _ _ _ _ _ _ _ _ _=>rfl
 have J4:=Df.F.f7 (ps:=["n","ties","a","b","times"]) rfl fun _ _ _ _ _ _ _ _ _ _ _=>rfl
 have J2:=Dg.F.gU (ps:=["thing"]) rfl fun _ _ _ _ _ _ _=>rfl
 have Fb:=Dh.F.gW (ps:=["thing","low","high"]) rfl fun _ _ _ _ _ _ _ _ _=>rfl
 have Cg:=tH.F.cI (ps:=["n","thing"]) rfl fun _ _ _ _ _ _ _ _=>rfl
 have Ci:=tK.F.gU (ps:=["thing"]) rfl fun _ _ _ _ _ _ _=>rfl
 have ya:=tL.F.gU (ps:=["things"]) rfl fun _ _ _ _ _ _ _=>rfl
 have Ct:=tM.F.cI (ps:=["n","thing"]) rfl fun _ _ _ _ _ _ _ _=>rfl
 have yd:=tN.F.gU (ps:=["k"]) rfl fun _ _ _ _ _ _ _=>rfl
 have Cu:=tO.F.cI (ps:=["record","side"]) rfl fun _ _ _ _ _ _ _ _=>rfl
 have Ck:=tP.F.dJ (ps:=["record","a","b","way"]) rfl fun _ _ _ _ _ _ _ _ _ _=>rfl
 have Cs:=tQ.F.dJ (ps:=["record","a","b","ways"]) rfl fun _ _ _ _ _ _ _ _ _ _=>rfl
 have yb:=tR.F.cI (ps:=["ties","tie"]) rfl fun _ _ _ _ _ _ _ _=>rfl
 have Cp:=tS.F.dJ (ps:=["n","record","k","often"]) rfl fun _ _ _ _ _ _ _ _ _ _=>rfl
 have yc:=tT.F.gU (ps:=["k"]) rfl fun _ _ _ _ _ _ _=>rfl
 have Co:=tU.F.f7 (ps:=["n","kept","a","b","k"]) rfl fun _ _ _ _ _ _ _ _ _ _ _=>rfl
 have Cq:=tW.F.f7 (ps:=["n","record","kept","k","ways_of"]) rfl fun _ _ _ _ _ _ _ _ _ _ _=>rfl
 have Cr:=tX.F.dJ (ps:=["n","kept","tie","k"]) rfl fun _ _ _ _ _ _ _ _ _ _=>rfl
 have tu:=tY.F.gW (ps:=["n","record","k"]) rfl fun _ _ _ _ _ _ _ _ _=>rfl
 have Cv:=tZ.F.dJ (ps:=["kept","tie","k","ways"]) rfl fun _ _ _ _ _ _ _ _ _ _=>rfl
 have Cw:=t7.F.f7 (ps:=["n","kept","tie","k","side"]) rfl fun _ _ _ _ _ _ _ _ _ _ _=>rfl
 have tE:=t8.F.dJ (ps:=["n","record","k","told"]) rfl fun _ _ _ _ _ _ _ _ _ _=>rfl
 have Cy:=t_.F.cI (ps:=["script","k"]) rfl fun _ _ _ _ _ _ _ _=>rfl
 have yi:=ua.F.cI (ps:=["script","at"]) rfl fun _ _ _ _ _ _ _ _=>rfl
 have bH:=uc.F.cI (ps:=["pool","many"]) rfl fun _ _ _ _ _ _ _ _=>rfl
 have CN:=ud.F.gW (ps:=["pool","n","most"]) rfl fun _ _ _ _ _ _ _ _ _=>rfl
 have yg:=ue.F.gU (ps:=["found"]) rfl fun _ _ _ _ _ _ _=>rfl
 have CB:=uf.F.gU (ps:=["row"]) rfl fun _ _ _ _ _ _ _=>rfl
 have CC:=ug.F.dJ (ps:=["record","a","b","way"]) rfl fun _ _ _ _ _ _ _ _ _ _=>rfl
 have CG:=uh.F.dJ (ps:=["record","a","b","ways"]) rfl fun _ _ _ _ _ _ _ _ _ _=>rfl
 have CD:=um.F.cI (ps:=["record","side"]) rfl fun _ _ _ _ _ _ _ _=>rfl
 have CF:=uo.F.cI (ps:=["n","side"]) rfl fun _ _ _ _ _ _ _ _=>rfl
 have CH:=uq.F.f7 (ps:=["n","kept","tie","k","side"]) rfl fun _ _ _ _ _ _ _ _ _ _ _=>rfl
 have yj:=ur.F.dJ (ps:=["n","record","k","told"]) rfl fun _ _ _ _ _ _ _ _ _ _=>rfl
 have pY:=uu.F.gW (ps:=["pool","row","way"]) rfl fun _ _ _ _ _ _ _ _ _=>rfl
 have CJ:=uv.F.dJ (ps:=["pool","record","ways","way"]) rfl fun _ _ _ _ _ _ _ _ _ _=>rfl
 have CK:=uw.F.gW (ps:=["pool","n","sides"]) rfl fun _ _ _ _ _ _ _ _ _=>rfl
 have CL:=ux.F.gW (ps:=["pool","record","told"]) rfl fun _ _ _ _ _ _ _ _ _=>rfl
 have CO:=uy.F.f7 (ps:=["pool","n","record","k","told"]) rfl fun _ _ _ _ _ _ _ _ _ _ _=>rfl
 have yh:=uz.F.gW (ps:=["n","record","k"]) rfl fun _ _ _ _ _ _ _ _ _=>rfl
 have CP:=uA.F.dJ (ps:=["pool","n","record","k"]) rfl fun _ _ _ _ _ _ _ _ _ _=>rfl
 refine ⟨_,fun s v=>p5.Oa (fun _ _ _ _ _ _ _=>rfl) s v,fun base Xb _=>?_⟩
 have T:Txt mg K base _ _ _ _ _ _ _ _ _ _ _ _ _ _ _ _ _ _ _ _ _ _ _ _ _ _ _ _ _ _ _ _ _ _ _ _ _ _ _ _ _ _ _ _ _ _ _ _ _ _ _ _ _ _ _ _ _ _ _ _ _ _ _ _ _ _ _ _ _ _ _ _ _ _ _ _ _ _ _ _ _ _ _ _ _ _ _ _ _ _ _ _ _ _ _ _:=⟨mno X G Di,mno X G v7,mno X G v8,mno X G Dj,mno X G fD,mno X G Dl,mno X G v9,mno X G Dq,mno X G Dr,mno X G qV,mno X G Dt,mno X G oA,mno X G Du,mno X G qW,mno X G Dv,C7.m X G,C8.m X G,C9.m X G,C_.m X G,Dc.m X G,Dd.m X G,De.m X G,Df.m X G,Dg.m X G,Dh.m X G,tH.m X G,tK.m X G,tL.m X G,tM.m X G,tN.m X G,tO.m X G,tP.m X G,tQ.m X G,tR.m X G,tS.m X G,tT.m X G,tU.m X G,tW.m X G,tX.m X G,tY.m X G,tZ.m X G,t7.m X G,t8.m X G,t_.m X G,ua.m X G,uc.m X G,ud.m X G,ue.m X G,uf.m X G,ug.m X G,uh.m X G,um.m X G,uo.m X G,uq.m X G,ur.m X G,uu.m X G,uv.m X G,uw.m X G,ux.m X G,uy.m X G,uz.m X G,uA.m X G,p5.m X G,C7.F,C8.F,C9.F,C_.F,Dc.F,JX,E9,Dd.F,JY,JZ,J0,J1,De.F,Ce,Df.F,Dg.F,J2,Dh.F,Fb,tH.F,tK.F,tL.F,Cg,ya,tM.F,Ci,tN.F,tO.F,tP.F,Ck,tQ.F,tR.F,J4,yb,tS.F,tT.F,tU.F,yc,Co,tW.F,tX.F,yd,Cp,Cq,Cr,tY.F,Cs,tZ.F,Ct,Cu,t7.F,Cv,Cw,t8.F,t_.F,Cy,ua.F,uc.F,bH,ud.F,ue.F,yg,uf.F,CB,ug.F,CC,uh.F,um.F,uo.F,CD,CF,uq.F,CG,CH,ur.F,uu.F,pY,uv.F,uw.F,ux.F,tu,CJ,CK,CL,uy.F,uz.F,yh,uA.F,tE,yi,CN,yj,CO,CP,p5.F⟩
 exact K4 T
theorem walk {bR aZ:Nat} {l:PySem.W.OpenLaw} {q:Program} {loose:List Str} {XP:(Str→Option Value)→Heap→Prop} {YP:World→Heap→Prop} {d:DefRec} {K:Params→PySem.W.Frag} (hn:l.most=some 63) (hdf:d.params.defaults=[])
  (hY:∀ (w:World) (h:Heap),YP w h→(K w.params).In h) (M:∀ ns:List Int,ns.length≤63→mH bR aZ [.lst (ns.map Dat.int)]=some (.val (.bl true))) (hK:∀ w:World,AM (K w.params)=true)
  (F:∀ (w:World) (mg:Str→Option Value) (fa:Addr) (h:Heap),(K w.params).In h→h.Ns mainGlobals mg→mg d.name=some (.ref fa) →
   ∃ fd:FuncData,(∀ (s:Shared) (u:Value),BindsTo s fd ⟨[u],[]⟩ [("script",u)])∧∀ base:Heap,(K w.params).In base→base.Ns mainGlobals mg→aX l.prog w (K w.params) mg base CX0 9 fa fd ["script"] (spD (mH bR aZ))) :
  PySem.W.WalkO q loose XP YP l.row.toRowW d [] (fun f vs=>PySem.call f vs):=
 L2.DV (n:=63) (k:=9) (x := "script") (CX:=fun _=>CX0) (sp:=fun _=>spD (mH bR aZ)) hn (by decide) hdf ⟨rfl,by decide,by decide,rfl⟩ hY F
  (fun w H a ns hl hO hS=>Jc (M ns hl) (hK w) hS) fun _ _ _ _ _ z=>z
open PySem PySem.W PySem.W.X
theorem Dw {q:Program} {loose:List Str} {XP:(Str→Option Value)→Heap→Prop} {r:RowW} {d:DefRec} {kwd:List (Str×Expr)} {run:Value→List Value→Sem Value} {K:Params→Frag} {as:List Addr} {n t:Nat} (e:∀ P,as=(K P).map (·.1))
  (W:WalkO q loose XP (fun w h=>(K w.params).In h) r d kwd run):WalkX q loose XP (obsZ as) (valZ K n t) r d kwd run:=
 fun w s₀ s₁ mg mb G y a o pm cd doc dV kV ho hd hcd hD hmg hg args vals as' L=>W w s₀ s₁ mg mb G (InK.keeps w _ _ (z_facts e y).2.1 L.keeps) a o pm cd doc dV kV ho hd hcd hD hmg hg args vals as'
end Q
noncomputable def PySem.W.Fast.tw4180537213916919942:PySem.Program:=PySem.Challenge.pw_sinceply_k41_pared_judged
theorem PySem.W.Fast.te4180537213916919942:PySem.Challenge.pw_sinceply_k41_pared_judged=PySem.W.Fast.tw4180537213916919942:=rfl
namespace PySem.W.Fast
def tw1826959898506821514:=0
def tw12506646534229815461:=0
def tw10712417558610568920:=0
def tw12364860588570564209:=0
def tw15040864273626490094:=0
def tw8670949937386329947:=0
def tw3996426071825097075:=0
def tw2669837162295251280:=0
def tw11467026305697773761:=0
def tw8459982226149137169:=0
def tw9693270147596978522:=0
def tw17020202405009550025:=0
def tw4213993723376971323:=0
def tw8578912824822089074:=0
def tw16767586958082054860:=0
def tw15316583540451416980:=0
def tw6491146477786175266:=0
def tw8506588634862716590:=0
def tw2143666564047736615:=0
def tw12774027984894350454:=0
def tw4681386667468864918:=0
def tw17070745948064357011:=0
def tw13165663094141467703:=0
def tw11285316918589459342:=0
def tw4126936253630618346:=0
def tw13136054787250168888:=0
def tw12764101877410174664:=0
def tw4977735735389780923:=0
def tw6309650211291097476:=0
def tw11270841516481361362:=0
def tw2374020716388468939:=0
def tw9694600815295972938:=0
def tw11562810422857503517:=0
def tw1781427220946357054:=0
def tw7827417357257477988:=0
def tw579193700530564638:=0
def tw7777908387410345933:=0
def tw6494102075790251902:=0
def tw9043058938874142219:=0
def tw12088296192300388231:=0
def tw2075440501351223497:=0
def tw7999270313120044125:=0
def tw679865755055214103:=0
def tw15686618284958632270:=0
def tw8721835256169334179:=0
def tw3151677860301169635:=0
def tw16084472931540027314:=0
def tw11987767381004953207:=0
def tw4391809477692842104:=0
def tw6536158934062300055:=0
def tw17232490487031774264:=0
def tw15418979100362410078:=0
def tw11262526071619292449:=0
def tw1550864674729283238:=0
def tw11644265866231097310:=0
def tw10784811878868735923:=0
def tw17006420583506310292:=0
def tw15784965090613366761:=0
def tw480886018886318280:=0
def tw11300357411223070123:=0
def tw16909362744615867444:=0
def tw6020011910303537940:=0
def tw2642795347862851167:=0
def tw14594276293491459074:=0
def tw12173219448479340790:=0
def tw14437902661834277208:=0
def tw307781784749770243:=0
def tw6382047906622934739:=0
def tw5734785115737975216:=0
def tw7225597174700572614:=0
def tw13865732936642533344:=0
def tw745069097391304859:=0
def tw5358256270229266050:=0
def tw14222315804713609538:=0
def tw10689174172517601105:=0
def tw9910685713657457605:=0
def tw606691098283001172:=0
def tw10169139399889502333:=0
def tw10819208127963281279:=0
def tw4409018152905982008:=0
def tw3620496870644969896:=0
def tw7953994417399355348:=0
def tw16179475736289258711:=0
def tw14753445206252288397:=0
def tw16003419256402104832:=0
def tw16567862009884637758:=0
def tw596822014398352697:=0
def tw7935120458142973738:=0
def tw14125928301038921092:=0
def tw7631287116629346529:=0
def tw15877460773194173436:=0
def tw13092197064837607082:=0
def tw14030859203209963346:=0
def tw3165720096346071206:=0
def tw8524186708255872757:=0
def tw6568332536402910435:=0
def tw17256631152201815215:=0
def tw1981013998288936516:=0
def tw10715649208765175462:=0
def tw13272985992114810078:=0
def tw2822344790747654178:=0
def tw6129593582215789801:=0
def tw8570161763991324204:=0
def tw15644295329422971708:=0
def tw8597100268363199764:=0
def tw6937361305538924709:=0
def tw5653010247774669462:=0
def tw3923356525092651587:=0
def tw1484619160773350122:=0
def tw8765149490448258683:=0
def tw15985675363947990368:=0
def tw10654478205943533715:=0
def tw6794560154672859361:=0
def tw15093424985452163559:=0
def tw13476942571596408525:=0
def tw11771806560534227132:=0
def tw3304287616187379846:=0
def tw18050054250990781856:=0
def tw2470275965973670544:=0
def tw2262401929017328822:=0
def tw9731599278536967912:=0
def tw16283902190013307571:=0
def tw12201299043531831795:=0
def tw2424659082220717472:=0
def tw2789826132525136904:=0
def tw2768528378419453738:=0
def tw2001013932192506251:=0
def tw6331874183740574249:=0
def tw7910409190357772166:=0
def tw14913757949209774750:=0
def tw1604987722926572793:=0
def tw57024917299861535:=0
def tw2303918821403665378:=0
def tw3210565965132902506:=0
def tw9035811008154989451:=0
def tw5481790517755277013:=0
def tw8381669041028998410:=0
def tw17068333553537920309:=0
def tw13855521282335582816:=0
def tw14636886277617733350:=0
def tw6563935578177166220:=0
def tw10124843207882730675:=0
def tw14641175246454537882:=0
def tw4296743307926527460:=0
def tw8107914819164461346:=0
def tw10971165378056096514:=0
def tw14004121136865889391:=0
def tw17366094606889401465:=0
def tw11974704295259587305:=0
def tw11670105262069167781:=0
def tw17825955693811089042:=0
def tw13119990513722201895:=0
def tw4181250706331438203:=0
def tw14553097849072030672:=0
def tw1480099701803133669:=0
def tw11245014234632072050:=0
def tw5164785467659065045:=0
def tw11983802381549796983:=0
def tw9713449862711450734:=0
def tw1575103458464520205:=0
def tw18037230594517118430:=0
def tw5892033313608910095:=0
def tw8597876086593330039:=0
def tw10323801254440490130:=0
def tw6333371188012625448:=0
def tw11646507615604692277:=0
def tw1868254268780857919:=0
def tw11590978971941714040:=0
def tw15163105369119340143:=0
def tw237844911421249455:=0
def tw16696442153028004276:=0
def tw5987233664429244638:=0
def tw1207058929445768483:=0
def tw15263035231569491700:=0
def tw17815520339802472779:=0
def tw18325906262214207471:=0
def tw13125333687469707856:=0
def tw14678593777033883156:=0
def tw7531749969779690338:=0
def tw11093987837747640630:=0
def tw3991109750385019671:=0
def tw14061007652703584303:=0
def tw12783360188418837656:=0
def tw3566904421753081739:=0
def tw82557466050805097:=0
def tw6594239298269037179:=0
def tw5944750066418279859:=0
def tw18071030129712769863:=0
def tw13049852012973351224:=0
def tw2073689498235096709:=0
def tw15861968805263786529:=0
def tw7805937474721554802:=0
def tw6713322496018637629:=0
def tw14767659135076501034:=0
def tw6504936906074453500:=0
def tw14472766874297907306:=0
def tw5848196543654904948:=0
def tw7237838469602640010:=0
def tw8344699704229159456:=0
def tw7560358513584835678:=0
def tw10139134769949343582:=0
def tw18181537466266557103:=0
def tw15127641464250168237:=0
def tw1122874436113498910:=0
def tw42226988690371146:=0
def tw4639161669349867514:=0
def tw13684883351150396611:=0
def tw13458484451403522416:=0
def tw17977385090096423787:=0
def tw13269632999609719705:=0
def tw10071236849314518352:=0
def tw15795049605078051759:=0
def tw26241760565484132:=0
def tw1644156806655200231:=0
def tw674538368529558814:=0
def tw13118402624690907574:=0
def tw7489587767105301017:=0
def tw10403373863840080529:=0
def tw17747844210255256803:=0
def tw13067355611847998283:=0
def tw17957022211835608261:=0
def tw4558350898913397477:=0
def tw4580035746435250246:=0
def tw15382847764579684002:=0
def tw17141838713547421184:=0
def tw4812977119466768954:=0
def tw17811672877518133083:=0
def tw16972401776696872837:=0
def tw704934292727882641:=0
def tw8904333382791001106:=0
def tw6858413400171482867:=0
def tw9857234529389446880:=0
def tw6364618884581840792:=0
def tw13368153992592921804:=0
def tw8655488874981313988:=0
def tw1609768466461133771:=0
def tw6035446294722931052:=0
def tw1521151025966172491:=0
def tw5869005440576939924:=0
def tw7524499701818536760:=0
def tw8218711237452541443:=0
def tw10236301909194268964:=0
def tw6807396713170876544:=0
def tw5611289151566920716:=0
def tw1501166122203663013:=0
def tw13949700153433210138:=0
def tw1053829951228253942:=0
def tw11192444185173065464:=0
def tw16044829710842966560:=0
def tw8854461731317511366:=0
def tw11621513783675121698:=0
def tw12027848618584281913:=0
def tw4873497934587206781:=0
def tw9239643038240157769:=0
def tw5930730330791263849:=0
def tw9288293117420451343:=0
def tw9609616227764314132:=0
def tw11670932605590117347:=0
def tw2937137585605999358:=0
def tw8158393297098177401:=0
def tw18308075308523250002:=0
def tw9250510581114131744:=0
def tw6706373134715570198:=0
def tw7676371930912004335:=0
def tw13762642416136685445:=0
def tw7269379287072735913:=0
def tw460659090892079535:=0
def tw15823110158297624380:=0
def tw2871447402686547486:=0
def tw3710366770481289399:=0
def tw16667190776525732233:=0
def tw11440443300363486722:=0
def tw14595893686043137099:=0
def tw15876029376364747866:=0
def tw16543848166319680925:=0
def tw1127191216465704191:=0
def tw16758956294686622332:=0
def tw12926716464679194285:=0
def tw1898210898255844954:=0
def tw5006961124411161320:=0
def tw10956659775242090876:=0
def tw5809130385543938474:=0
def tw2341882074609790994:=0
def tw10592752284737700343:=0
def tw5919439821578087958:=0
def tw9662191550547633218:=0
def tw14834432876732472473:=0
def tw16693371062181940196:=0
end PySem.W.Fast
open PySem PySem.W PyProof.Rows
set_option maxRecDepth 100000 in
set_option maxHeartbeats 0 in
theorem PySem.Challenge.cw_sinceply_k41_pared_judged_holds : PySem.Challenge.rw_sinceply_k41_pared_judged.Holds := by
 w_on;o_law;z_head;(case hw=>w_witness2)
 k_fill
 refine' Q.Dw (fun _=>rfl) (Q.walk (l:=PySem.Challenge.rw_sinceply_k41_pared_judged) rfl rfl (fun w h Y=>Y) (P.math _ _) ?noL ?fnS)
 case noL=>intro w;rfl
 case fnS=>
  intro w mg fa h KX G hmg
  refine' Q.all_mk KX G hmg ?C7 ?C8 ?C9 ?C_ ?Dc ?Dd ?De ?Df ?Dg ?Dh ?tH ?tK ?tL ?tM ?tN ?tO ?tP ?tQ ?tR ?tS ?tT ?tU ?tW ?tX ?tY ?tZ ?t7 ?t8 ?t_ ?ua ?uc ?ud ?ue ?uf ?ug ?uh ?um ?uo ?uq ?ur ?uu ?uv ?uw ?ux ?uy ?uz ?uA ?p5 ?Di ?v7 ?v8 ?Dj ?fD ?Dl ?v9 ?Dq ?Dr ?qV ?Dt ?oA ?Du ?qW ?Dv
  case C7|C8|C9|C_|Dc|Dd|De|Df|Dg|Dh|tH|tK|tL|tM|tN|tO|tP|tQ|tR|tS|tT|tU|tW|tX|tY|tZ|t7|t8|t_|ua|uc|ud|ue|uf|ug|uh|um|uo|uq|ur|uu|uv|uw|ux|uy|uz|uA|p5=>refine' Br.aJ ?e ?l ?c ?k;(case e=>k_is);(case l=>k_is);(case c=>k_is);(case k=>k_is)
  case Di|v7|v8|Dj|fD|Dl|v9|Dq|Dr|qV|Dt|oA|Du|qW|Dv=>k_is
end
